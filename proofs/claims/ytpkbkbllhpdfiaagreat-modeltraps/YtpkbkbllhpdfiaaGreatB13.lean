/- State: Contract of the program's State: a copy of all that a machine holds. States: Contract of the document's States: two states that are alike. Fields: The parts of a state. -/
import Derived.Test.YtpkbkbllhpdfiaaGreatB10
import Derived.Deep.RegionHeld3
import Derived.Deep.MidRow
import Derived.BigFrame
namespace Go.Proofs.YtpkbkbllhpdfiaaGreat.M
open Go.ChangeShapes Go.WideShapes Go.ChangeAt Go.RowKit Go.Proofs.YtpkbkbllhpdfiaaGreat.Walks Go.Proofs.YtpkbkbllhpdfiaaGreat.Mod
set_option linter.unusedVariables false
/-- the registers' cells -/
abbrev rgL (s : St) : List Value := [.int .u32 (s.r 0), .int .u32 (s.r 1), .int .u32 (s.r 2), .int .u32 (s.r 3), .int .u32 (s.r 4), .int .u32 (s.r 5), .int .u32 (s.r 6), .int .u32 (s.r 7), .int .u32 (s.r 8), .int .u32 (s.r 9), .int .u32 (s.r 10), .int .u32 (s.r 11), .int .u32 (s.r 12), .int .u32 (s.r 13), .int .u32 (s.r 14), .int .u32 (s.r 15), .int .u32 (s.r 16), .int .u32 (s.r 17), .int .u32 (s.r 18), .int .u32 (s.r 19), .int .u32 (s.r 20), .int .u32 (s.r 21), .int .u32 (s.r 22), .int .u32 (s.r 23), .int .u32 (s.r 24), .int .u32 (s.r 25), .int .u32 (s.r 26), .int .u32 (s.r 27), .int .u32 (s.r 28), .int .u32 (s.r 29), .int .u32 (s.r 30), .int .u32 (s.r 31)]
/-- the cells of a machine's state, its memory in the row v -/
abbrev stL (s : St) (v : Value) : List Value := [.int .u32 s.pc, .int .u32 (s.r 0), .int .u32 (s.r 1), .int .u32 (s.r 2), .int .u32 (s.r 3), .int .u32 (s.r 4), .int .u32 (s.r 5), .int .u32 (s.r 6), .int .u32 (s.r 7), .int .u32 (s.r 8), .int .u32 (s.r 9), .int .u32 (s.r 10), .int .u32 (s.r 11), .int .u32 (s.r 12), .int .u32 (s.r 13), .int .u32 (s.r 14), .int .u32 (s.r 15), .int .u32 (s.r 16), .int .u32 (s.r 17), .int .u32 (s.r 18), .int .u32 (s.r 19), .int .u32 (s.r 20), .int .u32 (s.r 21), .int .u32 (s.r 22), .int .u32 (s.r 23), .int .u32 (s.r 24), .int .u32 (s.r 25), .int .u32 (s.r 26), .int .u32 (s.r 27), .int .u32 (s.r 28), .int .u32 (s.r 29), .int .u32 (s.r 30), .int .u32 (s.r 31), .int .u32 (s.c 0), .int .u32 (s.c 1), .int .u32 (s.c 2), .int .u32 (s.c 3), .int .u32 (s.c 4), v]
/-- the first n of f, as a list -/
def rowI (f : Nat → Int) (n : Nat) : List Int := (List.range n).map f
theorem rowI_len (f : Nat → Int) (n : Nat) : (rowI f n).length = n := by simp [rowI]
theorem rowI_at (f : Nat → Int) (n j : Nat) : (rowI f n)[j]? = if j < n then some (f j) else none := by
  unfold rowI
  rw [List.getElem?_map]
  by_cases h : j < n
  · rw [if_pos h, List.getElem?_range h]; rfl
  · rw [if_neg h, List.getElem?_eq_none (by simp; omega)]; rfl
theorem size41 : (Tryz.prog.info? 41).map (·.size) = some 32 := by kernel_rfl
theorem size44 : (Tryz.prog.info? 44).map (·.size) = some 39 := by kernel_rfl
theorem rg_range {B : Nat} {s : St} {v : Value} {w : World} (h : MAt B s v w) : w.rangeAt B 1 (rgL s) := by
  intro j u hu
  have hj : j < 32 := (List.getElem?_eq_some_iff.1 hu).1
  have e : (rgL s)[j]? = some (.int .u32 (s.r j)) := by
    rcases j with _ | _ | _ | _ | _ | _ | _ | _ | _ | _ | _ | _ | _ | _ | _ | _ | _ | _ | _ | _ | _ | _ | _ | _ | _ | _ | _ | _ | _ | _ | _ | _ | _ <;> first | rfl | omega
  rw [e] at hu
  injection hu with hu
  subst hu
  exact h.r j hj
theorem mem_cells {B : Nat} {s : St} {v : Value} {w : World} (h : MAt B s v w) (j : Nat) (u : Value) (hu : ((rowI s.m 1024).map (Value.int .u32))[j]? = some u) : w.cell? ⟨B, 38 + j, none⟩ = some u := by
  rw [List.getElem?_map, rowI_at] at hu
  by_cases hj : j < 1024
  · rw [if_pos hj] at hu
    injection hu with hu
    subst hu
    exact h.m j hj
  · rw [if_neg hj] at hu
    simp at hu
theorem Fr.setCells {u : World} (b : Nat) (hb : u.heap.size ≤ b) : ∀ (cs : List Value) (o : Nat) (w : World), Fr u w → Fr u (w.setCells b o cs)
  | [], _, _, h => h
  | x :: cs, o, w, h => by
    have h1 : Fr u (w.setCell ⟨b, o, none⟩ x) := ⟨h.os, h.output, by rw [World.size_setCell]; exact h.size, fun k hk => (Below.heap_setCell _ _ _ k (by show k ≠ b; omega)).trans (h.block k hk)⟩
    exact Fr.setCells b hb cs (o + 1) _ h1
/-- a box of a state's 39 cells, as it is made -/
structure Box39 (b : Nat) (w : World) : Prop where
  c : ∀ k, k < 38 → w.cell? ⟨b, k, none⟩ = some (.int .u32 0)
  t : w.cell? ⟨b, 38, none⟩ = some (.slice none 0 0)
  z : ∀ k, k < 39 → w.frozen? ⟨b, k, none⟩ = false
abbrev z39 : Array Value := #[.int .u32 0, .int .u32 0, .int .u32 0, .int .u32 0, .int .u32 0, .int .u32 0, .int .u32 0, .int .u32 0, .int .u32 0, .int .u32 0, .int .u32 0, .int .u32 0, .int .u32 0, .int .u32 0, .int .u32 0, .int .u32 0, .int .u32 0, .int .u32 0, .int .u32 0, .int .u32 0, .int .u32 0, .int .u32 0, .int .u32 0, .int .u32 0, .int .u32 0, .int .u32 0, .int .u32 0, .int .u32 0, .int .u32 0, .int .u32 0, .int .u32 0, .int .u32 0, .int .u32 0, .int .u32 0, .int .u32 0, .int .u32 0, .int .u32 0, .int .u32 0, .slice none 0 0]
theorem Box39.new (w : World) : Box39 w.heap.size (w.alloc (.cells z39 44)) := by
  refine ⟨fun k hk => ?_, ?_, fun k hk => ?_⟩
  · rw [World.cell?_alloc_at _ _ _ _ rfl]
    rcases k with _ | _ | _ | _ | _ | _ | _ | _ | _ | _ | _ | _ | _ | _ | _ | _ | _ | _ | _ | _ | _ | _ | _ | _ | _ | _ | _ | _ | _ | _ | _ | _ | _ | _ | _ | _ | _ | _ | _ <;> first | rfl | omega
  · rw [World.cell?_alloc_at _ _ _ _ rfl]; rfl
  · rw [World.frozen?_alloc_at _ _ _ _ rfl]
theorem Box39.fr {b : Nat} {w w' : World} (h : Box39 b w) (k : Fr w w') : Box39 b w' := by
  have hb := cell_lt h.t
  exact ⟨fun j hj => by rw [k.cell b j hb]; exact h.c j hj, by rw [k.cell b 38 hb]; exact h.t, fun j hj => by rw [k.frozen b j hb]; exact h.z j hj⟩
theorem own_form {w : World} {base n : Nat} {v : Value} {xs : List Value} (h : w.ownsRow base 36 1 v n xs) (hn : v ≠ .slice none 0 0) : ∃ g cap, v = .slice (some ⟨g, 0, none⟩) n cap ∧ base ≤ g := by
  rcases h.2 with ⟨rfl, _⟩ | ⟨g, cap, cur, rfl, hb, _⟩
  · exact (hn rfl).elim
  · exact ⟨g, cap, rfl, hb⟩
theorem own_frN {w w' : World} {base n : Nat} {v : Value} {xs : List Value} (h : w.ownsRow base 36 1 v n xs) (k : Fr w w') : w'.ownsRow base 36 1 v n xs := by
  refine ⟨h.1, ?_⟩
  rcases h.2 with h' | ⟨g, cap, cur, rfl, h2, h3, h4⟩
  · exact .inl h'
  · exact .inr ⟨g, cap, cur, rfl, h2, by rw [k.block g (h.lt g rfl).2]; exact h3, h4⟩
theorem own_setCells {w : World} {base n b : Nat} {v : Value} {xs : List Value} (h : w.ownsRow base 36 1 v n xs) (hb : b < base) : ∀ (cs : List Value) (o : Nat) (w' : World), (∀ g, base ≤ g → w'.heap[g]? = w.heap[g]?) → (w'.setCells b o cs).ownsRow base 36 1 v n xs
  | [], o, w', e => by
    refine ⟨h.1, ?_⟩
    rcases h.2 with h' | ⟨g, cap, cur, rfl, h2, h3, h4⟩
    · exact .inl h'
    · exact .inr ⟨g, cap, cur, rfl, h2, by show w'.heap[g]? = _; rw [e g h2]; exact h3, h4⟩
  | x :: cs, o, w', e => own_setCells h hb cs (o + 1) (w'.setCell ⟨b, o, none⟩ x) (fun g hg => (Below.heap_setCell _ _ _ g (by show g ≠ b; omega)).trans (e g hg))
/-- n cells are there, and can be written -/
structure There (b n : Nat) (w : World) : Prop where
  c : ∀ k, k < n → (w.cell? ⟨b, k, none⟩).isSome = true
  z : ∀ k, k < n → w.frozen? ⟨b, k, none⟩ = false
theorem There.set {b n : Nat} {w : World} (h : There b n w) (k : Nat) (hk : k < n) (x : Value) : There b n (w.setCell ⟨b, k, none⟩ x) := by
  refine ⟨fun j hj => ?_, fun j hj => by simpa using h.z j hj⟩
  by_cases e : j = k
  · subst e
    obtain ⟨u, hu⟩ := Option.isSome_iff_exists.1 (h.c j hk)
    rw [set_same hu]; rfl
  · rw [set_other (addr_ne (Ne.symm e))]; exact h.c j hj
theorem Box39.there {b : Nat} {w : World} (h : Box39 b w) : There b 39 w := by
  refine ⟨fun k hk => ?_, h.z⟩
  by_cases e : k = 38
  · subst e; rw [h.t]; rfl
  · rw [h.c k (by omega)]; rfl
theorem There.at0 {b n : Nat} {w : World} (h : There b n w) : w.there b 0 n := fun j hj => ⟨by rw [Nat.zero_add]; exact h.c j hj, by rw [Nat.zero_add]; exact h.z j hj⟩
theorem ownsRow_lower {w : World} {base base' n : Nat} {v : Value} {xs : List Value} (h : w.ownsRow base 36 1 v n xs) (hb : base' ≤ base) : w.ownsRow base' 36 1 v n xs := by
  refine ⟨h.1, ?_⟩
  rcases h.2 with h | ⟨g, cap, cur, h1, h2, h3⟩
  · exact .inl h
  · exact .inr ⟨g, cap, cur, h1, Nat.le_trans hb h2, h3⟩
theorem st_step {b n k : Nat} {x : Value} {w : World} {h1 h2 : Result Unit} {f : Unit → World → Result Unit} {r : Result Unit} (T : There b n w) (hk : k < n) (h : There b n (w.setCell ⟨b, k, none⟩ x) → f () (w.setCell ⟨b, k, none⟩ x) = r) :
    ((match w.cell? ⟨b, k, none⟩ with
      | some _ => if w.frozen? ⟨b, k, none⟩ = true then h1 else Result.ok () (w.setCell ⟨b, k, none⟩ x)
      | none => h2).andThen f) = r := by
  obtain ⟨u, hu⟩ := Option.isSome_iff_exists.1 (T.c k hk)
  rw [hu, T.z k hk]
  exact h (T.set k hk x)
theorem st_last {b n k : Nat} {x : Value} {w : World} {h1 h2 : Result Unit} (T : There b n w) (hk : k < n) :
    (match w.cell? ⟨b, k, none⟩ with
      | some _ => if w.frozen? ⟨b, k, none⟩ = true then h1 else Result.ok () (w.setCell ⟨b, k, none⟩ x)
      | none => h2) = Result.ok () (w.setCell ⟨b, k, none⟩ x) := by
  obtain ⟨u, hu⟩ := Option.isSome_iff_exists.1 (T.c k hk)
  rw [hu, T.z k hk]
  rfl
theorem upon_then {P : Program} {o : Oper} {a : Act} {K : Act → World → Prop} {Q : Exit → Act → World → Prop} {c : Result Unit} {f : Unit → World → Result Next} {W : World} (h : c = .ok () W) (g : Oper.upon P o a K Q (f () W)) : Oper.upon P o a K Q (c.andThen f) := by
  rw [h]; exact g
theorem st39 (cs : List Value) (hl : cs.length = 39) (h1 : cs.all (·.oneCell') = true) {b : Nat} {w1 : World} (T : There b 39 w1) : (storeVar 44 ⟨b, 0, none⟩ (.agg cs.toArray)).run Tryz.prog w1 = .ok () (w1.setCells b 0 cs) := by
  have h := run_storeVar_mid (P := Tryz.prog) w1 b 0 44 cs.toArray (by simpa [hl] using T.at0) (by simpa [hl] using size44) (all_oneCell_toArray (List.all_eq_true.1 h1))
  simpa using h
theorem sS {B : Nat} {s : St} {v : Value} {w w' : World} (h : MAt B s v w) (k : Fr w w') : w'.cell? ⟨B, 0, none⟩ = some (.int .u32 s.pc) ∧ w'.rangeAt B 1 [.int .u32 (s.r 0), .int .u32 (s.r 1), .int .u32 (s.r 2), .int .u32 (s.r 3), .int .u32 (s.r 4), .int .u32 (s.r 5), .int .u32 (s.r 6), .int .u32 (s.r 7), .int .u32 (s.r 8), .int .u32 (s.r 9), .int .u32 (s.r 10), .int .u32 (s.r 11), .int .u32 (s.r 12), .int .u32 (s.r 13), .int .u32 (s.r 14), .int .u32 (s.r 15), .int .u32 (s.r 16), .int .u32 (s.r 17), .int .u32 (s.r 18), .int .u32 (s.r 19), .int .u32 (s.r 20), .int .u32 (s.r 21), .int .u32 (s.r 22), .int .u32 (s.r 23), .int .u32 (s.r 24), .int .u32 (s.r 25), .int .u32 (s.r 26), .int .u32 (s.r 27), .int .u32 (s.r 28), .int .u32 (s.r 29), .int .u32 (s.r 30), .int .u32 (s.r 31)] ∧ w'.cell? ⟨B, 33, none⟩ = some (.int .u32 (s.c 0)) ∧ w'.cell? ⟨B, 34, none⟩ = some (.int .u32 (s.c 1)) ∧ w'.cell? ⟨B, 35, none⟩ = some (.int .u32 (s.c 2)) ∧ w'.cell? ⟨B, 36, none⟩ = some (.int .u32 (s.c 3)) ∧ w'.cell? ⟨B, 37, none⟩ = some (.int .u32 (s.c 4)) ∧ Fr w w' := by
  have m := h.fr k
  exact ⟨m.pc, rg_range m, m.c 0 (by decide), m.c 1 (by decide), m.c 2 (by decide), m.c 3 (by decide), m.c 4 (by decide), k⟩
set_option maxRecDepth 100000 in
set_option maxHeartbeats 600000 in
theorem state_as (B : Nat) (s : St) (v : Value) (w : World) (hM : Hid (MAt B s v w)) :
    Calls Tryz.prog 16 #[.pointer (some ⟨B, 0, none⟩)] w fun e w' => ∃ v', e = .returned (.agg (stL s v').toArray) ∧ w'.ownsRow w.heap.size 36 1 v' 1024 ((rowI s.m 1024).map (.int .u32)) ∧ v' ≠ .slice none 0 0 ∧ Fr w w' := by
  have hb := hM.out.lt
  have hu := Tryz.underlying41
  have hi : (Tryz.prog.info? 41).map (·.size) = some ([.int .u32 (s.r 0), .int .u32 (s.r 1), .int .u32 (s.r 2), .int .u32 (s.r 3), .int .u32 (s.r 4), .int .u32 (s.r 5), .int .u32 (s.r 6), .int .u32 (s.r 7), .int .u32 (s.r 8), .int .u32 (s.r 9), .int .u32 (s.r 10), .int .u32 (s.r 11), .int .u32 (s.r 12), .int .u32 (s.r 13), .int .u32 (s.r 14), .int .u32 (s.r 15), .int .u32 (s.r 16), .int .u32 (s.r 17), .int .u32 (s.r 18), .int .u32 (s.r 19), .int .u32 (s.r 20), .int .u32 (s.r 21), .int .u32 (s.r 22), .int .u32 (s.r 23), .int .u32 (s.r 24), .int .u32 (s.r 25), .int .u32 (s.r 26), .int .u32 (s.r 27), .int .u32 (s.r 28), .int .u32 (s.r 29), .int .u32 (s.r 30), .int .u32 (s.r 31)] : List Value).length := size41
  have hb1 : B < w.heap.size + 1 := by omega
  have BX := hid (Box39.new w)
  have F0 : Hid (Fr w (w.alloc (.cells z39 44))) := (Fr.refl w).alloc _
  go_enter Tryz.func16, Tryz.ntmps16
  go_wp2_with fail
  go_region_held3 (fun w' => w'.cell? ⟨B, 0, none⟩ = some (.int .u32 s.pc) ∧ w'.rangeAt B 1 [.int .u32 (s.r 0), .int .u32 (s.r 1), .int .u32 (s.r 2), .int .u32 (s.r 3), .int .u32 (s.r 4), .int .u32 (s.r 5), .int .u32 (s.r 6), .int .u32 (s.r 7), .int .u32 (s.r 8), .int .u32 (s.r 9), .int .u32 (s.r 10), .int .u32 (s.r 11), .int .u32 (s.r 12), .int .u32 (s.r 13), .int .u32 (s.r 14), .int .u32 (s.r 15), .int .u32 (s.r 16), .int .u32 (s.r 17), .int .u32 (s.r 18), .int .u32 (s.r 19), .int .u32 (s.r 20), .int .u32 (s.r 21), .int .u32 (s.r 22), .int .u32 (s.r 23), .int .u32 (s.r 24), .int .u32 (s.r 25), .int .u32 (s.r 26), .int .u32 (s.r 27), .int .u32 (s.r 28), .int .u32 (s.r 29), .int .u32 (s.r 30), .int .u32 (s.r 31)] ∧ w'.cell? ⟨B, 33, none⟩ = some (.int .u32 (s.c 0)) ∧ w'.cell? ⟨B, 34, none⟩ = some (.int .u32 (s.c 1)) ∧ w'.cell? ⟨B, 35, none⟩ = some (.int .u32 (s.c 2)) ∧ w'.cell? ⟨B, 36, none⟩ = some (.int .u32 (s.c 3)) ∧ w'.cell? ⟨B, 37, none⟩ = some (.int .u32 (s.c 4)) ∧ Fr w w')
    (first | with_reducible exact sS hM.out F1.out | with_reducible exact sS hM.out F2.out | exact sS hM.out (by exact F0.out.alike ⟨rfl, rfl, rfl⟩))
    (first
      | (go_at_call 36; refine (clone_some B 38 1024 1024 (rowI s.m 1024) (rowI_len _ _) (by unfold Hid; omega) _ (mem_cells (by exact (hM.out.alloc _).alike ⟨rfl, rfl, rfl⟩)) (by unfold Hid; simp; omega)).mono ?_; rintro e w1 ⟨v1, rfl, hO, hF, hn⟩
         obtain ⟨g1, cap1, rfl, hg1⟩ := own_form hO hn
         have F1 : Hid (Fr w w1) := Fr.trans (by exact F0.out.alike ⟨rfl, rfl, rfl⟩) hF
         have X := hid (Box39.fr (w := _) (by exact BX.out.fr ((Fr.refl _).alike ⟨rfl, rfl, rfl⟩)) hF)
         have O1 := hid hO
         clear hO hF hn hg1
         have F2 : Hid (Fr w (w1.setCells w.heap.size 0 [.int .u32 s.pc, .int .u32 (s.r 0), .int .u32 (s.r 1), .int .u32 (s.r 2), .int .u32 (s.r 3), .int .u32 (s.r 4), .int .u32 (s.r 5), .int .u32 (s.r 6), .int .u32 (s.r 7), .int .u32 (s.r 8), .int .u32 (s.r 9), .int .u32 (s.r 10), .int .u32 (s.r 11), .int .u32 (s.r 12), .int .u32 (s.r 13), .int .u32 (s.r 14), .int .u32 (s.r 15), .int .u32 (s.r 16), .int .u32 (s.r 17), .int .u32 (s.r 18), .int .u32 (s.r 19), .int .u32 (s.r 20), .int .u32 (s.r 21), .int .u32 (s.r 22), .int .u32 (s.r 23), .int .u32 (s.r 24), .int .u32 (s.r 25), .int .u32 (s.r 26), .int .u32 (s.r 27), .int .u32 (s.r 28), .int .u32 (s.r 29), .int .u32 (s.r 30), .int .u32 (s.r 31), .int .u32 (s.c 0), .int .u32 (s.c 1), .int .u32 (s.c 2), .int .u32 (s.c 3), .int .u32 (s.c 4), .slice (some ⟨g1, 0, none⟩) 1024 cap1])) := Fr.setCells w.heap.size (Nat.le_refl _) _ 0 _ F1.out
         have T0 := hid X.out.there)
      | (have hT := st39 [.int .u32 s.pc, .int .u32 (s.r 0), .int .u32 (s.r 1), .int .u32 (s.r 2), .int .u32 (s.r 3), .int .u32 (s.r 4), .int .u32 (s.r 5), .int .u32 (s.r 6), .int .u32 (s.r 7), .int .u32 (s.r 8), .int .u32 (s.r 9), .int .u32 (s.r 10), .int .u32 (s.r 11), .int .u32 (s.r 12), .int .u32 (s.r 13), .int .u32 (s.r 14), .int .u32 (s.r 15), .int .u32 (s.r 16), .int .u32 (s.r 17), .int .u32 (s.r 18), .int .u32 (s.r 19), .int .u32 (s.r 20), .int .u32 (s.r 21), .int .u32 (s.r 22), .int .u32 (s.r 23), .int .u32 (s.r 24), .int .u32 (s.r 25), .int .u32 (s.r 26), .int .u32 (s.r 27), .int .u32 (s.r 28), .int .u32 (s.r 29), .int .u32 (s.r 30), .int .u32 (s.r 31), .int .u32 (s.c 0), .int .u32 (s.c 1), .int .u32 (s.c 2), .int .u32 (s.c 3), .int .u32 (s.c 4), .slice (some ⟨g1, 0, none⟩) 1024 cap1] rfl rfl T0.out
         refine upon_then (Eq.trans ?_ hT) ?_
         · clear hT T0 F1 F2 O1 X
           go_simp
         clear hT))
  all_goals
    have HL : (loadVar 44 ⟨w.heap.size, 0, none⟩).run Tryz.prog (w1.setCells w.heap.size 0 [.int .u32 s.pc, .int .u32 (s.r 0), .int .u32 (s.r 1), .int .u32 (s.r 2), .int .u32 (s.r 3), .int .u32 (s.r 4), .int .u32 (s.r 5), .int .u32 (s.r 6), .int .u32 (s.r 7), .int .u32 (s.r 8), .int .u32 (s.r 9), .int .u32 (s.r 10), .int .u32 (s.r 11), .int .u32 (s.r 12), .int .u32 (s.r 13), .int .u32 (s.r 14), .int .u32 (s.r 15), .int .u32 (s.r 16), .int .u32 (s.r 17), .int .u32 (s.r 18), .int .u32 (s.r 19), .int .u32 (s.r 20), .int .u32 (s.r 21), .int .u32 (s.r 22), .int .u32 (s.r 23), .int .u32 (s.r 24), .int .u32 (s.r 25), .int .u32 (s.r 26), .int .u32 (s.r 27), .int .u32 (s.r 28), .int .u32 (s.r 29), .int .u32 (s.r 30), .int .u32 (s.r 31), .int .u32 (s.c 0), .int .u32 (s.c 1), .int .u32 (s.c 2), .int .u32 (s.c 3), .int .u32 (s.c 4), .slice (some ⟨g1, 0, none⟩) 1024 cap1]) = .ok (.agg (stL s (.slice (some ⟨g1, 0, none⟩) 1024 cap1)).toArray) (w1.setCells w.heap.size 0 [.int .u32 s.pc, .int .u32 (s.r 0), .int .u32 (s.r 1), .int .u32 (s.r 2), .int .u32 (s.r 3), .int .u32 (s.r 4), .int .u32 (s.r 5), .int .u32 (s.r 6), .int .u32 (s.r 7), .int .u32 (s.r 8), .int .u32 (s.r 9), .int .u32 (s.r 10), .int .u32 (s.r 11), .int .u32 (s.r 12), .int .u32 (s.r 13), .int .u32 (s.r 14), .int .u32 (s.r 15), .int .u32 (s.r 16), .int .u32 (s.r 17), .int .u32 (s.r 18), .int .u32 (s.r 19), .int .u32 (s.r 20), .int .u32 (s.r 21), .int .u32 (s.r 22), .int .u32 (s.r 23), .int .u32 (s.r 24), .int .u32 (s.r 25), .int .u32 (s.r 26), .int .u32 (s.r 27), .int .u32 (s.r 28), .int .u32 (s.r 29), .int .u32 (s.r 30), .int .u32 (s.r 31), .int .u32 (s.c 0), .int .u32 (s.c 1), .int .u32 (s.c 2), .int .u32 (s.c 3), .int .u32 (s.c 4), .slice (some ⟨g1, 0, none⟩) 1024 cap1]) :=
      run_loadVar_mid _ w.heap.size 0 44 _ _ (World.rangeAt_setCells_same w1 w.heap.size 0 _ T0.out.at0) Tryz.underlying44 rfl size44
    have O2 : Hid ((w1.setCells w.heap.size 0 [.int .u32 s.pc, .int .u32 (s.r 0), .int .u32 (s.r 1), .int .u32 (s.r 2), .int .u32 (s.r 3), .int .u32 (s.r 4), .int .u32 (s.r 5), .int .u32 (s.r 6), .int .u32 (s.r 7), .int .u32 (s.r 8), .int .u32 (s.r 9), .int .u32 (s.r 10), .int .u32 (s.r 11), .int .u32 (s.r 12), .int .u32 (s.r 13), .int .u32 (s.r 14), .int .u32 (s.r 15), .int .u32 (s.r 16), .int .u32 (s.r 17), .int .u32 (s.r 18), .int .u32 (s.r 19), .int .u32 (s.r 20), .int .u32 (s.r 21), .int .u32 (s.r 22), .int .u32 (s.r 23), .int .u32 (s.r 24), .int .u32 (s.r 25), .int .u32 (s.r 26), .int .u32 (s.r 27), .int .u32 (s.r 28), .int .u32 (s.r 29), .int .u32 (s.r 30), .int .u32 (s.r 31), .int .u32 (s.c 0), .int .u32 (s.c 1), .int .u32 (s.c 2), .int .u32 (s.c 3), .int .u32 (s.c 4), .slice (some ⟨g1, 0, none⟩) 1024 cap1]).ownsRow w.heap.size 36 1 (.slice (some ⟨g1, 0, none⟩) 1024 cap1) 1024 ((rowI s.m 1024).map (.int .u32))) := ownsRow_lower (own_setCells O1.out (by simp) _ 0 w1 (fun _ _ => rfl)) (by simp)
    clear O1 T0 X F1
    generalize (w1.setCells w.heap.size 0 [.int .u32 s.pc, .int .u32 (s.r 0), .int .u32 (s.r 1), .int .u32 (s.r 2), .int .u32 (s.r 3), .int .u32 (s.r 4), .int .u32 (s.r 5), .int .u32 (s.r 6), .int .u32 (s.r 7), .int .u32 (s.r 8), .int .u32 (s.r 9), .int .u32 (s.r 10), .int .u32 (s.r 11), .int .u32 (s.r 12), .int .u32 (s.r 13), .int .u32 (s.r 14), .int .u32 (s.r 15), .int .u32 (s.r 16), .int .u32 (s.r 17), .int .u32 (s.r 18), .int .u32 (s.r 19), .int .u32 (s.r 20), .int .u32 (s.r 21), .int .u32 (s.r 22), .int .u32 (s.r 23), .int .u32 (s.r 24), .int .u32 (s.r 25), .int .u32 (s.r 26), .int .u32 (s.r 27), .int .u32 (s.r 28), .int .u32 (s.r 29), .int .u32 (s.r 30), .int .u32 (s.r 31), .int .u32 (s.c 0), .int .u32 (s.c 1), .int .u32 (s.c 2), .int .u32 (s.c 3), .int .u32 (s.c 4), .slice (some ⟨g1, 0, none⟩) 1024 cap1]) = W2 at HL O2 F2 ⊢
    go_wp2_with fail
    refine bodyPost_ret (v := .agg (stL s (.slice (some ⟨g1, 0, none⟩) 1024 cap1)).toArray) (by simp [results, Tryz.results16, asAddr, HL]) rfl ⟨_, rfl, O2.out, by simp, F2.out⟩
end Go.Proofs.YtpkbkbllhpdfiaaGreat.M
namespace Go.Proofs.YtpkbkbllhpdfiaaGreat.M
open Go.ChangeShapes Go.WideShapes Go.ChangeAt Go.RowKit Go.Proofs.YtpkbkbllhpdfiaaGreat.Walks Go.Proofs.YtpkbkbllhpdfiaaGreat.Mod
set_option linter.unusedVariables false
theorem all_u32 (s : Nat → Int) (n : Nat) (xs : Array Value) (h : xs = ((List.range n).map fun i => Value.int .u32 (s i)).toArray) : ∀ i, i < n → ∃ k, xs[i]? = some (.int .u32 k) := by
  intro i hi
  subst h
  exact ⟨s i, by simp [hi]⟩
theorem rg_neq (s : St) (W : World) : (binOp .neq 41 (.agg #[.int .u32 (s.r 0), .int .u32 (s.r 1), .int .u32 (s.r 2), .int .u32 (s.r 3), .int .u32 (s.r 4), .int .u32 (s.r 5), .int .u32 (s.r 6), .int .u32 (s.r 7), .int .u32 (s.r 8), .int .u32 (s.r 9), .int .u32 (s.r 10), .int .u32 (s.r 11), .int .u32 (s.r 12), .int .u32 (s.r 13), .int .u32 (s.r 14), .int .u32 (s.r 15), .int .u32 (s.r 16), .int .u32 (s.r 17), .int .u32 (s.r 18), .int .u32 (s.r 19), .int .u32 (s.r 20), .int .u32 (s.r 21), .int .u32 (s.r 22), .int .u32 (s.r 23), .int .u32 (s.r 24), .int .u32 (s.r 25), .int .u32 (s.r 26), .int .u32 (s.r 27), .int .u32 (s.r 28), .int .u32 (s.r 29), .int .u32 (s.r 30), .int .u32 (s.r 31)]) (.agg #[.int .u32 (s.r 0), .int .u32 (s.r 1), .int .u32 (s.r 2), .int .u32 (s.r 3), .int .u32 (s.r 4), .int .u32 (s.r 5), .int .u32 (s.r 6), .int .u32 (s.r 7), .int .u32 (s.r 8), .int .u32 (s.r 9), .int .u32 (s.r 10), .int .u32 (s.r 11), .int .u32 (s.r 12), .int .u32 (s.r 13), .int .u32 (s.r 14), .int .u32 (s.r 15), .int .u32 (s.r 16), .int .u32 (s.r 17), .int .u32 (s.r 18), .int .u32 (s.r 19), .int .u32 (s.r 20), .int .u32 (s.r 21), .int .u32 (s.r 22), .int .u32 (s.r 23), .int .u32 (s.r 24), .int .u32 (s.r 25), .int .u32 (s.r 26), .int .u32 (s.r 27), .int .u32 (s.r 28), .int .u32 (s.r 29), .int .u32 (s.r 30), .int .u32 (s.r 31)])).run Tryz.prog W = .ok (.bool false) W := neq_self 41 32 Tryz.underlying41 _ (all_u32 s.r 32 _ rfl) W
theorem cg_neq (s : St) (W : World) : (binOp .neq 42 (.agg #[.int .u32 (s.c 0), .int .u32 (s.c 1), .int .u32 (s.c 2), .int .u32 (s.c 3), .int .u32 (s.c 4)]) (.agg #[.int .u32 (s.c 0), .int .u32 (s.c 1), .int .u32 (s.c 2), .int .u32 (s.c 3), .int .u32 (s.c 4)])).run Tryz.prog W = .ok (.bool false) W := neq_self 42 5 Tryz.underlying42 _ (all_u32 s.c 5 _ rfl) W
theorem size42 : (Tryz.prog.info? 42).map (·.size) = some 5 := by kernel_rfl
/-- a load of many cells, guarded or not -/
theorem load_want {P : Program} {ops : Array Oper} {rest : List Oper} {op : Oper} {a : Act} {w : World} {Q : Exit → Act → World → Prop} (hw : Region.wanted op (yielded ops a.tmps) = true) (ty : TypeId) (x : Operand) (ho : op.op = .load ty x)
    (b o : Nat) (hx : a.eval x = .pointer (some ⟨b, o, none⟩)) (cs : List Value) (d : TypeDesc) (hc : w.rangeAt b o cs)
    (hu : P.underlying ty = some d) (hd : d.isRow = true) (hi : (P.info? ty).map (·.size) = some cs.length)
    (h : wpList P ops Q rest (a.put op.dst (.agg cs.toArray)) w) : wpList P ops Q (op :: rest) a w :=
  BigFrame.wpList_want hw fun _ hK => wp_load_mid ty x ho b o hx cs d hc hu hd hi (hK _ _ h)
/-- the cells of a state -/
structure Cells39 (X : Array Value) (s : St) (v : Value) : Prop where
  p : X[0]? = some (.int .u32 s.pc)
  r : ∀ k, k < 32 → X[1 + k]? = some (.int .u32 (s.r k))
  c : ∀ k, k < 5 → X[33 + k]? = some (.int .u32 (s.c k))
  t : X[38]? = some v
theorem at_range (f : Nat → Int) (n b o : Nat) (w : World) (cs : List Value) (e : cs = (List.range n).map fun i => Value.int .u32 (f i)) (h : ∀ k, k < n → w.cell? ⟨b, o + k, none⟩ = some (.int .u32 (f k))) : w.rangeAt b o cs := by
  intro j u hu
  subst e
  have hj : j < n := by
    have := (List.getElem?_eq_some_iff.1 hu).1
    simpa using this
  simp [hj] at hu
  subst hu
  exact h j hj
theorem box_a (w : World) (X Y : Array Value) (k : Nat) : ((w.alloc (.cells X 44)).alloc (.cells Y 44)).cell? ⟨w.heap.size, k, none⟩ = X[k]? := by
  rw [((Fr.refl (w.alloc (.cells X 44))).alloc (.cells Y 44)).cell w.heap.size k (by simp), World.cell?_alloc_at _ _ _ _ rfl]
theorem box_b (w : World) (X Y : Array Value) (k : Nat) : ((w.alloc (.cells X 44)).alloc (.cells Y 44)).cell? ⟨w.heap.size + 1, k, none⟩ = Y[k]? := by
  rw [World.cell?_alloc_at _ _ _ _ (by simp)]
set_option maxRecDepth 100000 in
set_option maxHeartbeats 1000000 in
theorem states_of (s : St) (A B : Option Addr) (ca cb : Nat) (X Y : Array Value) (hX : Hid (Cells39 X s (.slice A 1024 ca))) (hY : Hid (Cells39 Y s (.slice B 1024 cb))) (w : World) (hA : Hid (RowIn w A 1024 s.m)) (hB : Hid (RowIn w B 1024 s.m)) :
    Calls Tryz.prog 18 #[.agg X, .agg Y] w fun e w' => e = .returned (.bool true) ∧ Fr w w' := by
  have e1 := rg_neq s
  have e2 := cg_neq s
  have x0 := hX.out.p
  have y0 := hY.out.p
  have R1 : Hid (((w.alloc (.cells X 44)).alloc (.cells Y 44)).rangeAt w.heap.size 1 [.int .u32 (s.r 0), .int .u32 (s.r 1), .int .u32 (s.r 2), .int .u32 (s.r 3), .int .u32 (s.r 4), .int .u32 (s.r 5), .int .u32 (s.r 6), .int .u32 (s.r 7), .int .u32 (s.r 8), .int .u32 (s.r 9), .int .u32 (s.r 10), .int .u32 (s.r 11), .int .u32 (s.r 12), .int .u32 (s.r 13), .int .u32 (s.r 14), .int .u32 (s.r 15), .int .u32 (s.r 16), .int .u32 (s.r 17), .int .u32 (s.r 18), .int .u32 (s.r 19), .int .u32 (s.r 20), .int .u32 (s.r 21), .int .u32 (s.r 22), .int .u32 (s.r 23), .int .u32 (s.r 24), .int .u32 (s.r 25), .int .u32 (s.r 26), .int .u32 (s.r 27), .int .u32 (s.r 28), .int .u32 (s.r 29), .int .u32 (s.r 30), .int .u32 (s.r 31)]) := at_range s.r 32 _ _ _ _ rfl fun k hk => (box_a w X Y _).trans (hX.out.r k hk)
  have R2 : Hid (((w.alloc (.cells X 44)).alloc (.cells Y 44)).rangeAt (w.heap.size + 1) 1 [.int .u32 (s.r 0), .int .u32 (s.r 1), .int .u32 (s.r 2), .int .u32 (s.r 3), .int .u32 (s.r 4), .int .u32 (s.r 5), .int .u32 (s.r 6), .int .u32 (s.r 7), .int .u32 (s.r 8), .int .u32 (s.r 9), .int .u32 (s.r 10), .int .u32 (s.r 11), .int .u32 (s.r 12), .int .u32 (s.r 13), .int .u32 (s.r 14), .int .u32 (s.r 15), .int .u32 (s.r 16), .int .u32 (s.r 17), .int .u32 (s.r 18), .int .u32 (s.r 19), .int .u32 (s.r 20), .int .u32 (s.r 21), .int .u32 (s.r 22), .int .u32 (s.r 23), .int .u32 (s.r 24), .int .u32 (s.r 25), .int .u32 (s.r 26), .int .u32 (s.r 27), .int .u32 (s.r 28), .int .u32 (s.r 29), .int .u32 (s.r 30), .int .u32 (s.r 31)]) := at_range s.r 32 _ _ _ _ rfl fun k hk => (box_b w X Y _).trans (hY.out.r k hk)
  have R3 : Hid (((w.alloc (.cells X 44)).alloc (.cells Y 44)).rangeAt w.heap.size 33 [.int .u32 (s.c 0), .int .u32 (s.c 1), .int .u32 (s.c 2), .int .u32 (s.c 3), .int .u32 (s.c 4)]) := at_range s.c 5 _ _ _ _ rfl fun k hk => (box_a w X Y _).trans (hX.out.c k hk)
  have R4 : Hid (((w.alloc (.cells X 44)).alloc (.cells Y 44)).rangeAt (w.heap.size + 1) 33 [.int .u32 (s.c 0), .int .u32 (s.c 1), .int .u32 (s.c 2), .int .u32 (s.c 3), .int .u32 (s.c 4)]) := at_range s.c 5 _ _ _ _ rfl fun k hk => (box_b w X Y _).trans (hY.out.c k hk)
  have x38 := hX.out.t
  have y38 := hY.out.t
  have F0 : Hid (Fr w ((w.alloc (.cells X 44)).alloc (.cells Y 44))) := ((Fr.refl w).alloc _).alloc _
  go_enter Tryz.func18, Tryz.ntmps18
  go_wp2_with (first
    | (refine load_want (by rfl) 41 _ rfl w.heap.size 1 rfl [.int .u32 (s.r 0), .int .u32 (s.r 1), .int .u32 (s.r 2), .int .u32 (s.r 3), .int .u32 (s.r 4), .int .u32 (s.r 5), .int .u32 (s.r 6), .int .u32 (s.r 7), .int .u32 (s.r 8), .int .u32 (s.r 9), .int .u32 (s.r 10), .int .u32 (s.r 11), .int .u32 (s.r 12), .int .u32 (s.r 13), .int .u32 (s.r 14), .int .u32 (s.r 15), .int .u32 (s.r 16), .int .u32 (s.r 17), .int .u32 (s.r 18), .int .u32 (s.r 19), .int .u32 (s.r 20), .int .u32 (s.r 21), .int .u32 (s.r 22), .int .u32 (s.r 23), .int .u32 (s.r 24), .int .u32 (s.r 25), .int .u32 (s.r 26), .int .u32 (s.r 27), .int .u32 (s.r 28), .int .u32 (s.r 29), .int .u32 (s.r 30), .int .u32 (s.r 31)] _ R1.out Tryz.underlying41 rfl size41 ?_)
    | (refine load_want (by rfl) 41 _ rfl (w.heap.size + 1) 1 rfl [.int .u32 (s.r 0), .int .u32 (s.r 1), .int .u32 (s.r 2), .int .u32 (s.r 3), .int .u32 (s.r 4), .int .u32 (s.r 5), .int .u32 (s.r 6), .int .u32 (s.r 7), .int .u32 (s.r 8), .int .u32 (s.r 9), .int .u32 (s.r 10), .int .u32 (s.r 11), .int .u32 (s.r 12), .int .u32 (s.r 13), .int .u32 (s.r 14), .int .u32 (s.r 15), .int .u32 (s.r 16), .int .u32 (s.r 17), .int .u32 (s.r 18), .int .u32 (s.r 19), .int .u32 (s.r 20), .int .u32 (s.r 21), .int .u32 (s.r 22), .int .u32 (s.r 23), .int .u32 (s.r 24), .int .u32 (s.r 25), .int .u32 (s.r 26), .int .u32 (s.r 27), .int .u32 (s.r 28), .int .u32 (s.r 29), .int .u32 (s.r 30), .int .u32 (s.r 31)] _ R2.out Tryz.underlying41 rfl size41 ?_)
    | (refine load_want (by rfl) 42 _ rfl w.heap.size 33 rfl [.int .u32 (s.c 0), .int .u32 (s.c 1), .int .u32 (s.c 2), .int .u32 (s.c 3), .int .u32 (s.c 4)] _ R3.out Tryz.underlying42 rfl size42 ?_)
    | (refine load_want (by rfl) 42 _ rfl (w.heap.size + 1) 33 rfl [.int .u32 (s.c 0), .int .u32 (s.c 1), .int .u32 (s.c 2), .int .u32 (s.c 3), .int .u32 (s.c 4)] _ R4.out Tryz.underlying42 rfl size42 ?_))
  clear R1 R2 R3 R4 e1 e2 x0 y0
  go_loopw [37] (fun t wr => ∃ d : Nat, (d : Int) ≤ 1024 ∧ t = .int .i64 d ∧ Hid (wr.Alike ((w.alloc (.cells X 44)).alloc (.cells Y 44)))) (fun t _ => 1024 - (intOf t).toNat)
  case atStart => exact ⟨0, by omega, rfl, rfl, rfl, rfl⟩
  case round =>
    obtain ⟨d, hd, rfl, HD⟩ := hrel
    rename_i wr
    by_cases hlt : (d : Int) < 1024
    · have F1 : Hid (Fr w wr) := F0.out.alike HD.out
      obtain ⟨a, rfl, a1, a2⟩ := hA.out.fr F1.out d (by omega)
      obtain ⟨b, rfl, b1, b2⟩ := hB.out.fr F1.out d (by omega)
      have c1 : wr.cell? ⟨w.heap.size, 38, none⟩ = some (.slice (some ⟨a, 0, none⟩) 1024 ca) := by
        rw [((Fr.refl _).alike HD.out).cell _ _ (by simp; omega), box_a]; exact x38
      have c2 : wr.cell? ⟨w.heap.size + 1, 38, none⟩ = some (.slice (some ⟨b, 0, none⟩) 1024 cb) := by
        rw [((Fr.refl _).alike HD.out).cell _ _ (by simp), box_b]; exact y38
      go_wp2_with fail
      go_quiet (fail)
      go_wp2_with fail
      exact ⟨⟨d + 1, by omega, by rw [Int.natCast_add]; rfl, HD.out⟩, by simp [intOf]; omega⟩
    · go_wp2_with fail
      go_ret
      exact ⟨rfl, F0.out.alike HD.out⟩
end Go.Proofs.YtpkbkbllhpdfiaaGreat.M
namespace Go.Proofs.YtpkbkbllhpdfiaaGreat.M
open Go.ChangeShapes Go.WideShapes Go.ChangeAt Go.RowKit Go.Proofs.YtpkbkbllhpdfiaaGreat.Walks Go.Proofs.YtpkbkbllhpdfiaaGreat.Mod
set_option linter.unusedVariables false
set_option maxRecDepth 100000 in
theorem field_r (s : St) (v : Value) (W : World) : (Instr.field 44 (.agg (stL s v).toArray) 1).run Tryz.prog W = .ok (.agg (rgL s).toArray) W := by
  simp only [Instr.field, Sem.run_bind, run_underlying Tryz.underlying44, Result.andThen_ok]
  simp [part, asAgg]
theorem index_r5 (s : St) (W : World) : (Instr.index 41 (.agg (rgL s).toArray) (.int .i64 5)).run Tryz.prog W = .ok (.int .u32 (s.r 5)) W := by
  simp [Instr.index, part, asIntOf, run_underlying Tryz.underlying41]
end Go.Proofs.YtpkbkbllhpdfiaaGreat.M
