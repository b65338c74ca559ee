/- Contract of the law's own play: both gates that are played side by side tell the same. -/
import Derived.Test.YtedcamljgnblmaaPair
import Derived.Deep.RegionHeld3
namespace Go.Proofs.Ytedcamljgnblmaa.M
open Go.ChangeShapes Go.WideShapes Go.ChangeAt Go.RowKit Go.Proofs.Ytedcamljgnblmaa.Walks
set_option linter.unusedVariables false
theorem two_new (w w1 : World) (f : Nat → Rt) (hG : GAt w.heap.size w.heap.size none 0 0 f w1) (F : Fr w w1) : Two w w.heap.size w1.heap.size none none 0 0 0 f 0 f (w1.alloc (.cells #[.slice none 0 0] 45)) := by
  have l := hG.lt
  refine ⟨hG.fr ((Fr.refl _).alloc _), ⟨?_, ?_, World.ownsRow_nil _ _ _ _, by simp, F.size, by simp, fun j hj => absurd hj (Nat.not_lt_zero _)⟩, F.alloc _, by omega, by simp, by simp, fun k hk => by cases hk⟩
  · rw [World.cell?_alloc_at _ _ _ _ rfl]; rfl
  · rw [World.frozen?_alloc_at _ _ _ _ rfl]
theorem box8 (wr V : World) (kk : Int) (rr : Rt) (hV : V.heap[wr.heap.size]? = (wr.alloc (.cells #[.int .i64 kk, .int .u32 rr.p, .int .u32 rr.v, .int .i64 rr.d, .bool rr.s, .int .u32 rr.a, .int .u32 rr.t, .int .i64 rr.m] 27)).heap[wr.heap.size]?) : V.cell? ⟨wr.heap.size, 1, none⟩ = some (.int .u32 rr.p) ∧ V.cell? ⟨wr.heap.size, 2, none⟩ = some (.int .u32 rr.v) ∧ V.cell? ⟨wr.heap.size, 3, none⟩ = some (.int .i64 rr.d) ∧ V.cell? ⟨wr.heap.size, 4, none⟩ = some (.bool rr.s) ∧ V.cell? ⟨wr.heap.size, 5, none⟩ = some (.int .u32 rr.a) ∧ V.cell? ⟨wr.heap.size, 6, none⟩ = some (.int .u32 rr.t) ∧ V.cell? ⟨wr.heap.size, 7, none⟩ = some (.int .i64 rr.m) := by
  have e : ∀ j, V.cell? ⟨wr.heap.size, j, none⟩ = #[.int .i64 kk, .int .u32 rr.p, .int .u32 rr.v, .int .i64 rr.d, .bool rr.s, .int .u32 rr.a, .int .u32 rr.t, .int .i64 rr.m][j]? := fun j => by rw [World.cell?_of_block (w := wr.alloc (.cells #[.int .i64 kk, .int .u32 rr.p, .int .u32 rr.v, .int .i64 rr.d, .bool rr.s, .int .u32 rr.a, .int .u32 rr.t, .int .i64 rr.m] 27)) hV]; exact World.cell?_alloc_at _ _ _ _ rfl
  refine ⟨?_, ?_, ?_, ?_, ?_, ?_, ?_⟩ <;> (rw [e]; rfl)
theorem box7 (wr V : World) (ob : Obj) (r : Rt) (hV : V.heap[wr.heap.size + 1]? = ((wr.alloc ob).alloc (.cells #[.int .u32 r.p, .int .u32 r.v, .int .i64 r.d, .bool r.s, .int .u32 r.a, .int .u32 r.t, .int .i64 r.m] 25)).heap[wr.heap.size + 1]?) (oo : Obj) : (V.alloc oo).cell? ⟨wr.heap.size + 1, 0, none⟩ = some (.int .u32 r.p) ∧ (V.alloc oo).cell? ⟨wr.heap.size + 1, 1, none⟩ = some (.int .u32 r.v) ∧ (V.alloc oo).cell? ⟨wr.heap.size + 1, 2, none⟩ = some (.int .i64 r.d) ∧ (V.alloc oo).cell? ⟨wr.heap.size + 1, 3, none⟩ = some (.bool r.s) ∧ (V.alloc oo).cell? ⟨wr.heap.size + 1, 4, none⟩ = some (.int .u32 r.a) ∧ (V.alloc oo).cell? ⟨wr.heap.size + 1, 5, none⟩ = some (.int .u32 r.t) ∧ (V.alloc oo).cell? ⟨wr.heap.size + 1, 6, none⟩ = some (.int .i64 r.m) := by
  have e1 : (wr.alloc ob).heap.size = wr.heap.size + 1 := by simp
  have k : ((wr.alloc ob).alloc (.cells #[.int .u32 r.p, .int .u32 r.v, .int .i64 r.d, .bool r.s, .int .u32 r.a, .int .u32 r.t, .int .i64 r.m] 25)).rangeAt (wr.heap.size + 1) 0 r.cs := by
    have := range_new (wr.alloc ob) r.cs 25
    rw [e1] at this
    exact this
  have hs : wr.heap.size + 1 < V.heap.size := by
    by_cases h : wr.heap.size + 1 < V.heap.size
    · exact h
    · rw [Array.getElem?_eq_none (by omega), ← e1, heap_alloc_new] at hV
      cases hV
  exact cells7 (range_fr (range_block k hV) ((Fr.refl V).alloc oo) hs)
theorem box7o (w3 w4 : World) (r : Rt) (hV : w4.heap[w3.heap.size]? = (w3.alloc (.cells #[.int .u32 r.p, .int .u32 r.v, .int .i64 r.d, .bool r.s, .int .u32 r.a, .int .u32 r.t, .int .i64 r.m] 25)).heap[w3.heap.size]?) (oo : Obj) : (w4.alloc oo).cell? ⟨w3.heap.size, 0, none⟩ = some (.int .u32 r.p) ∧ (w4.alloc oo).cell? ⟨w3.heap.size, 1, none⟩ = some (.int .u32 r.v) ∧ (w4.alloc oo).cell? ⟨w3.heap.size, 2, none⟩ = some (.int .i64 r.d) ∧ (w4.alloc oo).cell? ⟨w3.heap.size, 3, none⟩ = some (.bool r.s) ∧ (w4.alloc oo).cell? ⟨w3.heap.size, 4, none⟩ = some (.int .u32 r.a) ∧ (w4.alloc oo).cell? ⟨w3.heap.size, 5, none⟩ = some (.int .u32 r.t) ∧ (w4.alloc oo).cell? ⟨w3.heap.size, 6, none⟩ = some (.int .i64 r.m) := by
  have k := range_new w3 r.cs 25
  have hs : w3.heap.size < w4.heap.size := by
    by_cases h : w3.heap.size < w4.heap.size
    · exact h
    · rw [Array.getElem?_eq_none (by omega), heap_alloc_new] at hV
      cases hV
  exact cells7 (range_fr (range_block k hV) ((Fr.refl w4).alloc oo) hs)
set_option maxRecDepth 100000 in
set_option maxHeartbeats 4000000 in
theorem play (K : Option Addr) (len cap : Nat) (kd : Nat → Int) (rs : Nat → Rt) (w : World) (hK : Hid (AsksIn w K len kd rs)) :
    Calls Try.prog 7 #[.slice K len cap] w fun e w' => e = .returned (.bool true) ∧ Fr w w' := by
  go_enter Try.func7, Try.ntmps7
  go_wp2_with fail
  refine (new_as w.heap.size _ (Nat.le_refl _) (fun _ => zR)).mono ?_; rintro e w1 ⟨rfl, hg, hF⟩
  have P2 := hid (two_new w w1 _ hg hF)
  clear hg hF
  go_wp2_with fail
  generalize w1.heap.size = R at *
  generalize hGG : w.heap.size = G at *
  go_loopw [5] (fun t5 wr => ∃ (k n : Nat) (f : Nat → Rt) (A A' : Option Addr) (c c' : Nat), (k : Int) ≤ len ∧ (k : Int) ≤ 100 ∧ (n : Int) ≤ 16 ∧ t5 = .int .i64 k ∧ Hid (Two w G R A A' c c' n f n f wr)) (fun t5 _ => 100 - (intOf t5).toNat)
  case atStart => exact ⟨0, 0, _, none, none, 0, 0, by omega, by decide, by decide, rfl, P2⟩
  case round =>
    obtain ⟨k, n, f, A, A', c, c', hk, hk2, hn, rfl, HP⟩ := hrel
    rename_i wr
    clear P2
    by_cases hlt : (k : Int) < len
    · by_cases hlt2 : (k : Int) < 100
      · obtain ⟨b0, o0, rfl, cb, e0, hr, nn⟩ := (hK.out.fr HP.out.fr) k (by omega)
        have e1 := hr 0 _ rfl
        have e2 := hr 1 _ rfl
        have e3 := hr 2 _ rfl
        have e4 := hr 3 _ rfl
        have e5 := hr 4 _ rfl
        have e6 := hr 5 _ rfl
        have e7 := hr 6 _ rfl
        rw [Nat.add_zero] at e1
        have NN := hid nn
        clear hr cb nn
        generalize kd k = kk at *
        generalize rs k = rr at *

        have HA : Hid (∀ o, Two w G R A A' c c' n f n f (wr.alloc o)) := fun o => HP.out.fr' ((Fr.refl _).alloc o)
        have HD : Hid (∀ o, Two w G R A A' c c' n f n f (wr.alloc o).drew) := fun o => HP.out.fr' (((Fr.refl _).alloc o).drew)
        have hqG : Hid (wr.heap.size ≠ G) := fun e => by have := HP.out.g.lt; omega
        have hqR : Hid (wr.heap.size ≠ R) := fun e => by have := HP.out.r.lt; omega
        have hqA : Hid (∀ j, A.map (·.block) = some j → j ≠ wr.heap.size) := fun j hj e => by have := (HP.out.g.own j hj).2; omega
        have hqA2 : Hid (∀ j, A'.map (·.block) = some j → j ≠ wr.heap.size) := fun j hj e => by have := (HP.out.r.own j hj).2; omega
        have HN : Hid ((n : Int) ≤ 16) := hn

        by_cases h2 : kk = 2
        · subst h2
          have rca : ∀ oo, (wr.alloc oo).cell? ⟨R, 0, none⟩ = some (.slice A' n c') := fun oo => (HA.out oo).r.c0
          have rcb : ∀ oo o2, ((wr.alloc oo).alloc o2).cell? ⟨R, 0, none⟩ = some (.slice A' n c') := fun oo o2 => ((HA.out oo).fr' ((Fr.refl _).alloc o2)).r.c0
          rcases Nat.eq_zero_or_pos n with hn0 | hn0
          · subst hn0

            obtain ⟨o, s, m, g, S⟩ := Sec.ex f 0 rr
            have SS := hid S
            have hm16 : (m : Int) ≤ 16 := by have := S.le; have := HN.out; omega
            clear S
            have E : ∀ W, (binOp .neq 25 (.agg #[.int .u32 o.p, .int .u32 o.v, .int .i64 o.d, .bool o.s, .int .u32 o.a, .int .u32 o.t, .int .i64 o.m]) (.agg #[.int .u32 o.p, .int .u32 o.v, .int .i64 o.d, .bool o.s, .int .u32 o.a, .int .u32 o.t, .int .i64 o.m])).run Try.prog W = .ok (.bool false) W := fun W => (neq25 o o W).trans (by rw [Rt.eq_self]; rfl)
            have PA : Hid (Two w G R A A' c c' 0 f 0 f ((wr.alloc (.cells #[.int .i64 2, .int .u32 rr.p, .int .u32 rr.v, .int .i64 rr.d, .bool rr.s, .int .u32 rr.a, .int .u32 rr.t, .int .i64 rr.m] 27)).alloc (.cells #[.int .u32 rr.p, .int .u32 rr.v, .int .i64 rr.d, .bool rr.s, .int .u32 rr.a, .int .u32 rr.t, .int .i64 rr.m] 25))) := (HA.out _).fr' ((Fr.refl _).alloc _)
            have Q7 : Hid (∀ V : World, V.heap[wr.heap.size + 1]? = ((wr.alloc (.cells #[.int .i64 2, .int .u32 rr.p, .int .u32 rr.v, .int .i64 rr.d, .bool rr.s, .int .u32 rr.a, .int .u32 rr.t, .int .i64 rr.m] 27)).alloc (.cells #[.int .u32 rr.p, .int .u32 rr.v, .int .i64 rr.d, .bool rr.s, .int .u32 rr.a, .int .u32 rr.t, .int .i64 rr.m] 25)).heap[wr.heap.size + 1]? → ∀ oo, (V.alloc oo).cell? ⟨wr.heap.size + 1, 0, none⟩ = some (.int .u32 rr.p) ∧ (V.alloc oo).cell? ⟨wr.heap.size + 1, 1, none⟩ = some (.int .u32 rr.v) ∧ (V.alloc oo).cell? ⟨wr.heap.size + 1, 2, none⟩ = some (.int .i64 rr.d) ∧ (V.alloc oo).cell? ⟨wr.heap.size + 1, 3, none⟩ = some (.bool rr.s) ∧ (V.alloc oo).cell? ⟨wr.heap.size + 1, 4, none⟩ = some (.int .u32 rr.a) ∧ (V.alloc oo).cell? ⟨wr.heap.size + 1, 5, none⟩ = some (.int .u32 rr.t) ∧ (V.alloc oo).cell? ⟨wr.heap.size + 1, 6, none⟩ = some (.int .i64 rr.m)) := fun V hV oo => box7 wr V (.cells #[.int .i64 2, .int .u32 rr.p, .int .u32 rr.v, .int .i64 rr.d, .bool rr.s, .int .u32 rr.a, .int .u32 rr.t, .int .i64 rr.m] 27) rr hV oo
            go_wp2_with fail
            refine (second_as w.heap.size G c 0 m A f g rr o s _ SS HN (by exact hid PA.out.g)).mono ?_; rintro e w3 ⟨rfl, A3, c3, hg, hm⟩
            have P3 : Hid (∀ oo, Two w G R A3 A' c3 c' m g 0 f (w3.alloc oo)) := fun oo => (PA.out.stepG hg hm).fr' ((Fr.refl _).alloc oo)
            have hm3 := hid hm
            have hs3 : wr.heap.size + 1 < w3.heap.size := by have := hm.size; simp at this; omega
            have k7 := Q7.out w3 (hm.frame (by simp) (by have := HP.out.g.lt; omega) (fun j hj e => by have := (HP.out.g.own j hj).2; omega))
            have k70 := fun oo => (k7 oo).1
            have k71 := fun oo => (k7 oo).2.1
            have k72 := fun oo => (k7 oo).2.2.1
            have k73 := fun oo => (k7 oo).2.2.2.1
            have k74 := fun oo => (k7 oo).2.2.2.2.1
            have k75 := fun oo => (k7 oo).2.2.2.2.2.1
            have k76 := fun oo => (k7 oo).2.2.2.2.2.2
            clear k7 hg hm
            go_wp2_with fail
            refine (rsecond_as w.heap.size R c' 0 m A' f g rr o s _ SS HN (P3.out (.cells #[.int .u32 o.p, .int .u32 o.v, .int .i64 o.d, .bool o.s, .int .u32 o.a, .int .u32 o.t, .int .i64 o.m] 25)).fr.size (by exact hid (P3.out (.cells #[.int .u32 o.p, .int .u32 o.v, .int .i64 o.d, .bool o.s, .int .u32 o.a, .int .u32 o.t, .int .i64 o.m] 25)).r)).mono ?_; rintro e w4 ⟨rfl, A4, c4, hg, hm⟩
            have P4 := hid ((P3.out (.cells #[.int .u32 o.p, .int .u32 o.v, .int .i64 o.d, .bool o.s, .int .u32 o.a, .int .u32 o.t, .int .i64 o.m] 25)).stepR hg hm)
            have P5 := hid (P4.out.fr' ((Fr.refl w4).alloc (.cells #[.int .u32 o.p, .int .u32 o.v, .int .i64 o.d, .bool o.s, .int .u32 o.a, .int .u32 o.t, .int .i64 o.m] 25)))
            have k8 := fun oo => box7o w3 w4 o ((hm.frame (k := w3.heap.size) (by simp) (by have := (P3.out (.cells #[.int .u32 o.p, .int .u32 o.v, .int .i64 o.d, .bool o.s, .int .u32 o.a, .int .u32 o.t, .int .i64 o.m] 25)).r.lt; have := HP.out.r.lt; omega) (fun j hj e => by have := (HP.out.r.own j hj).2; omega))) oo
            have hs4 : w3.heap.size < w4.heap.size := by have := hm.size; simp at this; omega
            have k80 := fun oo => (k8 oo).1
            have k81 := fun oo => (k8 oo).2.1
            have k82 := fun oo => (k8 oo).2.2.1
            have k83 := fun oo => (k8 oo).2.2.2.1
            have k84 := fun oo => (k8 oo).2.2.2.2.1
            have k85 := fun oo => (k8 oo).2.2.2.2.2.1
            have k86 := fun oo => (k8 oo).2.2.2.2.2.2
            clear k8 hg hm k70 k71 k72 k73 k74 k75 k76

            obtain ⟨y, Y⟩ : ∃ y : Int, Hid (fw g 8 305419896 m = y) := ⟨_, rfl⟩
            go_wp2_with fail
            have rc := P5.out.r.c0
            clear k80 k81 k82 k83 k84 k85 k86 E
            go_region_held3 (fun w' => w'.cell? ⟨R, 0, none⟩ = some (.slice A4 m c4)) (first | assumption | go_keep)
              (first
                | (go_at_call 13; refine (waits_as w.heap.size G c3 m A3 g _ (by exact hid (P5.out.g.fr ((Fr.refl _).drew)))).mono ?_; rintro e w' ⟨rfl, rfl⟩)
                | (go_at_call 14; refine (fwd_as w.heap.size G c3 m A3 g 8 305419896 y _ (by exact hid (P5.out.g.fr ((Fr.refl _).drew))) hm16 (by decide) (by decide) Y).mono ?_; rintro e w8 ⟨rfl, hF⟩; have P8 := hid (P5.out.fr' (((Fr.refl _).drew).trans hF)); have rc8 := P8.out.r.c0; clear hF)
                | (go_at_call 16; refine (rfwd_as w.heap.size R c4 m A4 g 8 305419896 y _ (by exact hid P8.out.r) hm16 (by decide) (by decide) Y).mono ?_; rintro e w9 ⟨rfl, hF⟩; have P9 := hid (P8.out.fr' hF); have rc9 := P9.out.r.c0; clear hF))
            go_wp2_with fail
            exact ⟨⟨k + 1, m, g, A3, A4, c3, c4, by omega, by omega, hm16, by rw [Int.natCast_add]; rfl, P9⟩, by simp [intOf]; omega⟩

          · obtain ⟨g0, hA0, _⟩ := HP.out.r.head hn0
            subst hA0
            have n1 : (0 : Int) < n := by omega
            obtain ⟨x, X⟩ : ∃ x, f 0 = x := ⟨_, rfl⟩
            have H7 := fun oo o2 => cells7 (head_at HP.out.r (((Fr.refl wr).alloc oo).alloc o2) rfl hn0)
            rw [X] at H7
            have hg0 : Hid (g0 < wr.heap.size) := (HP.out.r.own g0 rfl).2
            have b0 := fun oo o2 => (H7 oo o2).1
            have b1 := fun oo o2 => (H7 oo o2).2.1
            have b2 := fun oo o2 => (H7 oo o2).2.2.1
            have b3 := fun oo o2 => (H7 oo o2).2.2.2.1
            have b4 := fun oo o2 => (H7 oo o2).2.2.2.2.1
            have b5 := fun oo o2 => (H7 oo o2).2.2.2.2.2.1
            have b6 := fun oo o2 => (H7 oo o2).2.2.2.2.2.2
            clear H7 X

            obtain ⟨o, s, m, g, S⟩ := Sec.ex f n x
            have SS := hid S
            have hm16 : (m : Int) ≤ 16 := by have := S.le; have := HN.out; omega
            clear S
            have E : ∀ W, (binOp .neq 25 (.agg #[.int .u32 o.p, .int .u32 o.v, .int .i64 o.d, .bool o.s, .int .u32 o.a, .int .u32 o.t, .int .i64 o.m]) (.agg #[.int .u32 o.p, .int .u32 o.v, .int .i64 o.d, .bool o.s, .int .u32 o.a, .int .u32 o.t, .int .i64 o.m])).run Try.prog W = .ok (.bool false) W := fun W => (neq25 o o W).trans (by rw [Rt.eq_self]; rfl)
            have PA : Hid (Two w G R A (some ⟨g0, 0, none⟩) c c' n f n f ((wr.alloc (.cells #[.int .i64 2, .int .u32 rr.p, .int .u32 rr.v, .int .i64 rr.d, .bool rr.s, .int .u32 rr.a, .int .u32 rr.t, .int .i64 rr.m] 27)).alloc (.cells #[.int .u32 x.p, .int .u32 x.v, .int .i64 x.d, .bool x.s, .int .u32 x.a, .int .u32 x.t, .int .i64 x.m] 25))) := (HA.out _).fr' ((Fr.refl _).alloc _)
            have Q7 : Hid (∀ V : World, V.heap[wr.heap.size + 1]? = ((wr.alloc (.cells #[.int .i64 2, .int .u32 rr.p, .int .u32 rr.v, .int .i64 rr.d, .bool rr.s, .int .u32 rr.a, .int .u32 rr.t, .int .i64 rr.m] 27)).alloc (.cells #[.int .u32 x.p, .int .u32 x.v, .int .i64 x.d, .bool x.s, .int .u32 x.a, .int .u32 x.t, .int .i64 x.m] 25)).heap[wr.heap.size + 1]? → ∀ oo, (V.alloc oo).cell? ⟨wr.heap.size + 1, 0, none⟩ = some (.int .u32 x.p) ∧ (V.alloc oo).cell? ⟨wr.heap.size + 1, 1, none⟩ = some (.int .u32 x.v) ∧ (V.alloc oo).cell? ⟨wr.heap.size + 1, 2, none⟩ = some (.int .i64 x.d) ∧ (V.alloc oo).cell? ⟨wr.heap.size + 1, 3, none⟩ = some (.bool x.s) ∧ (V.alloc oo).cell? ⟨wr.heap.size + 1, 4, none⟩ = some (.int .u32 x.a) ∧ (V.alloc oo).cell? ⟨wr.heap.size + 1, 5, none⟩ = some (.int .u32 x.t) ∧ (V.alloc oo).cell? ⟨wr.heap.size + 1, 6, none⟩ = some (.int .i64 x.m)) := fun V hV oo => box7 wr V (.cells #[.int .i64 2, .int .u32 rr.p, .int .u32 rr.v, .int .i64 rr.d, .bool rr.s, .int .u32 rr.a, .int .u32 rr.t, .int .i64 rr.m] 27) x hV oo
            go_wp2_with fail
            refine (second_as w.heap.size G c n m A f g x o s _ SS HN (by exact hid PA.out.g)).mono ?_; rintro e w3 ⟨rfl, A3, c3, hg, hm⟩
            have P3 : Hid (∀ oo, Two w G R A3 (some ⟨g0, 0, none⟩) c3 c' m g n f (w3.alloc oo)) := fun oo => (PA.out.stepG hg hm).fr' ((Fr.refl _).alloc oo)
            have hm3 := hid hm
            have hs3 : wr.heap.size + 1 < w3.heap.size := by have := hm.size; simp at this; omega
            have k7 := Q7.out w3 (hm.frame (by simp) (by have := HP.out.g.lt; omega) (fun j hj e => by have := (HP.out.g.own j hj).2; omega))
            have k70 := fun oo => (k7 oo).1
            have k71 := fun oo => (k7 oo).2.1
            have k72 := fun oo => (k7 oo).2.2.1
            have k73 := fun oo => (k7 oo).2.2.2.1
            have k74 := fun oo => (k7 oo).2.2.2.2.1
            have k75 := fun oo => (k7 oo).2.2.2.2.2.1
            have k76 := fun oo => (k7 oo).2.2.2.2.2.2
            clear k7 hg hm
            go_wp2_with fail
            refine (rsecond_as w.heap.size R c' n m (some ⟨g0, 0, none⟩) f g x o s _ SS HN (P3.out (.cells #[.int .u32 o.p, .int .u32 o.v, .int .i64 o.d, .bool o.s, .int .u32 o.a, .int .u32 o.t, .int .i64 o.m] 25)).fr.size (by exact hid (P3.out (.cells #[.int .u32 o.p, .int .u32 o.v, .int .i64 o.d, .bool o.s, .int .u32 o.a, .int .u32 o.t, .int .i64 o.m] 25)).r)).mono ?_; rintro e w4 ⟨rfl, A4, c4, hg, hm⟩
            have P4 := hid ((P3.out (.cells #[.int .u32 o.p, .int .u32 o.v, .int .i64 o.d, .bool o.s, .int .u32 o.a, .int .u32 o.t, .int .i64 o.m] 25)).stepR hg hm)
            have P5 := hid (P4.out.fr' ((Fr.refl w4).alloc (.cells #[.int .u32 o.p, .int .u32 o.v, .int .i64 o.d, .bool o.s, .int .u32 o.a, .int .u32 o.t, .int .i64 o.m] 25)))
            have k8 := fun oo => box7o w3 w4 o ((hm.frame (k := w3.heap.size) (by simp) (by have := (P3.out (.cells #[.int .u32 o.p, .int .u32 o.v, .int .i64 o.d, .bool o.s, .int .u32 o.a, .int .u32 o.t, .int .i64 o.m] 25)).r.lt; have := HP.out.r.lt; omega) (fun j hj e => by have := (HP.out.r.own j hj).2; omega))) oo
            have hs4 : w3.heap.size < w4.heap.size := by have := hm.size; simp at this; omega
            have k80 := fun oo => (k8 oo).1
            have k81 := fun oo => (k8 oo).2.1
            have k82 := fun oo => (k8 oo).2.2.1
            have k83 := fun oo => (k8 oo).2.2.2.1
            have k84 := fun oo => (k8 oo).2.2.2.2.1
            have k85 := fun oo => (k8 oo).2.2.2.2.2.1
            have k86 := fun oo => (k8 oo).2.2.2.2.2.2
            clear k8 hg hm k70 k71 k72 k73 k74 k75 k76

            obtain ⟨y, Y⟩ : ∃ y : Int, Hid (fw g 8 305419896 m = y) := ⟨_, rfl⟩
            go_wp2_with fail
            have rc := P5.out.r.c0
            clear k80 k81 k82 k83 k84 k85 k86 E
            go_region_held3 (fun w' => w'.cell? ⟨R, 0, none⟩ = some (.slice A4 m c4)) (first | assumption | go_keep)
              (first
                | (go_at_call 13; refine (waits_as w.heap.size G c3 m A3 g _ (by exact hid (P5.out.g.fr ((Fr.refl _).drew)))).mono ?_; rintro e w' ⟨rfl, rfl⟩)
                | (go_at_call 14; refine (fwd_as w.heap.size G c3 m A3 g 8 305419896 y _ (by exact hid (P5.out.g.fr ((Fr.refl _).drew))) hm16 (by decide) (by decide) Y).mono ?_; rintro e w8 ⟨rfl, hF⟩; have P8 := hid (P5.out.fr' (((Fr.refl _).drew).trans hF)); have rc8 := P8.out.r.c0; clear hF)
                | (go_at_call 16; refine (rfwd_as w.heap.size R c4 m A4 g 8 305419896 y _ (by exact hid P8.out.r) hm16 (by decide) (by decide) Y).mono ?_; rintro e w9 ⟨rfl, hF⟩; have P9 := hid (P8.out.fr' hF); have rc9 := P9.out.r.c0; clear hF))
            go_wp2_with fail
            exact ⟨⟨k + 1, m, g, A3, A4, c3, c4, by omega, by omega, hm16, by rw [Int.natCast_add]; rfl, P9⟩, by simp [intOf]; omega⟩

        by_cases h3 : kk = 3
        · subst h3

          obtain ⟨o, s, m, g, S⟩ := Sec.ex f n rr
          have SS := hid S
          have hm16 : (m : Int) ≤ 16 := by have := S.le; have := HN.out; omega
          clear S
          have E : ∀ W, (binOp .neq 25 (.agg #[.int .u32 o.p, .int .u32 o.v, .int .i64 o.d, .bool o.s, .int .u32 o.a, .int .u32 o.t, .int .i64 o.m]) (.agg #[.int .u32 o.p, .int .u32 o.v, .int .i64 o.d, .bool o.s, .int .u32 o.a, .int .u32 o.t, .int .i64 o.m])).run Try.prog W = .ok (.bool false) W := fun W => (neq25 o o W).trans (by rw [Rt.eq_self]; rfl)
          have PA : Hid (Two w G R A A' c c' n f n f ((wr.alloc (.cells #[.int .i64 3, .int .u32 rr.p, .int .u32 rr.v, .int .i64 rr.d, .bool rr.s, .int .u32 rr.a, .int .u32 rr.t, .int .i64 rr.m] 27)).alloc (.cells #[.int .u32 rr.p, .int .u32 rr.v, .int .i64 rr.d, .bool rr.s, .int .u32 rr.a, .int .u32 rr.t, .int .i64 rr.m] 25))) := (HA.out _).fr' ((Fr.refl _).alloc _)
          have Q7 : Hid (∀ V : World, V.heap[wr.heap.size + 1]? = ((wr.alloc (.cells #[.int .i64 3, .int .u32 rr.p, .int .u32 rr.v, .int .i64 rr.d, .bool rr.s, .int .u32 rr.a, .int .u32 rr.t, .int .i64 rr.m] 27)).alloc (.cells #[.int .u32 rr.p, .int .u32 rr.v, .int .i64 rr.d, .bool rr.s, .int .u32 rr.a, .int .u32 rr.t, .int .i64 rr.m] 25)).heap[wr.heap.size + 1]? → ∀ oo, (V.alloc oo).cell? ⟨wr.heap.size + 1, 0, none⟩ = some (.int .u32 rr.p) ∧ (V.alloc oo).cell? ⟨wr.heap.size + 1, 1, none⟩ = some (.int .u32 rr.v) ∧ (V.alloc oo).cell? ⟨wr.heap.size + 1, 2, none⟩ = some (.int .i64 rr.d) ∧ (V.alloc oo).cell? ⟨wr.heap.size + 1, 3, none⟩ = some (.bool rr.s) ∧ (V.alloc oo).cell? ⟨wr.heap.size + 1, 4, none⟩ = some (.int .u32 rr.a) ∧ (V.alloc oo).cell? ⟨wr.heap.size + 1, 5, none⟩ = some (.int .u32 rr.t) ∧ (V.alloc oo).cell? ⟨wr.heap.size + 1, 6, none⟩ = some (.int .i64 rr.m)) := fun V hV oo => box7 wr V (.cells #[.int .i64 3, .int .u32 rr.p, .int .u32 rr.v, .int .i64 rr.d, .bool rr.s, .int .u32 rr.a, .int .u32 rr.t, .int .i64 rr.m] 27) rr hV oo
          go_wp2_with fail
          refine (second_as w.heap.size G c n m A f g rr o s _ SS HN (by exact hid PA.out.g)).mono ?_; rintro e w3 ⟨rfl, A3, c3, hg, hm⟩
          have P3 : Hid (∀ oo, Two w G R A3 A' c3 c' m g n f (w3.alloc oo)) := fun oo => (PA.out.stepG hg hm).fr' ((Fr.refl _).alloc oo)
          have hm3 := hid hm
          have hs3 : wr.heap.size + 1 < w3.heap.size := by have := hm.size; simp at this; omega
          have k7 := Q7.out w3 (hm.frame (by simp) (by have := HP.out.g.lt; omega) (fun j hj e => by have := (HP.out.g.own j hj).2; omega))
          have k70 := fun oo => (k7 oo).1
          have k71 := fun oo => (k7 oo).2.1
          have k72 := fun oo => (k7 oo).2.2.1
          have k73 := fun oo => (k7 oo).2.2.2.1
          have k74 := fun oo => (k7 oo).2.2.2.2.1
          have k75 := fun oo => (k7 oo).2.2.2.2.2.1
          have k76 := fun oo => (k7 oo).2.2.2.2.2.2
          clear k7 hg hm
          go_wp2_with fail
          refine (rsecond_as w.heap.size R c' n m A' f g rr o s _ SS HN (P3.out (.cells #[.int .u32 o.p, .int .u32 o.v, .int .i64 o.d, .bool o.s, .int .u32 o.a, .int .u32 o.t, .int .i64 o.m] 25)).fr.size (by exact hid (P3.out (.cells #[.int .u32 o.p, .int .u32 o.v, .int .i64 o.d, .bool o.s, .int .u32 o.a, .int .u32 o.t, .int .i64 o.m] 25)).r)).mono ?_; rintro e w4 ⟨rfl, A4, c4, hg, hm⟩
          have P4 := hid ((P3.out (.cells #[.int .u32 o.p, .int .u32 o.v, .int .i64 o.d, .bool o.s, .int .u32 o.a, .int .u32 o.t, .int .i64 o.m] 25)).stepR hg hm)
          have P5 := hid (P4.out.fr' ((Fr.refl w4).alloc (.cells #[.int .u32 o.p, .int .u32 o.v, .int .i64 o.d, .bool o.s, .int .u32 o.a, .int .u32 o.t, .int .i64 o.m] 25)))
          have k8 := fun oo => box7o w3 w4 o ((hm.frame (k := w3.heap.size) (by simp) (by have := (P3.out (.cells #[.int .u32 o.p, .int .u32 o.v, .int .i64 o.d, .bool o.s, .int .u32 o.a, .int .u32 o.t, .int .i64 o.m] 25)).r.lt; have := HP.out.r.lt; omega) (fun j hj e => by have := (HP.out.r.own j hj).2; omega))) oo
          have hs4 : w3.heap.size < w4.heap.size := by have := hm.size; simp at this; omega
          have k80 := fun oo => (k8 oo).1
          have k81 := fun oo => (k8 oo).2.1
          have k82 := fun oo => (k8 oo).2.2.1
          have k83 := fun oo => (k8 oo).2.2.2.1
          have k84 := fun oo => (k8 oo).2.2.2.2.1
          have k85 := fun oo => (k8 oo).2.2.2.2.2.1
          have k86 := fun oo => (k8 oo).2.2.2.2.2.2
          clear k8 hg hm k70 k71 k72 k73 k74 k75 k76

          obtain ⟨y, Y⟩ : ∃ y : Int, Hid (fw g 8 305419896 m = y) := ⟨_, rfl⟩
          go_wp2_with fail
          have rc := P5.out.r.c0
          clear k80 k81 k82 k83 k84 k85 k86 E
          go_region_held3 (fun w' => w'.cell? ⟨R, 0, none⟩ = some (.slice A4 m c4)) (first | assumption | go_keep)
            (first
              | (go_at_call 13; refine (waits_as w.heap.size G c3 m A3 g _ (by exact hid (P5.out.g.fr ((Fr.refl _).drew)))).mono ?_; rintro e w' ⟨rfl, rfl⟩)
              | (go_at_call 14; refine (fwd_as w.heap.size G c3 m A3 g 8 305419896 y _ (by exact hid (P5.out.g.fr ((Fr.refl _).drew))) hm16 (by decide) (by decide) Y).mono ?_; rintro e w8 ⟨rfl, hF⟩; have P8 := hid (P5.out.fr' (((Fr.refl _).drew).trans hF)); have rc8 := P8.out.r.c0; clear hF)
              | (go_at_call 16; refine (rfwd_as w.heap.size R c4 m A4 g 8 305419896 y _ (by exact hid P8.out.r) hm16 (by decide) (by decide) Y).mono ?_; rintro e w9 ⟨rfl, hF⟩; have P9 := hid (P8.out.fr' hF); have rc9 := P9.out.r.c0; clear hF))
          go_wp2_with fail
          exact ⟨⟨k + 1, m, g, A3, A4, c3, c4, by omega, by omega, hm16, by rw [Int.natCast_add]; rfl, P9⟩, by simp [intOf]; omega⟩

        by_cases h4 : kk = 4
        · subst h4
          have hn16 := HN.out
          obtain ⟨x, X⟩ : ∃ x : Int, Hid (fw f rr.a rr.t n = x) := ⟨_, rfl⟩
          have Q8 : Hid (∀ V : World, V.heap[wr.heap.size]? = (wr.alloc (.cells #[.int .i64 4, .int .u32 rr.p, .int .u32 rr.v, .int .i64 rr.d, .bool rr.s, .int .u32 rr.a, .int .u32 rr.t, .int .i64 rr.m] 27)).heap[wr.heap.size]? → V.cell? ⟨wr.heap.size, 1, none⟩ = some (.int .u32 rr.p) ∧ V.cell? ⟨wr.heap.size, 2, none⟩ = some (.int .u32 rr.v) ∧ V.cell? ⟨wr.heap.size, 3, none⟩ = some (.int .i64 rr.d) ∧ V.cell? ⟨wr.heap.size, 4, none⟩ = some (.bool rr.s) ∧ V.cell? ⟨wr.heap.size, 5, none⟩ = some (.int .u32 rr.a) ∧ V.cell? ⟨wr.heap.size, 6, none⟩ = some (.int .u32 rr.t) ∧ V.cell? ⟨wr.heap.size, 7, none⟩ = some (.int .i64 rr.m)) := fun V hV => box8 wr V 4 rr hV
          go_wp2_with fail
          go_region_held3 (fun w' => w'.cell? ⟨wr.heap.size, 1, none⟩ = some (.int .u32 rr.p) ∧ w'.cell? ⟨wr.heap.size, 2, none⟩ = some (.int .u32 rr.v) ∧ w'.cell? ⟨wr.heap.size, 3, none⟩ = some (.int .i64 rr.d) ∧ w'.cell? ⟨wr.heap.size, 4, none⟩ = some (.bool rr.s) ∧ w'.cell? ⟨wr.heap.size, 5, none⟩ = some (.int .u32 rr.a) ∧ w'.cell? ⟨wr.heap.size, 6, none⟩ = some (.int .u32 rr.t) ∧ w'.cell? ⟨wr.heap.size, 7, none⟩ = some (.int .i64 rr.m)) (first | assumption | go_keep)
            (first
              | (go_at_call 14; refine (fwd_as w.heap.size G c n A f rr.a rr.t x _ (by exact hid (HD.out (.cells #[.int .i64 4, .int .u32 rr.p, .int .u32 rr.v, .int .i64 rr.d, .bool rr.s, .int .u32 rr.a, .int .u32 rr.t, .int .i64 rr.m] 27)).g) hn16 NN.out.1 NN.out.2 X).mono ?_; rintro e w3 ⟨rfl, hF⟩; have P3 := hid ((HD.out (.cells #[.int .i64 4, .int .u32 rr.p, .int .u32 rr.v, .int .i64 rr.d, .bool rr.s, .int .u32 rr.a, .int .u32 rr.t, .int .i64 rr.m] 27)).fr' hF); have hK3 := Q8.out w3 (hF.block _ (by simp)); have hF3 := hid hF; clear hF)
              | (go_at_call 16; refine (rfwd_as w.heap.size R c' n A' f rr.a rr.t x _ (by exact hid P3.out.r) hn16 NN.out.1 NN.out.2 X).mono ?_; rintro e w4 ⟨rfl, hF⟩; have P4 := hid (P3.out.fr' hF); have hK4 := Q8.out w4 ((hF.block _ (by have := hF3.out.size; simp at this; omega)).trans (hF3.out.block _ (by simp))); clear hF))

          obtain ⟨y, Y⟩ : ∃ y : Int, Hid (fw f 8 305419896 n = y) := ⟨_, rfl⟩
          have rc := P4.out.r.c0
          go_wp2_with fail
          go_region_held3 (fun w' => w'.cell? ⟨R, 0, none⟩ = some (.slice A' n c')) (first | assumption | go_keep)
            (first
              | (go_at_call 13; refine (waits_as w.heap.size G c n A f _ (by exact hid (P4.out.g.fr ((Fr.refl _).drew)))).mono ?_; rintro e w' ⟨rfl, rfl⟩)
              | (go_at_call 14; refine (fwd_as w.heap.size G c n A f 8 305419896 y _ (by exact hid (P4.out.g.fr ((Fr.refl _).drew))) hn16 (by decide) (by decide) Y).mono ?_; rintro e w8 ⟨rfl, hF⟩; have P8 := hid (P4.out.fr' (((Fr.refl _).drew).trans hF)); have rc8 := P8.out.r.c0; clear hF)
              | (go_at_call 16; refine (rfwd_as w.heap.size R c' n A' f 8 305419896 y _ (by exact hid P8.out.r) hn16 (by decide) (by decide) Y).mono ?_; rintro e w9 ⟨rfl, hF⟩; have P9 := hid (P8.out.fr' hF); have rc9 := P9.out.r.c0; clear hF))
          go_wp2_with fail
          exact ⟨⟨k + 1, n, f, A, A', c, c', by omega, by omega, hn16, by rw [Int.natCast_add]; rfl, P9⟩, by simp [intOf]; omega⟩

        by_cases h5 : kk = 5
        · subst h5
          have hn16 := HN.out
          have z16 : ((0 : Nat) : Int) ≤ 16 := by decide
          obtain ⟨mk, hmk⟩ : ∃ mk, bits .and .i64 rr.m 3 = mk := ⟨_, rfl⟩
          by_cases hz : mk = 0
          · subst hz
            go_wp2_with fail
            refine (clear_as w.heap.size G c n A f _ (by exact hid (HA.out (.cells #[.int .i64 5, .int .u32 rr.p, .int .u32 rr.v, .int .i64 rr.d, .bool rr.s, .int .u32 rr.a, .int .u32 rr.t, .int .i64 rr.m] 27)).g)).mono ?_; rintro e w3 ⟨rfl, hw3⟩
            have cl := (HA.out (.cells #[.int .i64 5, .int .u32 rr.p, .int .u32 rr.v, .int .i64 rr.d, .bool rr.s, .int .u32 rr.a, .int .u32 rr.t, .int .i64 rr.m] 27)).g.cleared f
            have P3 : Hid (Two w G R none A' 0 c' 0 f n f w3) := by rw [hw3]; exact (HA.out (.cells #[.int .i64 5, .int .u32 rr.p, .int .u32 rr.v, .int .i64 rr.d, .bool rr.s, .int .u32 rr.a, .int .u32 rr.t, .int .i64 rr.m] 27)).stepG cl.1 cl.2
            clear cl hw3
            have rc3 := P3.out.r.c0
            have rz3 := P3.out.r.z
            go_wp2_with fail
            have cl := P3.out.r.cleared f
            have P4 := hid (P3.out.stepR cl.1 cl.2)
            clear cl rc3 rz3

            obtain ⟨y, Y⟩ : ∃ y : Int, Hid (fw f 8 305419896 0 = y) := ⟨_, rfl⟩
            have rc := P4.out.r.c0
            go_wp2_with fail
            go_region_held3 (fun w' => w'.cell? ⟨R, 0, none⟩ = some (.slice none 0 0)) (first | assumption | go_keep)
              (first
                | (go_at_call 13; refine (waits_as w.heap.size G 0 0 none f _ (by exact hid (P4.out.g.fr ((Fr.refl _).drew)))).mono ?_; rintro e w' ⟨rfl, rfl⟩)
                | (go_at_call 14; refine (fwd_as w.heap.size G 0 0 none f 8 305419896 y _ (by exact hid (P4.out.g.fr ((Fr.refl _).drew))) z16 (by decide) (by decide) Y).mono ?_; rintro e w8 ⟨rfl, hF⟩; have P8 := hid (P4.out.fr' (((Fr.refl _).drew).trans hF)); have rc8 := P8.out.r.c0; clear hF)
                | (go_at_call 16; refine (rfwd_as w.heap.size R 0 0 none f 8 305419896 y _ (by exact hid P8.out.r) z16 (by decide) (by decide) Y).mono ?_; rintro e w9 ⟨rfl, hF⟩; have P9 := hid (P8.out.fr' hF); have rc9 := P9.out.r.c0; clear hF))
            go_wp2_with fail
            exact ⟨⟨k + 1, 0, f, none, none, 0, 0, by omega, by omega, z16, by rw [Int.natCast_add]; rfl, P9⟩, by simp [intOf]; omega⟩

          · have hz' : (mk == 0) = false := by rw [beq_eq_false_iff_ne]; exact hz
            go_wp2_with fail
            have P4 := hid (HA.out (.cells #[.int .i64 5, .int .u32 rr.p, .int .u32 rr.v, .int .i64 rr.d, .bool rr.s, .int .u32 rr.a, .int .u32 rr.t, .int .i64 rr.m] 27))

            obtain ⟨y, Y⟩ : ∃ y : Int, Hid (fw f 8 305419896 n = y) := ⟨_, rfl⟩
            have rc := P4.out.r.c0
            go_wp2_with fail
            go_region_held3 (fun w' => w'.cell? ⟨R, 0, none⟩ = some (.slice A' n c')) (first | assumption | go_keep)
              (first
                | (go_at_call 13; refine (waits_as w.heap.size G c n A f _ (by exact hid (P4.out.g.fr ((Fr.refl _).drew)))).mono ?_; rintro e w' ⟨rfl, rfl⟩)
                | (go_at_call 14; refine (fwd_as w.heap.size G c n A f 8 305419896 y _ (by exact hid (P4.out.g.fr ((Fr.refl _).drew))) hn16 (by decide) (by decide) Y).mono ?_; rintro e w8 ⟨rfl, hF⟩; have P8 := hid (P4.out.fr' (((Fr.refl _).drew).trans hF)); have rc8 := P8.out.r.c0; clear hF)
                | (go_at_call 16; refine (rfwd_as w.heap.size R c' n A' f 8 305419896 y _ (by exact hid P8.out.r) hn16 (by decide) (by decide) Y).mono ?_; rintro e w9 ⟨rfl, hF⟩; have P9 := hid (P8.out.fr' hF); have rc9 := P9.out.r.c0; clear hF))
            go_wp2_with fail
            exact ⟨⟨k + 1, n, f, A, A', c, c', by omega, by omega, hn16, by rw [Int.natCast_add]; rfl, P9⟩, by simp [intOf]; omega⟩

        have g2 : (kk == 2) = false := by rw [beq_eq_false_iff_ne]; exact h2
        have g3 : (kk == 3) = false := by rw [beq_eq_false_iff_ne]; exact h3
        have g4 : (kk == 4) = false := by rw [beq_eq_false_iff_ne]; exact h4
        have g5 : (kk == 5) = false := by rw [beq_eq_false_iff_ne]; exact h5
        clear h2 h3 h4 h5
        obtain ⟨b, m, g, S⟩ := Fst.ex f n rr
        have SS := hid S
        have HM : Hid ((m : Int) ≤ 16) := by have := S.le (by omega); unfold Hid; omega
        have hm16 := HM.out
        clear S
        go_wp2_with fail
        have Q8 : Hid (∀ V : World, V.heap[wr.heap.size]? = (wr.alloc (.cells #[.int .i64 kk, .int .u32 rr.p, .int .u32 rr.v, .int .i64 rr.d, .bool rr.s, .int .u32 rr.a, .int .u32 rr.t, .int .i64 rr.m] 27)).heap[wr.heap.size]? → V.cell? ⟨wr.heap.size, 1, none⟩ = some (.int .u32 rr.p) ∧ V.cell? ⟨wr.heap.size, 2, none⟩ = some (.int .u32 rr.v) ∧ V.cell? ⟨wr.heap.size, 3, none⟩ = some (.int .i64 rr.d) ∧ V.cell? ⟨wr.heap.size, 4, none⟩ = some (.bool rr.s) ∧ V.cell? ⟨wr.heap.size, 5, none⟩ = some (.int .u32 rr.a) ∧ V.cell? ⟨wr.heap.size, 6, none⟩ = some (.int .u32 rr.t) ∧ V.cell? ⟨wr.heap.size, 7, none⟩ = some (.int .i64 rr.m)) := fun V hV => box8 wr V kk rr hV
        go_region_held3 (fun w' => w'.cell? ⟨wr.heap.size, 1, none⟩ = some (.int .u32 rr.p) ∧ w'.cell? ⟨wr.heap.size, 2, none⟩ = some (.int .u32 rr.v) ∧ w'.cell? ⟨wr.heap.size, 3, none⟩ = some (.int .i64 rr.d) ∧ w'.cell? ⟨wr.heap.size, 4, none⟩ = some (.bool rr.s) ∧ w'.cell? ⟨wr.heap.size, 5, none⟩ = some (.int .u32 rr.a) ∧ w'.cell? ⟨wr.heap.size, 6, none⟩ = some (.int .u32 rr.t) ∧ w'.cell? ⟨wr.heap.size, 7, none⟩ = some (.int .i64 rr.m)) (first | assumption | go_keep)
          (first
            | (go_at_call 11; refine (first_is w.heap.size G c n m A f g rr b _ SS NN (HD.out (.cells #[.int .i64 kk, .int .u32 rr.p, .int .u32 rr.v, .int .i64 rr.d, .bool rr.s, .int .u32 rr.a, .int .u32 rr.t, .int .i64 rr.m] 27)).fr.size (by exact hid (HD.out (.cells #[.int .i64 kk, .int .u32 rr.p, .int .u32 rr.v, .int .i64 rr.d, .bool rr.s, .int .u32 rr.a, .int .u32 rr.t, .int .i64 rr.m] 27)).g)).mono ?_; rintro e w3 ⟨rfl, A3, c3, hg, hm⟩; have P3 := hid ((HD.out (.cells #[.int .i64 kk, .int .u32 rr.p, .int .u32 rr.v, .int .i64 rr.d, .bool rr.s, .int .u32 rr.a, .int .u32 rr.t, .int .i64 rr.m] 27)).stepG hg hm); have hK3 := Q8.out w3 (hm.frame (by simp) hqG.out hqA.out); have hB3 := hid hm; clear hg hm)
            | (go_at_call 18; refine (rfirst_is w.heap.size R c' n m A' f g rr b _ SS NN P3.out.fr.size (by exact hid P3.out.r)).mono ?_; rintro e w4 ⟨rfl, A4, c4, hg, hm⟩; have P4 := hid (P3.out.stepR hg hm); have hK4 := Q8.out w4 ((hm.frame (by have := hB3.out.size; simp at this; omega) hqR.out hqA2.out).trans (hB3.out.frame (by simp) hqG.out hqA.out)); clear hg hm))

        obtain ⟨y, Y⟩ : ∃ y : Int, Hid (fw g 8 305419896 m = y) := ⟨_, rfl⟩
        have rc := P4.out.r.c0
        go_wp2_with fail
        go_region_held3 (fun w' => w'.cell? ⟨R, 0, none⟩ = some (.slice A4 m c4)) (first | assumption | go_keep)
          (first
            | (go_at_call 13; refine (waits_as w.heap.size G c3 m A3 g _ (by exact hid (P4.out.g.fr ((Fr.refl _).drew)))).mono ?_; rintro e w' ⟨rfl, rfl⟩)
            | (go_at_call 14; refine (fwd_as w.heap.size G c3 m A3 g 8 305419896 y _ (by exact hid (P4.out.g.fr ((Fr.refl _).drew))) hm16 (by decide) (by decide) Y).mono ?_; rintro e w8 ⟨rfl, hF⟩; have P8 := hid (P4.out.fr' (((Fr.refl _).drew).trans hF)); have rc8 := P8.out.r.c0; clear hF)
            | (go_at_call 16; refine (rfwd_as w.heap.size R c4 m A4 g 8 305419896 y _ (by exact hid P8.out.r) hm16 (by decide) (by decide) Y).mono ?_; rintro e w9 ⟨rfl, hF⟩; have P9 := hid (P8.out.fr' hF); have rc9 := P9.out.r.c0; clear hF))
        go_wp2_with fail
        exact ⟨⟨k + 1, m, g, A3, A4, c3, c4, by omega, by omega, hm16, by rw [Int.natCast_add]; rfl, P9⟩, by simp [intOf]; omega⟩

      · go_wp2_with fail
        go_ret
        exact ⟨rfl, HP.out.fr⟩
    · go_wp2_with fail
      go_ret
      exact ⟨rfl, HP.out.fr⟩
end Go.Proofs.Ytedcamljgnblmaa.M

