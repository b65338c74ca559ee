/- Contracts of New and Scrub. -/
import Derived.Test.YtfhijdnbhbonpaaDoorSav
import Derived.Test.YtfhijdnbhbonpaaDoorMendsNum
namespace Go.Proofs.YtfhijdnbhbonpaaDoor.Walks
open Go.ChangeShapes Go.WideShapes Go.ChangeAt Go.RowKit
set_option linter.unusedVariables false
/-- a new store lies there, from B on -/
def SNew (B M b d : Nat) (ws : Nat → Nat) (f nx : Nat) (w w' : World) : Prop := SAt M b d ws f nx w' ∧ FrB B w w' ∧ B ≤ M ∧ B ≤ b ∧ B ≤ d
theorem SNew.now {B M b d f nx f' nx' : Nat} {ws ws' : Nat → Nat} {w v w' : World} (h : SNew B M b d ws f nx w v) (k : SNow M b d ws' f' nx' v w') : SNew B M b d ws' f' nx' w w' :=
  ⟨k.1, h.2.1.trans (k.2.frb h.2.2.1 h.2.2.2.1 h.2.2.2.2 (by have := h.1.hM; have := h.2.2.1; omega)), h.2.2⟩
theorem Fresh.boxed {b d f B : Nat} {ws : Nat → Nat} {w v : World} (h : Fresh B b d 79 ws f w v) (T : TypeId) (hL : Laid w) (hB0 : 0 < B) (hB : B ≤ v.heap.size) :
    SNew B v.heap.size b d ws f 0 w (v.alloc (.cells #[.pointer (some ⟨b, 0, none⟩), .int .i64 0] T)) := by
  obtain ⟨h1, h2, h3, h4, h5, h6⟩ := h
  have s : (v.alloc (.cells #[.pointer (some ⟨b, 0, none⟩), .int .i64 0] T)).heap.size = v.heap.size + 1 := by simp
  have fr := h2.trans ((FrB.alloc v (.cells #[.pointer (some ⟨b, 0, none⟩), .int .i64 0] T)).mono hB)
  refine ⟨⟨⟨?_, ?_, ?_, h1.frb (FrB.alloc v _) h5 h6, by omega, by omega, by decide⟩, by omega, by omega, by omega, by omega, by omega, by omega, fr.laid hL hB0⟩, fr, hB, h3, h4⟩
  · rw [World.cell?_alloc_at _ _ _ _ rfl]; rfl
  · rw [World.cell?_alloc_at _ _ _ _ rfl]; rfl
  · rw [World.frozen?_alloc_at _ _ _ _ rfl]
/-- the words of a new store -/
def nwK : Nat → Nat → Nat
  | 0 => w0
  | k + 1 => ptK (nwK k) (39 * k) (pnt 0 w0 w0 0) 39
theorem point_ax (pc : Nat) (x y n : Int) (rs cs : Nat → Nat) (X5 X32 : Array Value) (h32 : X32 = (wn rs 32).toArray) (h5 : X5 = (wn cs 5).toArray) (hx : x = (pc : Int)) (w : World) :
    Calls Tryd.prog 24 #[.int .u32 x, .agg X32, .agg X5, .int .i64 n] w fun e w' => e = .returned (.agg (wn (pnt pc rs cs (num n)) 39).toArray) ∧ FrB w.heap.size w w' := by
  subst h32 h5 hx; exact point_as pc rs cs n w
theorem w0_wd (n : Nat) : Wd n w0 := fun _ _ => by unfold w0; decide
/-- what New tells -/
def SMade (w : World) (e : Ending) (w' : World) : Prop := ∃ M b d, e = .returned (.pointer (some ⟨M, 0, none⟩)) ∧ SNew w.heap.size M b d (nwK 2) 0 0 w w'
set_option maxRecDepth 100000 in
set_option maxHeartbeats 1000000 in
theorem snew_as (w : World) (hL : Hid (Laid w)) : Calls Tryd.prog 11 #[] w fun e w' => SMade w e w' := by
  have HP : Hid (∀ i, i < 39 → pnt 0 w0 w0 (num 0) i < 4294967296) := fun i _ => pnt_lt2 (by decide) (w0_wd _) (w0_wd _) (by decide) i
  go_enter Tryd.func11, Tryd.ntmps11
  go_wp2_with fail
  refine (new_n _ 79 (hideP rfl) (by decide) _ hL).mono ?_; rintro e w1 ⟨b, d, rfl, hF⟩
  have S1 := hideP (hF.boxed 51 hL.out hL.out.pos hF.2.1.size)
  clear hF
  go_wp2_with fail
  generalize (w1.alloc (.cells #[.pointer (some ⟨b, 0, none⟩), .int .i64 0] 51)) = w2 at *
  go_loopw [6] (fun t wr => ∃ k : Nat, (k : Int) ≤ 2 ∧ t = .int .i64 k ∧ Hid (SNew w.heap.size w1.heap.size b d (nwK k) 0 0 w wr)) (fun t _ => 2 - (intOf t).toNat)
  case atStart => exact ⟨0, by decide, rfl, S1⟩
  case round =>
    obtain ⟨k, hk, rfl, HA⟩ := hrel
    rename_i wr
    clear S1
    by_cases hlt : (k : Int) < 2
    · go_wp2_with fail
      refine (point_ax 0 0 0 0 w0 w0 _ _ (by rfl) (by rfl) (by rfl) _).mono ?_; rintro e w3 ⟨rfl, hN⟩
      have S3 := hideP (HA.out.now (HA.out.1.past hN))
      clear hN
      go_wp2_with fail
      refine (put_ax _ b d 0 0 k (nwK k) _ _ (hideP rfl) (by omega) HP _ (hideP S3.out.1)).mono ?_; rintro e w4 ⟨rfl, hN⟩
      have S4 := hideP (S3.out.now hN)
      clear hN
      go_wp2_with fail
      exact ⟨⟨k + 1, by omega, by rw [Int.natCast_add]; rfl, S4⟩, by simp [intOf]; omega⟩
    · have e : k = 2 := by omega
      subst e
      go_wp2_with fail
      go_ret
      exact ⟨_, _, _, rfl, HA.out⟩
/-- where the next Scrub is -/
def nxS (nx : Nat) : Nat := (nx + 1) % 79
theorem MemAt.go79 {M b d f nx : Nat} {ws : Nat → Nat} {w : World} (h : SAt M b d ws f nx w) (k : Nat) (hk : k < 1024) : SNow M b d ws f k w (w.setCell ⟨M, 1, none⟩ (.int .i64 (k : Int))) := h.mnow (h.mem.go k hk)
theorem scrub_as (b d n f : Nat) (ws : Nat → Nat) (i s : Int) (S : Hid (((pkS n ws i : Nat) : Int) = s)) (hn : (n : Int) ≤ 2048) (hf : (f : Int) < 4611686018427387904) (w : World) (hL : Hid (Laid w)) (hR : Hid (RowAt b d n ws f w)) :
    Calls Tryd.prog 31 #[.pointer (some ⟨b, 0, none⟩), .int .i64 i] w fun e w' => e = .returned (.int .i64 s) ∧ Now b d n (gtW n ws i) (gtF n ws f i) w w' := by
  obtain ⟨x, X⟩ : ∃ x : Int, Hid (((pkV n ws i : Nat) : Int) = x) := ⟨_, rfl⟩
  go_enter Tryd.func31, Tryd.ntmps31
  go_wp2_with fail
  refine (get_as b d n f ws _ _ _ X S hn hf _ hL hR).mono ?_; rintro e w1 ⟨rfl, ha⟩
  have HA := hideP ha
  clear ha
  go_wp2_with fail
  go_ret
  exact ⟨rfl, HA.out⟩
set_option maxHeartbeats 1000000 in
theorem sscrub_as (M b d f nx : Nat) (ws : Nat → Nat) (s : Int) (hx : (nx : Int) < 79) (S : Hid (((pkS 79 ws (nx : Int) : Nat) : Int) = s)) (hf : (f : Int) < 4611686018427387904) (w : World) (hS : Hid (SAt M b d ws f nx w)) :
    Calls Tryd.prog 15 #[.pointer (some ⟨M, 0, none⟩)] w fun e w' => e = .returned (.int .i64 s) ∧ SNow M b d (gtW 79 ws nx) (gtF 79 ws f nx) (nxS nx) w w' := by
  have hr := hS.out.mem.hr
  have hx0 := hS.out.mem.hx
  have L := hideP hS.out.laid
  have R := hideP hS.out.mem.row
  go_enter Tryd.func15, Tryd.ntmps15
  go_wp2_with fail
  go_region_with (go_at_call 31; refine (scrub_as b d 79 f ws _ _ S (by decide) hf _ (by exact Laid.alike L.out ⟨rfl, rfl, rfl⟩) (by exact R.out.heap rfl)).mono ?_; rintro e w1 ⟨rfl, hw⟩)
  all_goals
    have H1 := hideP (hS.out.now hw.drew)
    clear hw
    have hr1 := H1.out.1.mem.hr
    have hx1 := H1.out.1.mem.hx
    have zx1 := H1.out.1.mem.zx
    go_wp2_with fail
    go_ret
    have q := MemAt.go79 H1.out.1 (nxS nx) (by unfold nxS; omega)
    have e : ((nxS nx : Nat) : Int) = ((nx : Int) + 1) % 79 := by unfold nxS; omega
    rw [e] at q
    exact ⟨rfl, H1.out.trans q⟩
end Go.Proofs.YtfhijdnbhbonpaaDoor.Walks
