/- The walk of SaveMends. -/
import Derived.Test.YtfhijdnbhbonpaaDoorMA
import Derived.Test.YtfhijdnbhbonpaaDoorMB
import Derived.Test.YtfhijdnbhbonpaaDoorMC
import Derived.Test.YtfhijdnbhbonpaaDoorMD
import Derived.Test.YtfhijdnbhbonpaaDoorME
import Derived.Test.YtfhijdnbhbonpaaDoorMF
namespace Go.Proofs.YtfhijdnbhbonpaaDoor.Walks
open Go.ChangeShapes Go.WideShapes Go.ChangeAt Go.RowKit
set_option linter.unusedVariables false
theorem mends (ca cb : Ak) (ia : ca.In) (ib : cb.In) (x y : Int) (w : World) (hL : Hid (Laid w)) :
    Calls Tryd.prog 5 #[.agg ca.l.toArray, .agg cb.l.toArray, .int .i64 x, .int .i64 y] w fun e w' => e = .returned (.bool true) ∧ FrB w.heap.size w w' := by
  have IA := hideP ia
  have IB := hideP ib
  clear ia ib
  obtain ⟨kda, na, pca, rsa, csa⟩ := ca
  obtain ⟨kdb, nb, pcb, rsb, csb⟩ := cb
  obtain ⟨n0, hn0, hn1⟩ := and_16 na
  obtain ⟨m0, hm0, hm1⟩ := and_16 nb
  rcases mends_two (pnt pca (upd rsa 0 0) csa n0) (pnt pcb (upd rsb 0 0) csb m0) rfl rfl (wv x) (wv y) (wv_in x).1 (wv_in x).2 (wv_in y).1 (wv_in y).2 with h | h | h
  · have O : Hid (∀ ws, Tn2 (pnt pca (upd rsa 0 0) csa n0) (pnt pcb (upd rsb 0 0) csb m0) (wv x) (wv y) ws → TellL ws pcb (upd rsb 0 0) csb m0 true) := fun ws g => by have := told_is (h ws g); rwa [upd_twice] at this
    obtain ⟨g1, G1⟩ : ∃ g, (((pcb : Nat) : Int) == ((pca : Nat) : Int)) = g := ⟨_, rfl⟩
    obtain ⟨g3, G3⟩ := eqlA (upd rsb 0 0) (upd rsa 0 0)
    obtain ⟨g5, G5⟩ := eqlC csb csa
    obtain ⟨g4, G4⟩ : ∃ g, (((m0 : Nat) : Int) == ((n0 : Nat) : Int)) = g := ⟨_, rfl⟩
    cases g1
    · exact mb1 kda na pca rsa csa kdb nb pcb rsb csb IA IB x y n0 m0 hn0 hn1 hm0 hm1 (wv x) (wv y) (hideP rfl) (hideP rfl) (wv_in x).1 (wv_in x).2 (wv_in y).1 (wv_in y).2 O G1 w hL
    · cases g3
      · exact mb2 kda na pca rsa csa kdb nb pcb rsb csb IA IB x y n0 m0 hn0 hn1 hm0 hm1 (wv x) (wv y) (hideP rfl) (hideP rfl) (wv_in x).1 (wv_in x).2 (wv_in y).1 (wv_in y).2 O G1 G3 w hL
      · cases g5
        · exact mb3 kda na pca rsa csa kdb nb pcb rsb csb IA IB x y n0 m0 hn0 hn1 hm0 hm1 (wv x) (wv y) (hideP rfl) (hideP rfl) (wv_in x).1 (wv_in x).2 (wv_in y).1 (wv_in y).2 O G1 G3 G5 w hL
        · cases g4
          · exact mb4 kda na pca rsa csa kdb nb pcb rsb csb IA IB x y n0 m0 hn0 hn1 hm0 hm1 (wv x) (wv y) (hideP rfl) (hideP rfl) (wv_in x).1 (wv_in x).2 (wv_in y).1 (wv_in y).2 O G1 G3 G5 G4 w hL
          · exact mb5 kda na pca rsa csa kdb nb pcb rsb csb IA IB x y n0 m0 hn0 hn1 hm0 hm1 (wv x) (wv y) (hideP rfl) (hideP rfl) (wv_in x).1 (wv_in x).2 (wv_in y).1 (wv_in y).2 O G1 G3 G5 G4 w hL
  · have O : Hid (∀ ws, Tn2 (pnt pca (upd rsa 0 0) csa n0) (pnt pcb (upd rsb 0 0) csb m0) (wv x) (wv y) ws → TellL ws pca (upd rsa 0 0) csa n0 true) := fun ws g => by have := told_is (h ws g); rwa [upd_twice] at this
    obtain ⟨g1, G1⟩ : ∃ g, (((pca : Nat) : Int) == ((pcb : Nat) : Int)) = g := ⟨_, rfl⟩
    obtain ⟨g3, G3⟩ := eqlA (upd rsa 0 0) (upd rsb 0 0)
    obtain ⟨g5, G5⟩ := eqlC csa csb
    obtain ⟨g4, G4⟩ : ∃ g, (((n0 : Nat) : Int) == ((m0 : Nat) : Int)) = g := ⟨_, rfl⟩
    cases g1
    · exact ma1 kda na pca rsa csa kdb nb pcb rsb csb IA IB x y n0 m0 hn0 hn1 hm0 hm1 (wv x) (wv y) (hideP rfl) (hideP rfl) (wv_in x).1 (wv_in x).2 (wv_in y).1 (wv_in y).2 O G1 w hL
    · cases g3
      · exact ma2 kda na pca rsa csa kdb nb pcb rsb csb IA IB x y n0 m0 hn0 hn1 hm0 hm1 (wv x) (wv y) (hideP rfl) (hideP rfl) (wv_in x).1 (wv_in x).2 (wv_in y).1 (wv_in y).2 O G1 G3 w hL
      · cases g5
        · exact ma3 kda na pca rsa csa kdb nb pcb rsb csb IA IB x y n0 m0 hn0 hn1 hm0 hm1 (wv x) (wv y) (hideP rfl) (hideP rfl) (wv_in x).1 (wv_in x).2 (wv_in y).1 (wv_in y).2 O G1 G3 G5 w hL
        · cases g4
          · exact ma4 kda na pca rsa csa kdb nb pcb rsb csb IA IB x y n0 m0 hn0 hn1 hm0 hm1 (wv x) (wv y) (hideP rfl) (hideP rfl) (wv_in x).1 (wv_in x).2 (wv_in y).1 (wv_in y).2 O G1 G3 G5 G4 w hL
          · exact ma5 kda na pca rsa csa kdb nb pcb rsb csb IA IB x y n0 m0 hn0 hn1 hm0 hm1 (wv x) (wv y) (hideP rfl) (hideP rfl) (wv_in x).1 (wv_in x).2 (wv_in y).1 (wv_in y).2 O G1 G3 G5 G4 w hL
  · have O := hideP h
    exact mn kda na pca rsa csa kdb nb pcb rsb csb IA IB x y n0 m0 hn0 hn1 hm0 hm1 (wv x) (wv y) (hideP rfl) (hideP rfl) (wv_in x).1 (wv_in x).2 (wv_in y).1 (wv_in y).2 O w hL
end Go.Proofs.YtfhijdnbhbonpaaDoor.Walks
