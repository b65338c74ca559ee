/- FileMends of slices as they are opened. -/
import Derived.Test.YtgcpjlnncedcfaaDoorMendsW
import Derived.Test.YtgcpjlnncedcfaaDoorOpen2
namespace Go.Proofs.YtgcpjlnncedcfaaDoor.Walks
open Go.ChangeShapes Go.WideShapes Go.ChangeAt Go.RowKit
theorem nats_of {w : World} {A : Option Addr} {len : Nat} {zs : Nat → Int} (h : IntsIn .u32 w A len zs) : NatsIn w A len (fun j => (zs j).toNat) := by
  intro j hj
  obtain ⟨b, o, e, hb, c, r⟩ := h j hj
  obtain ⟨l, u⟩ := bounds_u32 r
  have t : (((zs j).toNat : Nat) : Int) = zs j := by omega
  exact ⟨b, o, e, hb, by rw [t]; exact c, by show (zs j).toNat < _; omega⟩
theorem words_of {w : World} {A : Option Addr} {len : Nat} {zs : Nat → Int} (h : IntsIn .i64 w A len zs) : WordsIn w A len zs := by
  intro j hj
  obtain ⟨b, o, e, hb, c, r⟩ := h j hj
  exact ⟨b, o, e, hb, c⟩
theorem mends_law (A : Option Addr) (n capA : Nat) (za : Nat → Int) (B : Option Addr) (m capB : Nat) (zb : Nat → Int) (ra : n ≤ capA ∧ capA ≤ maxLen) (rb : m ≤ capB ∧ capB ≤ maxLen) (w : World) (hL : Hid (Laid w)) (hA : IntsIn .u32 w A n za) (hB : IntsIn .i64 w B m zb) :
    Calls Tryd.prog 5 #[.slice A n capA, .slice B m capB] w fun e w' => e = .returned (.bool true) ∧ FrB w.heap.size w w' := by
  unfold maxLen at ra rb
  exact mends A n capA B m capB (fun j => (za j).toNat) zb (by omega) (by omega) w hL (hideP (nats_of hA)) (hideP (words_of hB))
end Go.Proofs.YtgcpjlnncedcfaaDoor.Walks
