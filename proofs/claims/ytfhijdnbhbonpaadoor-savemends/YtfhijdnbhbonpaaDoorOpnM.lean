/- What a card asks of the table, and its arguments, opened. -/
import Derived.Test.YtfhijdnbhbonpaaDoorRows
import Derived.Test.YtfhijdnbhbonpaaDoorSyn
import Derived.ProofKit
import Derived.LaidMore
import Derived.OpenShut
import Derived.Stop.Joined
import Derived.Lib.LaidTab
import Derived.Test.YtfhijdnbhbonpaaDoorShut
import Derived.Test.YtfhijdnbhbonpaaDoorBox
import Derived.SizedLaws
import Derived.Deep.SlicePairs
namespace Go.Proofs.YtfhijdnbhbonpaaDoor.Met
open Go.ChangeShapes Go.WideShapes Go.ChangeAt Go.WideMaps Go.WideElems Go.RowKit
def steps : Nat := 400
def lst : List (String × DataW Unit) := [("dioscuri/hsiao.rows", Rows.laid_dioscuri_hsiao_rows)]
theorem gRows : Tryd.prog.globalNamed "dioscuri/hsiao.rows" = some 0 := by kernel_rfl
theorem tRows : (Tryd.prog.globals[0]?).map (·.type) = some 84 := by kernel_rfl
theorem cells22 : Tryd.prog.cellsOf 74 = 1 := by kernel_rfl
theorem cells40 : Tryd.prog.cellsOf 84 = 7 := by kernel_rfl
theorem door_met (os : Os) (args : Array Value) : laidMetH Tryd.prog lst ((World.doorLaid Tryd.prog steps os).forCall (fun _ _ => 0) ⟨#[], args, []⟩).memory :=
  laidMetH_of_parts3 (fuel := 8) (laidMet_of_run' 8 (by kernel_rfl) (by kernel_rfl)) (by kernel_rfl) (by kernel_rfl)
theorem of_laid {W : World} (h : laidMetH Tryd.prog lst W) : Walks.Laid W := by
  rw [MakeChecks.laidMetH_plain _ _ _ (by kernel_rfl)] at h
  have h' : laidMet Tryd.prog (("dioscuri/hsiao.rows", Lib.tabData .u64 [5447429303, 10893808987, 17488452205, 34955912078, 69727093744, 140661226496, 279171825664]) :: []) W := h
  have hT := Lib.tabIs_of_head gRows tRows Tryd.underlying84 Tryd.underlying74 cells22 cells40 h'
  unfold Lib.TabIs World.var? at hT
  rw [gRows] at hT
  simp only [Option.bind_some] at hT
  split at hT
  · rename_i cs t fr hg
    refine ⟨t, fr, ?_⟩
    rw [hg]
    have := Option.some.inj hT
    rw [this]
    rfl
  · cases hT
end Go.Proofs.YtfhijdnbhbonpaaDoor.Met

namespace Go.Proofs.YtfhijdnbhbonpaaDoor.Walks
open Go.ChangeShapes Go.WideShapes Go.ChangeAt Go.RowKit
set_option linter.unusedVariables false
theorem laidOut : laidOutB Tryd.prog = true := by kernel_rfl
theorem cells30 : Tryd.prog.cellsOf 30 = 40 := by kernel_rfl
theorem cells27 : Tryd.prog.cellsOf 27 = 32 := by kernel_rfl
theorem cells28 : Tryd.prog.cellsOf 28 = 5 := by kernel_rfl
theorem cells26 : Tryd.prog.cellsOf 26 = 1 := by kernel_rfl
theorem cells3 : Tryd.prog.cellsOf 3 = 1 := by kernel_rfl
theorem bytes30 : Tryd.prog.bytesOf 30 = 168 := by kernel_rfl
theorem arr_open {H : Type} {enc : TypeId × Value → H} {W : World} {sp : Nat → Bool} {hd : Bool} {fuel t n : Nat} (hu : Tryd.prog.underlying t = some (.array n 26)) {cs : List Value} {x : DataW H × List MemPlace} (h : DataW.trod enc Tryd.prog W 0 sp hd fuel t cs = some x) (hl : cs.length = n) : ∃ f : Nat → Nat, cs = wn f n ∧ Wd n f := by
  obtain ⟨xs, m, _, _, _, hxl, hel⟩ := DataW.trod_array hu h
  have each : ∀ i, i < n → ∃ k : Nat, cs[i]? = some (.int .u32 (k : Int)) ∧ k < 4294967296 := by
    intro i hi
    have e := hel i hi
    rw [cells26, Nat.mul_one, List.getElem?_eq_getElem (by rw [hxl]; exact hi)] at e
    obtain ⟨k, hk, _, hwf⟩ := DataW.trod_int Tryd.underlying26 e
    obtain ⟨l, u⟩ := bounds_u32 hwf
    refine ⟨k.toNat, ?_, by omega⟩
    have := congrArg (fun l => l[0]?) hk
    rw [Int.toNat_of_nonneg l]
    simpa [List.getElem?_take, List.getElem?_drop] using this
  obtain ⟨f, hf⟩ := Deep.choose_lt each
  refine ⟨f, List.ext_getElem? fun j => ?_, fun i hi => (hf i hi).2⟩
  by_cases hj : j < n
  · rw [(hf j hj).1, wn_at f n j hj]
  · rw [List.getElem?_eq_none (by omega), List.getElem?_eq_none (by rw [wn_len]; omega)]
theorem ask_open {H : Type} {enc : TypeId × Value → H} {W : World} {sp : Nat → Bool} {hd : Bool} {fuel : Nat} {l : List Value} {x : DataW H × List MemPlace} (hl : l.length = 40) (h : DataW.trod enc Tryd.prog W 0 sp hd fuel 30 l = some x) : ∃ c : Ak, l = c.l ∧ c.In := by
  obtain ⟨xs, k, hk, hxy, _, hxl, hfs⟩ := DataW.trod_struct Tryd.underlying30 h
  match xs, hxl with
  | [y0, y1, y2, y3, y4], _ =>
    have g0 : DataW.trod enc Tryd.prog W 0 sp hd k 3 ((l.drop 0).take (Tryd.prog.cellsOf 3)) = some y0 := hfs 0 _ rfl
    have g1 : DataW.trod enc Tryd.prog W 0 sp hd k 3 ((l.drop 1).take (Tryd.prog.cellsOf 3)) = some y1 := hfs 1 _ rfl
    have g2 : DataW.trod enc Tryd.prog W 0 sp hd k 26 ((l.drop 2).take (Tryd.prog.cellsOf 26)) = some y2 := hfs 2 _ rfl
    have g3 : DataW.trod enc Tryd.prog W 0 sp hd k 27 ((l.drop 3).take (Tryd.prog.cellsOf 27)) = some y3 := hfs 3 _ rfl
    have g4 : DataW.trod enc Tryd.prog W 0 sp hd k 28 ((l.drop 35).take (Tryd.prog.cellsOf 28)) = some y4 := hfs 4 _ rfl
    rw [cells3] at g0 g1
    rw [cells26] at g2
    rw [cells27] at g3
    rw [cells28] at g4
    obtain ⟨kd, h0, _, w0⟩ := DataW.trod_int Tryd.underlying3 g0
    obtain ⟨n, h1, _, w1⟩ := DataW.trod_int Tryd.underlying3 g1
    obtain ⟨pc, h2, _, w2⟩ := DataW.trod_int Tryd.underlying26 g2
    obtain ⟨rs, h3, b3⟩ := arr_open Tryd.underlying27 g3 (by simp; omega)
    obtain ⟨cs, h4, b4⟩ := arr_open Tryd.underlying28 g4 (by simp; omega)
    obtain ⟨l2, u2⟩ := bounds_u32 w2
    refine ⟨⟨kd, n, pc.toNat, rs, cs⟩, ?_, bounds_i64 w0, bounds_i64 w1, (by show pc.toNat < 4294967296; omega), b3, b4⟩
    have p0 : l = l.take 1 ++ ((l.drop 1).take 1 ++ ((l.drop 2).take 1 ++ ((l.drop 3).take 32 ++ (l.drop 35).take 5))) := by
      have q1 : l.drop 1 = (l.drop 1).take 1 ++ l.drop 2 := by rw [show 2 = 1 + 1 from rfl, ← List.drop_drop, List.take_append_drop]
      have q2 : l.drop 2 = (l.drop 2).take 1 ++ l.drop 3 := by rw [show 3 = 2 + 1 from rfl, ← List.drop_drop, List.take_append_drop]
      have q3 : l.drop 3 = (l.drop 3).take 32 ++ l.drop 35 := by rw [show 35 = 3 + 32 from rfl, ← List.drop_drop, List.take_append_drop]
      have q4 : (l.drop 35).take 5 = l.drop 35 := List.take_of_length_le (by simp; omega)
      rw [q4, ← q3, ← q2, ← q1, List.take_append_drop]
    rw [p0, h1, h2, h3, h4, show l.take 1 = [.int .i64 kd] from h0]
    show _ = .int .i64 kd :: .int .i64 n :: .int .u32 ((pc.toNat : Nat) : Int) :: (wn rs 32 ++ wn cs 5)
    rw [Int.toNat_of_nonneg l2]
    rfl
theorem asks_open {H : Type} {enc : TypeId × Value → H} {W : World} {A : Option Addr} {len cap : Nat} {d : DataW H} {ps : List MemPlace}
    (h : DataW.Trod enc Tryd.prog W 0 (fun _ => true) true 23 (.slice A len cap) d ps) (hlt : ∀ x ∈ ps, x.block < W.heap.size) :
    ∃ q : Nat → Ak, AksIn W A len q ∧ (len = 0 ∨ ∃ el sp, d = .slice el sp ∧ len = el.length) := by
  obtain ⟨fuel, hf⟩ := h
  rcases Deep.open_slice Tryd.underlying23 hf with ⟨hcs, hx⟩ | ⟨a, len', cap', m, n, D, Pl, hcs, hb, hl, hm, hmm, hx, hel⟩
  · simp [Value.cells] at hcs
    obtain ⟨rfl, rfl, rfl⟩ := hcs
    exact ⟨fun _ => zAk, fun j hj => absurd hj (Nat.not_lt_zero _), Or.inl rfl⟩
  · simp [Value.cells] at hcs
    obtain ⟨rfl, rfl, rfl⟩ := hcs
    simp only [Prod.mk.injEq] at hx
    obtain ⟨rfl, rfl⟩ := hx
    simp only [if_true] at hmm
    subst hmm
    have each : ∀ i, i < m → ∃ c : Ak, (∀ k u, c.l[k]? = some u → W.cell? (a.add (i * 40 + k)) = some u) ∧ c.In := by
      intro i hi
      obtain ⟨cs', h1, h2⟩ := hel i hi
      rw [cells30] at h1
      obtain ⟨_, hlen, hcell⟩ := World.cells?_some h1
      obtain ⟨c, rfl, hc⟩ := ask_open hlen h2
      refine ⟨c, fun k u hu => ?_, hc⟩
      have hk : k < 40 := by have := (List.getElem?_eq_some_iff.1 hu).1; rwa [Ak.len] at this
      have e := hcell k (by omega)
      rw [Deep.add_add] at e
      rw [e]
      exact hu
    classical
    let q : Nat → Ak := fun i => if hi : i < m then (each i hi).choose else zAk
    have hq : ∀ i (hi : i < m), (∀ k u, (q i).l[k]? = some u → W.cell? (a.add (i * 40 + k)) = some u) ∧ (q i).In := fun i hi => by
      have e : q i = (each i hi).choose := dif_pos hi
      rw [e]
      exact (each i hi).choose_spec
    refine ⟨q, fun j hj => ?_, Or.inr ⟨_, _, rfl, by simp⟩⟩
    obtain ⟨b, off, spot⟩ := a
    have h0 := (hq 0 (by omega)).1 0 _ rfl
    have hspot : spot = none := by simpa [Addr.add] using World.cell?_spot h0
    subst hspot
    refine ⟨b, off, rfl, hlt (.cell b off) ?_, fun k u hu => ?_, (hq j (by omega)).2⟩
    · rw [cells30]
      exact List.mem_append_left _ (MemPlace.mem_row.2 ⟨0, by omega, by simp⟩)
    · have := (hq j (by omega)).1 k u hu
      rw [Addr.add_mid] at this
      rwa [Nat.add_assoc]
end Go.Proofs.YtfhijdnbhbonpaaDoor.Walks

namespace Go.Proofs.YtfhijdnbhbonpaaDoor.Walks
open Go.ChangeShapes Go.WideShapes Go.ChangeAt Go.RowKit
set_option linter.unusedVariables false
theorem ask_arg {H : Type} {enc : TypeId × Value → H} {W : World} {r : Reach} {base : Nat} {v : Value} {d : DataW H} {ps : List MemPlace} (hv : Value.okWide Tryd.prog W r base 30 v)
    (h : DataW.Trod enc Tryd.prog W 0 (fun _ => true) true 30 v d ps) : ∃ c : Ak, v = .agg c.l.toArray ∧ c.In := by
  obtain ⟨cs, rfl, hs⟩ := okWide_struct Tryd.underlying30 hv
  obtain ⟨fuel, hf⟩ := h
  rw [cells30] at hs
  obtain ⟨l⟩ := cs
  have hl : l.length = 40 := hs
  obtain ⟨c, e, hc⟩ := ask_open (W := W) (enc := enc) hl (by simpa [Value.cells] using hf)
  exact ⟨c, by rw [e], hc⟩
end Go.Proofs.YtfhijdnbhbonpaaDoor.Walks
