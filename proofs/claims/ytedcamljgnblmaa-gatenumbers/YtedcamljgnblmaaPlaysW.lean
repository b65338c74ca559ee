/- The walk of GatePlays. -/
import Derived.Test.YtedcamljgnblmaaAsks
import Derived.Test.YtedcamljgnblmaaPlay
import Derived.Test.YtedcamljgnblmaaKnow
namespace Go.Proofs.Ytedcamljgnblmaa.M
open Go.ChangeShapes Go.WideShapes Go.ChangeAt Go.RowKit Go.Proofs.Ytedcamljgnblmaa.Walks
set_option linter.unusedVariables false
/-- what is appended lies in the newest block -/
theorem newsN (W : World) (cs : List Value) (t : TypeId) (X : Array Value) (hX : X = cs.toArray) (n : Nat) (hn : W.heap.size = n) (j : Nat) (u : Value) (hj : cs[j]? = some u) : (W.alloc (.cells X t)).cell? ((⟨n, 0, none⟩ : Addr).add j) = some u := by
  subst hX
  subst hn
  rw [add_plain, World.cell?_alloc_at _ _ _ _ rfl, Nat.zero_add, List.getElem?_toArray]
  exact hj
theorem one_ak (p : Int) (r : Rt) : ∀ u ∈ ak p r, u.oneCell' = true := by
  intro u hu
  rw [ak] at hu
  rcases List.mem_cons.1 hu with rfl | hu
  · rfl
  · exact one_cs r u hu
set_option maxRecDepth 100000 in
set_option maxHeartbeats 4000000 in
theorem plays (A : Option Addr) (len cap : Nat) (kd : Nat → Int) (rs : Nat → Rt) (hlen : len * 48 ≤ 140737488351232) (w : World) (hA : Hid (AsksIn w A len kd rs)) :
    Calls Try.prog 4 #[.slice A len cap] w fun e w' => e = .returned (.bool true) ∧ Fr w w' := by
  obtain ⟨i0, hi, hz0, hz1, hz2⟩ := info_parts info27
  have HLEN := hid hlen
  clear hlen
  have hlm : (len : Int) ≤ 9223372036854775807 := by have := HLEN.out; omega
  go_enter Try.func4, Try.ntmps4
  go_wp2_with fail
  go_loopw [3, 8] (fun v i wr => ∃ (k : Nat) (xs : List Value), (k : Int) ≤ len ∧ i = .int .i64 k ∧ Hid (wr.ownsRow w.heap.size 27 8 v k xs) ∧ Hid (Okay xs k) ∧ Hid (Fr w wr)) (fun _ i _ => len - (intOf i).toNat)
  case atStart => exact ⟨0, [], by omega, rfl, World.ownsRow_nil _ _ _ _, Okay.nil, Fr.refl _⟩
  case round =>
    obtain ⟨k, xs, hk, rfl, HO, HK, HF⟩ := hrel
    rename_i wr
    by_cases hlt : (k : Int) < len
    · obtain ⟨b0, o0, rfl, cb, e0, hr, nn⟩ := (hA.out.fr HF.out) k (by omega)
      have e1 := hr 0 _ rfl
      have e2 := hr 1 _ rfl
      have e3 := hr 2 _ rfl
      have e4 := hr 3 _ rfl
      have e5 := hr 4 _ rfl
      have e6 := hr 5 _ rfl
      have e7 := hr 6 _ rfl
      rw [Nat.add_zero] at e1
      have NN := hid nn
      clear hr cb nn
      generalize kd k = kk at *
      generalize rs k = rr at *
      obtain ⟨an, AN⟩ : ∃ an, bits .and .u32 rr.a 12 = an := ⟨_, rfl⟩
      go_wp2_with fail
      go_region_with (go_at_call 9; refine (within_kind _ _).mono ?_; rintro e w' ⟨⟨r1, rfl⟩, rfl⟩)
      all_goals
        have C1 : Hid (∀ j u, (ak r1 ⟨rr.p, rr.v, rr.d, rr.s, an, rr.t, rr.m⟩)[j]? = some u → ((wr.alloc (.cells #[.int .i64 r1, .int .u32 rr.p, .int .u32 rr.v, .int .i64 rr.d, .bool rr.s, .int .u32 an, .int .u32 rr.t, .int .i64 rr.m] 27)).alloc (.cells #[.int .i64 r1, .int .u32 rr.p, .int .u32 rr.v, .int .i64 rr.d, .bool rr.s, .int .u32 an, .int .u32 rr.t, .int .i64 rr.m] 27)).cell? ((⟨wr.heap.size + 1, 0, none⟩ : Addr).add j) = some u) := newsN (wr.alloc (.cells #[.int .i64 r1, .int .u32 rr.p, .int .u32 rr.v, .int .i64 rr.d, .bool rr.s, .int .u32 an, .int .u32 rr.t, .int .i64 rr.m] 27)) (ak r1 ⟨rr.p, rr.v, rr.d, rr.s, an, rr.t, rr.m⟩) 27 _ rfl (wr.heap.size + 1) (by simp)
        have C2 := hid (one_ak r1 ⟨rr.p, rr.v, rr.d, rr.s, an, rr.t, rr.m⟩)
        have C3 : Hid (k + 1 ≤ maxLen) := by have := HLEN.out; unfold Hid maxLen; omega
        have C4 : Hid ((k + 1) * 48 ≤ 140737488355328) := by have := HLEN.out; unfold Hid; omega
        have FD : Hid (Fr w ((wr.alloc (.cells #[.int .i64 r1, .int .u32 rr.p, .int .u32 rr.v, .int .i64 rr.d, .bool rr.s, .int .u32 an, .int .u32 rr.t, .int .i64 rr.m] 27)).alloc (.cells #[.int .i64 r1, .int .u32 rr.p, .int .u32 rr.v, .int .i64 rr.d, .bool rr.s, .int .u32 an, .int .u32 rr.t, .int .i64 rr.m] 27)).drew) := ((HF.out.alloc _).alloc _).drew
        have OD := hid (show ((wr.alloc (.cells #[.int .i64 r1, .int .u32 rr.p, .int .u32 rr.v, .int .i64 rr.d, .bool rr.s, .int .u32 an, .int .u32 rr.t, .int .i64 rr.m] 27)).alloc (.cells #[.int .i64 r1, .int .u32 rr.p, .int .u32 rr.v, .int .i64 rr.d, .bool rr.s, .int .u32 an, .int .u32 rr.t, .int .i64 rr.m] 27)).drew.ownsRow w.heap.size 27 8 _ k xs from (HO.out.alloc _).alloc _)
        go_wp2_with (first
          | (at_builtin; refine wpList_append_own _ rfl _ _ 22 rfl w.heap.size 27 i0 _ 8 48 Try.underlying22 hi hz0 hz1 hz2 rfl (by decide) _ k xs rfl OD.out ⟨wr.heap.size + 1, 0, none⟩ 1 1 (ak r1 ⟨rr.p, rr.v, rr.d, rr.s, an, rr.t, rr.m⟩) rfl rfl (by exact C1.out) C2.out C3.out C4.out FD.out.size ?_))
        intro v' w2 hown' hgrow _
        have O1 := hid hown'
        have KK := hid (HK.out.snoc (by have := HO.out.1; omega) r1 ⟨rr.p, rr.v, rr.d, rr.s, an, rr.t, rr.m⟩ NN.out)
        have F1 := hid (FD.out.grow (fun b e => (OD.out.lt b e).1) hgrow)
        clear hown' hgrow C1 C2 C3 C4 FD OD
        go_wp2_with fail
        exact ⟨⟨k + 1, _, by omega, by rw [Int.natCast_add]; rfl, O1, KK, F1⟩, by simp [intOf]; omega⟩
    · have hkl : k = len := by omega
      subst hkl
      obtain ⟨A', cap', kd', rs', rfl, HA'⟩ := own_asks HO.out HK.out
      have HA1 := hid HA'
      clear HA' HO
      go_wp2_with fail
      refine (play A' _ cap' kd' rs' _ HA1).mono ?_; rintro e w3 ⟨rfl, hF⟩
      have F3 := hid (HF.out.trans hF)
      clear hF
      have HA3 := hid (hA.out.fr F3.out)
      go_wp2_with fail
      refine (play A _ cap kd rs _ HA3).mono ?_; rintro e w4 ⟨rfl, hF⟩
      have F4 := hid (F3.out.trans hF)
      clear hF
      go_wp2_with fail
      refine (known_as _).mono ?_; rintro e w6 ⟨rfl, hF⟩
      have F6 := hid (F4.out.trans hF)
      clear hF
      go_wp2_with fail
      go_ret
      exact ⟨rfl, F6.out⟩
end Go.Proofs.Ytedcamljgnblmaa.M
