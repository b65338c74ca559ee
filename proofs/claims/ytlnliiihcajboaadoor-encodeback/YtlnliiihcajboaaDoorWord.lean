/- Numbers: which instructions have a word, and which; the word decodes to the instruction, and what is decoded has a word. -/
import Derived.Test.YtlnliiihcajboaaDoorShape
import Derived.Test.YtlnliiihcajboaaDoorDec
namespace Go.Proofs.YtlnliiihcajboaaDoor.Num
set_option linter.unusedVariables false
/-- an instruction of the format f with these operands has a word -/
def Ok (f d a b n : Int) : Prop :=
  (f = 1 ∧ d = 0 ∧ a = 0 ∧ b = 0 ∧ n = 0) ∨ (f = 2 ∧ 0 ≤ d ∧ d ≤ 31 ∧ 0 ≤ a ∧ a ≤ 31 ∧ 0 ≤ b ∧ b ≤ 31 ∧ n = 0) ∨ (f = 3 ∧ 0 ≤ d ∧ d ≤ 31 ∧ 0 ≤ a ∧ a ≤ 31 ∧ b = 0 ∧ -2048 ≤ n ∧ n ≤ 2047) ∨
  (f = 4 ∧ 0 ≤ d ∧ d ≤ 31 ∧ 0 ≤ a ∧ a ≤ 31 ∧ b = 0 ∧ 0 ≤ n ∧ n ≤ 31) ∨ (f = 5 ∧ d = 0 ∧ 0 ≤ a ∧ a ≤ 31 ∧ 0 ≤ b ∧ b ≤ 31 ∧ -2048 ≤ n ∧ n ≤ 2047) ∨ (f = 6 ∧ d = 0 ∧ 0 ≤ a ∧ a ≤ 31 ∧ 0 ≤ b ∧ b ≤ 31 ∧ -4096 ≤ n ∧ n ≤ 4094 ∧ n % 2 = 0) ∨
  (f = 7 ∧ 0 ≤ d ∧ d ≤ 31 ∧ a = 0 ∧ b = 0 ∧ -2147483648 ≤ n ∧ n ≤ 2147479552 ∧ n % 4096 = 0) ∨ (f = 8 ∧ 0 ≤ d ∧ d ≤ 31 ∧ a = 0 ∧ b = 0 ∧ -1048576 ≤ n ∧ n ≤ 1048574 ∧ n % 2 = 0) ∨
  ((f = 9 ∨ f = 10) ∧ 0 ≤ d ∧ d ≤ 31 ∧ 0 ≤ a ∧ a ≤ 31 ∧ b = 0 ∧ 0 ≤ n ∧ n ≤ 4095)
/-- its operands' bits -/
def fld (f d a b n : Int) : Int :=
  if f = 2 then d * 128 + a * 32768 + b * 1048576
  else if f = 3 ∨ f = 9 ∨ f = 10 then d * 128 + a * 32768 + n % 4096 * 1048576
  else if f = 4 then d * 128 + a * 32768 + n % 32 * 1048576
  else if f = 5 then a * 32768 + b * 1048576 + n % 32 * 128 + n / 32 % 128 * 33554432
  else if f = 6 then a * 32768 + b * 1048576 + n / 2048 % 2 * 128 + n / 2 % 16 * 256 + n / 32 % 64 * 33554432 + n / 4096 % 2 * 2147483648
  else if f = 7 then d * 128 + n / 4096 % 1048576 * 4096
  else if f = 8 then d * 128 + n / 4096 % 256 * 4096 + n / 2048 % 2 * 1048576 + n / 2 % 1024 * 2097152 + n / 1048576 % 2 * 2147483648
  else 0
def wd (o d a b n : Int) : Int := cd o + fld (fm o) d a b n
theorem ok1 {d a b n : Int} (h : Ok 1 d a b n) : d = 0 ∧ a = 0 ∧ b = 0 ∧ n = 0 := by unfold Ok at h; omega
theorem ok2 {d a b n : Int} (h : Ok 2 d a b n) : 0 ≤ d ∧ d ≤ 31 ∧ 0 ≤ a ∧ a ≤ 31 ∧ 0 ≤ b ∧ b ≤ 31 ∧ n = 0 := by unfold Ok at h; omega
theorem ok3 {d a b n : Int} (h : Ok 3 d a b n) : 0 ≤ d ∧ d ≤ 31 ∧ 0 ≤ a ∧ a ≤ 31 ∧ b = 0 ∧ -2048 ≤ n ∧ n ≤ 2047 := by unfold Ok at h; omega
theorem ok4 {d a b n : Int} (h : Ok 4 d a b n) : 0 ≤ d ∧ d ≤ 31 ∧ 0 ≤ a ∧ a ≤ 31 ∧ b = 0 ∧ 0 ≤ n ∧ n ≤ 31 := by unfold Ok at h; omega
theorem ok5 {d a b n : Int} (h : Ok 5 d a b n) : d = 0 ∧ 0 ≤ a ∧ a ≤ 31 ∧ 0 ≤ b ∧ b ≤ 31 ∧ -2048 ≤ n ∧ n ≤ 2047 := by unfold Ok at h; omega
theorem ok6 {d a b n : Int} (h : Ok 6 d a b n) : d = 0 ∧ 0 ≤ a ∧ a ≤ 31 ∧ 0 ≤ b ∧ b ≤ 31 ∧ -4096 ≤ n ∧ n ≤ 4094 ∧ n % 2 = 0 := by unfold Ok at h; omega
theorem ok7 {d a b n : Int} (h : Ok 7 d a b n) : 0 ≤ d ∧ d ≤ 31 ∧ a = 0 ∧ b = 0 ∧ -2147483648 ≤ n ∧ n ≤ 2147479552 ∧ n % 4096 = 0 := by unfold Ok at h; omega
theorem ok8 {d a b n : Int} (h : Ok 8 d a b n) : 0 ≤ d ∧ d ≤ 31 ∧ a = 0 ∧ b = 0 ∧ -1048576 ≤ n ∧ n ≤ 1048574 ∧ n % 2 = 0 := by unfold Ok at h; omega
theorem ok9 {d a b n : Int} (h : Ok 9 d a b n) : 0 ≤ d ∧ d ≤ 31 ∧ 0 ≤ a ∧ a ≤ 31 ∧ b = 0 ∧ 0 ≤ n ∧ n ≤ 4095 := by unfold Ok at h; omega
theorem ok10 {d a b n : Int} (h : Ok 10 d a b n) : 0 ≤ d ∧ d ≤ 31 ∧ 0 ≤ a ∧ a ≤ 31 ∧ b = 0 ∧ 0 ≤ n ∧ n ≤ 4095 := by unfold Ok at h; omega
theorem ok0 {d a b n : Int} (h : Ok 0 d a b n) : False := by unfold Ok at h; omega
theorem mk1 : Ok 1 0 0 0 0 := .inl ⟨rfl, rfl, rfl, rfl, rfl⟩
theorem mk2 {d a b : Int} (d0 : 0 ≤ d) (d1 : d ≤ 31) (a0 : 0 ≤ a) (a1 : a ≤ 31) (b0 : 0 ≤ b) (b1 : b ≤ 31) : Ok 2 d a b 0 := .inr (.inl ⟨rfl, d0, d1, a0, a1, b0, b1, rfl⟩)
theorem mk3 {d a n : Int} (d0 : 0 ≤ d) (d1 : d ≤ 31) (a0 : 0 ≤ a) (a1 : a ≤ 31) (n0 : -2048 ≤ n) (n1 : n ≤ 2047) : Ok 3 d a 0 n := .inr (.inr (.inl ⟨rfl, d0, d1, a0, a1, rfl, n0, n1⟩))
theorem mk4 {d a n : Int} (d0 : 0 ≤ d) (d1 : d ≤ 31) (a0 : 0 ≤ a) (a1 : a ≤ 31) (n0 : 0 ≤ n) (n1 : n ≤ 31) : Ok 4 d a 0 n := .inr (.inr (.inr (.inl ⟨rfl, d0, d1, a0, a1, rfl, n0, n1⟩)))
theorem mk5 {a b n : Int} (a0 : 0 ≤ a) (a1 : a ≤ 31) (b0 : 0 ≤ b) (b1 : b ≤ 31) (n0 : -2048 ≤ n) (n1 : n ≤ 2047) : Ok 5 0 a b n := .inr (.inr (.inr (.inr (.inl ⟨rfl, rfl, a0, a1, b0, b1, n0, n1⟩))))
theorem mk6 {a b n : Int} (a0 : 0 ≤ a) (a1 : a ≤ 31) (b0 : 0 ≤ b) (b1 : b ≤ 31) (n0 : -4096 ≤ n) (n1 : n ≤ 4094) (n2 : n % 2 = 0) : Ok 6 0 a b n := .inr (.inr (.inr (.inr (.inr (.inl ⟨rfl, rfl, a0, a1, b0, b1, n0, n1, n2⟩)))))
theorem mk7 {d n : Int} (d0 : 0 ≤ d) (d1 : d ≤ 31) (n0 : -2147483648 ≤ n) (n1 : n ≤ 2147479552) (n2 : n % 4096 = 0) : Ok 7 d 0 0 n := .inr (.inr (.inr (.inr (.inr (.inr (.inl ⟨rfl, d0, d1, rfl, rfl, n0, n1, n2⟩))))))
theorem mk8 {d n : Int} (d0 : 0 ≤ d) (d1 : d ≤ 31) (n0 : -1048576 ≤ n) (n1 : n ≤ 1048574) (n2 : n % 2 = 0) : Ok 8 d 0 0 n := .inr (.inr (.inr (.inr (.inr (.inr (.inr (.inl ⟨rfl, d0, d1, rfl, rfl, n0, n1, n2⟩)))))))
theorem mk9 {d a n : Int} (d0 : 0 ≤ d) (d1 : d ≤ 31) (a0 : 0 ≤ a) (a1 : a ≤ 31) (n0 : 0 ≤ n) (n1 : n ≤ 4095) : Ok 9 d a 0 n := .inr (.inr (.inr (.inr (.inr (.inr (.inr (.inr ⟨.inl rfl, d0, d1, a0, a1, rfl, n0, n1⟩)))))))
theorem mk10 {d a n : Int} (d0 : 0 ≤ d) (d1 : d ≤ 31) (a0 : 0 ≤ a) (a1 : a ≤ 31) (n0 : 0 ≤ n) (n1 : n ≤ 4095) : Ok 10 d a 0 n := .inr (.inr (.inr (.inr (.inr (.inr (.inr (.inr ⟨.inr rfl, d0, d1, a0, a1, rfl, n0, n1⟩)))))))
theorem sgI (x : Int) : -2048 ≤ sg 2048 x ∧ sg 2048 x ≤ 2047 := by unfold sg; omega
theorem sgB (p q r s : Int) : -4096 ≤ sg 4096 (p * 4096 + q * 2048 + r * 32 + s * 2) ∧ sg 4096 (p * 4096 + q * 2048 + r * 32 + s * 2) ≤ 4094 ∧ sg 4096 (p * 4096 + q * 2048 + r * 32 + s * 2) % 2 = 0 := by unfold sg; omega
theorem sgU (m : Int) : -2147483648 ≤ sg 2147483648 (m * 4096) ∧ sg 2147483648 (m * 4096) ≤ 2147479552 ∧ sg 2147483648 (m * 4096) % 4096 = 0 := by unfold sg; omega
theorem sgJ (p q r s : Int) : -1048576 ≤ sg 1048576 (p * 1048576 + q * 4096 + r * 2048 + s * 2) ∧ sg 1048576 (p * 1048576 + q * 4096 + r * 2048 + s * 2) ≤ 1048574 ∧ sg 1048576 (p * 1048576 + q * 4096 + r * 2048 + s * 2) % 2 = 0 := by unfold sg; omega
theorem op_in (v : Int) : 0 ≤ op v ∧ op v ≤ 55 := by
  unfold op opc first oBranch oLoad oStore oImm oReg oSys oShift oPlain oMul oOther oBare
  refine ⟨?_, ?_⟩ <;> repeat' split
  all_goals omega
theorem dec_ok (v o d a b n : Int) (h : Dec v o d a b n true) : Ok (fm o) d a b n := by
  obtain ⟨ho, hd, ha, hb, hn, hg⟩ := h
  have r := op_in v
  rw [ho] at r
  have z : o ≠ 0 := by simpa using hg
  clear ho hg
  have x0 : 0 ≤ v / 128 % 32 := by omega
  have x1 : v / 128 % 32 ≤ 31 := by omega
  have y0 : 0 ≤ v / 32768 % 32 := by omega
  have y1 : v / 32768 % 32 ≤ 31 := by omega
  have z0 : 0 ≤ v / 1048576 % 32 := by omega
  have z1 : v / 1048576 % 32 ≤ 31 := by omega
  have m0 : 0 ≤ v / 1048576 % 4096 := by omega
  have m1 : v / 1048576 % 4096 ≤ 4095 := by omega
  rcases fm_parts o with ⟨h0, h⟩ | ⟨h0, h1, h⟩ | ⟨h0, h⟩ | ⟨h0, h⟩ | ⟨h0, h1, h⟩ | ⟨h0, h1, h⟩ | ⟨h0, h1, h⟩ | ⟨h0, h1, h⟩ | ⟨h0, h1, h⟩ | ⟨h0, h1, h⟩ | ⟨h0, h1, h⟩ | ⟨h0, h1, h⟩ | ⟨h0, h1, h⟩ | ⟨h0, h⟩
  · clear h
    exfalso
    omega
  · rw [h] at hd ha hb hn ⊢; clear h
    change v / 128 % 32 = d at hd
    change (0 : Int) = a at ha
    change (0 : Int) = b at hb
    change sg 2147483648 (v / 4096 % 1048576 * 4096) = n at hn
    subst hd ha hb hn
    exact mk7 x0 x1 (sgU _).1 (sgU _).2.1 (sgU _).2.2
  · rw [h] at hd ha hb hn ⊢; clear h
    change v / 128 % 32 = d at hd
    change (0 : Int) = a at ha
    change (0 : Int) = b at hb
    change sg 1048576 (v / 2147483648 % 2 * 1048576 + v / 4096 % 256 * 4096 + v / 1048576 % 2 * 2048 + v / 2097152 % 1024 * 2) = n at hn
    subst hd ha hb hn
    exact mk8 x0 x1 (sgJ _ _ _ _).1 (sgJ _ _ _ _).2.1 (sgJ _ _ _ _).2.2
  · rw [h] at hd ha hb hn ⊢; clear h
    change v / 128 % 32 = d at hd
    change v / 32768 % 32 = a at ha
    change (0 : Int) = b at hb
    change sg 2048 (v / 1048576 % 4096) = n at hn
    subst hd ha hb hn
    exact mk3 x0 x1 y0 y1 (sgI _).1 (sgI _).2
  · rw [h] at hd ha hb hn ⊢; clear h
    change (0 : Int) = d at hd
    change v / 32768 % 32 = a at ha
    change v / 1048576 % 32 = b at hb
    change sg 4096 (v / 2147483648 % 2 * 4096 + v / 128 % 2 * 2048 + v / 33554432 % 64 * 32 + v / 256 % 16 * 2) = n at hn
    subst hd ha hb hn
    exact mk6 y0 y1 z0 z1 (sgB _ _ _ _).1 (sgB _ _ _ _).2.1 (sgB _ _ _ _).2.2
  · rw [h] at hd ha hb hn ⊢; clear h
    change v / 128 % 32 = d at hd
    change v / 32768 % 32 = a at ha
    change (0 : Int) = b at hb
    change sg 2048 (v / 1048576 % 4096) = n at hn
    subst hd ha hb hn
    exact mk3 x0 x1 y0 y1 (sgI _).1 (sgI _).2
  · rw [h] at hd ha hb hn ⊢; clear h
    change (0 : Int) = d at hd
    change v / 32768 % 32 = a at ha
    change v / 1048576 % 32 = b at hb
    change sg 2048 (v / 33554432 % 128 * 32 + v / 128 % 32) = n at hn
    subst hd ha hb hn
    exact mk5 y0 y1 z0 z1 (sgI _).1 (sgI _).2
  · rw [h] at hd ha hb hn ⊢; clear h
    change v / 128 % 32 = d at hd
    change v / 32768 % 32 = a at ha
    change (0 : Int) = b at hb
    change sg 2048 (v / 1048576 % 4096) = n at hn
    subst hd ha hb hn
    exact mk3 x0 x1 y0 y1 (sgI _).1 (sgI _).2
  · rw [h] at hd ha hb hn ⊢; clear h
    change v / 128 % 32 = d at hd
    change v / 32768 % 32 = a at ha
    change (0 : Int) = b at hb
    change v / 1048576 % 32 = n at hn
    subst hd ha hb hn
    exact mk4 x0 x1 y0 y1 z0 z1
  · rw [h] at hd ha hb hn ⊢; clear h
    change v / 128 % 32 = d at hd
    change v / 32768 % 32 = a at ha
    change v / 1048576 % 32 = b at hb
    change (0 : Int) = n at hn
    subst hd ha hb hn
    exact mk2 x0 x1 y0 y1 z0 z1
  · rw [h] at hd ha hb hn ⊢; clear h
    change (0 : Int) = d at hd
    change (0 : Int) = a at ha
    change (0 : Int) = b at hb
    change (0 : Int) = n at hn
    subst hd ha hb hn
    exact mk1
  · rw [h] at hd ha hb hn ⊢; clear h
    change v / 128 % 32 = d at hd
    change v / 32768 % 32 = a at ha
    change (0 : Int) = b at hb
    change v / 1048576 % 4096 = n at hn
    subst hd ha hb hn
    exact mk9 x0 x1 y0 y1 m0 m1
  · rw [h] at hd ha hb hn ⊢; clear h
    change v / 128 % 32 = d at hd
    change v / 32768 % 32 = a at ha
    change (0 : Int) = b at hb
    change v / 1048576 % 4096 = n at hn
    subst hd ha hb hn
    exact mk10 x0 x1 y0 y1 m0 m1
  · clear h
    exfalso
    omega
/-- the parts of a word that is put together, format by format -/
structure Pt (v c f3 : Int) : Prop where
  hc : v % 128 = c
  h3 : v / 4096 % 8 = f3
theorem ptR (c f3 f7 d a b v : Int) (c0 : 0 ≤ c) (c1 : c ≤ 127) (s0 : 0 ≤ f3) (s1 : f3 ≤ 7) (t0 : 0 ≤ f7) (t1 : f7 ≤ 127) (d0 : 0 ≤ d) (d1 : d ≤ 31) (a0 : 0 ≤ a) (a1 : a ≤ 31) (b0 : 0 ≤ b) (b1 : b ≤ 31) (h : v = c + f3 * 4096 + f7 * 33554432 + (d * 128 + a * 32768 + b * 1048576)) :
    Pt v c f3 ∧ v / 33554432 % 128 = f7 ∧ v / 128 % 32 = d ∧ v / 32768 % 32 = a ∧ v / 1048576 % 32 = b := by
  subst h
  refine ⟨⟨?_, ?_⟩, ?_, ?_, ?_, ?_⟩ <;> omega
theorem ptI (c f3 d a m v : Int) (c0 : 0 ≤ c) (c1 : c ≤ 127) (s0 : 0 ≤ f3) (s1 : f3 ≤ 7) (d0 : 0 ≤ d) (d1 : d ≤ 31) (a0 : 0 ≤ a) (a1 : a ≤ 31) (m0 : 0 ≤ m) (m1 : m ≤ 4095) (h : v = c + f3 * 4096 + (d * 128 + a * 32768 + m * 1048576)) :
    Pt v c f3 ∧ v / 128 % 32 = d ∧ v / 32768 % 32 = a ∧ v / 1048576 % 4096 = m := by
  subst h
  refine ⟨⟨?_, ?_⟩, ?_, ?_, ?_⟩ <;> omega
theorem ptS (c f3 a b x y v : Int) (c0 : 0 ≤ c) (c1 : c ≤ 127) (s0 : 0 ≤ f3) (s1 : f3 ≤ 7) (a0 : 0 ≤ a) (a1 : a ≤ 31) (b0 : 0 ≤ b) (b1 : b ≤ 31) (x0 : 0 ≤ x) (x1 : x ≤ 31) (y0 : 0 ≤ y) (y1 : y ≤ 127) (h : v = c + f3 * 4096 + (a * 32768 + b * 1048576 + x * 128 + y * 33554432)) :
    Pt v c f3 ∧ v / 32768 % 32 = a ∧ v / 1048576 % 32 = b ∧ v / 128 % 32 = x ∧ v / 33554432 % 128 = y := by
  subst h
  refine ⟨⟨?_, ?_⟩, ?_, ?_, ?_, ?_⟩ <;> omega
theorem ptB (c f3 a b p q r s v : Int) (c0 : 0 ≤ c) (c1 : c ≤ 127) (s0 : 0 ≤ f3) (s1 : f3 ≤ 7) (a0 : 0 ≤ a) (a1 : a ≤ 31) (b0 : 0 ≤ b) (b1 : b ≤ 31) (p0 : 0 ≤ p) (p1 : p ≤ 1) (q0 : 0 ≤ q) (q1 : q ≤ 15) (r0 : 0 ≤ r) (r1 : r ≤ 63) (u0 : 0 ≤ s) (u1 : s ≤ 1) (h : v = c + f3 * 4096 + (a * 32768 + b * 1048576 + p * 128 + q * 256 + r * 33554432 + s * 2147483648)) :
    Pt v c f3 ∧ v / 32768 % 32 = a ∧ v / 1048576 % 32 = b ∧ v / 128 % 2 = p ∧ v / 256 % 16 = q ∧ v / 33554432 % 64 = r ∧ v / 2147483648 % 2 = s := by
  subst h
  refine ⟨⟨?_, ?_⟩, ?_, ?_, ?_, ?_, ?_, ?_⟩ <;> omega
theorem ptU (c d m v : Int) (c0 : 0 ≤ c) (c1 : c ≤ 127) (d0 : 0 ≤ d) (d1 : d ≤ 31) (m0 : 0 ≤ m) (m1 : m ≤ 1048575) (h : v = c + (d * 128 + m * 4096)) : v % 128 = c ∧ v / 128 % 32 = d ∧ v / 4096 % 1048576 = m := by
  subst h
  refine ⟨?_, ?_, ?_⟩ <;> omega
theorem ptJ (c d p q r s v : Int) (c0 : 0 ≤ c) (c1 : c ≤ 127) (d0 : 0 ≤ d) (d1 : d ≤ 31) (p0 : 0 ≤ p) (p1 : p ≤ 255) (q0 : 0 ≤ q) (q1 : q ≤ 1) (r0 : 0 ≤ r) (r1 : r ≤ 1023) (u0 : 0 ≤ s) (u1 : s ≤ 1) (h : v = c + (d * 128 + p * 4096 + q * 1048576 + r * 2097152 + s * 2147483648)) :
    v % 128 = c ∧ v / 128 % 32 = d ∧ v / 4096 % 256 = p ∧ v / 1048576 % 2 = q ∧ v / 2097152 % 1024 = r ∧ v / 2147483648 % 2 = s := by
  subst h
  refine ⟨?_, ?_, ?_, ?_, ?_, ?_⟩ <;> omega
/-- immediates out of their parts -/
theorem imI (n : Int) (h0 : -2048 ≤ n) (h1 : n ≤ 2047) : sg 2048 (n % 4096) = n := by unfold sg; omega
theorem imS (n : Int) (h0 : -2048 ≤ n) (h1 : n ≤ 2047) : sg 2048 (n / 32 % 128 * 32 + n % 32) = n := by unfold sg; omega
theorem imB (n : Int) (h0 : -4096 ≤ n) (h1 : n ≤ 4094) (h2 : n % 2 = 0) : sg 4096 (n / 4096 % 2 * 4096 + n / 2048 % 2 * 2048 + n / 32 % 64 * 32 + n / 2 % 16 * 2) = n := by unfold sg; omega
theorem imU (n : Int) (h0 : -2147483648 ≤ n) (h1 : n ≤ 2147479552) (h2 : n % 4096 = 0) : sg 2147483648 (n / 4096 % 1048576 * 4096) = n := by unfold sg; omega
theorem imJ (n : Int) (h0 : -1048576 ≤ n) (h1 : n ≤ 1048574) (h2 : n % 2 = 0) : sg 1048576 (n / 1048576 % 2 * 1048576 + n / 4096 % 256 * 4096 + n / 2048 % 2 * 2048 + n / 2 % 1024 * 2) = n := by unfold sg; omega
theorem okdec1 (d a b n : Int) (h : Ok 7 d a b n) : Dec (wd 1 d a b n) 1 d a b n true := by
  obtain ⟨d0, d1, rfl, rfl, n0, n1, n2⟩ := ok7 h
  obtain ⟨hc, hd, hm⟩ := ptU 55 d (n / 4096 % 1048576) (wd 1 d 0 0 n) (by decide) (by decide) d0 d1 (by omega) (by omega) rfl
  exact ⟨by rw [op, hc]; rfl, hd, rfl, rfl, (show iU (wd 1 d 0 0 n) = n by rw [iU, hm]; exact imU n n0 n1 n2), rfl⟩
theorem okdec2 (d a b n : Int) (h : Ok 7 d a b n) : Dec (wd 2 d a b n) 2 d a b n true := by
  obtain ⟨d0, d1, rfl, rfl, n0, n1, n2⟩ := ok7 h
  obtain ⟨hc, hd, hm⟩ := ptU 23 d (n / 4096 % 1048576) (wd 2 d 0 0 n) (by decide) (by decide) d0 d1 (by omega) (by omega) rfl
  exact ⟨by rw [op, hc]; rfl, hd, rfl, rfl, (show iU (wd 2 d 0 0 n) = n by rw [iU, hm]; exact imU n n0 n1 n2), rfl⟩
theorem okdec3 (d a b n : Int) (h : Ok 8 d a b n) : Dec (wd 3 d a b n) 3 d a b n true := by
  obtain ⟨d0, d1, rfl, rfl, n0, n1, n2⟩ := ok8 h
  obtain ⟨hc, hd, hp, hq, hr, hs⟩ := ptJ 111 d (n / 4096 % 256) (n / 2048 % 2) (n / 2 % 1024) (n / 1048576 % 2) (wd 3 d 0 0 n) (by decide) (by decide) d0 d1 (by omega) (by omega) (by omega) (by omega) (by omega) (by omega) (by omega) (by omega) rfl
  exact ⟨by rw [op, hc]; rfl, hd, rfl, rfl, (show iJ (wd 3 d 0 0 n) = n by rw [iJ, hp, hq, hr, hs]; exact imJ n n0 n1 n2), rfl⟩
theorem okdec4 (d a b n : Int) (h : Ok 3 d a b n) : Dec (wd 4 d a b n) 4 d a b n true := by
  obtain ⟨d0, d1, a0, a1, rfl, n0, n1⟩ := ok3 h
  obtain ⟨⟨hc, h3⟩, hd, ha, hm⟩ := ptI 103 0 d a (n % 4096) (wd 4 d a 0 n) (by decide) (by decide) (by decide) (by decide) d0 d1 a0 a1 (by omega) (by omega) rfl
  exact ⟨by rw [op, hc, h3]; rfl, hd, ha, rfl, (congrArg (sg 2048) hm).trans (imI n n0 n1), rfl⟩
theorem okdec5 (d a b n : Int) (h : Ok 6 d a b n) : Dec (wd 5 d a b n) 5 d a b n true := by
  obtain ⟨rfl, a0, a1, b0, b1, n0, n1, n2⟩ := ok6 h
  obtain ⟨⟨hc, h3⟩, ha, hb, hp, hq, hr, hs⟩ := ptB 99 0 a b (n / 2048 % 2) (n / 2 % 16) (n / 32 % 64) (n / 4096 % 2) (wd 5 0 a b n) (by decide) (by decide) (by decide) (by decide) a0 a1 b0 b1 (by omega) (by omega) (by omega) (by omega) (by omega) (by omega) (by omega) (by omega) rfl
  exact ⟨by rw [op, hc, h3]; rfl, rfl, ha, hb, (show iB (wd 5 0 a b n) = n by rw [iB, hp, hq, hr, hs]; exact imB n n0 n1 n2), rfl⟩
theorem okdec6 (d a b n : Int) (h : Ok 6 d a b n) : Dec (wd 6 d a b n) 6 d a b n true := by
  obtain ⟨rfl, a0, a1, b0, b1, n0, n1, n2⟩ := ok6 h
  obtain ⟨⟨hc, h3⟩, ha, hb, hp, hq, hr, hs⟩ := ptB 99 1 a b (n / 2048 % 2) (n / 2 % 16) (n / 32 % 64) (n / 4096 % 2) (wd 6 0 a b n) (by decide) (by decide) (by decide) (by decide) a0 a1 b0 b1 (by omega) (by omega) (by omega) (by omega) (by omega) (by omega) (by omega) (by omega) rfl
  exact ⟨by rw [op, hc, h3]; rfl, rfl, ha, hb, (show iB (wd 6 0 a b n) = n by rw [iB, hp, hq, hr, hs]; exact imB n n0 n1 n2), rfl⟩
theorem okdec7 (d a b n : Int) (h : Ok 6 d a b n) : Dec (wd 7 d a b n) 7 d a b n true := by
  obtain ⟨rfl, a0, a1, b0, b1, n0, n1, n2⟩ := ok6 h
  obtain ⟨⟨hc, h3⟩, ha, hb, hp, hq, hr, hs⟩ := ptB 99 4 a b (n / 2048 % 2) (n / 2 % 16) (n / 32 % 64) (n / 4096 % 2) (wd 7 0 a b n) (by decide) (by decide) (by decide) (by decide) a0 a1 b0 b1 (by omega) (by omega) (by omega) (by omega) (by omega) (by omega) (by omega) (by omega) rfl
  exact ⟨by rw [op, hc, h3]; rfl, rfl, ha, hb, (show iB (wd 7 0 a b n) = n by rw [iB, hp, hq, hr, hs]; exact imB n n0 n1 n2), rfl⟩
theorem okdec8 (d a b n : Int) (h : Ok 6 d a b n) : Dec (wd 8 d a b n) 8 d a b n true := by
  obtain ⟨rfl, a0, a1, b0, b1, n0, n1, n2⟩ := ok6 h
  obtain ⟨⟨hc, h3⟩, ha, hb, hp, hq, hr, hs⟩ := ptB 99 5 a b (n / 2048 % 2) (n / 2 % 16) (n / 32 % 64) (n / 4096 % 2) (wd 8 0 a b n) (by decide) (by decide) (by decide) (by decide) a0 a1 b0 b1 (by omega) (by omega) (by omega) (by omega) (by omega) (by omega) (by omega) (by omega) rfl
  exact ⟨by rw [op, hc, h3]; rfl, rfl, ha, hb, (show iB (wd 8 0 a b n) = n by rw [iB, hp, hq, hr, hs]; exact imB n n0 n1 n2), rfl⟩
theorem okdec9 (d a b n : Int) (h : Ok 6 d a b n) : Dec (wd 9 d a b n) 9 d a b n true := by
  obtain ⟨rfl, a0, a1, b0, b1, n0, n1, n2⟩ := ok6 h
  obtain ⟨⟨hc, h3⟩, ha, hb, hp, hq, hr, hs⟩ := ptB 99 6 a b (n / 2048 % 2) (n / 2 % 16) (n / 32 % 64) (n / 4096 % 2) (wd 9 0 a b n) (by decide) (by decide) (by decide) (by decide) a0 a1 b0 b1 (by omega) (by omega) (by omega) (by omega) (by omega) (by omega) (by omega) (by omega) rfl
  exact ⟨by rw [op, hc, h3]; rfl, rfl, ha, hb, (show iB (wd 9 0 a b n) = n by rw [iB, hp, hq, hr, hs]; exact imB n n0 n1 n2), rfl⟩
theorem okdec10 (d a b n : Int) (h : Ok 6 d a b n) : Dec (wd 10 d a b n) 10 d a b n true := by
  obtain ⟨rfl, a0, a1, b0, b1, n0, n1, n2⟩ := ok6 h
  obtain ⟨⟨hc, h3⟩, ha, hb, hp, hq, hr, hs⟩ := ptB 99 7 a b (n / 2048 % 2) (n / 2 % 16) (n / 32 % 64) (n / 4096 % 2) (wd 10 0 a b n) (by decide) (by decide) (by decide) (by decide) a0 a1 b0 b1 (by omega) (by omega) (by omega) (by omega) (by omega) (by omega) (by omega) (by omega) rfl
  exact ⟨by rw [op, hc, h3]; rfl, rfl, ha, hb, (show iB (wd 10 0 a b n) = n by rw [iB, hp, hq, hr, hs]; exact imB n n0 n1 n2), rfl⟩
theorem okdec11 (d a b n : Int) (h : Ok 3 d a b n) : Dec (wd 11 d a b n) 11 d a b n true := by
  obtain ⟨d0, d1, a0, a1, rfl, n0, n1⟩ := ok3 h
  obtain ⟨⟨hc, h3⟩, hd, ha, hm⟩ := ptI 3 0 d a (n % 4096) (wd 11 d a 0 n) (by decide) (by decide) (by decide) (by decide) d0 d1 a0 a1 (by omega) (by omega) rfl
  exact ⟨by rw [op, hc, h3]; rfl, hd, ha, rfl, (congrArg (sg 2048) hm).trans (imI n n0 n1), rfl⟩
theorem okdec12 (d a b n : Int) (h : Ok 3 d a b n) : Dec (wd 12 d a b n) 12 d a b n true := by
  obtain ⟨d0, d1, a0, a1, rfl, n0, n1⟩ := ok3 h
  obtain ⟨⟨hc, h3⟩, hd, ha, hm⟩ := ptI 3 1 d a (n % 4096) (wd 12 d a 0 n) (by decide) (by decide) (by decide) (by decide) d0 d1 a0 a1 (by omega) (by omega) rfl
  exact ⟨by rw [op, hc, h3]; rfl, hd, ha, rfl, (congrArg (sg 2048) hm).trans (imI n n0 n1), rfl⟩
theorem okdec13 (d a b n : Int) (h : Ok 3 d a b n) : Dec (wd 13 d a b n) 13 d a b n true := by
  obtain ⟨d0, d1, a0, a1, rfl, n0, n1⟩ := ok3 h
  obtain ⟨⟨hc, h3⟩, hd, ha, hm⟩ := ptI 3 2 d a (n % 4096) (wd 13 d a 0 n) (by decide) (by decide) (by decide) (by decide) d0 d1 a0 a1 (by omega) (by omega) rfl
  exact ⟨by rw [op, hc, h3]; rfl, hd, ha, rfl, (congrArg (sg 2048) hm).trans (imI n n0 n1), rfl⟩
theorem okdec14 (d a b n : Int) (h : Ok 3 d a b n) : Dec (wd 14 d a b n) 14 d a b n true := by
  obtain ⟨d0, d1, a0, a1, rfl, n0, n1⟩ := ok3 h
  obtain ⟨⟨hc, h3⟩, hd, ha, hm⟩ := ptI 3 4 d a (n % 4096) (wd 14 d a 0 n) (by decide) (by decide) (by decide) (by decide) d0 d1 a0 a1 (by omega) (by omega) rfl
  exact ⟨by rw [op, hc, h3]; rfl, hd, ha, rfl, (congrArg (sg 2048) hm).trans (imI n n0 n1), rfl⟩
theorem okdec15 (d a b n : Int) (h : Ok 3 d a b n) : Dec (wd 15 d a b n) 15 d a b n true := by
  obtain ⟨d0, d1, a0, a1, rfl, n0, n1⟩ := ok3 h
  obtain ⟨⟨hc, h3⟩, hd, ha, hm⟩ := ptI 3 5 d a (n % 4096) (wd 15 d a 0 n) (by decide) (by decide) (by decide) (by decide) d0 d1 a0 a1 (by omega) (by omega) rfl
  exact ⟨by rw [op, hc, h3]; rfl, hd, ha, rfl, (congrArg (sg 2048) hm).trans (imI n n0 n1), rfl⟩
theorem okdec16 (d a b n : Int) (h : Ok 5 d a b n) : Dec (wd 16 d a b n) 16 d a b n true := by
  obtain ⟨rfl, a0, a1, b0, b1, n0, n1⟩ := ok5 h
  obtain ⟨⟨hc, h3⟩, ha, hb, hx, hy⟩ := ptS 35 0 a b (n % 32) (n / 32 % 128) (wd 16 0 a b n) (by decide) (by decide) (by decide) (by decide) a0 a1 b0 b1 (by omega) (by omega) (by omega) (by omega) rfl
  exact ⟨by rw [op, hc, h3]; rfl, rfl, ha, hb, (show iS (wd 16 0 a b n) = n by rw [iS, hx, hy]; exact imS n n0 n1), rfl⟩
theorem okdec17 (d a b n : Int) (h : Ok 5 d a b n) : Dec (wd 17 d a b n) 17 d a b n true := by
  obtain ⟨rfl, a0, a1, b0, b1, n0, n1⟩ := ok5 h
  obtain ⟨⟨hc, h3⟩, ha, hb, hx, hy⟩ := ptS 35 1 a b (n % 32) (n / 32 % 128) (wd 17 0 a b n) (by decide) (by decide) (by decide) (by decide) a0 a1 b0 b1 (by omega) (by omega) (by omega) (by omega) rfl
  exact ⟨by rw [op, hc, h3]; rfl, rfl, ha, hb, (show iS (wd 17 0 a b n) = n by rw [iS, hx, hy]; exact imS n n0 n1), rfl⟩
theorem okdec18 (d a b n : Int) (h : Ok 5 d a b n) : Dec (wd 18 d a b n) 18 d a b n true := by
  obtain ⟨rfl, a0, a1, b0, b1, n0, n1⟩ := ok5 h
  obtain ⟨⟨hc, h3⟩, ha, hb, hx, hy⟩ := ptS 35 2 a b (n % 32) (n / 32 % 128) (wd 18 0 a b n) (by decide) (by decide) (by decide) (by decide) a0 a1 b0 b1 (by omega) (by omega) (by omega) (by omega) rfl
  exact ⟨by rw [op, hc, h3]; rfl, rfl, ha, hb, (show iS (wd 18 0 a b n) = n by rw [iS, hx, hy]; exact imS n n0 n1), rfl⟩
theorem okdec19 (d a b n : Int) (h : Ok 3 d a b n) : Dec (wd 19 d a b n) 19 d a b n true := by
  obtain ⟨d0, d1, a0, a1, rfl, n0, n1⟩ := ok3 h
  obtain ⟨⟨hc, h3⟩, hd, ha, hm⟩ := ptI 19 0 d a (n % 4096) (wd 19 d a 0 n) (by decide) (by decide) (by decide) (by decide) d0 d1 a0 a1 (by omega) (by omega) rfl
  exact ⟨by rw [op, hc, h3]; rfl, hd, ha, rfl, (congrArg (sg 2048) hm).trans (imI n n0 n1), rfl⟩
theorem okdec20 (d a b n : Int) (h : Ok 3 d a b n) : Dec (wd 20 d a b n) 20 d a b n true := by
  obtain ⟨d0, d1, a0, a1, rfl, n0, n1⟩ := ok3 h
  obtain ⟨⟨hc, h3⟩, hd, ha, hm⟩ := ptI 19 2 d a (n % 4096) (wd 20 d a 0 n) (by decide) (by decide) (by decide) (by decide) d0 d1 a0 a1 (by omega) (by omega) rfl
  exact ⟨by rw [op, hc, h3]; rfl, hd, ha, rfl, (congrArg (sg 2048) hm).trans (imI n n0 n1), rfl⟩
theorem okdec21 (d a b n : Int) (h : Ok 3 d a b n) : Dec (wd 21 d a b n) 21 d a b n true := by
  obtain ⟨d0, d1, a0, a1, rfl, n0, n1⟩ := ok3 h
  obtain ⟨⟨hc, h3⟩, hd, ha, hm⟩ := ptI 19 3 d a (n % 4096) (wd 21 d a 0 n) (by decide) (by decide) (by decide) (by decide) d0 d1 a0 a1 (by omega) (by omega) rfl
  exact ⟨by rw [op, hc, h3]; rfl, hd, ha, rfl, (congrArg (sg 2048) hm).trans (imI n n0 n1), rfl⟩
theorem okdec22 (d a b n : Int) (h : Ok 3 d a b n) : Dec (wd 22 d a b n) 22 d a b n true := by
  obtain ⟨d0, d1, a0, a1, rfl, n0, n1⟩ := ok3 h
  obtain ⟨⟨hc, h3⟩, hd, ha, hm⟩ := ptI 19 4 d a (n % 4096) (wd 22 d a 0 n) (by decide) (by decide) (by decide) (by decide) d0 d1 a0 a1 (by omega) (by omega) rfl
  exact ⟨by rw [op, hc, h3]; rfl, hd, ha, rfl, (congrArg (sg 2048) hm).trans (imI n n0 n1), rfl⟩
theorem okdec23 (d a b n : Int) (h : Ok 3 d a b n) : Dec (wd 23 d a b n) 23 d a b n true := by
  obtain ⟨d0, d1, a0, a1, rfl, n0, n1⟩ := ok3 h
  obtain ⟨⟨hc, h3⟩, hd, ha, hm⟩ := ptI 19 6 d a (n % 4096) (wd 23 d a 0 n) (by decide) (by decide) (by decide) (by decide) d0 d1 a0 a1 (by omega) (by omega) rfl
  exact ⟨by rw [op, hc, h3]; rfl, hd, ha, rfl, (congrArg (sg 2048) hm).trans (imI n n0 n1), rfl⟩
theorem okdec24 (d a b n : Int) (h : Ok 3 d a b n) : Dec (wd 24 d a b n) 24 d a b n true := by
  obtain ⟨d0, d1, a0, a1, rfl, n0, n1⟩ := ok3 h
  obtain ⟨⟨hc, h3⟩, hd, ha, hm⟩ := ptI 19 7 d a (n % 4096) (wd 24 d a 0 n) (by decide) (by decide) (by decide) (by decide) d0 d1 a0 a1 (by omega) (by omega) rfl
  exact ⟨by rw [op, hc, h3]; rfl, hd, ha, rfl, (congrArg (sg 2048) hm).trans (imI n n0 n1), rfl⟩
theorem okdec25 (d a b n : Int) (h : Ok 4 d a b n) : Dec (wd 25 d a b n) 25 d a b n true := by
  obtain ⟨d0, d1, a0, a1, rfl, n0, n1⟩ := ok4 h
  obtain ⟨⟨hc, h3⟩, h7, hd, ha, hb⟩ := ptR 19 1 0 d a (n % 32) (wd 25 d a 0 n) (by decide) (by decide) (by decide) (by decide) (by decide) (by decide) d0 d1 a0 a1 (by omega) (by omega) rfl
  exact ⟨by rw [op, hc, h3, h7]; rfl, hd, ha, rfl, hb.trans (by omega), rfl⟩
theorem okdec26 (d a b n : Int) (h : Ok 4 d a b n) : Dec (wd 26 d a b n) 26 d a b n true := by
  obtain ⟨d0, d1, a0, a1, rfl, n0, n1⟩ := ok4 h
  obtain ⟨⟨hc, h3⟩, h7, hd, ha, hb⟩ := ptR 19 5 0 d a (n % 32) (wd 26 d a 0 n) (by decide) (by decide) (by decide) (by decide) (by decide) (by decide) d0 d1 a0 a1 (by omega) (by omega) rfl
  exact ⟨by rw [op, hc, h3, h7]; rfl, hd, ha, rfl, hb.trans (by omega), rfl⟩
theorem okdec27 (d a b n : Int) (h : Ok 4 d a b n) : Dec (wd 27 d a b n) 27 d a b n true := by
  obtain ⟨d0, d1, a0, a1, rfl, n0, n1⟩ := ok4 h
  obtain ⟨⟨hc, h3⟩, h7, hd, ha, hb⟩ := ptR 19 5 32 d a (n % 32) (wd 27 d a 0 n) (by decide) (by decide) (by decide) (by decide) (by decide) (by decide) d0 d1 a0 a1 (by omega) (by omega) rfl
  exact ⟨by rw [op, hc, h3, h7]; rfl, hd, ha, rfl, hb.trans (by omega), rfl⟩
theorem okdec28 (d a b n : Int) (h : Ok 2 d a b n) : Dec (wd 28 d a b n) 28 d a b n true := by
  obtain ⟨d0, d1, a0, a1, b0, b1, rfl⟩ := ok2 h
  obtain ⟨⟨hc, h3⟩, h7, hd, ha, hb⟩ := ptR 51 0 0 d a b (wd 28 d a b 0) (by decide) (by decide) (by decide) (by decide) (by decide) (by decide) d0 d1 a0 a1 b0 b1 rfl
  exact ⟨by rw [op, hc, h3, h7]; rfl, hd, ha, hb, rfl, rfl⟩
theorem okdec29 (d a b n : Int) (h : Ok 2 d a b n) : Dec (wd 29 d a b n) 29 d a b n true := by
  obtain ⟨d0, d1, a0, a1, b0, b1, rfl⟩ := ok2 h
  obtain ⟨⟨hc, h3⟩, h7, hd, ha, hb⟩ := ptR 51 0 32 d a b (wd 29 d a b 0) (by decide) (by decide) (by decide) (by decide) (by decide) (by decide) d0 d1 a0 a1 b0 b1 rfl
  exact ⟨by rw [op, hc, h3, h7]; rfl, hd, ha, hb, rfl, rfl⟩
theorem okdec30 (d a b n : Int) (h : Ok 2 d a b n) : Dec (wd 30 d a b n) 30 d a b n true := by
  obtain ⟨d0, d1, a0, a1, b0, b1, rfl⟩ := ok2 h
  obtain ⟨⟨hc, h3⟩, h7, hd, ha, hb⟩ := ptR 51 1 0 d a b (wd 30 d a b 0) (by decide) (by decide) (by decide) (by decide) (by decide) (by decide) d0 d1 a0 a1 b0 b1 rfl
  exact ⟨by rw [op, hc, h3, h7]; rfl, hd, ha, hb, rfl, rfl⟩
theorem okdec31 (d a b n : Int) (h : Ok 2 d a b n) : Dec (wd 31 d a b n) 31 d a b n true := by
  obtain ⟨d0, d1, a0, a1, b0, b1, rfl⟩ := ok2 h
  obtain ⟨⟨hc, h3⟩, h7, hd, ha, hb⟩ := ptR 51 2 0 d a b (wd 31 d a b 0) (by decide) (by decide) (by decide) (by decide) (by decide) (by decide) d0 d1 a0 a1 b0 b1 rfl
  exact ⟨by rw [op, hc, h3, h7]; rfl, hd, ha, hb, rfl, rfl⟩
theorem okdec32 (d a b n : Int) (h : Ok 2 d a b n) : Dec (wd 32 d a b n) 32 d a b n true := by
  obtain ⟨d0, d1, a0, a1, b0, b1, rfl⟩ := ok2 h
  obtain ⟨⟨hc, h3⟩, h7, hd, ha, hb⟩ := ptR 51 3 0 d a b (wd 32 d a b 0) (by decide) (by decide) (by decide) (by decide) (by decide) (by decide) d0 d1 a0 a1 b0 b1 rfl
  exact ⟨by rw [op, hc, h3, h7]; rfl, hd, ha, hb, rfl, rfl⟩
theorem okdec33 (d a b n : Int) (h : Ok 2 d a b n) : Dec (wd 33 d a b n) 33 d a b n true := by
  obtain ⟨d0, d1, a0, a1, b0, b1, rfl⟩ := ok2 h
  obtain ⟨⟨hc, h3⟩, h7, hd, ha, hb⟩ := ptR 51 4 0 d a b (wd 33 d a b 0) (by decide) (by decide) (by decide) (by decide) (by decide) (by decide) d0 d1 a0 a1 b0 b1 rfl
  exact ⟨by rw [op, hc, h3, h7]; rfl, hd, ha, hb, rfl, rfl⟩
theorem okdec34 (d a b n : Int) (h : Ok 2 d a b n) : Dec (wd 34 d a b n) 34 d a b n true := by
  obtain ⟨d0, d1, a0, a1, b0, b1, rfl⟩ := ok2 h
  obtain ⟨⟨hc, h3⟩, h7, hd, ha, hb⟩ := ptR 51 5 0 d a b (wd 34 d a b 0) (by decide) (by decide) (by decide) (by decide) (by decide) (by decide) d0 d1 a0 a1 b0 b1 rfl
  exact ⟨by rw [op, hc, h3, h7]; rfl, hd, ha, hb, rfl, rfl⟩
theorem okdec35 (d a b n : Int) (h : Ok 2 d a b n) : Dec (wd 35 d a b n) 35 d a b n true := by
  obtain ⟨d0, d1, a0, a1, b0, b1, rfl⟩ := ok2 h
  obtain ⟨⟨hc, h3⟩, h7, hd, ha, hb⟩ := ptR 51 5 32 d a b (wd 35 d a b 0) (by decide) (by decide) (by decide) (by decide) (by decide) (by decide) d0 d1 a0 a1 b0 b1 rfl
  exact ⟨by rw [op, hc, h3, h7]; rfl, hd, ha, hb, rfl, rfl⟩
theorem okdec36 (d a b n : Int) (h : Ok 2 d a b n) : Dec (wd 36 d a b n) 36 d a b n true := by
  obtain ⟨d0, d1, a0, a1, b0, b1, rfl⟩ := ok2 h
  obtain ⟨⟨hc, h3⟩, h7, hd, ha, hb⟩ := ptR 51 6 0 d a b (wd 36 d a b 0) (by decide) (by decide) (by decide) (by decide) (by decide) (by decide) d0 d1 a0 a1 b0 b1 rfl
  exact ⟨by rw [op, hc, h3, h7]; rfl, hd, ha, hb, rfl, rfl⟩
theorem okdec37 (d a b n : Int) (h : Ok 2 d a b n) : Dec (wd 37 d a b n) 37 d a b n true := by
  obtain ⟨d0, d1, a0, a1, b0, b1, rfl⟩ := ok2 h
  obtain ⟨⟨hc, h3⟩, h7, hd, ha, hb⟩ := ptR 51 7 0 d a b (wd 37 d a b 0) (by decide) (by decide) (by decide) (by decide) (by decide) (by decide) d0 d1 a0 a1 b0 b1 rfl
  exact ⟨by rw [op, hc, h3, h7]; rfl, hd, ha, hb, rfl, rfl⟩
theorem okdec38 (d a b n : Int) (h : Ok 2 d a b n) : Dec (wd 38 d a b n) 38 d a b n true := by
  obtain ⟨d0, d1, a0, a1, b0, b1, rfl⟩ := ok2 h
  obtain ⟨⟨hc, h3⟩, h7, hd, ha, hb⟩ := ptR 51 0 1 d a b (wd 38 d a b 0) (by decide) (by decide) (by decide) (by decide) (by decide) (by decide) d0 d1 a0 a1 b0 b1 rfl
  exact ⟨by rw [op, hc, h3, h7]; rfl, hd, ha, hb, rfl, rfl⟩
theorem okdec39 (d a b n : Int) (h : Ok 2 d a b n) : Dec (wd 39 d a b n) 39 d a b n true := by
  obtain ⟨d0, d1, a0, a1, b0, b1, rfl⟩ := ok2 h
  obtain ⟨⟨hc, h3⟩, h7, hd, ha, hb⟩ := ptR 51 1 1 d a b (wd 39 d a b 0) (by decide) (by decide) (by decide) (by decide) (by decide) (by decide) d0 d1 a0 a1 b0 b1 rfl
  exact ⟨by rw [op, hc, h3, h7]; rfl, hd, ha, hb, rfl, rfl⟩
theorem okdec40 (d a b n : Int) (h : Ok 2 d a b n) : Dec (wd 40 d a b n) 40 d a b n true := by
  obtain ⟨d0, d1, a0, a1, b0, b1, rfl⟩ := ok2 h
  obtain ⟨⟨hc, h3⟩, h7, hd, ha, hb⟩ := ptR 51 2 1 d a b (wd 40 d a b 0) (by decide) (by decide) (by decide) (by decide) (by decide) (by decide) d0 d1 a0 a1 b0 b1 rfl
  exact ⟨by rw [op, hc, h3, h7]; rfl, hd, ha, hb, rfl, rfl⟩
theorem okdec41 (d a b n : Int) (h : Ok 2 d a b n) : Dec (wd 41 d a b n) 41 d a b n true := by
  obtain ⟨d0, d1, a0, a1, b0, b1, rfl⟩ := ok2 h
  obtain ⟨⟨hc, h3⟩, h7, hd, ha, hb⟩ := ptR 51 3 1 d a b (wd 41 d a b 0) (by decide) (by decide) (by decide) (by decide) (by decide) (by decide) d0 d1 a0 a1 b0 b1 rfl
  exact ⟨by rw [op, hc, h3, h7]; rfl, hd, ha, hb, rfl, rfl⟩
theorem okdec42 (d a b n : Int) (h : Ok 2 d a b n) : Dec (wd 42 d a b n) 42 d a b n true := by
  obtain ⟨d0, d1, a0, a1, b0, b1, rfl⟩ := ok2 h
  obtain ⟨⟨hc, h3⟩, h7, hd, ha, hb⟩ := ptR 51 4 1 d a b (wd 42 d a b 0) (by decide) (by decide) (by decide) (by decide) (by decide) (by decide) d0 d1 a0 a1 b0 b1 rfl
  exact ⟨by rw [op, hc, h3, h7]; rfl, hd, ha, hb, rfl, rfl⟩
theorem okdec43 (d a b n : Int) (h : Ok 2 d a b n) : Dec (wd 43 d a b n) 43 d a b n true := by
  obtain ⟨d0, d1, a0, a1, b0, b1, rfl⟩ := ok2 h
  obtain ⟨⟨hc, h3⟩, h7, hd, ha, hb⟩ := ptR 51 5 1 d a b (wd 43 d a b 0) (by decide) (by decide) (by decide) (by decide) (by decide) (by decide) d0 d1 a0 a1 b0 b1 rfl
  exact ⟨by rw [op, hc, h3, h7]; rfl, hd, ha, hb, rfl, rfl⟩
theorem okdec44 (d a b n : Int) (h : Ok 2 d a b n) : Dec (wd 44 d a b n) 44 d a b n true := by
  obtain ⟨d0, d1, a0, a1, b0, b1, rfl⟩ := ok2 h
  obtain ⟨⟨hc, h3⟩, h7, hd, ha, hb⟩ := ptR 51 6 1 d a b (wd 44 d a b 0) (by decide) (by decide) (by decide) (by decide) (by decide) (by decide) d0 d1 a0 a1 b0 b1 rfl
  exact ⟨by rw [op, hc, h3, h7]; rfl, hd, ha, hb, rfl, rfl⟩
theorem okdec45 (d a b n : Int) (h : Ok 2 d a b n) : Dec (wd 45 d a b n) 45 d a b n true := by
  obtain ⟨d0, d1, a0, a1, b0, b1, rfl⟩ := ok2 h
  obtain ⟨⟨hc, h3⟩, h7, hd, ha, hb⟩ := ptR 51 7 1 d a b (wd 45 d a b 0) (by decide) (by decide) (by decide) (by decide) (by decide) (by decide) d0 d1 a0 a1 b0 b1 rfl
  exact ⟨by rw [op, hc, h3, h7]; rfl, hd, ha, hb, rfl, rfl⟩
theorem okdec46 (d a b n : Int) (h : Ok 1 d a b n) : Dec (wd 46 d a b n) 46 d a b n true := by
  obtain ⟨rfl, rfl, rfl, rfl⟩ := ok1 h
  exact ⟨rfl, rfl, rfl, rfl, rfl, rfl⟩
theorem okdec47 (d a b n : Int) (h : Ok 1 d a b n) : Dec (wd 47 d a b n) 47 d a b n true := by
  obtain ⟨rfl, rfl, rfl, rfl⟩ := ok1 h
  exact ⟨rfl, rfl, rfl, rfl, rfl, rfl⟩
theorem okdec48 (d a b n : Int) (h : Ok 1 d a b n) : Dec (wd 48 d a b n) 48 d a b n true := by
  obtain ⟨rfl, rfl, rfl, rfl⟩ := ok1 h
  exact ⟨rfl, rfl, rfl, rfl, rfl, rfl⟩
theorem okdec49 (d a b n : Int) (h : Ok 1 d a b n) : Dec (wd 49 d a b n) 49 d a b n true := by
  obtain ⟨rfl, rfl, rfl, rfl⟩ := ok1 h
  exact ⟨rfl, rfl, rfl, rfl, rfl, rfl⟩
theorem okdec50 (d a b n : Int) (h : Ok 9 d a b n) : Dec (wd 50 d a b n) 50 d a b n true := by
  obtain ⟨d0, d1, a0, a1, rfl, n0, n1⟩ := ok9 h
  obtain ⟨⟨hc, h3⟩, hd, ha, hm⟩ := ptI 115 1 d a (n % 4096) (wd 50 d a 0 n) (by decide) (by decide) (by decide) (by decide) d0 d1 a0 a1 (by omega) (by omega) rfl
  exact ⟨by rw [op, hc, h3]; rfl, hd, ha, rfl, hm.trans (by omega), rfl⟩
theorem okdec51 (d a b n : Int) (h : Ok 9 d a b n) : Dec (wd 51 d a b n) 51 d a b n true := by
  obtain ⟨d0, d1, a0, a1, rfl, n0, n1⟩ := ok9 h
  obtain ⟨⟨hc, h3⟩, hd, ha, hm⟩ := ptI 115 2 d a (n % 4096) (wd 51 d a 0 n) (by decide) (by decide) (by decide) (by decide) d0 d1 a0 a1 (by omega) (by omega) rfl
  exact ⟨by rw [op, hc, h3]; rfl, hd, ha, rfl, hm.trans (by omega), rfl⟩
theorem okdec52 (d a b n : Int) (h : Ok 9 d a b n) : Dec (wd 52 d a b n) 52 d a b n true := by
  obtain ⟨d0, d1, a0, a1, rfl, n0, n1⟩ := ok9 h
  obtain ⟨⟨hc, h3⟩, hd, ha, hm⟩ := ptI 115 3 d a (n % 4096) (wd 52 d a 0 n) (by decide) (by decide) (by decide) (by decide) d0 d1 a0 a1 (by omega) (by omega) rfl
  exact ⟨by rw [op, hc, h3]; rfl, hd, ha, rfl, hm.trans (by omega), rfl⟩
theorem okdec53 (d a b n : Int) (h : Ok 10 d a b n) : Dec (wd 53 d a b n) 53 d a b n true := by
  obtain ⟨d0, d1, a0, a1, rfl, n0, n1⟩ := ok10 h
  obtain ⟨⟨hc, h3⟩, hd, ha, hm⟩ := ptI 115 5 d a (n % 4096) (wd 53 d a 0 n) (by decide) (by decide) (by decide) (by decide) d0 d1 a0 a1 (by omega) (by omega) rfl
  exact ⟨by rw [op, hc, h3]; rfl, hd, ha, rfl, hm.trans (by omega), rfl⟩
theorem okdec54 (d a b n : Int) (h : Ok 10 d a b n) : Dec (wd 54 d a b n) 54 d a b n true := by
  obtain ⟨d0, d1, a0, a1, rfl, n0, n1⟩ := ok10 h
  obtain ⟨⟨hc, h3⟩, hd, ha, hm⟩ := ptI 115 6 d a (n % 4096) (wd 54 d a 0 n) (by decide) (by decide) (by decide) (by decide) d0 d1 a0 a1 (by omega) (by omega) rfl
  exact ⟨by rw [op, hc, h3]; rfl, hd, ha, rfl, hm.trans (by omega), rfl⟩
theorem okdec55 (d a b n : Int) (h : Ok 10 d a b n) : Dec (wd 55 d a b n) 55 d a b n true := by
  obtain ⟨d0, d1, a0, a1, rfl, n0, n1⟩ := ok10 h
  obtain ⟨⟨hc, h3⟩, hd, ha, hm⟩ := ptI 115 7 d a (n % 4096) (wd 55 d a 0 n) (by decide) (by decide) (by decide) (by decide) d0 d1 a0 a1 (by omega) (by omega) rfl
  exact ⟨by rw [op, hc, h3]; rfl, hd, ha, rfl, hm.trans (by omega), rfl⟩
theorem ok_in (o d a b n : Int) (h : Ok (fm o) d a b n) : 1 ≤ o ∧ o ≤ 55 := by
  by_cases x : o < 1 ∨ 55 < o
  · exfalso
    have : fm o = 0 := by rw [fm, if_pos x]
    rw [this] at h
    exact ok0 h
  · omega
theorem ok_dec (o d a b n : Int) (h : Ok (fm o) d a b n) : Dec (wd o d a b n) o d a b n true := by
  obtain ⟨h0, h1⟩ := ok_in o d a b n h
  have p : o = 1 ∨ o = 2 ∨ o = 3 ∨ o = 4 ∨ o = 5 ∨ o = 6 ∨ o = 7 ∨ o = 8 ∨ o = 9 ∨ o = 10 ∨ o = 11 ∨ o = 12 ∨ o = 13 ∨ o = 14 ∨ o = 15 ∨ o = 16 ∨ o = 17 ∨ o = 18 ∨ o = 19 ∨ o = 20 ∨ o = 21 ∨ o = 22 ∨ o = 23 ∨ o = 24 ∨ o = 25 ∨ o = 26 ∨ o = 27 ∨ o = 28 ∨ o = 29 ∨ o = 30 ∨ o = 31 ∨ o = 32 ∨ o = 33 ∨ o = 34 ∨ o = 35 ∨ o = 36 ∨ o = 37 ∨ o = 38 ∨ o = 39 ∨ o = 40 ∨ o = 41 ∨ o = 42 ∨ o = 43 ∨ o = 44 ∨ o = 45 ∨ o = 46 ∨ o = 47 ∨ o = 48 ∨ o = 49 ∨ o = 50 ∨ o = 51 ∨ o = 52 ∨ o = 53 ∨ o = 54 ∨ o = 55 := by omega
  clear h0 h1
  rcases p with rfl | rfl | rfl | rfl | rfl | rfl | rfl | rfl | rfl | rfl | rfl | rfl | rfl | rfl | rfl | rfl | rfl | rfl | rfl | rfl | rfl | rfl | rfl | rfl | rfl | rfl | rfl | rfl | rfl | rfl | rfl | rfl | rfl | rfl | rfl | rfl | rfl | rfl | rfl | rfl | rfl | rfl | rfl | rfl | rfl | rfl | rfl | rfl | rfl | rfl | rfl | rfl | rfl | rfl | rfl
  · exact okdec1 d a b n h
  · exact okdec2 d a b n h
  · exact okdec3 d a b n h
  · exact okdec4 d a b n h
  · exact okdec5 d a b n h
  · exact okdec6 d a b n h
  · exact okdec7 d a b n h
  · exact okdec8 d a b n h
  · exact okdec9 d a b n h
  · exact okdec10 d a b n h
  · exact okdec11 d a b n h
  · exact okdec12 d a b n h
  · exact okdec13 d a b n h
  · exact okdec14 d a b n h
  · exact okdec15 d a b n h
  · exact okdec16 d a b n h
  · exact okdec17 d a b n h
  · exact okdec18 d a b n h
  · exact okdec19 d a b n h
  · exact okdec20 d a b n h
  · exact okdec21 d a b n h
  · exact okdec22 d a b n h
  · exact okdec23 d a b n h
  · exact okdec24 d a b n h
  · exact okdec25 d a b n h
  · exact okdec26 d a b n h
  · exact okdec27 d a b n h
  · exact okdec28 d a b n h
  · exact okdec29 d a b n h
  · exact okdec30 d a b n h
  · exact okdec31 d a b n h
  · exact okdec32 d a b n h
  · exact okdec33 d a b n h
  · exact okdec34 d a b n h
  · exact okdec35 d a b n h
  · exact okdec36 d a b n h
  · exact okdec37 d a b n h
  · exact okdec38 d a b n h
  · exact okdec39 d a b n h
  · exact okdec40 d a b n h
  · exact okdec41 d a b n h
  · exact okdec42 d a b n h
  · exact okdec43 d a b n h
  · exact okdec44 d a b n h
  · exact okdec45 d a b n h
  · exact okdec46 d a b n h
  · exact okdec47 d a b n h
  · exact okdec48 d a b n h
  · exact okdec49 d a b n h
  · exact okdec50 d a b n h
  · exact okdec51 d a b n h
  · exact okdec52 d a b n h
  · exact okdec53 d a b n h
  · exact okdec54 d a b n h
  · exact okdec55 d a b n h
/-- what Encode answers -/
structure En (o d a b n v : Int) (g : Bool) : Prop where
  hg : g = true ↔ Ok (fm o) d a b n
  yes : g = true → v = wd o d a b n
  no : g = false → v = 0
theorem En.ex (o d a b n : Int) : ∃ v g, En o d a b n v g := by
  by_cases h : Ok (fm o) d a b n
  · exact ⟨wd o d a b n, true, ⟨fun _ => h, fun _ => rfl⟩, fun _ => rfl, fun x => absurd x (by decide)⟩
  · exact ⟨0, false, ⟨fun x => absurd x (by decide), fun x => absurd x h⟩, fun x => absurd x (by decide), fun _ => rfl⟩
/-- a word that is the instruction's, if it has one, and is decoded: it has one just if it is decoded as itself -/
theorem En.back {o d a b n V o' d' a' b' n' : Int} {g' : Bool} (h : Ok (fm o) d a b n → V = wd o d a b n) (D : Dec V o' d' a' b' n' g') :
    (g' = true ∧ o' = o ∧ d' = d ∧ a' = a ∧ b' = b ∧ n' = n) ↔ Ok (fm o) d a b n := by
  constructor
  · rintro ⟨rfl, rfl, rfl, rfl, rfl, rfl⟩
    exact dec_ok _ _ _ _ _ _ D
  · intro k
    have e := h k
    subst e
    obtain ⟨ho, hd, ha, hb, hn, hg⟩ := D
    obtain ⟨ho', hd', ha', hb', hn', hg'⟩ := ok_dec o d a b n k
    rw [ho'] at ho
    subst ho
    exact ⟨hg.symm.trans hg', rfl, hd.symm.trans hd', ha.symm.trans ha', hb.symm.trans hb', hn.symm.trans hn'⟩
end Go.Proofs.YtlnliiihcajboaaDoor.Num
