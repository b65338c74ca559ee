/- Numbers of a store of checkpoints: a copy's 39 words, what the words are behind a Put and a Get of each, what a Load tells. -/
import Derived.Test.YtfhijdnbhbonpaaDoorArr
namespace Go.Proofs.YtfhijdnbhbonpaaDoor.Walks
open Go.RowKit
set_option linter.unusedVariables false
/-- what is told of word i -/
def vw (ws : Nat → Nat) (i : Nat) : Nat := Num.mendW (ws i) % 4294967296
theorem vw_lt (ws : Nat → Nat) (i : Nat) : vw ws i < 4294967296 := Nat.mod_lt _ (by decide)
/-- the mark behind a number -/
def mk (z : Nat) : Nat := 1526595584 + z % 65536
theorem mk_lt (z : Nat) : mk z < 4294967296 := by unfold mk; omega
/-- a number as it is held -/
def num (n : Int) : Nat := (min (max n 0) 2147483647).toNat
theorem num_lt (n : Int) : num n < 2147483648 := by unfold num; omega
/-- a copy's words -/
def pnt (pc : Nat) (rs cs : Nat → Nat) (z : Nat) (i : Nat) : Nat :=
  if i = 0 then pc else if i < 32 then rs i else if i < 37 then cs (i - 32) else if i = 37 then z else mk z
theorem pnt_lt {pc : Nat} {rs cs : Nat → Nat} {z : Nat} (h0 : pc < 4294967296) (h1 : ∀ i, i < 32 → rs i < 4294967296) (h2 : ∀ i, i < 5 → cs i < 4294967296) (h3 : z < 4294967296) (i : Nat) : pnt pc rs cs z i < 4294967296 := by
  unfold pnt
  split
  · exact h0
  · split
    · exact h1 _ (by omega)
    · split
      · exact h2 _ (by omega)
      · split
        · exact h3
        · exact mk_lt z
/-- the words behind k Puts from word b on -/
def ptK (ws : Nat → Nat) (b : Nat) (p : Nat → Nat) : Nat → Nat → Nat
  | 0 => ws
  | k + 1 => ptW 79 (ptK ws b p k) ((b + k : Nat) : Int) (p k)
/-- the words behind k Gets from word b on, and how many were mended -/
def gtK (ws : Nat → Nat) (b : Nat) : Nat → Nat → Nat
  | 0 => ws
  | k + 1 => gtW 79 (gtK ws b k) ((b + k : Nat) : Int)
def gtKF (ws : Nat → Nat) (b f : Nat) : Nat → Nat
  | 0 => f
  | k + 1 => gtF 79 (gtK ws b k) (gtKF ws b f k) ((b + k : Nat) : Int)
/-- what k Gets from word b on tell -/
def gtV (ws : Nat → Nat) (b : Nat) (i : Nat) : Nat := vw ws (b + i)
/-- is one of these k words Bad -/
def gtBad (ws : Nat → Nat) (b : Nat) : Nat → Bool
  | 0 => false
  | k + 1 => gtBad ws b k || Num.mendS (ws (b + k)) == 2
/-- can the copy at b be read -/
def gok (ws : Nat → Nat) (b : Nat) : Bool := !gtBad ws b 39 && gtV ws b 38 == mk (gtV ws b 37)
theorem gtW_off (n : Nat) (ws : Nat → Nat) (i : Int) (j : Nat) (h : (j : Int) ≠ i) : gtW n ws i j = ws j := by
  unfold gtW
  split
  · rename_i g
    rw [upd_off _ _ _ _ (fun e => h (by
      rcases inB_cases n i with ⟨q, _⟩ | ⟨_, k, rfl, _⟩
      · rw [q] at g; simp at g
      · rw [Int.toNat_natCast] at e; omega))]
  · rfl
theorem gtK_off (ws : Nat → Nat) (b j : Nat) : ∀ k, (j < b ∨ b + k ≤ j) → gtK ws b k j = ws j
  | 0, _ => rfl
  | k + 1, h => by
    have ih := gtK_off ws b j k (by omega)
    show gtW 79 (gtK ws b k) _ j = _
    rw [gtW_off _ _ _ _ (by omega), ih]
theorem gtKF_le (ws : Nat → Nat) (b f : Nat) : ∀ k, gtKF ws b f k ≤ f + k
  | 0 => Nat.le_refl _
  | k + 1 => by
    have ih := gtKF_le ws b f k
    have : gtKF ws b f (k + 1) ≤ gtKF ws b f k + 1 := by show gtF _ _ _ _ ≤ _; unfold gtF; split <;> omega
    omega
theorem gtF_le1 (n : Nat) (ws : Nat → Nat) (f : Nat) (i : Int) : gtF n ws f i ≤ f + 1 := by unfold gtF; split <;> omega
theorem pkV_is {n : Nat} (ws : Nat → Nat) {i : Nat} (h : i < n) : pkV n ws (i : Int) = vw ws i := by
  unfold pkV
  rw [inB_yes (by omega) (by omega), if_pos rfl, Int.toNat_natCast]; rfl
theorem pkS_is {n : Nat} (ws : Nat → Nat) {i : Nat} (h : i < n) : pkS n ws (i : Int) = Num.mendS (ws i) := by
  unfold pkS
  rw [inB_yes (by omega) (by omega), if_pos rfl, Int.toNat_natCast]
theorem gtK_V (ws : Nat → Nat) (b k : Nat) (h : b + k < 79) : pkV 79 (gtK ws b k) ((b + k : Nat) : Int) = gtV ws b k := by
  rw [pkV_is _ h]; unfold vw gtV vw; rw [gtK_off ws b (b + k) k (by omega)]
theorem gtK_S (ws : Nat → Nat) (b k : Nat) (h : b + k < 79) : pkS 79 (gtK ws b k) ((b + k : Nat) : Int) = Num.mendS (ws (b + k)) := by
  rw [pkS_is _ h, gtK_off ws b (b + k) k (by omega)]
/-- which copy is the latest, and can that be told -/
def lat (ws : Nat → Nat) : Nat := vw ws 78 % 2
theorem lat_le (ws : Nat → Nat) : lat ws ≤ 1 := by unfold lat; omega
def knw (ws : Nat → Nat) : Bool := !(Num.mendS (ws 78) == 2)
/-- the words behind a Get of word 78, how many were mended -/
def ws1 (ws : Nat → Nat) : Nat → Nat := gtW 79 ws 78
def f1 (ws : Nat → Nat) (f : Nat) : Nat := gtF 79 ws f 78
theorem f1_le (ws : Nat → Nat) (f : Nat) : f1 ws f ≤ f + 1 := gtF_le1 _ _ _ _
/-- the words behind a Save -/
def svW (ws : Nat → Nat) (p : Nat → Nat) : Nat → Nat := ptW 79 (ptK (ws1 ws) (39 * (1 - lat ws)) p 39) 78 (1 - lat ws)
/-- the words behind a Load: of the latest copy, of the other one -/
def ldA (ws : Nat → Nat) : Nat → Nat := gtK (ws1 ws) (39 * lat ws) 39
def fdA (ws : Nat → Nat) (f : Nat) : Nat := gtKF (ws1 ws) (39 * lat ws) (f1 ws f) 39
def ldB (ws : Nat → Nat) : Nat → Nat := gtK (ldA ws) (39 * (1 - lat ws)) 39
def fdB (ws : Nat → Nat) (f : Nat) : Nat := gtKF (ldA ws) (39 * (1 - lat ws)) (fdA ws f) 39
/-- does the latest copy do -/
def ld1 (ws : Nat → Nat) : Bool := gok (ws1 ws) (39 * lat ws)
def ld2 (ws : Nat → Nat) : Bool := gok (ldA ws) (39 * (1 - lat ws))
def ldW (ws : Nat → Nat) : Nat → Nat := if ld1 ws then ldA ws else ldB ws
def ldF (ws : Nat → Nat) (f : Nat) : Nat := if ld1 ws then fdA ws f else fdB ws f
/-- is there a checkpoint that is told; its words -/
def ldV (ws : Nat → Nat) : Bool := (ld1 ws || ld2 ws) && knw ws
def ldC (ws : Nat → Nat) (i : Nat) : Nat := if ld1 ws then gtV (ws1 ws) (39 * lat ws) i else gtV (ldA ws) (39 * (1 - lat ws)) i
theorem fdA_le (ws : Nat → Nat) (f : Nat) : fdA ws f ≤ f + 40 := by
  have := gtKF_le (ws1 ws) (39 * lat ws) (f1 ws f) 39
  have := f1_le ws f
  unfold fdA; omega
theorem fdB_le (ws : Nat → Nat) (f : Nat) : fdB ws f ≤ f + 79 := by
  have := gtKF_le (ldA ws) (39 * (1 - lat ws)) (fdA ws f) 39
  have := fdA_le ws f
  unfold fdB; omega
theorem ldF_le (ws : Nat → Nat) (f : Nat) : ldF ws f ≤ f + 79 := by
  have := fdA_le ws f
  have := fdB_le ws f
  unfold ldF; split <;> omega
/-- what a Load tells: PC, registers, CSRs, the number -/
def tP (ws : Nat → Nat) : Nat := if ldV ws then ldC ws 0 else 0
def tR (ws : Nat → Nat) (i : Nat) : Nat := if ldV ws then (if 1 ≤ i ∧ i ≤ 31 then ldC ws i else 0) else 0
def tC (ws : Nat → Nat) (i : Nat) : Nat := if ldV ws then ldC ws (32 + i) else 0
def tN (ws : Nat → Nat) : Nat := if ldV ws then ldC ws 37 else 0
theorem gtV_lt (ws : Nat → Nat) (b i : Nat) : gtV ws b i < 4294967296 := vw_lt _ _
theorem ldC_lt (ws : Nat → Nat) (i : Nat) : ldC ws i < 4294967296 := by unfold ldC; split <;> exact gtV_lt _ _ _
end Go.Proofs.YtfhijdnbhbonpaaDoor.Walks
