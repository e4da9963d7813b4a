/- Contracts of the functions that the statements reach, part 1: what was proved of each, callees first. -/
import Derived.Test.YthndbonfcdphgaaDoorProg
import Derived.WalkKit
import Derived.WalkSpells
import Derived.Lib.Hide
import Derived.Deep.QuietTactic
import Derived.BigQuiet
import Derived.Deep.Draws
import Derived.Laws.Rows
import Derived.Laws.CopyOwn
import Derived.Deep.OwnRows
import Derived.Outline
import Derived.Lib.ItoaNum
import Derived.Shelf.Strings.Builder1
import Derived.Shelf.Strings.Builder2
import Derived.Shelf.Strings.Trim
import Derived.Shelf.Small.Utf8
import Derived.Shelf.Small.Strs
import Derived.Shelf.Small.Wraps
import Derived.Shelf.Strings.BuilderF
import Derived.Shelf.Strings.BuilderK
import Derived.Shelf.Strings.Builder2Cap
import Derived.Shelf.Strconv.Atoi
import Derived.Shelf.Strconv.Itoa0
import Derived.Shelf.Strconv.Itoa1
import Derived.Shelf.LaysM
import Derived.Shelf.Strconv.Itoa2
import Derived.Shelf.Strconv.Itoa3
import Derived.Shelf.Strconv.AtoiErrFast
import Derived.Shelf.Strconv.ParseIntEmpty
import Derived.Shelf.Strconv.AtoiFail
import Derived.Shelf.Strconv.Clone
import Derived.Shelf.Strconv.SyntaxError
import Derived.Shelf.LaysC
import Derived.Shelf.Strconv.ToError
import Derived.Shelf.Strconv.AtoiErr
import Derived.Shelf.Strconv.ErrVar
import Derived.Shelf.Strconv.Lower
import Derived.Shelf.Strconv.ParseUint10
import Derived.Shelf.Strconv.ParseUint10Empty
import Derived.Shelf.Strconv.ParseUint10Any
import Derived.Shelf.Strconv.ParseInt10
import Derived.Shelf.Strconv.AtoiLong
import Derived.Shelf.Strconv.AtoiInnerAll
import Derived.Shelf.Strconv.RangeError
import Derived.Shelf.Strconv.ToErrorRange
import Derived.Shelf.Strconv.AtoiAll
import Derived.Shelf.Strconv.ErrVarAll
import Derived.Shelf.Strings.Search1
import Derived.Shelf.Strings.Search2
import Derived.Shelf.Strings.Cut
import Derived.Shelf.Strings.Shaped
import Derived.Shelf.Strings.Prefix
import Derived.Shelf.Strings.Runes
import Derived.Shelf.Strings.IndexAny
import Derived.Shelf.Strings.AsciiSet
import Derived.Shelf.Strings.IndexAnyAll
import Derived.Shelf.Bits.Mul64
import Derived.Shelf.Strings.Repeat
import Derived.Shelf.Unicode.DecodeSlow
import Derived.Shelf.Strings.BuilderCap
import Derived.Lib.AppendIntMem
import Derived.Lib.ItoaLen
import Derived.Shelf.Strings.SlTrimAscii
import Derived.Lib.AtoiErrMem
import Derived.LoopTactic
import Derived.Laws.BytesString
import Derived.Laws.Cells
import Derived.WideShapes
import Derived.WalkLawsBesides
import Derived.Test.YthndbonfcdphgaaDoorRows
import Derived.Handed
import Derived.ProofKit
import Derived.LaidMore
import Derived.Lay
import Derived.OpenShut
import Derived.Stop.Joined
import Derived.ChangeSame
import Derived.Lib.LaidTab
import Derived.ChangeSlices
import Derived.Carry
namespace Go.Proofs.YthndbonfcdphgaaDoor
open Go.RowKit
section
variable {k : IntKind} {t : TypeId} {w w' : World} {b o g B : Nat} {L : List Nat}
end
section
variable {k : IntKind} {t : TypeId} {w w' : World} {g B B' c : Nat} {A : Option Addr} {L : List Nat}
end
theorem quiet_one {P : Program} {f : FuncId} {args : Array Value} {w : World} {n : Nat} {v : Value}
  (h : ∀ W : World, Calls P f args W fun e w' => e = .returned v ∧ ∃ m, w' = W.drewN m) :
  Calls P f args (w.drewN n) fun e w'' => e = .returned v ∧ ∃ m, w'' = w.drewN m :=
 (h _).mono fun _ _ ⟨he, m, hm⟩ => ⟨he, n + m, by rw [hm, World.drewN_drewN]⟩
theorem same_quiet {P : Program} {f : FuncId} {args : Array Value} {v : Value} (h : ∀ W : World, Calls P f args W fun e w' => e = .returned v ∧ W = w') :
  ∀ W : World, Calls P f args W fun e w' => e = .returned v ∧ ∃ m, w' = W.drewN m := fun W => (h W).mono fun _ _ ⟨he, hw⟩ => ⟨he, 0, by rw [← hw]; rfl⟩
theorem below_drewN {B : Nat} {a w : World} (h : Below B a w) (n : Nat) : Below B a (w.drewN n) := ⟨h.os, h.tape, h.output, h.size, h.block⟩
open Go.Lib (decDigits)
def padk : Nat → Nat → List UInt8
 | 0, _ => []
 | k + 1, r => padk k (r / 10) ++ [UInt8.ofNat (48 + r % 10)]
theorem dec_pad (k q r : Nat) (hq : 0 < q) (hr : r < 10 ^ k) : decDigits (q * 10 ^ k + r) = decDigits q ++ padk k r := by
 induction k generalizing r with
 | zero => simp at hr; subst hr; simp [padk]
 | succ k ih =>
  have e : q * 10 ^ (k + 1) = 10 * (q * 10 ^ k) := by rw [Nat.pow_succ]; rw [← Nat.mul_assoc, Nat.mul_comm]
  have hp : 0 < 10 ^ k := Nat.pow_pos (by omega)
  have hge : 1 ≤ q * 10 ^ k := Nat.mul_pos hq hp
  rw [decDigits, dif_neg (by omega), e]
  have e1 : (10 * (q * 10 ^ k) + r) / 10 = q * 10 ^ k + r / 10 := by omega
  have e2 : (10 * (q * 10 ^ k) + r) % 10 = r % 10 := by omega
  rw [Nat.pow_succ] at hr
  rw [e1, e2, ih (r / 10) (by omega), padk, List.append_assoc]
theorem dec_small {d : Nat} (h : d < 10) : decDigits d = [UInt8.ofNat (48 + d)] := by rw [decDigits, dif_pos h]
end Go.Proofs.YthndbonfcdphgaaDoor
namespace Go.Proofs
open Go.Shelf
def Tryd.laysM246_ren : Go.Shelf.Ren := ⟨fun | 246 => 69 | 283 => 86 | 284 => 87 | 285 => 88 | 286 => 89 | 129 => 116 | 317 => 115 | 318 => 117 | 319 => 118 | 320 => 119 | 337 => 130 | 338 => 131 | n => n, fun | 2 => 2 | 3 => 3 | 9 => 9 | 4 => 4 | 171 => 92 | 0 => 0 | 53 => 88 | 37 => 55 | 5 => 5 | 173 => 95 | 212 => 117 | 51 => 35 | 20 => 20 | 213 => 118 | 46 => 61 | 232 => 130 | 233 => 131 | n => n, fun | 17 => 3 | 18 => 4 | 19 => 5 | n => n⟩
def Tryd.laysM243_ren : Go.Shelf.Ren := ⟨fun | 243 => 51 | 246 => 69 | 283 => 86 | 284 => 87 | 285 => 88 | 286 => 89 | 129 => 116 | 317 => 115 | 318 => 117 | 319 => 118 | 320 => 119 | 337 => 130 | 338 => 131 | n => n, fun | 3 => 3 | 9 => 9 | 2 => 2 | 4 => 4 | 171 => 92 | 0 => 0 | 53 => 88 | 37 => 55 | 5 => 5 | 173 => 95 | 212 => 117 | 51 => 35 | 20 => 20 | 213 => 118 | 46 => 61 | 232 => 130 | 233 => 131 | n => n, fun | 17 => 3 | 18 => 4 | 19 => 5 | n => n⟩
def Tryd.laysM171_ren : Go.Shelf.Ren := ⟨fun | 171 => 37 | 243 => 51 | 246 => 69 | 283 => 86 | 284 => 87 | 285 => 88 | 286 => 89 | 129 => 116 | 317 => 115 | 318 => 117 | 319 => 118 | 320 => 119 | 337 => 130 | 338 => 131 | n => n, fun | 3 => 3 | 9 => 9 | 2 => 2 | 4 => 4 | 171 => 92 | 0 => 0 | 53 => 88 | 37 => 55 | 5 => 5 | 173 => 95 | 212 => 117 | 51 => 35 | 20 => 20 | 213 => 118 | 46 => 61 | 232 => 130 | 233 => 131 | n => n, fun | 17 => 3 | 18 => 4 | 19 => 5 | n => n⟩
theorem Tryd.laysM171 : Go.Proofs.LaysM.n171 Tryd.prog Tryd.laysM171_ren := {
 mixed := by kernel_rfl
 f129 := Tryd.func116.trans (congrArg some (by kernel_rfl))
 f171 := Tryd.func37.trans (congrArg some (by kernel_rfl))
 f243 := Tryd.func51.trans (congrArg some (by kernel_rfl))
 f246 := Tryd.func69.trans (congrArg some (by kernel_rfl))
 f283 := Tryd.func86.trans (congrArg some (by kernel_rfl))
 f284 := Tryd.func87.trans (congrArg some (by kernel_rfl))
 f285 := Tryd.func88.trans (congrArg some (by kernel_rfl))
 f286 := Tryd.func89.trans (congrArg some (by kernel_rfl))
 f317 := Tryd.func115.trans (congrArg some (by kernel_rfl))
 f318 := Tryd.func117.trans (congrArg some (by kernel_rfl))
 f319 := Tryd.func118.trans (congrArg some (by kernel_rfl))
 f320 := Tryd.func119.trans (congrArg some (by kernel_rfl))
 f337 := Tryd.func130.trans (congrArg some (by kernel_rfl))
 f338 := Tryd.func131.trans (congrArg some (by kernel_rfl))
 t0 := Tryd.underlying0
 a0 := Tryd.isAgg0
 z0 := Tryd.sizeOf0
 v0 := Tryd.zeroValue0
 t2 := Tryd.underlying2
 a2 := Tryd.isAgg2
 z2 := Tryd.sizeOf2
 v2 := Tryd.zeroValue2
 t3 := Tryd.underlying3
 a3 := Tryd.isAgg3
 z3 := Tryd.sizeOf3
 v3 := Tryd.zeroValue3
 t4 := Tryd.underlying4
 a4 := Tryd.isAgg4
 z4 := Tryd.sizeOf4
 v4 := Tryd.zeroValue4
 t5 := Tryd.underlying5
 a5 := Tryd.isAgg5
 z5 := Tryd.sizeOf5
 v5 := Tryd.zeroValue5
 t9 := Tryd.underlying9
 a9 := Tryd.isAgg9
 z9 := Tryd.sizeOf9
 v9 := Tryd.zeroValue9
 t20 := Tryd.underlying20
 a20 := Tryd.isAgg20
 z20 := Tryd.sizeOf20
 v20 := Tryd.zeroValue20
 t37 := Tryd.underlying55
 a37 := Tryd.isAgg55
 z37 := Tryd.sizeOf55
 v37 := Tryd.zeroValue55
 t46 := Tryd.underlying61
 a46 := Tryd.isAgg61
 z46 := Tryd.sizeOf61
 v46 := Tryd.zeroValue61
 t51 := Tryd.underlying35
 a51 := Tryd.isAgg35
 z51 := Tryd.sizeOf35
 v51 := Tryd.zeroValue35
 t53 := Tryd.underlying88
 a53 := Tryd.isAgg88
 z53 := Tryd.sizeOf88
 v53 := Tryd.zeroValue88
 t171 := Tryd.underlying92
 a171 := Tryd.isAgg92
 z171 := Tryd.sizeOf92
 v171 := Tryd.zeroValue92
 t173 := Tryd.underlying95
 a173 := Tryd.isAgg95
 z173 := Tryd.sizeOf95
 v173 := Tryd.zeroValue95
 t212 := Tryd.underlying117
 a212 := Tryd.isAgg117
 z212 := Tryd.sizeOf117
 v212 := Tryd.zeroValue117
 t213 := Tryd.underlying118
 a213 := Tryd.isAgg118
 z213 := Tryd.sizeOf118
 t232 := Tryd.underlying130
 a232 := Tryd.isAgg130
 z232 := Tryd.sizeOf130
 v232 := Tryd.zeroValue130
 t233 := Tryd.underlying131
 a233 := Tryd.isAgg131
 z233 := Tryd.sizeOf131
 v233 := Tryd.zeroValue131
 g17 := by kernel_rfl
 g18 := by kernel_rfl
 g19 := by kernel_rfl
 i0 := by kernel_rfl
 i2 := by kernel_rfl
 i3 := by kernel_rfl
 i4 := by kernel_rfl
 i5 := by kernel_rfl
 i9 := by kernel_rfl
 i20 := by kernel_rfl
 i37 := by kernel_rfl
 i46 := by kernel_rfl
 i51 := by kernel_rfl
 i53 := by kernel_rfl
 i171 := by kernel_rfl
 i173 := by kernel_rfl
 i212 := by kernel_rfl
 i232 := by kernel_rfl
 i233 := by kernel_rfl
 m17 := by kernel_rfl
 m18 := by kernel_rfl
 m19 := by kernel_rfl }
open Go.RowKit Go.Sort Go.Lib in
theorem Tryd.strconv_Itoa (n : Int) (h0 : -9223372036854775808 ≤ n) (h1 : n ≤ 9223372036854775807) (w : World) (htab : Lib.TabIs Tryd.prog w "internal/strconv.uint64pow10" .u64 Lib.pow10Tab) :
  Calls Tryd.prog 37 #[.int .i64 n] w fun e w' => e = .returned (.string ⟨(Lib.itoa n).toArray⟩) ∧ ∃ k os, w' = grow (w.drewN k) os := Any.strconv_Itoa Tryd.laysM171 n h0 h1 w htab
end Go.Proofs
namespace Go.Proofs.YthndbonfcdphgaaDoor
open Go.RowKit
theorem below_more {W w w' : World} (h : Below W.heap.size W w) (hb : Below w.heap.size w w') : Below W.heap.size W w' := h.trans (hb.mono h.size)
abbrev DTab (B : Nat) (w : World) : Prop := Lib.TabBelow Tryd.prog B w "internal/strconv.uint64pow10" .u64 Lib.pow10Tab
theorem DTab.up {w w' : World} (h : DTab w.heap.size w) (hb : Below w.heap.size w w') : DTab w'.heap.size w' := fun w2 h2 => h w2 (hb.trans (h2.mono hb.size))
theorem itoa_any (n : Int) (h0 : -9223372036854775808 ≤ n) (h1 : n ≤ 9223372036854775807) (w : World) (ht : DTab w.heap.size w) :
  Calls Tryd.prog 37 #[.int .i64 n] w fun e w' => e = .returned (.string ⟨(Lib.itoa n).toArray⟩) ∧ Below w.heap.size w w' := by
 refine (Tryd.strconv_Itoa n h0 h1 w ht.here).mono ?_
 rintro e w' ⟨he, k, os, rfl⟩
 exact ⟨he, Lib.below_grow _ _ (Nat.le_refl _) _ _⟩
theorem bytes_eq {a b : ByteArray} (h : a.data.toList = b.data.toList) : a = b := by
 cases a; cases b; congr; exact Array.toList_inj.1 h
theorem dret_str {a b : ByteArray} (h : a = b) : Ending.returned (.string a) = .returned (.string b) := by rw [h]
def amtB (n : Int) : Bool := decide (-1000000000000 ≤ n) && decide (n ≤ 1000000000000)
theorem amtB_is {n : Int} (h : amtB n = true) : -1000000000000 ≤ n ∧ n ≤ 1000000000000 := by simpa [amtB] using h
theorem amtB_mk {n : Int} (h1 : -1000000000000 ≤ n) (h2 : n ≤ 1000000000000) : amtB n = true := by simp [amtB, h1, h2]
theorem amtB_no {n : Int} (h : n < -1000000000000 ∨ 1000000000000 < n) : amtB n = false := by
 unfold amtB
 rcases h with h | h
 ·rw [decide_eq_false (by omega)]; rfl
 ·rw [decide_eq_false (show ¬ n ≤ 1000000000000 by omega), Bool.and_false]
def hr (a b : Int) : Int := if a < 0 then -((2 * -a + b) / (2 * b)) else (2 * a + b) / (2 * b)
theorem hr_zero {b : Int} (hb : 0 < b) : hr 0 b = 0 := by
 unfold hr
 rw [if_neg (by omega), Int.mul_zero, Int.zero_add]
 exact Int.ediv_eq_zero_of_lt (by omega) (by omega)
theorem hr_pos {a b : Int} (ha : 0 ≤ a) : hr a b = (2 * a + b) / (2 * b) := by unfold hr; rw [if_neg (by omega)]
theorem hr_neg {a b : Int} (hb : 0 < b) : hr (-a) b = -hr a b := by
 by_cases h0 : a = 0
 ·subst h0; rw [Int.neg_zero, hr_zero hb]; rfl
 ·by_cases h : a < 0
  ·unfold hr; rw [if_neg (by omega), if_pos h, Int.neg_neg]
  ·unfold hr; rw [if_pos (by omega), if_neg h, Int.neg_neg]
theorem hr_near0 {a b : Int} (ha : 0 ≤ a) (hb : 0 < b) : -b < 2 * (hr a b * b - a) ∧ 2 * (hr a b * b - a) ≤ b ∧ 0 ≤ hr a b := by
 rw [hr_pos ha]
 have h1 : 2 * b * ((2 * a + b) / (2 * b)) + (2 * a + b) % (2 * b) = 2 * a + b := Int.mul_ediv_add_emod _ _
 have h2 : 0 ≤ (2 * a + b) % (2 * b) := Int.emod_nonneg _ (by omega)
 have h3 : (2 * a + b) % (2 * b) < 2 * b := Int.emod_lt_of_pos _ (by omega)
 have h4 : 0 ≤ (2 * a + b) / (2 * b) := Int.ediv_nonneg (by omega) (by omega)
 generalize (2 * a + b) / (2 * b) = q at *
 generalize (2 * a + b) % (2 * b) = r at *
 have e : 2 * b * q = 2 * (q * b) := by rw [Int.mul_assoc, Int.mul_comm b q]
 refine ⟨by omega, by omega, h4⟩
theorem hr_near {a b : Int} (hb : 0 < b) : -b ≤ 2 * (hr a b * b - a) ∧ 2 * (hr a b * b - a) ≤ b := by
 by_cases ha : 0 ≤ a
 ·have := hr_near0 ha hb; omega
 ·obtain ⟨c, rfl⟩ : ∃ c, a = -c := ⟨-a, by omega⟩
  have := hr_near0 (a := c) (by omega) hb
  rw [hr_neg hb, Int.neg_mul]
  omega
theorem hr_uniq {a b q : Int} (ha : 0 ≤ a) (hb : 0 < b) (h1 : -b < 2 * (q * b - a)) (h2 : 2 * (q * b - a) ≤ b) : hr a b = q := by
 have h := hr_near0 ha hb
 have h3 : (hr a b - q) * b < 1 * b := by rw [Int.sub_mul]; omega
 have h4 : (q - hr a b) * b < 1 * b := by rw [Int.sub_mul]; omega
 have h5 := Int.lt_of_mul_lt_mul_right h3 (by omega)
 have h6 := Int.lt_of_mul_lt_mul_right h4 (by omega)
 omega
theorem hr_mono {a c b : Int} (hb : 0 < b) (h : a ≤ c) : hr a b ≤ hr c b := by
 have key : ∀ a c : Int, 0 ≤ a → a ≤ c → hr a b ≤ hr c b := fun a c h0 h => by
  rw [hr_pos h0, hr_pos (by omega)]
  exact Int.ediv_le_ediv (by omega) (by omega)
 by_cases h0 : 0 ≤ a
 ·exact key a c h0 h
 ·by_cases h1 : 0 ≤ c
  ·have e1 := hr_near0 (a := -a) (b := b) (by omega) hb
   have e2 := hr_near0 h1 hb
   rw [hr_neg hb] at e1
   omega
  ·have := key (-c) (-a) (by omega) (by omega)
   rw [hr_neg hb, hr_neg hb] at this
   omega
theorem hr_add {k r b : Int} (hk : 0 ≤ k) (hr0 : 0 ≤ r) (hb : 0 < b) : hr (k * b + r) b = k + hr r b := by
 have h := hr_near0 hr0 hb
 have : 0 ≤ k * b := Int.mul_nonneg hk (by omega)
 refine hr_uniq (by omega) hb ?_ ?_ <;> rw [Int.add_mul] <;> omega
theorem hr_le {a b n : Int} (hb : 0 < b) (h1 : -n ≤ a) (h2 : a ≤ n) : -n ≤ hr a b ∧ hr a b ≤ n := by
 have key : ∀ a : Int, 0 ≤ a → hr a b ≤ a := fun a h0 => by
  rw [hr_pos h0]
  by_cases hz : a = 0
  ·subst hz; rw [Int.mul_zero, Int.zero_add]; exact Int.le_of_eq (Int.ediv_eq_zero_of_lt (by omega) (by omega))
  ·refine Int.le_of_lt_add_one (Int.ediv_lt_of_lt_mul (by omega) ?_)
   have e : a * 1 ≤ a * b := Int.mul_le_mul_of_nonneg_left (by omega) h0
   rw [Int.add_mul, show a * (2 * b) = 2 * (a * b) by rw [Int.mul_left_comm]]
   omega
 by_cases ha : 0 ≤ a
 ·have := hr_near0 ha hb; have := key a ha; omega
 ·have h3 := hr_near0 (a := -a) (b := b) (by omega) hb
  have h4 := key (-a) (by omega)
  rw [hr_neg hb] at h3 h4
  omega
theorem hr_split {n num den : Int} (hnum : 0 ≤ num) (hden : 0 < den) : hr (n * num) den = n * (num / den) + hr (n * (num % den)) den := by
 have h1 : den * (num / den) + num % den = num := Int.mul_ediv_add_emod _ _
 have h2 : 0 ≤ num % den := Int.emod_nonneg _ (by omega)
 have h4 : 0 ≤ num / den := Int.ediv_nonneg hnum (by omega)
 have key : ∀ n : Int, 0 ≤ n → hr (n * num) den = n * (num / den) + hr (n * (num % den)) den := fun n h0 => by
  rw [← hr_add (Int.mul_nonneg h0 h4) (Int.mul_nonneg h0 h2) hden]
  congr 1
  rw [Int.mul_assoc, Int.mul_comm (num / den), ← Int.mul_add, h1]
 by_cases h0 : 0 ≤ n
 ·exact key n h0
 ·obtain ⟨c, rfl⟩ : ∃ c, n = -c := ⟨-n, by omega⟩
  rw [Int.neg_mul, hr_neg hden, key c (by omega), Int.neg_mul, Int.neg_mul, hr_neg hden, Int.neg_add]
def amV (x : Int) : Int := if amtB x = true then x else 0
def amE (x : Int) : Int := if amtB x = true then 0 else 2
theorem hr_far {n num den M : Int} (hnum : 0 ≤ num) (hden : 0 < den) (_hM : 0 ≤ M) (hq : 0 < num / den) (h : M / (num / den) < (n.natAbs : Int)) : hr (n * num) den < -M ∨ M < hr (n * num) den := by
 have h2 : 0 ≤ num % den := Int.emod_nonneg _ (by omega)
 have key : ∀ n : Int, 0 ≤ n → M / (num / den) < n → M < hr (n * num) den := fun n h0 h => by
  rw [hr_split hnum hden]
  have h3 := (hr_near0 (Int.mul_nonneg h0 h2) hden).2.2
  have h4 : M < n * (num / den) := (Int.ediv_lt_iff_lt_mul hq).1 h
  omega
 by_cases h0 : 0 ≤ n
 ·right; exact key n h0 (by omega)
 ·left
  have := key (-n) (by omega) (by omega)
  rw [Int.neg_mul, hr_neg hden] at this
  omega
theorem whole_le {n q M : Int} (hM : 0 ≤ M) (hq : 0 < q) (h : ¬ M / q < (n.natAbs : Int)) : -M ≤ n * q ∧ n * q ≤ M := by
 have key : ∀ n : Int, 0 ≤ n → n ≤ M / q → n * q ≤ M := fun n h0 h => (Int.le_ediv_iff_mul_le hq).1 h
 by_cases h0 : 0 ≤ n
 ·have := key n h0 (by omega)
  have := Int.mul_nonneg h0 (show 0 ≤ q by omega)
  omega
 ·have h1 := key (-n) (by omega) (by omega)
  have h2 := Int.mul_nonneg (show 0 ≤ -n by omega) (show 0 ≤ q by omega)
  rw [Int.neg_mul] at h1 h2
  omega
theorem hr_tdiv {a b : Int} (hb : 0 < b) : hr a b = if b ≤ 2 * a.tmod b then a.tdiv b + 1 else if 2 * a.tmod b ≤ -b then a.tdiv b - 1 else a.tdiv b := by
 have key : ∀ a : Int, 0 ≤ a → hr a b = if b ≤ 2 * (a % b) then a / b + 1 else a / b := fun a h0 => by
  have h1 : b * (a / b) + a % b = a := Int.mul_ediv_add_emod a b
  have h2 : 0 ≤ a % b := Int.emod_nonneg _ (by omega)
  have h3 : a % b < b := Int.emod_lt_of_pos _ hb
  rw [Int.mul_comm] at h1
  by_cases h : b ≤ 2 * (a % b)
  ·rw [if_pos h]; refine hr_uniq h0 hb ?_ ?_ <;> rw [Int.add_mul] <;> omega
  ·rw [if_neg h]; refine hr_uniq h0 hb ?_ ?_ <;> omega
 by_cases h0 : 0 ≤ a
 ·have h2 : 0 ≤ a % b := Int.emod_nonneg _ (by omega)
  rw [Int.tdiv_eq_ediv_of_nonneg h0, Int.tmod_eq_emod_of_nonneg h0, key a h0]
  by_cases h : b ≤ 2 * (a % b)
  ·rw [if_pos h, if_pos h]
  ·rw [if_neg h, if_neg h, if_neg (by omega)]
 ·obtain ⟨c, rfl⟩ : ∃ c, a = -c := ⟨-a, by omega⟩
  have h2 : 0 ≤ c % b := Int.emod_nonneg _ (by omega)
  rw [Int.neg_tdiv, Int.neg_tmod, Int.tdiv_eq_ediv_of_nonneg (by omega), Int.tmod_eq_emod_of_nonneg (by omega), hr_neg hb, key c (by omega)]
  by_cases h : b ≤ 2 * (c % b)
  ·rw [if_pos h, if_neg (by omega), if_pos (by omega)]; omega
  ·rw [if_neg h, if_neg (by omega), if_neg (by omega)]
theorem mvalid_any (n : Int) (w : World) : Calls Tryd.prog 13 #[.int .i64 n] w fun e w' => e = .returned (.bool (amtB n)) ∧ w = w' := by
 unfold amtB
 by_cases h1 : (-1000000000000 : Int) ≤ n
 ·by_cases h2 : n ≤ 1000000000000
  ·rw [decide_eq_true h1, decide_eq_true h2]
   go_enter Tryd.func13, Tryd.ntmps13
   go_wp2
   go_ret
   exact ⟨rfl, rfl⟩
  ·rw [decide_eq_true h1, decide_eq_false h2]
   have h3 : decide (n ≤ 1000000000000) = false := decide_eq_false h2
   clear h2
   go_enter Tryd.func13, Tryd.ntmps13
   go_wp2
   go_ret
   exact ⟨rfl, rfl⟩
 ·rw [decide_eq_false h1]
  have h3 : decide ((-1000000000000 : Int) ≤ n) = false := decide_eq_false h1
  clear h1
  go_enter Tryd.func13, Tryd.ntmps13
  go_wp2
  go_ret
  exact ⟨rfl, rfl⟩
theorem mabs_any (n : Int) (w : World) (h1 : -9223372036854775807 ≤ n) (h2 : n ≤ 9223372036854775807) : Calls Tryd.prog 31 #[.int .i64 n] w fun e w' => e = .returned (.int .i64 (n.natAbs : Int)) ∧ w = w' := by
 have hm : max n (-n) = (n.natAbs : Int) := by omega
 go_enter Tryd.func31, Tryd.ntmps31
 go_wp2
 go_ret
 exact ⟨rfl, rfl⟩
theorem amount_any (n : Int) (w : World) : Calls Tryd.prog 32 #[.int .i64 n] w fun e w' => e = .returned (.tuple #[.int .i64 (amV n), .int .i64 (amE n)]) ∧ w = w' := by
 unfold amV amE
 cases h : amtB n
 all_goals
  have HV := fun w => mvalid_any n w
  rw [h] at HV
  have H := Lib.hid HV
  clear HV
  go_enter Tryd.func32, Tryd.ntmps32
  go_wp2_with (go_at_call 13; refine (H.out _).mono ?_; rintro e w' ⟨rfl, rfl⟩)
  go_ret2
  exact ⟨rfl, rfl⟩
theorem mrounded_any (a b : Int) (w : World) (ha : -1000000000000000000 ≤ a ∧ a ≤ 1000000000000000000) (hb : 1 ≤ b ∧ b ≤ 1000000) : Calls Tryd.prog 50 #[.int .i64 a, .int .i64 b] w fun e w' => e = .returned (.int .i64 (hr a b)) ∧ Below w.heap.size w w' := by
 rw [hr_tdiv (by omega)]
 have m1 : a.tmod b < b := Int.tmod_lt_of_pos _ (by omega)
 have m2 : -b < a.tmod b := by have := Int.lt_tmod_of_pos a (show 0 < b by omega); omega
 have q1 : -1000000000000000000 ≤ a.tdiv b ∧ a.tdiv b ≤ 1000000000000000000 := by
  have h := Int.natAbs_tdiv_le_natAbs a b
  omega
 obtain ⟨q2, q3⟩ := q1
 obtain ⟨hb1, hb2⟩ := hb
 obtain ⟨ha1, ha2⟩ := ha
 have hb0 : ¬ b = 0 := by omega
 obtain ⟨q, hq⟩ : ∃ q, a.tdiv b = q := ⟨_, rfl⟩
 obtain ⟨r, hmd⟩ : ∃ r, a.tmod b = r := ⟨_, rfl⟩
 have hdv : IntKind.i64.wrap (a.tdiv b) = q := by rw [IntKind.wrap_i64]; omega
 rw [hq, hmd]
 rw [hq] at q2 q3
 rw [hmd] at m1 m2
 clear hq
 by_cases h1 : b ≤ 2 * r
 ·rw [if_pos h1]
  go_enter Tryd.func50, Tryd.ntmps50
  go_wp2
  go_quiet (fail)
  go_wp2
  go_ret
  exact ⟨rfl, below_drewN (Below.refl _ _) _⟩
 ·rw [if_neg h1]
  have h1' : decide (b ≤ 2 * r) = false := decide_eq_false h1
  by_cases h2 : 2 * r ≤ -b
  ·rw [if_pos h2]
   go_enter Tryd.func50, Tryd.ntmps50
   go_wp2
   go_quiet (fail)
   go_wp2
   go_ret
   exact ⟨rfl, below_drewN (Below.refl _ _) _⟩
  ·rw [if_neg h2]
   have h2' : decide (2 * r ≤ -b) = false := decide_eq_false h2
   go_enter Tryd.func50, Tryd.ntmps50
   go_wp2
   go_quiet (fail)
   go_wp2
   go_ret
   exact ⟨rfl, below_drewN (Below.refl _ _) _⟩
theorem mult_in {n num den : Int} (hn : amtB n = true) (h0 : 0 ≤ num ∧ num ≤ 1000000000000) (hd : 1 ≤ den ∧ den ≤ 1000000) :
  ∃ q r nr R : Int, num / den = q ∧ num % den = r ∧ n * r = nr ∧ hr nr den = R ∧ hr (n * num) den = n * q + R ∧ (0 ≤ q ∧ q ≤ 1000000000000) ∧ (0 ≤ r ∧ r < den) ∧ (-1000000000000000000 ≤ nr ∧ nr ≤ 1000000000000000000) ∧ (-1000000000000000000 ≤ R ∧ R ≤ 1000000000000000000) := by
 obtain ⟨n1, n2⟩ := amtB_is hn
 have r1 : 0 ≤ num % den := Int.emod_nonneg _ (by omega)
 have r2 : num % den < den := Int.emod_lt_of_pos _ (by omega)
 have q1 : 0 ≤ num / den := Int.ediv_nonneg h0.1 (by omega)
 have q2 : num / den ≤ num := Int.ediv_le_self _ h0.1
 have b1 : -1000000000000000000 ≤ n * (num % den) ∧ n * (num % den) ≤ 1000000000000000000 := by
  have k1 : 1000000000000 * (num % den) ≤ 1000000000000 * 1000000 := Int.mul_le_mul_of_nonneg_left (by omega) (by omega)
  have k2 : n * (num % den) ≤ 1000000000000 * (num % den) := Int.mul_le_mul_of_nonneg_right n2 r1
  have k3 : -1000000000000 * (num % den) ≤ n * (num % den) := Int.mul_le_mul_of_nonneg_right n1 r1
  rw [Int.neg_mul] at k3
  omega
 exact ⟨_, _, _, _, rfl, rfl, rfl, rfl, hr_split h0.1 (by omega), ⟨q1, by omega⟩, ⟨r1, r2⟩, b1, hr_le (by omega) b1.1 b1.2⟩
theorem multiple_any (n num den : Int) (w : World) (hn : amtB n = true) (h0 : 0 ≤ num ∧ num ≤ 1000000000000) (hd : 1 ≤ den ∧ den ≤ 1000000) :
  Calls Tryd.prog 34 #[.int .i64 n, .int .i64 num, .int .i64 den] w fun e w' => e = .returned (.tuple #[.int .i64 (amV (hr (n * num) den)), .int .i64 (amE (hr (n * num) den))]) ∧ Below w.heap.size w w' := by
 obtain ⟨q, r, nr, R, e1, e2, e3, e4, e5, ⟨a1, a2⟩, ⟨a3, a4⟩, ⟨a5, a6⟩, a7, a8⟩ := mult_in hn h0 hd
 obtain ⟨n1, n2⟩ := amtB_is hn
 obtain ⟨d1, d2⟩ := hd
 obtain ⟨c1, c2⟩ := h0
 have hb0 : ¬ den = 0 := by omega
 have hdv : IntKind.i64.wrap (num.tdiv den) = q := by rw [Int.tdiv_eq_ediv_of_nonneg (by omega), IntKind.wrap_i64]; omega
 have hmd : num.tmod den = r := by rw [Int.tmod_eq_emod_of_nonneg (by omega)]; exact e2
 have hA := fun w => mabs_any n w (by omega) (by omega)
 obtain ⟨z, hz⟩ : ∃ z, (n.natAbs : Int) = z := ⟨_, rfl⟩
 have hfar := fun h1 => hr_far (n := n) (M := 1000000000000) c1 (show 0 < den by omega) (by omega) h1
 have hle := whole_le (n := n) (q := q) (M := 1000000000000) (by omega)
 rw [e1, hz] at hfar
 rw [hz] at hle hA
 have HA := Lib.hid hA
 clear hA hz
 by_cases hq : 0 < q
 ·have hq0 : ¬ q = 0 := by omega
  obtain ⟨m, hm⟩ : ∃ m, 1000000000000 / q = m := ⟨_, rfl⟩
  have m1 : 0 ≤ m := by rw [← hm]; exact Int.ediv_nonneg (by omega) (by omega)
  have m2 : m ≤ 1000000000000 := by rw [← hm]; exact Int.ediv_le_self _ (by omega)
  have hdm : IntKind.i64.wrap ((1000000000000 : Int).tdiv q) = m := by rw [Int.tdiv_eq_ediv_of_nonneg (by omega), IntKind.wrap_i64]; omega
  rw [hm] at hfar hle
  by_cases hf : m < z
  ·have hno : amtB (hr (n * num) den) = false := amtB_no (hfar hq hf)
   unfold amV amE
   rw [hno]
   clear e5 hfar hle hm
   go_enter Tryd.func34, Tryd.ntmps34
   go_wp2_with fail
   go_quiet (fail)
   have hB := below_drewN (Below.refl w.heap.size w) nq
   generalize w.drewN nq = W1 at *
   go_wp2_with fail
   go_quiet ((go_at_call 31; exact quiet_one (same_quiet HA.out)))
   replace hB := below_drewN hB nq
   generalize W1.drewN nq = W2 at *
   go_wp2_with fail
   go_ret2
   exact ⟨rfl, hB⟩
  ·have hf' : decide (m < z) = false := decide_eq_false hf
   obtain ⟨p1, p2⟩ := hle hq hf
   have hR := fun w => mrounded_any nr den w ⟨a5, a6⟩ ⟨d1, d2⟩
   rw [e4] at hR
   have hM := fun w => amount_any (n * q + R) w
   rw [← e5] at hM
   obtain ⟨V, hV⟩ : ∃ V, hr (n * num) den = V := ⟨_, rfl⟩
   obtain ⟨Q, hQ⟩ : ∃ Q, n * q = Q := ⟨_, rfl⟩
   rw [hV, hQ] at e5
   rw [hV] at hM ⊢
   rw [hQ] at p1 p2
   have hE : Q + R = V := e5.symm
   have HM := Lib.hid hM
   have HR := Lib.hid hR
   clear hM hR e5 hfar hle hm hV e1 e2 e4 hf
   go_enter Tryd.func34, Tryd.ntmps34
   go_wp2_with fail
   go_quiet (fail)
   have hB := below_drewN (Below.refl w.heap.size w) nq
   generalize w.drewN nq = W1 at *
   go_wp2_with fail
   go_quiet ((go_at_call 31; exact quiet_one (same_quiet HA.out)))
   replace hB := below_drewN hB nq
   generalize W1.drewN nq = W2 at *
   go_wp2_with (first | (go_at_call 50; refine (HR.out _).mono ?_; rintro e w' ⟨rfl, hb⟩; replace hB := below_more hB hb; clear hb) | (go_at_call 32; refine (HM.out _).mono ?_; rintro e w' ⟨rfl, rfl⟩))
   go_ret2
   exact ⟨rfl, hB⟩
 ·obtain rfl : q = 0 := by omega
  rw [Int.mul_zero, Int.zero_add] at e5
  have hR := fun w => mrounded_any nr den w ⟨a5, a6⟩ ⟨d1, d2⟩
  rw [e4] at hR
  have hM := fun w => amount_any R w
  rw [e5]
  have HM := Lib.hid hM
  have HR := Lib.hid hR
  clear hM hR e5 hfar hle e1 e2 e4 hq HA
  go_enter Tryd.func34, Tryd.ntmps34
  go_wp2_with fail
  go_quiet (fail)
  have hB := below_drewN (Below.refl w.heap.size w) nq
  generalize w.drewN nq = W1 at *
  go_wp2_with fail
  go_quiet (fail)
  replace hB := below_drewN hB nq
  generalize W1.drewN nq = W2 at *
  go_wp2_with (first | (go_at_call 50; refine (HR.out _).mono ?_; rintro e w' ⟨rfl, hb⟩; replace hB := below_more hB hb; clear hb) | (go_at_call 32; refine (HM.out _).mono ?_; rintro e w' ⟨rfl, rfl⟩))
  go_ret2
  exact ⟨rfl, hB⟩
def numB (num : Int) : Bool := decide (0 ≤ num) && decide (num ≤ 1000000000000)
def denB (den : Int) : Bool := decide (1 ≤ den) && decide (den ≤ 1000000)
def rateB (r : Int) : Bool := decide (1 ≤ r) && decide (r ≤ 1000000000000)
def portB (n num den : Int) : Bool := amtB n && (numB num && denB den)
def portE (n num den : Int) : Int := if portB n num den = true then amE (hr (n * num) den) else 1
def portV (n num den : Int) : Int := if portB n num den = true then amV (hr (n * num) den) else 0
def convE (n r : Int) : Int := if (amtB n && rateB r) = true then amE (hr (n * r) 1000000) else 1
def convV (n r : Int) : Int := if (amtB n && rateB r) = true then amV (hr (n * r) 1000000) else 0
theorem portion_any (n num den : Int) (w : World) : Calls Tryd.prog 21 #[.int .i64 n, .int .i64 num, .int .i64 den] w fun e w' => e = .returned (.tuple #[.int .i64 (portV n num den), .int .i64 (portE n num den)]) ∧ Below w.heap.size w w' := by
 have hB := Below.refl w.heap.size w
 have hV := fun w => mvalid_any n w
 unfold portV portE portB
 cases h0 : amtB n
 ·rw [h0] at hV
  have HV := Lib.hid hV
  clear hV
  go_enter Tryd.func21, Tryd.ntmps21
  go_wp2_with (go_at_call 13; refine (HV.out _).mono ?_; rintro e w' ⟨rfl, rfl⟩)
  go_ret2
  exact ⟨rfl, hB⟩
 ·rw [h0] at hV
  have HV := Lib.hid hV
  clear hV
  unfold numB
  by_cases h1 : num < 0
  ·rw [decide_eq_false (show ¬ 0 ≤ num by omega)]
   go_enter Tryd.func21, Tryd.ntmps21
   go_wp2_with (go_at_call 13; refine (HV.out _).mono ?_; rintro e w' ⟨rfl, rfl⟩)
   go_ret2
   exact ⟨rfl, hB⟩
  ·have h1' : decide (num < 0) = false := decide_eq_false h1
   rw [decide_eq_true (show 0 ≤ num by omega)]
   by_cases h2 : 1000000000000 < num
   ·rw [decide_eq_false (show ¬ num ≤ 1000000000000 by omega)]
    clear h1
    go_enter Tryd.func21, Tryd.ntmps21
    go_wp2_with (go_at_call 13; refine (HV.out _).mono ?_; rintro e w' ⟨rfl, rfl⟩)
    go_ret2
    exact ⟨rfl, hB⟩
   ·have h2' : decide (1000000000000 < num) = false := decide_eq_false h2
    rw [decide_eq_true (show num ≤ 1000000000000 by omega)]
    unfold denB
    by_cases h3 : den < 1
    ·rw [decide_eq_false (show ¬ 1 ≤ den by omega)]
     clear h1 h2
     go_enter Tryd.func21, Tryd.ntmps21
     go_wp2_with (go_at_call 13; refine (HV.out _).mono ?_; rintro e w' ⟨rfl, rfl⟩)
     go_ret2
     exact ⟨rfl, hB⟩
    ·have h3' : decide (den < 1) = false := decide_eq_false h3
     rw [decide_eq_true (show 1 ≤ den by omega)]
     by_cases h4 : 1000000 < den
     ·rw [decide_eq_false (show ¬ den ≤ 1000000 by omega)]
      clear h1 h2 h3
      go_enter Tryd.func21, Tryd.ntmps21
      go_wp2_with (go_at_call 13; refine (HV.out _).mono ?_; rintro e w' ⟨rfl, rfl⟩)
      go_ret2
      exact ⟨rfl, hB⟩
     ·have h4' : decide (1000000 < den) = false := decide_eq_false h4
      rw [decide_eq_true (show den ≤ 1000000 by omega)]
      have hM := fun w => multiple_any n num den w h0 ⟨by omega, by omega⟩ ⟨by omega, by omega⟩
      generalize hr (n * num) den = V at *
      have HM := Lib.hid hM
      clear hM h1 h2 h3 h4
      go_enter Tryd.func21, Tryd.ntmps21
      go_wp2_with (first | (go_at_call 13; refine (HV.out _).mono ?_; rintro e w' ⟨rfl, rfl⟩) | (go_at_call 34; refine (HM.out _).mono ?_; rintro e w' ⟨rfl, hb⟩; replace hB := below_more hB hb; clear hb))
      go_ret2
      exact ⟨rfl, hB⟩
theorem convert_any (n r : Int) (w : World) : Calls Tryd.prog 19 #[.int .i64 n, .int .i64 r] w fun e w' => e = .returned (.tuple #[.int .i64 (convV n r), .int .i64 (convE n r)]) ∧ Below w.heap.size w w' := by
 have hB := Below.refl w.heap.size w
 have hV := fun w => mvalid_any n w
 unfold convV convE
 cases h0 : amtB n
 ·rw [h0] at hV
  have HV := Lib.hid hV
  clear hV
  go_enter Tryd.func19, Tryd.ntmps19
  go_wp2_with (go_at_call 13; refine (HV.out _).mono ?_; rintro e w' ⟨rfl, rfl⟩)
  go_ret2
  exact ⟨rfl, hB⟩
 ·rw [h0] at hV
  have HV := Lib.hid hV
  clear hV
  unfold rateB
  by_cases h1 : r < 1
  ·rw [decide_eq_false (show ¬ 1 ≤ r by omega)]
   go_enter Tryd.func19, Tryd.ntmps19
   go_wp2_with (go_at_call 13; refine (HV.out _).mono ?_; rintro e w' ⟨rfl, rfl⟩)
   go_ret2
   exact ⟨rfl, hB⟩
  ·have h1' : decide (r < 1) = false := decide_eq_false h1
   rw [decide_eq_true (show 1 ≤ r by omega)]
   by_cases h2 : 1000000000000 < r
   ·rw [decide_eq_false (show ¬ r ≤ 1000000000000 by omega)]
    clear h1
    go_enter Tryd.func19, Tryd.ntmps19
    go_wp2_with (go_at_call 13; refine (HV.out _).mono ?_; rintro e w' ⟨rfl, rfl⟩)
    go_ret2
    exact ⟨rfl, hB⟩
   ·have h2' : decide (1000000000000 < r) = false := decide_eq_false h2
    rw [decide_eq_true (show r ≤ 1000000000000 by omega)]
    have hM := fun w => multiple_any n r 1000000 w h0 ⟨by omega, by omega⟩ ⟨by omega, by omega⟩
    generalize hr (n * r) 1000000 = V at *
    have HM := Lib.hid hM
    clear hM h1 h2
    go_enter Tryd.func19, Tryd.ntmps19
    go_wp2_with (first | (go_at_call 13; refine (HV.out _).mono ?_; rintro e w' ⟨rfl, rfl⟩) | (go_at_call 34; refine (HM.out _).mono ?_; rintro e w' ⟨rfl, hb⟩; replace hB := below_more hB hb; clear hb))
    go_ret2
    exact ⟨rfl, hB⟩
open Go.Lib (decDigits)
def two (r : Nat) : List UInt8 := [UInt8.ofNat (48 + r / 10), UInt8.ofNat (48 + r % 10)]
def bareA (a : Nat) : List UInt8 := decDigits (a / 100) ++ 46 :: two (a % 100)
def txA (n : Int) : List UInt8 := if n < 0 then 45 :: bareA n.natAbs else bareA n.natAbs
theorem pad_two (r : Nat) (h : r < 100) : padk 2 r = two r := by
 simp only [padk, two, List.nil_append, List.cons_append]
 rw [Nat.mod_eq_of_lt (show r / 10 < 10 by omega)]
theorem itoa_hundred (r : Nat) (h : r < 100) : Lib.itoa ((100 + r : Nat) : Int) = 49 :: two r := by
 have e := dec_pad 2 1 r (by omega) (by omega)
 rw [Nat.one_mul, pad_two r h, dec_small (d := 1) (by omega)] at e
 show (if ((100 + r : Nat) : Int) < 0 then _ else decDigits ((100 + r : Nat) : Int).toNat) = _
 rw [if_neg (by omega), show ((100 + r : Nat) : Int).toNat = 10 ^ 2 + r by omega, e]
 rfl
theorem itoa_nat (r : Nat) : Lib.itoa (r : Int) = decDigits r := by
 show (if (r : Int) < 0 then _ else decDigits (r : Int).toNat) = _
 rw [if_neg (by omega), Int.toNat_natCast]
theorem dec_len (k n : Nat) (h : n < 10 ^ (k + 1)) : (decDigits n).length ≤ k + 1 := by
 induction k generalizing n with
 | zero => rw [dec_small (by omega)]; simp
 | succ k ih =>
  rw [decDigits]
  split
  ·simp
  ·rw [Nat.pow_succ] at h
   have := ih (n / 10) (by omega)
   simp; omega
set_option maxHeartbeats 800000 in
theorem mtext_pos (n : Nat) (w : World) (ht : DTab w.heap.size w) (hn : n ≤ 1000000000000) :
  Calls Tryd.prog 23 #[.int .i64 (n : Int)] w fun e w' => e = .returned (.string ⟨(bareA n).toArray⟩) ∧ Below w.heap.size w w' := by
 have hV := fun w => mvalid_any n w
 rw [amtB_mk (by omega) (by omega)] at hV
 have hA := fun w => mabs_any n w (by omega) (by omega)
 rw [show ((n : Int).natAbs : Int) = (n : Int) by omega] at hA
 have hw1 : (n : Int) / 100 = ((n / 100 : Nat) : Int) := by omega
 have hw2 : (n : Int) % 100 = ((n % 100 : Nat) : Int) := by omega
 have hw3 : (100 : Int) + ((n % 100 : Nat) : Int) = ((100 + n % 100 : Nat) : Int) := by omega
 have hI1 := fun w h => itoa_any ((n / 100 : Nat) : Int) (by omega) (by omega) w h
 have hI2 := fun w h => itoa_any ((100 + n % 100 : Nat) : Int) (by omega) (by omega) w h
 rw [itoa_nat] at hI1
 rw [itoa_hundred _ (by omega)] at hI2
 have hl := dec_len 10 (n / 100) (by omega)
 unfold bareA
 have ho1 : n / 100 ≤ 10000000000 := by omega
 have ho2 : n % 100 ≤ 99 := by omega
 have ht2 : (two (n % 100)).length = 2 := rfl
 have hn0 : decide ((n : Int) < 0) = false := decide_eq_false (by omega)
 generalize decDigits (n / 100) = D at *
 generalize two (n % 100) = T at *
 generalize n / 100 = x at *
 generalize n % 100 = y at *
 have ho3 : 100 + y ≤ 199 := by omega
 generalize 100 + y = z at *
 have hov : ¬ 9223372036854775807 < D.length + 1 + T.length := by omega
 clear ht2
 have HV := Lib.hid hV
 have HA := Lib.hid hA
 have HI1 := Lib.hid hI1
 have HI2 := Lib.hid hI2
 have HT := Lib.hid ht
 clear hV hA hI1 hI2 ht
 have hB := Below.refl w.heap.size w
 go_enter Tryd.func23, Tryd.ntmps23
 go_wp2_with (first | (go_at_call 13; refine (HV.out _).mono ?_; rintro e w' ⟨rfl, rfl⟩) | (go_at_call 31; refine (HA.out _).mono ?_; rintro e w' ⟨rfl, rfl⟩))
 have hB2 := hB
 go_wp2_with (go_at_call 37; first | ((with_reducible refine (HI1.out _ (DTab.up HT.out hB)).mono ?_); rintro e w' ⟨rfl, hb⟩; replace hB := below_more hB hb; clear hb) | ((with_reducible refine (HI2.out _ (DTab.up HT.out hB)).mono ?_); rintro e w' ⟨rfl, hb⟩; replace hB := below_more hB hb; clear hb))
 go_ret
 exact ⟨dret_str (bytes_eq (by simp [ByteArray.data_append] <;> exact List.take_of_length_le (by simp))), hB⟩
set_option maxHeartbeats 800000 in
theorem mtext_neg (n : Nat) (w : World) (ht : DTab w.heap.size w) (hn : n ≤ 1000000000000) (hz : 0 < n) :
  Calls Tryd.prog 23 #[.int .i64 (-(n : Int))] w fun e w' => e = .returned (.string ⟨(45 :: bareA n).toArray⟩) ∧ Below w.heap.size w w' := by
 have hV := fun w => mvalid_any (-(n : Int)) w
 rw [amtB_mk (n := -(n : Int)) (by omega) (by omega)] at hV
 have hA := fun w => mabs_any (-(n : Int)) w (by omega) (by omega)
 rw [show ((-(n : Int)).natAbs : Int) = (n : Int) by omega] at hA
 have hw1 : (n : Int) / 100 = ((n / 100 : Nat) : Int) := by omega
 have hw2 : (n : Int) % 100 = ((n % 100 : Nat) : Int) := by omega
 have hw3 : (100 : Int) + ((n % 100 : Nat) : Int) = ((100 + n % 100 : Nat) : Int) := by omega
 have hI1 := fun w h => itoa_any ((n / 100 : Nat) : Int) (by omega) (by omega) w h
 have hI2 := fun w h => itoa_any ((100 + n % 100 : Nat) : Int) (by omega) (by omega) w h
 rw [itoa_nat] at hI1
 rw [itoa_hundred _ (by omega)] at hI2
 have hl := dec_len 10 (n / 100) (by omega)
 unfold bareA
 have ho1 : n / 100 ≤ 10000000000 := by omega
 have ho2 : n % 100 ≤ 99 := by omega
 have ht2 : (two (n % 100)).length = 2 := rfl
 have hn0 : -(n : Int) < 0 := by omega
 have hn1 : 0 < (n : Int) := by omega
 generalize decDigits (n / 100) = D at *
 generalize two (n % 100) = T at *
 generalize n / 100 = x at *
 generalize n % 100 = y at *
 have ho3 : 100 + y ≤ 199 := by omega
 generalize 100 + y = z at *
 have hov : ¬ 9223372036854775807 < D.length + 1 + T.length := by omega
 have hov2 : ¬ 9223372036854775807 < 1 + (D.length + 1 + T.length) := by omega
 clear ht2
 have HV := Lib.hid hV
 have HA := Lib.hid hA
 have HI1 := Lib.hid hI1
 have HI2 := Lib.hid hI2
 have HT := Lib.hid ht
 clear hV hA hI1 hI2 ht
 have hB := Below.refl w.heap.size w
 go_enter Tryd.func23, Tryd.ntmps23
 go_wp2_with (first | (go_at_call 13; refine (HV.out _).mono ?_; rintro e w' ⟨rfl, rfl⟩) | (go_at_call 31; refine (HA.out _).mono ?_; rintro e w' ⟨rfl, rfl⟩))
 have hB2 := hB
 go_wp2_with (go_at_call 37; first | ((with_reducible refine (HI1.out _ (DTab.up HT.out hB)).mono ?_); rintro e w' ⟨rfl, hb⟩; replace hB := below_more hB hb; clear hb) | ((with_reducible refine (HI2.out _ (DTab.up HT.out hB)).mono ?_); rintro e w' ⟨rfl, hb⟩; replace hB := below_more hB hb; clear hb))
 go_ret
 exact ⟨dret_str (bytes_eq (by simp [ByteArray.data_append] <;> exact List.take_of_length_le (by simp))), hB⟩
def txL (n : Int) : List UInt8 := if amtB n = true then txA n else []
theorem mtext_any (n : Int) (w : World) (ht : DTab w.heap.size w) : Calls Tryd.prog 23 #[.int .i64 n] w fun e w' => e = .returned (.string ⟨(txL n).toArray⟩) ∧ Below w.heap.size w w' := by
 unfold txL
 cases h : amtB n
 ·have hV := fun w => mvalid_any n w
  rw [h] at hV
  have HV := Lib.hid hV
  clear hV ht
  go_enter Tryd.func23, Tryd.ntmps23
  go_wp2_with (go_at_call 13; refine (HV.out _).mono ?_; rintro e w' ⟨rfl, rfl⟩)
  go_ret
  exact ⟨rfl, Below.refl _ _⟩
 ·obtain ⟨h1, h2⟩ := amtB_is h
  rw [if_pos rfl]
  unfold txA
  by_cases hn : n < 0
  ·rw [if_pos hn]
   have := mtext_neg n.natAbs w ht (by omega) (by omega)
   rw [show -((n.natAbs : Nat) : Int) = n by omega] at this
   exact this
  ·rw [if_neg hn]
   have := mtext_pos n.natAbs w ht (by omega)
   rw [show ((n.natAbs : Nat) : Int) = n by omega] at this
   exact this
theorem conv_ex : convV 1050 1100000 = 1155 ∧ convE 1050 1100000 = 0 := by decide +kernel
theorem txL_ex : txL (-5) = [45, 48, 46, 48, 53] := by
 unfold txL txA bareA two
 rw [if_pos (by decide), if_pos (by decide), show (-5 : Int).natAbs = 5 from rfl, dec_small (by decide)]
 rfl
theorem mawake_any (w : World) (ht : DTab w.heap.size w) : Calls Tryd.prog 12 #[] w fun e w' => e = .returned (.bool true) ∧ Below w.heap.size w w' := by
 have hC := fun w => convert_any 1050 1100000 w
 rw [conv_ex.1, conv_ex.2] at hC
 have hT := fun w h => mtext_any (-5) w h
 rw [txL_ex] at hT
 have HC := Lib.hid hC
 have HX := Lib.hid hT
 have HT := Lib.hid ht
 clear hC hT ht
 have hB := Below.refl w.heap.size w
 go_enter Tryd.func12, Tryd.ntmps12
 go_wp2_with (first | (go_at_call 19; refine (HC.out _).mono ?_; rintro e w' ⟨rfl, hb⟩; replace hB := below_more hB hb; clear hb) | (go_at_call 23; refine (HX.out _ (DTab.up HT.out hB)).mono ?_; rintro e w' ⟨rfl, hb⟩; replace hB := below_more hB hb; clear hb))
 go_ret
 exact ⟨rfl, hB⟩
open Go.ChangeShapes Go.WideShapes Go.ChangeAt Go.WideMaps Go.WideElems Go.RowKit
theorem own : ownKnob Tryd.prog.godebug = none := by kernel_rfl
abbrev laidL : List (String × DataW Unit) := [("math/bits.deBruijn32tab", Rows.laid_math_bits_deBruijn32tab), ("math/bits.deBruijn64tab", Rows.laid_math_bits_deBruijn64tab), ("internal/strconv.uint64pow10", Rows.laid_internal_strconv_uint64pow10)]
theorem door_met (os : Os) (args : Array Value) : laidMetH Tryd.prog laidL ((World.laidAll Tryd.prog os laidL).forCall (fun _ _ => 0) ⟨#[], args, []⟩).memory := by
 rw [MakeChecks.laidMetH_plain _ _ _ (by kernel_rfl)]
 exact laidMet_laidAll _ (by kernel_rfl) (by kernel_rfl)
theorem pow_is : Rows.laid_internal_strconv_uint64pow10 (H := Unit) = Lib.tabData .u64 Lib.pow10Tab := by kernel_rfl
theorem tab_of_laid {W : World} (h : laidMetH Tryd.prog laidL W) : DTab W.heap.size W := by
 rw [MakeChecks.laidMetH_plain _ _ _ (by kernel_rfl)] at h
 obtain ⟨ps, ⟨g0, t0, cs0, f0, p0, q0, hg0, ht0, hv0, hd0, ⟨g1, t1, cs1, f1, p1, q1, hg1, ht1, hv1, hd1, ⟨g2, t2, cs2, f2, p2, q2, hg2, ht2, hv2, hd2, _, _⟩, _⟩, _⟩, _, _⟩ := h
 have hg : Tryd.prog.globalNamed "internal/strconv.uint64pow10" = some g2 := hg2
 have hgg : Tryd.prog.globalNamed "internal/strconv.uint64pow10" = some 3 := by kernel_rfl
 have hty : (Tryd.prog.globals[3]?).map (·.type) = some 117 := by kernel_rfl
 obtain rfl := Option.some.inj (hgg.symm.trans hg2)
 obtain rfl := Option.some.inj (hty.symm.trans ht2)
 refine Lib.tabBelow_of_tabIs ?_
 unfold Lib.TabIs
 rw [hv2]
 rw [pow_is] at hd2
 rw [← Lib.cells_of_tab Tryd.underlying117 Tryd.underlying88 (by kernel_rfl) (by kernel_rfl) hd2]
theorem lifted_shaped {H : Type} {enc : TypeId × Value → H} {a : Assume} {C : Checked} {os : Os} {f : FuncId} {fn : Func} {s : ChangeSpec} {conds : List PathCond} {apart fresh handsOn again : Bool} {X : World → Array Value → Prop}
  (hX : ∀ (w w' : World) (args : Array Value), w.heap = w'.heap → X w args → X w' args) (own : ownKnob C.prog.godebug = none) (started : os.Started) (noInit : C.prog.inits.idxOf? f = none) (hfn : C.prog.funcs[f]? = some fn)
  (witness : ∃ (w : World) (tape : Tape) (i : Input), w.os = os ∧ (w.forCall tape i).Shaped C.prog ∧ i.vars = [] ∧ Input.okWide C.prog (w.forCall tape i) .any w.heap.size f i ∧
   ((s.pre enc C.prog fn conds apart (w.forCall tape i).memory i.args ∧ X (w.forCall tape i).memory i.args) ∧ sizedMet enc C.prog fn (OpenSpec.ofChange s) apart (w.forCall tape i).memory i.args) ∧ a.holds C.prog (lone (Frame.enter C.prog f i.args .normal) [] (w.forCall tape i)))
  (contract : ∀ (W : World) (base : Nat) (args : Array Value) (ds gs : List (DataW H)) (before : List MemPlace), W.ShapedOpen C.prog →
   (∀ (j : Nat) t v, fn.params[j]? = some t → args[j]? = some v → Value.okWide C.prog W .any base t v) → DataW.Whole enc C.prog fn.params.toList s.vars apart W args.toList ds gs before → X W args →
   Calls C.prog f args W fun e W' => ∃ v, e = .returned v ∧ s.post enc C.prog fn apart fresh handsOn again W args v W') :
  ReturnsInHanded a C os f .any (fun w args => (s.pre enc C.prog fn conds apart w args ∧ X w args) ∧ sizedMet enc C.prog fn (OpenSpec.ofChange s) apart w args) (s.post enc C.prog fn apart fresh handsOn again) := by
 refine returnsInHanded_of_calls own started noInit witness fun w tape i _ hsh _ hok hpre _ => ?_
 obtain ⟨_, _, _, fn', hfn', _, _, _, _, hval⟩ := hok
 obtain rfl : fn' = fn := Option.some.inj (hfn'.symm.trans hfn)
 obtain ⟨⟨⟨ds, gs, before, hw, _⟩, hx⟩, _⟩ := hpre
 refine (contract (w.forCall tape i) w.heap.size i.args ds gs before hsh hval (DataW.Whole.of_heap (w' := w.forCall tape i) (by rfl) hw) (hX _ _ _ (by rfl) hx)).mono fun e W' ⟨v, he, hp⟩ => ?_
 subst he
 exact ChangeSpec.post_blind hp
theorem post_below {H : Type} {enc : TypeId × Value → H} {P : Program} {f : Func} {s : ChangeSpec} {ap fr ho ag : Bool} {W W' : World} {args : Array Value} {v : Value} {ds gs : List (DataW H)} {before pa pv : List MemPlace}
  (hW : DataW.Whole enc P f.params.toList s.vars ap W args.toList ds gs before)
  (hres : ∀ (b : Nat) (sp : Nat → Bool) (hd : Bool), DataW.TrodAll enc P W' b sp hd f.resultTypes.toList (v.resultList f.resultTypes.size) (s.fn H (ds ++ gs)).results [])
  (hargs : ∀ sp : Nat → Bool, (∀ p ∈ before, sp p.block = true) → DataW.TrodAll enc P W' 0 sp true f.params.toList args.toList (s.fn H (ds ++ gs)).args pa)
  (hvars : ∀ sp : Nat → Bool, (∀ p ∈ before, sp p.block = true) → DataW.TrodVars enc P W' sp s.vars (s.fn H (ds ++ gs)).vars pv)
  (hps : before = pa ++ pv) (hb : Below W.heap.size W W')
  (hok : ∀ (j : Nat) (t : TypeId) (r : Value), f.resultTypes[j]? = some t → (v.resultList f.resultTypes.size)[j]? = some r → Value.okWide P W' .any 0 t r) : s.post enc P f ap fr ho ag W args v W' := by
 have hlt : ∀ p ∈ before, p.block < W.heap.size := fun p hp => hW.lt p hp
 have hin : ∀ p ∈ before, (fun b => decide (b < W.heap.size)) p.block = true := fun p hp => by simpa using hlt p hp
 refine ⟨ds, gs, before, [], pa, pv, hW, hres _ _ _, hargs _ hin, hvars _ hin, World.keptBut_mono (fun p hp => ⟨hp, .inr (List.mem_append.1 (hps ▸ hp))⟩) (hb.frame (· ∈ before)), fun _ => ?_⟩
 obtain ⟨_, _, _, _, _, hz, hn⟩ := hW
 refine ⟨hok, _, _, ([] ++ pa) ++ pv, ⟨[] ++ pa, pv, trodAll_append (hargs _ (fun _ _ => rfl)) (hres _ _ _), hvars _ (fun _ _ => rfl), rfl, fun b off hp => ?_, fun ha => ?_⟩, ?_⟩
 ·have hbe : MemPlace.cell b off ∈ before := by rw [hps]; simpa using hp
  rw [hb.frozen (hlt _ hbe)]
  exact hz b off hbe
 ·have h9 := hn ha
  rw [hps] at h9
  simpa using h9
 ·intro p hp _
  rw [hps, ← List.nil_append pa]
  exact hp
theorem laid_out : laidOutB Tryd.prog = true := by kernel_rfl
theorem trodAll_stays {H : Type} {enc : TypeId × Value → H} {P : Program} (hl : laidOutB P = true) {W W' : World} (hb : Below W.heap.size W W') {sp : Nat → Bool} :
  ∀ {ts : List TypeId} {vs : List Value} {ds : List (DataW H)} {ps : List MemPlace}, (ts.all fun t => P.readableRec t && decide (t < P.types.size)) = true → DataW.TrodAll enc P W 0 (fun _ => true) true ts vs ds ps →
   (∀ x ∈ ps, x.block < W.heap.size) → (∀ x ∈ ps, sp x.block = true) → DataW.TrodAll enc P W' 0 sp true ts vs ds ps
 | [], vs, ds, ps, _, h, _, _ => by
  cases vs <;> cases ds <;> simp [DataW.TrodAll] at h ⊢
  exact h
 | t :: ts, vs, ds, ps, ht, h, hlt, hs => by
  obtain ⟨v, vs', d, ds', p, q, rfl, rfl, rfl, h1, h2⟩ := trodAll_cons h
  simp only [List.all_cons, Bool.and_eq_true, decide_eq_true_eq] at ht
  refine trodAll_cons_mk (WideElems.Trod_stays hl ht.1.1 ht.1.2 h1 (fun x hx => hb.same (hlt x (by simp [hx]))) fun x hx => hs x (by simp [hx])) ?_
  exact trodAll_stays hl hb ht.2 h2 (fun x hx => hlt x (by simp [hx])) fun x hx => hs x (by simp [hx])
end Go.Proofs.YthndbonfcdphgaaDoor
