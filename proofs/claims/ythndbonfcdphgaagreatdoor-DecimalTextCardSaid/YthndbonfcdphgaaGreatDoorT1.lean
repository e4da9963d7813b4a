/- Contracts of the functions that the statements reach, part 1: what was proved of each, callees first. -/
import Derived.Test.YthndbonfcdphgaaGreatDoorProg
import Derived.WalkKit
import Derived.WalkSpells
import Derived.Lib.Hide
import Derived.Deep.QuietTactic
import Derived.BigQuiet
import Derived.Deep.Draws
import Derived.Laws.Rows
import Derived.Laws.CopyOwn
import Derived.Deep.OwnRows
import Derived.Outline
import Derived.Lib.ItoaNum
import Derived.Shelf.Strings.Builder1
import Derived.Shelf.Strings.Builder2
import Derived.Shelf.Strings.Trim
import Derived.Shelf.Small.Utf8
import Derived.Shelf.Small.Strs
import Derived.Shelf.Small.Wraps
import Derived.Shelf.Strings.BuilderF
import Derived.Shelf.Strings.BuilderK
import Derived.Shelf.Strings.Builder2Cap
import Derived.Shelf.Strconv.Atoi
import Derived.Shelf.Strconv.Itoa0
import Derived.Shelf.Strconv.Itoa1
import Derived.Shelf.LaysM
import Derived.Shelf.Strconv.Itoa2
import Derived.Shelf.Strconv.Itoa3
import Derived.Shelf.Strconv.AtoiErrFast
import Derived.Shelf.Strconv.ParseIntEmpty
import Derived.Shelf.Strconv.AtoiFail
import Derived.Shelf.Strconv.Clone
import Derived.Shelf.Strconv.SyntaxError
import Derived.Shelf.LaysC
import Derived.Shelf.Strconv.ToError
import Derived.Shelf.Strconv.AtoiErr
import Derived.Shelf.Strconv.ErrVar
import Derived.Shelf.Strconv.Lower
import Derived.Shelf.Strconv.ParseUint10
import Derived.Shelf.Strconv.ParseUint10Empty
import Derived.Shelf.Strconv.ParseUint10Any
import Derived.Shelf.Strconv.ParseInt10
import Derived.Shelf.Strconv.AtoiLong
import Derived.Shelf.Strconv.AtoiInnerAll
import Derived.Shelf.Strconv.RangeError
import Derived.Shelf.Strconv.ToErrorRange
import Derived.Shelf.Strconv.AtoiAll
import Derived.Shelf.Strconv.ErrVarAll
import Derived.Shelf.Strings.Search1
import Derived.Shelf.Strings.Search2
import Derived.Shelf.Strings.Cut
import Derived.Shelf.Strings.Shaped
import Derived.Shelf.Strings.Prefix
import Derived.Shelf.Unicode.Decode
import Derived.Shelf.Strings.Runes
import Derived.Shelf.Strings.IndexAny
import Derived.Shelf.Strings.AsciiSet
import Derived.Shelf.Strings.IndexAnyAll
import Derived.Shelf.Bits.Mul64
import Derived.Shelf.Strings.Repeat
import Derived.Shelf.Unicode.DecodeSlow
import Derived.Shelf.Unicode.DecodeAny
import Derived.Shelf.Unicode.DecodeLast
import Derived.Shelf.Strings.BuilderCap
import Derived.Lib.AppendIntMem
import Derived.Lib.ItoaLen
import Derived.Shelf.Strings.SlTrimAscii
import Derived.Lib.AtoiErrMem
import Derived.LoopTactic
import Derived.Laws.BytesString
import Derived.Laws.Cells
import Derived.WideShapes
import Derived.WalkLawsBesides
import Derived.Deep.RegionHeld
import Derived.Below
import Derived.StillTail
import Derived.Deep.Cut
import Derived.RegionTactic
import Derived.ChangeAlike
import Derived.Deep.RegionHeld3
import Derived.Laws.EntriesVeiled
namespace Go.Proofs.YthndbonfcdphgaaGreatDoor
open Go.RowKit
section
variable {k : IntKind} {t : TypeId} {w w' : World} {b o g B : Nat} {L : List Nat}
end
section
variable {k : IntKind} {t : TypeId} {w w' : World} {g B B' c : Nat} {A : Option Addr} {L : List Nat}
end
theorem below_drewN {B : Nat} {a w : World} (h : Below B a w) (n : Nat) : Below B a (w.drewN n) := ⟨h.os, h.tape, h.output, h.size, h.block⟩
open Go.Lib (decDigits)
def padk : Nat → Nat → List UInt8
 | 0, _ => []
 | k + 1, r => padk k (r / 10) ++ [UInt8.ofNat (48 + r % 10)]
theorem padk_length (k r : Nat) : (padk k r).length = k := by
 induction k generalizing r with
 | zero => rfl
 | succ k ih => simp [padk, ih]
theorem dec_pad (k q r : Nat) (hq : 0 < q) (hr : r < 10 ^ k) : decDigits (q * 10 ^ k + r) = decDigits q ++ padk k r := by
 induction k generalizing r with
 | zero => simp at hr; subst hr; simp [padk]
 | succ k ih =>
  have e : q * 10 ^ (k + 1) = 10 * (q * 10 ^ k) := by rw [Nat.pow_succ]; rw [← Nat.mul_assoc, Nat.mul_comm]
  have hp : 0 < 10 ^ k := Nat.pow_pos (by omega)
  have hge : 1 ≤ q * 10 ^ k := Nat.mul_pos hq hp
  rw [decDigits, dif_neg (by omega), e]
  have e1 : (10 * (q * 10 ^ k) + r) / 10 = q * 10 ^ k + r / 10 := by omega
  have e2 : (10 * (q * 10 ^ k) + r) % 10 = r % 10 := by omega
  rw [Nat.pow_succ] at hr
  rw [e1, e2, ih (r / 10) (by omega), padk, List.append_assoc]
def numOf (l : List UInt8) : Nat := l.foldl (fun n c => 10 * n + (c.toNat - 48)) 0
theorem numOf_snoc (l : List UInt8) (c : UInt8) : numOf (l ++ [c]) = 10 * numOf l + (c.toNat - 48) := by simp [numOf]
def isDig (c : UInt8) : Bool := decide (48 ≤ c.toNat) && decide (c.toNat ≤ 57)
theorem isDig_iff {c : UInt8} : isDig c = true ↔ 48 ≤ c.toNat ∧ c.toNat ≤ 57 := by simp [isDig]
theorem dec_small {d : Nat} (h : d < 10) : decDigits d = [UInt8.ofNat (48 + d)] := by rw [decDigits, dif_pos h]
theorem dec_head (n : Nat) (hn : 0 < n) : (decDigits n).head? ≠ some 48 ∧ decDigits n ≠ [] := by
 induction n using Nat.strongRecOn with
 | _ n ih =>
  rw [decDigits]
  split
  ·rename_i h
   refine ⟨?_, by simp⟩
   simp only [List.head?_cons, ne_eq, Option.some.injEq]
   intro e
   have := congrArg UInt8.toNat e
   simp at this
   omega
  ·rename_i h
   have := ih (n / 10) (by omega) (by omega)
   refine ⟨?_, by simp⟩
   rw [List.head?_append]
   cases hd : (decDigits (n / 10)).head? with
   | none => rw [List.head?_eq_none_iff] at hd; exact absurd hd this.2
   | some x => simp; intro e; subst e; exact this.1 hd
end Go.Proofs.YthndbonfcdphgaaGreatDoor
namespace Go.Proofs
open Go.Shelf
def Tryz.lays160_ren : Go.Shelf.Ren := ⟨fun | 160 => 48 | 232 => 69 | 231 => 68 | 227 => 70 | 234 => 72 | 233 => 71 | 236 => 74 | 235 => 73 | 228 => 77 | 271 => 93 | 151 => 92 | 197 => 91 | 120 => 103 | 152 => 75 | 260 => 102 | 137 => 94 | 119 => 95 | 224 => 80 | 225 => 79 | 217 => 78 | 266 => 96 | n => n, fun | 9 => 9 | 4 => 4 | 3 => 3 | 5 => 5 | 117 => 90 | 116 => 89 | 0 => 0 | 124 => 93 | 21 => 21 | 105 => 107 | 46 => 45 | 119 => 119 | 139 => 122 | 138 => 121 | n => n, fun | 3 => 6 | 4 => 7 | n => n⟩
theorem Tryz.lays160 : Go.Proofs.Lays.n160 Tryz.prog Tryz.lays160_ren := {
 mixed := by kernel_rfl
 f119 := Tryz.func95.trans (congrArg some (by kernel_rfl))
 f120 := Tryz.func103.trans (congrArg some (by kernel_rfl))
 f137 := Tryz.func94.trans (congrArg some (by kernel_rfl))
 f151 := Tryz.func92.trans (congrArg some (by kernel_rfl))
 f152 := Tryz.func75.trans (congrArg some (by kernel_rfl))
 f160 := Tryz.func48.trans (congrArg some (by kernel_rfl))
 f197 := Tryz.func91.trans (congrArg some (by kernel_rfl))
 f217 := Tryz.func78.trans (congrArg some (by kernel_rfl))
 f224 := Tryz.func80.trans (congrArg some (by kernel_rfl))
 f225 := Tryz.func79.trans (congrArg some (by kernel_rfl))
 f227 := Tryz.func70.trans (congrArg some (by kernel_rfl))
 f228 := Tryz.func77.trans (congrArg some (by kernel_rfl))
 f231 := Tryz.func68.trans (congrArg some (by kernel_rfl))
 f232 := Tryz.func69.trans (congrArg some (by kernel_rfl))
 f233 := Tryz.func71.trans (congrArg some (by kernel_rfl))
 f234 := Tryz.func72.trans (congrArg some (by kernel_rfl))
 f235 := Tryz.func73.trans (congrArg some (by kernel_rfl))
 f236 := Tryz.func74.trans (congrArg some (by kernel_rfl))
 f260 := Tryz.func102.trans (congrArg some (by kernel_rfl))
 f266 := Tryz.func96.trans (congrArg some (by kernel_rfl))
 f271 := Tryz.func93.trans (congrArg some (by kernel_rfl))
 t0 := Tryz.underlying0
 a0 := Tryz.isAgg0
 z0 := Tryz.sizeOf0
 v0 := Tryz.zeroValue0
 t3 := Tryz.underlying3
 a3 := Tryz.isAgg3
 z3 := Tryz.sizeOf3
 v3 := Tryz.zeroValue3
 t4 := Tryz.underlying4
 a4 := Tryz.isAgg4
 z4 := Tryz.sizeOf4
 v4 := Tryz.zeroValue4
 t5 := Tryz.underlying5
 a5 := Tryz.isAgg5
 z5 := Tryz.sizeOf5
 v5 := Tryz.zeroValue5
 t9 := Tryz.underlying9
 a9 := Tryz.isAgg9
 z9 := Tryz.sizeOf9
 v9 := Tryz.zeroValue9
 t21 := Tryz.underlying21
 a21 := Tryz.isAgg21
 z21 := Tryz.sizeOf21
 v21 := Tryz.zeroValue21
 t46 := Tryz.underlying45
 a46 := Tryz.isAgg45
 z46 := Tryz.sizeOf45
 v46 := Tryz.zeroValue45
 t105 := Tryz.underlying107
 a105 := Tryz.isAgg107
 z105 := Tryz.sizeOf107
 v105 := Tryz.zeroValue107
 t116 := Tryz.underlying89
 a116 := Tryz.isAgg89
 z116 := Tryz.sizeOf89
 t117 := Tryz.underlying90
 a117 := Tryz.isAgg90
 z117 := Tryz.sizeOf90
 v117 := Tryz.zeroValue90
 t119 := Tryz.underlying119
 a119 := Tryz.isAgg119
 z119 := Tryz.sizeOf119
 t124 := Tryz.underlying93
 a124 := Tryz.isAgg93
 z124 := Tryz.sizeOf93
 v124 := Tryz.zeroValue93
 t138 := Tryz.underlying121
 a138 := Tryz.isAgg121
 z138 := Tryz.sizeOf121
 v138 := Tryz.zeroValue121
 t139 := Tryz.underlying122
 a139 := Tryz.isAgg122
 z139 := Tryz.sizeOf122
 v139 := Tryz.zeroValue122
 g3 := by kernel_rfl
 g4 := by kernel_rfl }
def Tryz.lays103_ren : Go.Shelf.Ren := ⟨fun | 103 => 12 | 210 => 27 | 206 => 42 | n => n, fun | 9 => 9 | 4 => 4 | 24 => 31 | 3 => 3 | n => n, fun | n => n⟩
theorem Tryz.lays103 : Go.Proofs.Lays.n103 Tryz.prog Tryz.lays103_ren := {
 mixed := by kernel_rfl
 f103 := Tryz.func12.trans (congrArg some (by kernel_rfl))
 f206 := Tryz.func42.trans (congrArg some (by kernel_rfl))
 f210 := Tryz.func27.trans (congrArg some (by kernel_rfl))
 t3 := Tryz.underlying3
 a3 := Tryz.isAgg3
 z3 := Tryz.sizeOf3
 v3 := Tryz.zeroValue3
 t4 := Tryz.underlying4
 a4 := Tryz.isAgg4
 z4 := Tryz.sizeOf4
 v4 := Tryz.zeroValue4
 t9 := Tryz.underlying9
 a9 := Tryz.isAgg9
 z9 := Tryz.sizeOf9
 v9 := Tryz.zeroValue9
 t24 := Tryz.underlying31
 a24 := Tryz.isAgg31
 z24 := Tryz.sizeOf31
 v24 := Tryz.zeroValue31 }
open Go.RowKit in
theorem Tryz.strings_CutPrefix (s p : ByteArray) (w : World) :
  Calls Tryz.prog 12 #[.string s, .string p] w fun e w' => e = .returned (.tuple #[.string ⟨(Lib.trimPrefix s.data.toList p.data.toList).toArray⟩, .bool (Lib.hasPrefix s.data.toList p.data.toList)]) ∧ w' = w := Any.strings_CutPrefix Tryz.lays103 s p w
def Tryz.lays172_ren : Go.Shelf.Ren := ⟨fun | 172 => 21 | 244 => 38 | 245 => 39 | 247 => 51 | 279 => 52 | 280 => 53 | 281 => 54 | 282 => 55 | 287 => 82 | 316 => 83 | 171 => 13 | 205 => 84 | 321 => 98 | 322 => 99 | 243 => 28 | 246 => 43 | 283 => 62 | 284 => 63 | 285 => 64 | 286 => 65 | 129 => 87 | 317 => 86 | 318 => 88 | 319 => 89 | 320 => 90 | 337 => 100 | 338 => 101 | n => n, fun | 9 => 9 | 3 => 3 | 75 => 41 | 76 => 42 | 4 => 4 | 5 => 5 | 167 => 73 | 37 => 50 | 0 => 0 | 85 => 74 | 2 => 2 | 168 => 76 | 53 => 67 | 175 => 97 | 46 => 45 | 210 => 101 | 127 => 70 | 145 => 115 | 143 => 113 | 21 => 21 | 171 => 79 | 173 => 82 | 212 => 104 | 51 => 64 | 20 => 20 | 213 => 105 | 232 => 117 | 233 => 118 | 80 => 55 | n => n, fun | 15 => 1 | 16 => 2 | 17 => 3 | 18 => 4 | 19 => 5 | n => n⟩
def Tryz.laysM246_ren : Go.Shelf.Ren := ⟨fun | 246 => 43 | 283 => 62 | 284 => 63 | 285 => 64 | 286 => 65 | 129 => 87 | 317 => 86 | 318 => 88 | 319 => 89 | 320 => 90 | 337 => 100 | 338 => 101 | n => n, fun | 2 => 2 | 3 => 3 | 9 => 9 | 4 => 4 | 171 => 79 | 0 => 0 | 53 => 67 | 37 => 50 | 5 => 5 | 173 => 82 | 212 => 104 | 51 => 64 | 20 => 20 | 213 => 105 | 46 => 45 | 232 => 117 | 233 => 118 | n => n, fun | 17 => 3 | 18 => 4 | 19 => 5 | n => n⟩
def Tryz.laysM243_ren : Go.Shelf.Ren := ⟨fun | 243 => 28 | 246 => 43 | 283 => 62 | 284 => 63 | 285 => 64 | 286 => 65 | 129 => 87 | 317 => 86 | 318 => 88 | 319 => 89 | 320 => 90 | 337 => 100 | 338 => 101 | n => n, fun | 3 => 3 | 9 => 9 | 2 => 2 | 4 => 4 | 171 => 79 | 0 => 0 | 53 => 67 | 37 => 50 | 5 => 5 | 173 => 82 | 212 => 104 | 51 => 64 | 20 => 20 | 213 => 105 | 46 => 45 | 232 => 117 | 233 => 118 | n => n, fun | 17 => 3 | 18 => 4 | 19 => 5 | n => n⟩
def Tryz.laysM171_ren : Go.Shelf.Ren := ⟨fun | 171 => 13 | 243 => 28 | 246 => 43 | 283 => 62 | 284 => 63 | 285 => 64 | 286 => 65 | 129 => 87 | 317 => 86 | 318 => 88 | 319 => 89 | 320 => 90 | 337 => 100 | 338 => 101 | n => n, fun | 3 => 3 | 9 => 9 | 2 => 2 | 4 => 4 | 171 => 79 | 0 => 0 | 53 => 67 | 37 => 50 | 5 => 5 | 173 => 82 | 212 => 104 | 51 => 64 | 20 => 20 | 213 => 105 | 46 => 45 | 232 => 117 | 233 => 118 | n => n, fun | 17 => 3 | 18 => 4 | 19 => 5 | n => n⟩
theorem Tryz.laysM171 : Go.Proofs.LaysM.n171 Tryz.prog Tryz.laysM171_ren := {
 mixed := by kernel_rfl
 f129 := Tryz.func87.trans (congrArg some (by kernel_rfl))
 f171 := Tryz.func13.trans (congrArg some (by kernel_rfl))
 f243 := Tryz.func28.trans (congrArg some (by kernel_rfl))
 f246 := Tryz.func43.trans (congrArg some (by kernel_rfl))
 f283 := Tryz.func62.trans (congrArg some (by kernel_rfl))
 f284 := Tryz.func63.trans (congrArg some (by kernel_rfl))
 f285 := Tryz.func64.trans (congrArg some (by kernel_rfl))
 f286 := Tryz.func65.trans (congrArg some (by kernel_rfl))
 f317 := Tryz.func86.trans (congrArg some (by kernel_rfl))
 f318 := Tryz.func88.trans (congrArg some (by kernel_rfl))
 f319 := Tryz.func89.trans (congrArg some (by kernel_rfl))
 f320 := Tryz.func90.trans (congrArg some (by kernel_rfl))
 f337 := Tryz.func100.trans (congrArg some (by kernel_rfl))
 f338 := Tryz.func101.trans (congrArg some (by kernel_rfl))
 t0 := Tryz.underlying0
 a0 := Tryz.isAgg0
 z0 := Tryz.sizeOf0
 v0 := Tryz.zeroValue0
 t2 := Tryz.underlying2
 a2 := Tryz.isAgg2
 z2 := Tryz.sizeOf2
 v2 := Tryz.zeroValue2
 t3 := Tryz.underlying3
 a3 := Tryz.isAgg3
 z3 := Tryz.sizeOf3
 v3 := Tryz.zeroValue3
 t4 := Tryz.underlying4
 a4 := Tryz.isAgg4
 z4 := Tryz.sizeOf4
 v4 := Tryz.zeroValue4
 t5 := Tryz.underlying5
 a5 := Tryz.isAgg5
 z5 := Tryz.sizeOf5
 v5 := Tryz.zeroValue5
 t9 := Tryz.underlying9
 a9 := Tryz.isAgg9
 z9 := Tryz.sizeOf9
 v9 := Tryz.zeroValue9
 t20 := Tryz.underlying20
 a20 := Tryz.isAgg20
 z20 := Tryz.sizeOf20
 v20 := Tryz.zeroValue20
 t37 := Tryz.underlying50
 a37 := Tryz.isAgg50
 z37 := Tryz.sizeOf50
 v37 := Tryz.zeroValue50
 t46 := Tryz.underlying45
 a46 := Tryz.isAgg45
 z46 := Tryz.sizeOf45
 v46 := Tryz.zeroValue45
 t51 := Tryz.underlying64
 a51 := Tryz.isAgg64
 z51 := Tryz.sizeOf64
 v51 := Tryz.zeroValue64
 t53 := Tryz.underlying67
 a53 := Tryz.isAgg67
 z53 := Tryz.sizeOf67
 v53 := Tryz.zeroValue67
 t171 := Tryz.underlying79
 a171 := Tryz.isAgg79
 z171 := Tryz.sizeOf79
 v171 := Tryz.zeroValue79
 t173 := Tryz.underlying82
 a173 := Tryz.isAgg82
 z173 := Tryz.sizeOf82
 v173 := Tryz.zeroValue82
 t212 := Tryz.underlying104
 a212 := Tryz.isAgg104
 z212 := Tryz.sizeOf104
 v212 := Tryz.zeroValue104
 t213 := Tryz.underlying105
 a213 := Tryz.isAgg105
 z213 := Tryz.sizeOf105
 t232 := Tryz.underlying117
 a232 := Tryz.isAgg117
 z232 := Tryz.sizeOf117
 v232 := Tryz.zeroValue117
 t233 := Tryz.underlying118
 a233 := Tryz.isAgg118
 z233 := Tryz.sizeOf118
 v233 := Tryz.zeroValue118
 g17 := by kernel_rfl
 g18 := by kernel_rfl
 g19 := by kernel_rfl
 i0 := by kernel_rfl
 i2 := by kernel_rfl
 i3 := by kernel_rfl
 i4 := by kernel_rfl
 i5 := by kernel_rfl
 i9 := by kernel_rfl
 i20 := by kernel_rfl
 i37 := by kernel_rfl
 i46 := by kernel_rfl
 i51 := by kernel_rfl
 i53 := by kernel_rfl
 i171 := by kernel_rfl
 i173 := by kernel_rfl
 i212 := by kernel_rfl
 i232 := by kernel_rfl
 i233 := by kernel_rfl
 m17 := by kernel_rfl
 m18 := by kernel_rfl
 m19 := by kernel_rfl }
open Go.RowKit Go.Sort Go.Lib in
theorem Tryz.strconv_Itoa (n : Int) (h0 : -9223372036854775808 ≤ n) (h1 : n ≤ 9223372036854775807) (w : World) (htab : Lib.TabIs Tryz.prog w "internal/strconv.uint64pow10" .u64 Lib.pow10Tab) :
  Calls Tryz.prog 13 #[.int .i64 n] w fun e w' => e = .returned (.string ⟨(Lib.itoa n).toArray⟩) ∧ ∃ k os, w' = grow (w.drewN k) os := Any.strconv_Itoa Tryz.laysM171 n h0 h1 w htab
def Tryz.laysC172_ren : Go.Shelf.Ren := ⟨fun | 172 => 21 | 244 => 38 | 245 => 39 | 247 => 51 | 279 => 52 | 280 => 53 | 281 => 54 | 282 => 55 | 287 => 82 | 316 => 83 | 171 => 13 | 205 => 84 | 321 => 98 | 322 => 99 | 243 => 28 | 246 => 43 | 283 => 62 | 284 => 63 | 285 => 64 | 286 => 65 | 129 => 87 | 317 => 86 | 318 => 88 | 319 => 89 | 320 => 90 | 337 => 100 | 338 => 101 | n => n, fun | 9 => 9 | 3 => 3 | 75 => 41 | 76 => 42 | 4 => 4 | 5 => 5 | 167 => 73 | 37 => 50 | 0 => 0 | 85 => 74 | 2 => 2 | 168 => 76 | 53 => 67 | 175 => 97 | 46 => 45 | 210 => 101 | 127 => 70 | 145 => 115 | 143 => 113 | 21 => 21 | 171 => 79 | 173 => 82 | 212 => 104 | 51 => 64 | 20 => 20 | 213 => 105 | 232 => 117 | 233 => 118 | 80 => 55 | n => n, fun | 15 => 1 | 16 => 2 | 17 => 3 | 18 => 4 | 19 => 5 | n => n⟩
theorem Tryz.laysC172 : Go.Proofs.LaysC.n172 Tryz.prog Tryz.laysC172_ren := {
 mixed := by kernel_rfl
 f129 := Tryz.func87.trans (congrArg some (by kernel_rfl))
 f171 := Tryz.func13.trans (congrArg some (by kernel_rfl))
 f172 := Tryz.func21.trans (congrArg some (by kernel_rfl))
 f205 := Tryz.func84.trans (congrArg some (by kernel_rfl))
 f243 := Tryz.func28.trans (congrArg some (by kernel_rfl))
 f244 := Tryz.func38.trans (congrArg some (by kernel_rfl))
 f245 := Tryz.func39.trans (congrArg some (by kernel_rfl))
 f246 := Tryz.func43.trans (congrArg some (by kernel_rfl))
 f247 := Tryz.func51.trans (congrArg some (by kernel_rfl))
 f279 := Tryz.func52.trans (congrArg some (by kernel_rfl))
 f280 := Tryz.func53.trans (congrArg some (by kernel_rfl))
 f281 := Tryz.func54.trans (congrArg some (by kernel_rfl))
 f282 := Tryz.func55.trans (congrArg some (by kernel_rfl))
 f283 := Tryz.func62.trans (congrArg some (by kernel_rfl))
 f284 := Tryz.func63.trans (congrArg some (by kernel_rfl))
 f285 := Tryz.func64.trans (congrArg some (by kernel_rfl))
 f286 := Tryz.func65.trans (congrArg some (by kernel_rfl))
 f287 := Tryz.func82.trans (congrArg some (by kernel_rfl))
 f316 := Tryz.func83.trans (congrArg some (by kernel_rfl))
 f317 := Tryz.func86.trans (congrArg some (by kernel_rfl))
 f318 := Tryz.func88.trans (congrArg some (by kernel_rfl))
 f319 := Tryz.func89.trans (congrArg some (by kernel_rfl))
 f320 := Tryz.func90.trans (congrArg some (by kernel_rfl))
 f321 := Tryz.func98.trans (congrArg some (by kernel_rfl))
 f322 := Tryz.func99.trans (congrArg some (by kernel_rfl))
 f337 := Tryz.func100.trans (congrArg some (by kernel_rfl))
 f338 := Tryz.func101.trans (congrArg some (by kernel_rfl))
 t0 := Tryz.underlying0
 a0 := Tryz.isAgg0
 z0 := Tryz.sizeOf0
 v0 := Tryz.zeroValue0
 t2 := Tryz.underlying2
 a2 := Tryz.isAgg2
 z2 := Tryz.sizeOf2
 v2 := Tryz.zeroValue2
 t3 := Tryz.underlying3
 a3 := Tryz.isAgg3
 z3 := Tryz.sizeOf3
 v3 := Tryz.zeroValue3
 t4 := Tryz.underlying4
 a4 := Tryz.isAgg4
 z4 := Tryz.sizeOf4
 v4 := Tryz.zeroValue4
 t5 := Tryz.underlying5
 a5 := Tryz.isAgg5
 z5 := Tryz.sizeOf5
 v5 := Tryz.zeroValue5
 t9 := Tryz.underlying9
 a9 := Tryz.isAgg9
 z9 := Tryz.sizeOf9
 v9 := Tryz.zeroValue9
 t20 := Tryz.underlying20
 a20 := Tryz.isAgg20
 z20 := Tryz.sizeOf20
 v20 := Tryz.zeroValue20
 t21 := Tryz.underlying21
 a21 := Tryz.isAgg21
 z21 := Tryz.sizeOf21
 v21 := Tryz.zeroValue21
 t37 := Tryz.underlying50
 a37 := Tryz.isAgg50
 z37 := Tryz.sizeOf50
 v37 := Tryz.zeroValue50
 t46 := Tryz.underlying45
 a46 := Tryz.isAgg45
 z46 := Tryz.sizeOf45
 v46 := Tryz.zeroValue45
 t51 := Tryz.underlying64
 a51 := Tryz.isAgg64
 z51 := Tryz.sizeOf64
 v51 := Tryz.zeroValue64
 t53 := Tryz.underlying67
 a53 := Tryz.isAgg67
 z53 := Tryz.sizeOf67
 v53 := Tryz.zeroValue67
 t75 := Tryz.underlying41
 a75 := Tryz.isAgg41
 z75 := Tryz.sizeOf41
 v75 := Tryz.zeroValue41
 t76 := Tryz.underlying42
 a76 := Tryz.isAgg42
 z76 := Tryz.sizeOf42
 v76 := Tryz.zeroValue42
 t85 := Tryz.underlying74
 a85 := Tryz.isAgg74
 z85 := Tryz.sizeOf74
 v85 := Tryz.zeroValue74
 t127 := Tryz.underlying70
 a127 := Tryz.isAgg70
 z127 := Tryz.sizeOf70
 v127 := Tryz.zeroValue70
 t143 := Tryz.underlying113
 a143 := Tryz.isAgg113
 z143 := Tryz.sizeOf113
 v143 := Tryz.zeroValue113
 t145 := Tryz.underlying115
 a145 := Tryz.isAgg115
 z145 := Tryz.sizeOf115
 v145 := Tryz.zeroValue115
 t167 := Tryz.underlying73
 a167 := Tryz.isAgg73
 z167 := Tryz.sizeOf73
 v167 := Tryz.zeroValue73
 t168 := Tryz.underlying76
 a168 := Tryz.isAgg76
 z168 := Tryz.sizeOf76
 v168 := Tryz.zeroValue76
 t171 := Tryz.underlying79
 a171 := Tryz.isAgg79
 z171 := Tryz.sizeOf79
 v171 := Tryz.zeroValue79
 t173 := Tryz.underlying82
 a173 := Tryz.isAgg82
 z173 := Tryz.sizeOf82
 v173 := Tryz.zeroValue82
 t175 := Tryz.underlying97
 a175 := Tryz.isAgg97
 z175 := Tryz.sizeOf97
 v175 := Tryz.zeroValue97
 t210 := Tryz.underlying101
 a210 := Tryz.isAgg101
 z210 := Tryz.sizeOf101
 v210 := Tryz.zeroValue101
 t212 := Tryz.underlying104
 a212 := Tryz.isAgg104
 z212 := Tryz.sizeOf104
 v212 := Tryz.zeroValue104
 t213 := Tryz.underlying105
 a213 := Tryz.isAgg105
 z213 := Tryz.sizeOf105
 t232 := Tryz.underlying117
 a232 := Tryz.isAgg117
 z232 := Tryz.sizeOf117
 v232 := Tryz.zeroValue117
 t233 := Tryz.underlying118
 a233 := Tryz.isAgg118
 z233 := Tryz.sizeOf118
 v233 := Tryz.zeroValue118
 g15 := by kernel_rfl
 g16 := by kernel_rfl
 g17 := by kernel_rfl
 g18 := by kernel_rfl
 g19 := by kernel_rfl
 t80 := Tryz.underlying55
 a80 := Tryz.isAgg55
 z80 := Tryz.sizeOf55
 v80 := Tryz.zeroValue55
 i0 := by kernel_rfl
 i2 := by kernel_rfl
 i3 := by kernel_rfl
 i4 := by kernel_rfl
 i5 := by kernel_rfl
 i9 := by kernel_rfl
 i20 := by kernel_rfl
 i21 := by kernel_rfl
 i37 := by kernel_rfl
 i46 := by kernel_rfl
 i51 := by kernel_rfl
 i53 := by kernel_rfl
 i75 := by kernel_rfl
 i76 := by kernel_rfl
 i80 := by kernel_rfl
 i85 := by kernel_rfl
 i127 := by kernel_rfl
 i143 := by kernel_rfl
 i145 := by kernel_rfl
 i167 := by kernel_rfl
 i168 := by kernel_rfl
 i171 := by kernel_rfl
 i173 := by kernel_rfl
 i175 := by kernel_rfl
 i210 := by kernel_rfl
 i212 := by kernel_rfl
 i232 := by kernel_rfl
 i233 := by kernel_rfl
 m15 := by kernel_rfl
 m16 := by kernel_rfl
 m17 := by kernel_rfl
 m18 := by kernel_rfl
 m19 := by kernel_rfl
 c0 := by kernel_rfl
 c2 := by kernel_rfl
 c3 := by kernel_rfl
 c4 := by kernel_rfl
 c5 := by kernel_rfl
 c9 := by kernel_rfl
 c20 := by kernel_rfl
 c21 := by kernel_rfl
 c37 := by kernel_rfl
 c46 := by kernel_rfl
 c51 := by kernel_rfl
 c53 := by kernel_rfl
 c75 := by kernel_rfl
 c76 := by kernel_rfl
 c80 := by kernel_rfl
 c85 := by kernel_rfl
 c127 := by kernel_rfl
 c143 := by kernel_rfl
 c145 := by kernel_rfl
 c167 := by kernel_rfl
 c168 := by kernel_rfl
 c171 := by kernel_rfl
 c173 := by kernel_rfl
 c175 := by kernel_rfl
 c210 := by kernel_rfl
 c212 := by kernel_rfl
 c213 := by kernel_rfl
 c232 := by kernel_rfl
 c233 := by kernel_rfl }
open Go.RowKit in
theorem Tryz.strconv_Atoi_ok (s : ByteArray) (hmax : s.size ≤ 9223372036854775806) (v : Int) (h : Lib.atoiAll s.data.toList = .ok v) (w : World) :
  Calls Tryz.prog 21 #[.string s] w fun e w' => e = .returned (.tuple #[.int .i64 v, .nilIface]) ∧ (w' = w ∨ ∃ t, w' = Lib.bytesWorld w 5 t) := Any.strconv_Atoi_ok Tryz.laysC172 s hmax v h w
open Go.RowKit in
theorem Tryz.strconv_Atoi_range (s : ByteArray) (hlim : s.size ≤ 281474976710656) (h : Lib.atoiAll s.data.toList = .range) (ev : Value) (w : World) (hv : w.cell? ⟨2, 0, none⟩ = some ev) (hev : ev = .nilIface ∨ ∃ te pe, ev = .iface te pe) :
  Calls Tryz.prog 21 #[.string s] w fun e w' => ∃ N, e = .returned (.tuple #[.int .i64 (Lib.atoiSat s.data.toList), .iface 76 (.pointer (some ⟨N, 0, none⟩))]) ∧ w.heap.size ≤ N ∧ w'.heap[N]? = some (.cells #[.string ⟨#[65, 116, 111, 105]⟩, .string s, ev] 101 (0, 0)) ∧ Below w.heap.size w w' := Any.strconv_Atoi_range Tryz.laysC172 s hlim h ev w hv hev
def Tryz.lays219_ren : Go.Shelf.Ren := ⟨fun | 219 => 50 | 217 => 78 | 225 => 79 | 224 => 80 | 267 => 81 | 266 => 96 | 314 => 97 | n => n, fun | 9 => 9 | 3 => 3 | 4 => 4 | 5 => 5 | 46 => 45 | 146 => 65 | 51 => 64 | n => n, fun | 1 => 0 | n => n⟩
def Tryz.lays145_ren : Go.Shelf.Ren := ⟨fun | 145 => 20 | 220 => 37 | 219 => 50 | 217 => 78 | 225 => 79 | 224 => 80 | 267 => 81 | 266 => 96 | 314 => 97 | n => n, fun | 9 => 9 | 4 => 4 | 59 => 38 | 3 => 3 | 5 => 5 | 46 => 45 | 146 => 65 | 51 => 64 | n => n, fun | 1 => 0 | n => n⟩
theorem Tryz.lays145 : Go.Proofs.Lays.n145 Tryz.prog Tryz.lays145_ren := {
 mixed := by kernel_rfl
 f145 := Tryz.func20.trans (congrArg some (by kernel_rfl))
 f217 := Tryz.func78.trans (congrArg some (by kernel_rfl))
 f219 := Tryz.func50.trans (congrArg some (by kernel_rfl))
 f220 := Tryz.func37.trans (congrArg some (by kernel_rfl))
 f224 := Tryz.func80.trans (congrArg some (by kernel_rfl))
 f225 := Tryz.func79.trans (congrArg some (by kernel_rfl))
 f266 := Tryz.func96.trans (congrArg some (by kernel_rfl))
 f267 := Tryz.func81.trans (congrArg some (by kernel_rfl))
 f314 := Tryz.func97.trans (congrArg some (by kernel_rfl))
 t3 := Tryz.underlying3
 a3 := Tryz.isAgg3
 z3 := Tryz.sizeOf3
 v3 := Tryz.zeroValue3
 t4 := Tryz.underlying4
 a4 := Tryz.isAgg4
 z4 := Tryz.sizeOf4
 v4 := Tryz.zeroValue4
 t5 := Tryz.underlying5
 a5 := Tryz.isAgg5
 z5 := Tryz.sizeOf5
 v5 := Tryz.zeroValue5
 t9 := Tryz.underlying9
 a9 := Tryz.isAgg9
 z9 := Tryz.sizeOf9
 v9 := Tryz.zeroValue9
 t46 := Tryz.underlying45
 a46 := Tryz.isAgg45
 z46 := Tryz.sizeOf45
 v46 := Tryz.zeroValue45
 t51 := Tryz.underlying64
 a51 := Tryz.isAgg64
 z51 := Tryz.sizeOf64
 v51 := Tryz.zeroValue64
 t59 := Tryz.underlying38
 a59 := Tryz.isAgg38
 z59 := Tryz.sizeOf38
 v59 := Tryz.zeroValue38
 t146 := Tryz.underlying65
 a146 := Tryz.isAgg65
 z146 := Tryz.sizeOf65
 v146 := Tryz.zeroValue65
 g1 := by kernel_rfl }
open Go.RowKit Go.Lib in
theorem Tryz.strings_Cut (s sep : ByteArray) (m : Int) (w : World) (hs : s.size < 4294967281) (hm : w.cell? ⟨0, 0, none⟩ = some (.int .i64 m)) :
  Calls Tryz.prog 20 #[.string s, .string sep] w fun e w' => e = .returned (.tuple #[.string ⟨(Lib.cut s.data.toList sep.data.toList).1.toArray⟩, .string ⟨(Lib.cut s.data.toList sep.data.toList).2.1.toArray⟩, .bool (Lib.cut s.data.toList sep.data.toList).2.2]) ∧ ∃ n, w' = w.drewN n := Any.strings_Cut Tryz.lays145 s sep m w hs hm
def Tryz.lays150_ren : Go.Shelf.Ren := ⟨fun | 150 => 36 | 153 => 49 | 152 => 75 | 226 => 76 | 227 => 70 | 228 => 77 | 137 => 94 | 119 => 95 | 224 => 80 | 225 => 79 | 217 => 78 | 266 => 96 | n => n, fun | 9 => 9 | 4 => 4 | 3 => 3 | 5 => 5 | 21 => 21 | 117 => 90 | 116 => 89 | 0 => 0 | 46 => 45 | 124 => 93 | n => n, fun | n => n⟩
theorem Tryz.lays150 : Go.Proofs.Lays.n150 Tryz.prog Tryz.lays150_ren := {
 mixed := by kernel_rfl
 f119 := Tryz.func95.trans (congrArg some (by kernel_rfl))
 f137 := Tryz.func94.trans (congrArg some (by kernel_rfl))
 f150 := Tryz.func36.trans (congrArg some (by kernel_rfl))
 f152 := Tryz.func75.trans (congrArg some (by kernel_rfl))
 f153 := Tryz.func49.trans (congrArg some (by kernel_rfl))
 f217 := Tryz.func78.trans (congrArg some (by kernel_rfl))
 f224 := Tryz.func80.trans (congrArg some (by kernel_rfl))
 f225 := Tryz.func79.trans (congrArg some (by kernel_rfl))
 f226 := Tryz.func76.trans (congrArg some (by kernel_rfl))
 f227 := Tryz.func70.trans (congrArg some (by kernel_rfl))
 f228 := Tryz.func77.trans (congrArg some (by kernel_rfl))
 f266 := Tryz.func96.trans (congrArg some (by kernel_rfl))
 t0 := Tryz.underlying0
 a0 := Tryz.isAgg0
 z0 := Tryz.sizeOf0
 v0 := Tryz.zeroValue0
 t3 := Tryz.underlying3
 a3 := Tryz.isAgg3
 z3 := Tryz.sizeOf3
 v3 := Tryz.zeroValue3
 t4 := Tryz.underlying4
 a4 := Tryz.isAgg4
 z4 := Tryz.sizeOf4
 v4 := Tryz.zeroValue4
 t5 := Tryz.underlying5
 a5 := Tryz.isAgg5
 z5 := Tryz.sizeOf5
 v5 := Tryz.zeroValue5
 t9 := Tryz.underlying9
 a9 := Tryz.isAgg9
 z9 := Tryz.sizeOf9
 v9 := Tryz.zeroValue9
 t21 := Tryz.underlying21
 a21 := Tryz.isAgg21
 z21 := Tryz.sizeOf21
 v21 := Tryz.zeroValue21
 t46 := Tryz.underlying45
 a46 := Tryz.isAgg45
 z46 := Tryz.sizeOf45
 v46 := Tryz.zeroValue45
 t116 := Tryz.underlying89
 a116 := Tryz.isAgg89
 z116 := Tryz.sizeOf89
 t117 := Tryz.underlying90
 a117 := Tryz.isAgg90
 z117 := Tryz.sizeOf90
 v117 := Tryz.zeroValue90
 t124 := Tryz.underlying93
 a124 := Tryz.isAgg93
 z124 := Tryz.sizeOf93
 v124 := Tryz.zeroValue93 }
open Go.RowKit Go.Lib in
theorem Tryz.strings_ContainsAny_laid (s chars : ByteArray) (w : World) (hs : s.size < 4294967281) (hcs : chars.size < 4294967281) (has : ∀ (j : Nat) b, s.data.toList[j]? = some b → b.toNat < 128) (hac : ∀ (j : Nat) b, chars.data.toList[j]? = some b → b.toNat < 128) :
  Calls Tryz.prog 36 #[.string s, .string chars] w fun e w' => e = .returned (.bool (Lib.containsAny s.data.toList chars.data.toList)) ∧ Below w.heap.size w w' := Any.strings_ContainsAny_laid Tryz.lays150 (by kernel_rfl) s chars w hs hcs has hac
def Tryz.lays105_ren : Go.Shelf.Ren := ⟨fun | 105 => 14 | 212 => 29 | 99 => 30 | 165 => 31 | 166 => 32 | 170 => 33 | 169 => 34 | 263 => 44 | 264 => 45 | 206 => 42 | 240 => 46 | 241 => 47 | 276 => 66 | 277 => 67 | n => n, fun | 9 => 9 | 3 => 3 | 4 => 4 | 20 => 20 | 0 => 0 | 46 => 45 | 109 => 46 | 5 => 5 | 72 => 52 | 76 => 42 | 51 => 64 | 146 => 65 | 53 => 67 | 148 => 68 | 70 => 49 | 37 => 50 | 75 => 41 | 127 => 70 | 164 => 84 | 80 => 55 | n => n, fun | n => n⟩
theorem Tryz.lays105 : Go.Proofs.Lays.n105 Tryz.prog Tryz.lays105_ren := {
 mixed := by kernel_rfl
 f99 := Tryz.func30.trans (congrArg some (by kernel_rfl))
 f105 := Tryz.func14.trans (congrArg some (by kernel_rfl))
 f165 := Tryz.func31.trans (congrArg some (by kernel_rfl))
 f166 := Tryz.func32.trans (congrArg some (by kernel_rfl))
 f169 := Tryz.func34.trans (congrArg some (by kernel_rfl))
 f170 := Tryz.func33.trans (congrArg some (by kernel_rfl))
 f206 := Tryz.func42.trans (congrArg some (by kernel_rfl))
 f212 := Tryz.func29.trans (congrArg some (by kernel_rfl))
 f240 := Tryz.func46.trans (congrArg some (by kernel_rfl))
 f241 := Tryz.func47.trans (congrArg some (by kernel_rfl))
 f263 := Tryz.func44.trans (congrArg some (by kernel_rfl))
 f264 := Tryz.func45.trans (congrArg some (by kernel_rfl))
 f276 := Tryz.func66.trans (congrArg some (by kernel_rfl))
 f277 := Tryz.func67.trans (congrArg some (by kernel_rfl))
 t0 := Tryz.underlying0
 a0 := Tryz.isAgg0
 z0 := Tryz.sizeOf0
 v0 := Tryz.zeroValue0
 t3 := Tryz.underlying3
 a3 := Tryz.isAgg3
 z3 := Tryz.sizeOf3
 v3 := Tryz.zeroValue3
 t4 := Tryz.underlying4
 a4 := Tryz.isAgg4
 z4 := Tryz.sizeOf4
 v4 := Tryz.zeroValue4
 t5 := Tryz.underlying5
 a5 := Tryz.isAgg5
 z5 := Tryz.sizeOf5
 v5 := Tryz.zeroValue5
 t9 := Tryz.underlying9
 a9 := Tryz.isAgg9
 z9 := Tryz.sizeOf9
 v9 := Tryz.zeroValue9
 t20 := Tryz.underlying20
 a20 := Tryz.isAgg20
 z20 := Tryz.sizeOf20
 v20 := Tryz.zeroValue20
 t37 := Tryz.underlying50
 a37 := Tryz.isAgg50
 z37 := Tryz.sizeOf50
 v37 := Tryz.zeroValue50
 t46 := Tryz.underlying45
 a46 := Tryz.isAgg45
 z46 := Tryz.sizeOf45
 v46 := Tryz.zeroValue45
 t51 := Tryz.underlying64
 a51 := Tryz.isAgg64
 z51 := Tryz.sizeOf64
 v51 := Tryz.zeroValue64
 t53 := Tryz.underlying67
 a53 := Tryz.isAgg67
 z53 := Tryz.sizeOf67
 v53 := Tryz.zeroValue67
 t70 := Tryz.underlying49
 a70 := Tryz.isAgg49
 z70 := Tryz.sizeOf49
 v70 := Tryz.zeroValue49
 t72 := Tryz.underlying52
 a72 := Tryz.isAgg52
 z72 := Tryz.sizeOf52
 v72 := Tryz.zeroValue52
 t75 := Tryz.underlying41
 a75 := Tryz.isAgg41
 z75 := Tryz.sizeOf41
 v75 := Tryz.zeroValue41
 t76 := Tryz.underlying42
 a76 := Tryz.isAgg42
 z76 := Tryz.sizeOf42
 v76 := Tryz.zeroValue42
 t109 := Tryz.underlying46
 a109 := Tryz.isAgg46
 z109 := Tryz.sizeOf46
 v109 := Tryz.zeroValue46
 t127 := Tryz.underlying70
 a127 := Tryz.isAgg70
 z127 := Tryz.sizeOf70
 v127 := Tryz.zeroValue70
 t146 := Tryz.underlying65
 a146 := Tryz.isAgg65
 z146 := Tryz.sizeOf65
 v146 := Tryz.zeroValue65
 t148 := Tryz.underlying68
 a148 := Tryz.isAgg68
 z148 := Tryz.sizeOf68
 v148 := Tryz.zeroValue68
 t164 := Tryz.underlying84
 a164 := Tryz.isAgg84
 z164 := Tryz.sizeOf84
 v164 := Tryz.zeroValue84 }
theorem Tryz.Builder_Extra_105 : Builder.Extra Tryz.prog Tryz.lays105_ren := {
 sizeBuilder := by kernel_rfl
 liesBuilder := by kernel_rfl
 t5 := Tryz.underlying5
 a5 := Tryz.isAgg5
 z5 := Tryz.sizeOf5
 v5 := Tryz.zeroValue5
 infoByte := by kernel_rfl
 cellsByte := by kernel_rfl
 sizeByte := by kernel_rfl
 neB5 := by decide }
open Go.RowKit Go.Lib in
theorem Tryz.strings_Repeat (s : ByteArray) (c : Nat) (w : World) (hc : c ≤ 9223372036854775807) (hlen : s.size * c ≤ 140737488355328) :
  Calls Tryz.prog 14 #[.string s, .int .i64 c] w fun e w' => e = .returned (.string ⟨(Lib.repeatL s.data.toList c).toArray⟩) ∧ Below w.heap.size w w' := Any.strings_Repeat Tryz.lays105 Tryz.Builder_Extra_105 s c w hc hlen
end Go.Proofs
namespace Go.Proofs.YthndbonfcdphgaaGreatDoor
open Go.RowKit
theorem dc_drew {B : Nat} {a w : World} (h : Below B a w) : Below B a w.drew := ⟨h.os, h.tape, h.output, h.size, h.block⟩
theorem below_more {W w w' : World} (h : Below W.heap.size W w) (hb : Below w.heap.size w w') : Below W.heap.size W w' := h.trans (hb.mono h.size)
theorem dret_int {k : IntKind} {a b : Int} (h : a = b) : Ending.returned (.int k a) = .returned (.int k b) := by rw [h]
theorem dret_bool {a b : Bool} (h : a = b) : Ending.returned (.bool a) = .returned (.bool b) := by rw [h]
abbrev DTab (B : Nat) (w : World) : Prop := Lib.TabBelow Tryz.prog B w "internal/strconv.uint64pow10" .u64 Lib.pow10Tab
theorem DTab.up {w w' : World} (h : DTab w.heap.size w) (hb : Below w.heap.size w w') : DTab w'.heap.size w' := fun w2 h2 => h w2 (hb.trans (h2.mono hb.size))
theorem itoa_any (n : Int) (h0 : -9223372036854775808 ≤ n) (h1 : n ≤ 9223372036854775807) (w : World) (ht : DTab w.heap.size w) :
  Calls Tryz.prog 13 #[.int .i64 n] w fun e w' => e = .returned (.string ⟨(Lib.itoa n).toArray⟩) ∧ Below w.heap.size w w' := by
 refine (Tryz.strconv_Itoa n h0 h1 w ht.here).mono ?_
 rintro e w' ⟨he, k, os, rfl⟩
 exact ⟨he, Lib.below_grow _ _ (Nat.le_refl _) _ _⟩
theorem bytes_eq {a b : ByteArray} (h : a.data.toList = b.data.toList) : a = b := by
 cases a; cases b; congr; exact Array.toList_inj.1 h
theorem dret_str {a b : ByteArray} (h : a = b) : Ending.returned (.string a) = .returned (.string b) := by rw [h]
theorem trim_digits {D : List UInt8} (h : ∀ d ∈ D, d ≠ 45) : Lib.trimPrefix D [45] = D ∧ Lib.hasPrefix D [45] = false := by
 cases D with
 | nil => exact ⟨rfl, rfl⟩
 | cons a t =>
  have ha : a ≠ 45 := h a (by simp)
  have hp : ([45] : List UInt8).isPrefixOf (a :: t) = false := by simp [List.isPrefixOf, Ne.symm ha]
  constructor <;> simp [Lib.trimPrefix, Lib.hasPrefix, hp]
theorem trim_minus (D : List UInt8) : Lib.trimPrefix (45 :: D) [45] = D ∧ Lib.hasPrefix (45 :: D) [45] = true := by
 constructor <;> simp [Lib.trimPrefix, Lib.hasPrefix]

/- A text is cut at the first byte of a kind. -/
theorem index_one (l : List UInt8) (c : UInt8) : Lib.index l [c] = if l.idxOf c < l.length then (l.idxOf c : Int) else -1 := by
 induction l with
 | nil => rfl
 | cons b r ih =>
  rw [Lib.index, List.idxOf_cons]
  by_cases h : b = c
  ·subst h; simp [List.isPrefixOf]
  ·have h1 : List.isPrefixOf [c] (b :: r) = false := by simp [List.isPrefixOf]; exact Ne.symm h
   have h2 : (b == c) = false := by simpa using h
   rw [h1, h2, ih]
   simp only [Bool.false_eq_true, if_false, cond_false, List.length_cons]
   by_cases h3 : List.idxOf c r < r.length
   ·have h4 : List.idxOf c r + 1 < r.length + 1 := by omega
    have h5 : ((List.idxOf c r : Int)) ≠ -1 := by omega
    simp [h3, h4, h5]
   ·have h4 : ¬ List.idxOf c r + 1 < r.length + 1 := by omega
    simp [h3, h4]
theorem cut_miss {l : List UInt8} {c : UInt8} (h : c ∉ l) : Lib.cut l [c] = (l, [], false) := by
 have h1 : ¬ l.idxOf c < l.length := fun h2 => h (List.idxOf_lt_length_iff.1 h2)
 unfold Lib.cut
 rw [index_one, if_neg h1]
 rfl
theorem idx_hit {W R : List UInt8} {c : UInt8} (h : c ∉ W) : (W ++ c :: R).idxOf c = W.length := by
 induction W with
 | nil => simp
 | cons a t ih =>
  have h1 : a ≠ c := fun e => h (by simp [e])
  have h2 : (a == c) = false := by simpa using h1
  rw [List.cons_append, List.idxOf_cons, h2, ih fun e => h (by simp [e])]
  rfl
theorem cut_hit {W R : List UInt8} {c : UInt8} (h : c ∉ W) : Lib.cut (W ++ c :: R) [c] = (W, R, true) := by
 have h1 : Lib.index (W ++ c :: R) [c] = (W.length : Int) := by
  rw [index_one, idx_hit h, if_pos (by rw [List.length_append, List.length_cons]; omega)]
 unfold Lib.cut
 rw [h1, if_pos (by omega)]
 simp
theorem cut_split (l : List UInt8) (c : UInt8) : (∃ W R, c ∉ W ∧ l = W ++ c :: R) ∨ c ∉ l := by
 by_cases h : c ∈ l
 ·left
  obtain ⟨W, R, e, hw⟩ := List.eq_append_cons_of_mem h
  exact ⟨W, R, hw, e⟩
 ·exact .inr h
def dgs (l : List UInt8) : Bool := !l.isEmpty && l.all isDig
theorem dgs_is {l : List UInt8} (h : dgs l = true) : l ≠ [] ∧ ∀ c ∈ l, isDig c = true := by
 unfold dgs at h
 simp only [Bool.and_eq_true, Bool.not_eq_true', List.isEmpty_eq_false_iff, List.all_eq_true] at h
 exact h
theorem dgs_mk {l : List UInt8} (h0 : l ≠ []) (h : ∀ c ∈ l, isDig c = true) : dgs l = true := by
 unfold dgs
 simp only [Bool.and_eq_true, Bool.not_eq_true', List.isEmpty_eq_false_iff, List.all_eq_true]
 exact ⟨h0, h⟩
theorem dig_no {l : List UInt8} (h : ∀ c ∈ l, isDig c = true) {x : UInt8} (hx : isDig x = false) : x ∉ l := fun hm => by rw [h x hm] at hx; cases hx
theorem drop_nil {p : UInt8 → Bool} (l : List UInt8) : l.dropWhile p = [] ↔ l.all p = true := by
 induction l with
 | nil => simp
 | cons a t ih =>
  rw [List.dropWhile_cons, List.all_cons]
  by_cases h : p a = true
  ·rw [if_pos h, h, Bool.true_and]; exact ih
  ·rw [if_neg h]; simp [h]
theorem drop_all {p : UInt8 → Bool} (l : List UInt8) : (l.dropWhile p).all p = l.all p := by
 induction l with
 | nil => rfl
 | cons a t ih =>
  rw [List.dropWhile_cons]
  by_cases h : p a = true
  ·rw [if_pos h, ih, List.all_cons, h, Bool.true_and]
  ·rw [if_neg h]
theorem ten_dig (c : UInt8) : ([48, 49, 50, 51, 52, 53, 54, 55, 56, 57] : List UInt8).contains c = isDig c := by
 rw [Bool.eq_iff_iff, isDig_iff]
 simp only [List.contains_eq_mem, List.mem_cons, List.not_mem_nil, or_false, decide_eq_true_eq]
 constructor
 ·rintro (rfl | rfl | rfl | rfl | rfl | rfl | rfl | rfl | rfl | rfl) <;> decide
 ·intro ⟨h1, h2⟩
  have e : ∀ k : Nat, k < 256 → c.toNat = k → c = UInt8.ofNat k := fun k hk h => by
   apply UInt8.toNat_inj.1; rw [h]; simp; omega
  have h3 : c.toNat = 48 ∨ c.toNat = 49 ∨ c.toNat = 50 ∨ c.toNat = 51 ∨ c.toNat = 52 ∨ c.toNat = 53 ∨ c.toNat = 54 ∨ c.toNat = 55 ∨ c.toNat = 56 ∨ c.toNat = 57 := by omega
  rcases h3 with h | h | h | h | h | h | h | h | h | h <;> rw [e _ (by omega) h] <;> decide
theorem trim_ten (l : List UInt8) : (Lib.trimS l [48, 49, 50, 51, 52, 53, 54, 55, 56, 57]).isEmpty = l.all isDig := by
 have e : (fun c => ([48, 49, 50, 51, 52, 53, 54, 55, 56, 57] : List UInt8).contains c) = isDig := funext ten_dig
 unfold Lib.trimS Lib.trimLeftS Lib.trimRightS
 rw [e, Bool.eq_iff_iff, List.isEmpty_iff, drop_nil, List.all_reverse, drop_all, List.all_reverse]
def MaxC (w : World) : Prop := ∃ m : Int, w.cell? ⟨0, 0, none⟩ = some (.int .i64 m)
theorem cell_lt_of {w : World} {a : Addr} {v : Value} (h : w.cell? a = some v) : a.block < w.heap.size := by
 rcases Nat.lt_or_ge a.block w.heap.size with hlt | hge
 ·exact hlt
 ·unfold World.cell? at h
  rw [Array.getElem?_eq_none hge] at h
  simp at h
theorem MaxC.up {w w' : World} (h : MaxC w) (hb : Below w.heap.size w w') : MaxC w' := by
 obtain ⟨m, h⟩ := h
 exact ⟨m, (hb.cell (cell_lt_of h)).trans h⟩
theorem cut_any {s sep : ByteArray} {N D : List UInt8} {fd : Bool} {w : World} (hm : MaxC w) (hs : s.size ≤ 1000000) (hc : Lib.cut s.data.toList sep.data.toList = (N, D, fd)) :
  Calls Tryz.prog 20 #[.string s, .string sep] w fun e w' => e = .returned (.tuple #[.string ⟨N.toArray⟩, .string ⟨D.toArray⟩, .bool fd]) ∧ Below w.heap.size w w' := by
 obtain ⟨m, hm⟩ := hm
 refine (Tryz.strings_Cut s sep m w (by omega) hm).mono ?_
 rintro e w' ⟨rfl, n, rfl⟩
 rw [hc]
 exact ⟨rfl, below_drewN (Below.refl _ _) n⟩
def ErrC (w : World) : Prop := ∃ v : Value, w.cell? ⟨2, 0, none⟩ = some v ∧ (v = .nilIface ∨ ∃ te pe, v = .iface te pe)
theorem ErrC.up {w w' : World} (h : ErrC w) (hb : Below w.heap.size w w') : ErrC w' := by
 obtain ⟨m, h, h2⟩ := h
 exact ⟨m, (hb.cell (cell_lt_of h)).trans h, h2⟩
/- The number that a text of digits stands for, as strconv.Atoi finds it. -/
theorem fold_ge (l : List UInt8) (n : Nat) : n ≤ l.foldl (fun n c => 10 * n + (c.toNat - 48)) n := by
 induction l generalizing n with
 | nil => exact Nat.le_refl _
 | cons c t ih => exact Nat.le_trans (by omega) (ih (10 * n + (c.toNat - 48)))
theorem parse10 (l : List UInt8) (n : Nat) (h : ∀ c ∈ l, isDig c = true) (hn : n < 18446744073709551616) :
  Lib.parseUint10 n l = if l.foldl (fun n c => 10 * n + (c.toNat - 48)) n < 18446744073709551616 then .ok (l.foldl (fun n c => 10 * n + (c.toNat - 48)) n) else .range := by
 induction l generalizing n with
 | nil => rw [List.foldl_nil, if_pos hn]; rfl
 | cons c t ih =>
  have hc := isDig_iff.1 (h c (by simp))
  have ht : ∀ c ∈ t, isDig c = true := fun x hx => h x (by simp [hx])
  have hg := fold_ge t (10 * n + (c.toNat - 48))
  rw [List.foldl_cons, Lib.parseUint10, if_pos ⟨hc.1, hc.2⟩]
  by_cases h1 : 1844674407370955162 ≤ n
  ·rw [if_pos h1, if_neg (by omega)]
  ·rw [if_neg h1]
   by_cases h2 : 18446744073709551616 ≤ n * 10 + (c.toNat - 48)
   ·rw [if_pos h2, if_neg (by omega)]
   ·rw [if_neg h2, Nat.mul_comm n 10, ih _ ht (by omega)]
theorem mag10 {l : List UInt8} (h : dgs l = true) : Lib.parseMag l = if numOf l < 18446744073709551616 then .ok (numOf l) else .range := by
 obtain ⟨h0, hd⟩ := dgs_is h
 unfold Lib.parseMag
 rw [if_neg h0, parse10 l 0 hd (by omega)]
 rfl
def endZ (neg : Bool) (n : Nat) : Lib.NumEnd Int := if neg then (if n ≤ 9223372036854775808 then .ok (-(n : Int)) else .range) else (if n < 9223372036854775808 then .ok (n : Int) else .range)
theorem atoi_digits {l : List UInt8} (h : dgs l = true) : Lib.atoiAll l = endZ false (numOf l) := by
 obtain ⟨h0, hd⟩ := dgs_is h
 obtain ⟨c, t, rfl⟩ := List.exists_cons_of_ne_nil h0
 have hc := isDig_iff.1 (hd c (by simp))
 rw [Lib.atoiAll_plain c t (by omega) (by omega), mag10 h]
 unfold endZ
 rw [if_neg (show ¬ false = true by decide)]
 by_cases h1 : numOf (c :: t) < 18446744073709551616
 ·rw [if_pos h1, Lib.signless]
  by_cases h2 : numOf (c :: t) < 9223372036854775808
  ·rw [if_neg (by omega), if_pos h2]
  ·rw [if_pos (by omega), if_neg h2]
 ·rw [if_neg h1, if_neg (by omega)]; rfl
theorem atoi_minus {l : List UInt8} (h : dgs l = true) : Lib.atoiAll (45 :: l) = endZ true (numOf l) := by
 rw [Lib.atoiAll_minus, mag10 h]
 unfold endZ
 rw [if_pos (show true = true from rfl)]
 by_cases h1 : numOf l < 18446744073709551616
 ·rw [if_pos h1, Lib.signed]
  by_cases h2 : numOf l ≤ 9223372036854775808
  ·rw [if_neg (by omega), if_pos h2]
  ·rw [if_pos (by omega), if_neg h2]
 ·rw [if_neg h1, if_neg (by omega)]; rfl
theorem endZ_cases (neg : Bool) (n : Nat) : (∃ v, endZ neg n = .ok v) ∨ endZ neg n = .range := by
 unfold endZ
 repeat' split
 all_goals first | exact .inl ⟨_, rfl⟩ | exact .inr rfl
theorem atoi_end {s : ByteArray} {w : World} (hv : ErrC w) (hs : s.size ≤ 1000000) {neg : Bool} {n : Nat} (h : Lib.atoiAll s.data.toList = endZ neg n) :
  Calls Tryz.prog 21 #[.string s] w fun e w' => (∃ v er, e = .returned (.tuple #[.int .i64 v, er]) ∧ ((endZ neg n = .ok v ∧ er = .nilIface) ∨ (endZ neg n = .range ∧ ∃ g, er = .iface 76 (.pointer (some ⟨g, 0, none⟩))))) ∧ Below w.heap.size w w' := by
 rcases endZ_cases neg n with ⟨v, he⟩ | he
 ·refine (Tryz.strconv_Atoi_ok s (by omega) v (h.trans he) w).mono ?_
  rintro e w' ⟨rfl, hw⟩
  refine ⟨⟨v, _, rfl, .inl ⟨he, rfl⟩⟩, ?_⟩
  rcases hw with rfl | ⟨t, rfl⟩
  ·exact Below.refl _ _
  ·exact Lib.bytesWorld_below _ _ _
 ·obtain ⟨ev, h1, h2⟩ := hv
  refine (Tryz.strconv_Atoi_range s (by omega) (h.trans he) ev w h1 h2).mono ?_
  rintro e w' ⟨N, rfl, _, _, hb⟩
  exact ⟨⟨_, _, rfl, .inr ⟨he, N, rfl⟩⟩, hb⟩
theorem trim10_any (s : ByteArray) (w : World) (hs : s.size ≤ 1000000) :
  Calls Tryz.prog 48 #[.string s, .string ⟨#[48, 49, 50, 51, 52, 53, 54, 55, 56, 57]⟩] w fun e w' => e = .returned (.string ⟨(Lib.trimS s.data.toList [48, 49, 50, 51, 52, 53, 54, 55, 56, 57]).toArray⟩) ∧ Below w.heap.size w w' :=
 Any.strings_Trim_laid Tryz.lays160 (by kernel_rfl) s ⟨#[48, 49, 50, 51, 52, 53, 54, 55, 56, 57]⟩ w (by omega) (by decide) (ascii_of_all (by decide))
theorem wpList_byte_str {P : Program} {w : World} {ops : Array Oper} {rest : List Oper} {o : Oper} {a : Act} {Q : Exit → Act → World → Prop} (hg : o.guard = none) (src dst : TypeId) (x : Operand) (hop : o.op = Op.convert src dst x)
  (e : TypeId) (hs : P.underlying src = some (.slice e)) (he : P.underlying e = some (.int .u8)) (hd : P.underlying dst = some .string)
  (X : Int) (b : UInt8) (hX : X = (b.toNat : Int)) (c : Nat) (hx : a.eval x = .slice (some ⟨w.heap.size, 0, none⟩) 1 c)
  (h : wpList P ops Q rest (a.put o.dst (.string ⟨#[b]⟩)) (w.alloc (.cells #[.int .u8 X] e))) : wpList P ops Q (o :: rest) a (w.alloc (.cells #[.int .u8 X] e)) := by
 refine wpList_plain hg fun K hK => ?_
 have hrun : (convert src dst (.slice (some ⟨w.heap.size, 0, none⟩) 1 c)).run P (w.alloc (.cells #[.int .u8 X] e)) = .ok (.string ⟨#[b]⟩) (w.alloc (.cells #[.int .u8 X] e)) := by
  rw [run_convert_bytes_string _ src dst e _ _ _ hs he hd]
  have hl := run_loadCells_list (P := P) (w := w.alloc (.cells #[.int .u8 X] e)) ⟨w.heap.size, 0, none⟩ [.int .u8 X] (fun j v hj => by
   match j, hj with
   | 0, hj =>
    simp at hj
    subst hj
    unfold World.cell? Addr.add
    rw [if_pos rfl]
    dsimp only
    rw [heap_alloc_new]
    simp)
  rw [run_bytesToString (P := P) (w.alloc (.cells #[.int .u8 X] e)) ⟨w.heap.size, 0, none⟩ 1 c [X] (by simpa using hl)]
  subst hX
  simp [ByteArray.empty, ByteArray.emptyWithCapacity, ByteArray.push]
  rfl
 unfold Oper.wp
 simp [execOp, hop, hx, hrun, Result.andThen]
 exact hK _ _ h
def hr (a b : Int) : Int := if a < 0 then -((2 * -a + b) / (2 * b)) else (2 * a + b) / (2 * b)
open Go.Lib (decDigits)
def two (r : Nat) : List UInt8 := [UInt8.ofNat (48 + r / 10), UInt8.ofNat (48 + r % 10)]
theorem dec_len (k n : Nat) (h : n < 10 ^ (k + 1)) : (decDigits n).length ≤ k + 1 := by
 induction k generalizing n with
 | zero => rw [dec_small (by omega)]; simp
 | succ k ih =>
  rw [decDigits]
  split
  ·simp
  ·rw [Nat.pow_succ] at h
   have := ih (n / 10) (by omega)
   simp; omega
def ngL (l : List UInt8) : Bool := Lib.hasPrefix l [45]
def unL (l : List UInt8) : List UInt8 := Lib.trimPrefix l [45]
def cutW (t : List UInt8) : List UInt8 := (Lib.cut t [46]).1
def cutR (t : List UInt8) : List UInt8 := (Lib.cut t [46]).2.1
theorem cutp_any (l : List UInt8) (w : World) : Calls Tryz.prog 12 #[.string ⟨l.toArray⟩, .string ⟨#[45]⟩] w fun e w' => e = .returned (.tuple #[.string ⟨(unL l).toArray⟩, .bool (ngL l)]) ∧ w = w' :=
 (Tryz.strings_CutPrefix ⟨l.toArray⟩ ⟨#[45]⟩ w).mono fun _ _ ⟨he, hw⟩ => ⟨he, hw.symm⟩
theorem cutd_any (t : List UInt8) (w : World) (hm : MaxC w) (hl : t.length ≤ 1000) : Calls Tryz.prog 20 #[.string ⟨t.toArray⟩, .string ⟨#[46]⟩] w fun e w' => e = .returned (.tuple #[.string ⟨(cutW t).toArray⟩, .string ⟨(cutR t).toArray⟩, .bool (Lib.cut t [46]).2.2]) ∧ Below w.heap.size w w' :=
 cut_any (s := ⟨t.toArray⟩) (sep := ⟨#[46]⟩) hm (by rw [Lib.size_mk]; omega) rfl
theorem unL_le (l : List UInt8) : (unL l).length ≤ l.length := by
 unfold unL Lib.trimPrefix
 split <;> simp
theorem cut_le (t : List UInt8) : (cutW t).length ≤ t.length ∧ (cutR t).length ≤ t.length := by
 unfold cutW cutR
 rcases cut_split t 46 with ⟨W, R, hw, rfl⟩ | h
 ·rw [cut_hit hw]; simp; omega
 ·rw [cut_miss h]; simp
theorem ddig_any (l : List UInt8) (w : World) (hs : l.length ≤ 1000) : Calls Tryz.prog 35 #[.string ⟨l.toArray⟩] w fun e w' => e = .returned (.bool (dgs l)) ∧ Below w.heap.size w w' := by
 unfold dgs
 have hB := Below.refl w.heap.size w
 cases he : l.isEmpty
 ·have hT := fun w => trim10_any ⟨l.toArray⟩ w (by rw [Lib.size_mk]; omega)
  have ht := trim_ten l
  rw [show (⟨l.toArray⟩ : ByteArray).data.toList = l by simp] at hT
  generalize Lib.trimS l [48, 49, 50, 51, 52, 53, 54, 55, 56, 57] = T at *
  rw [← ht]
  have HT := Lib.hid hT
  clear hT ht
  cases hT2 : T.isEmpty
  all_goals
   go_enter Tryz.func35, Tryz.ntmps35
   go_wp2_with (go_at_call 48; refine (HT.out _).mono ?_; rintro e w' ⟨rfl, hb⟩; replace hB := below_more hB hb; clear hb)
   go_ret
   exact ⟨rfl, hB⟩
 ·obtain rfl : l = [] := List.isEmpty_iff.1 he
  go_enter Tryz.func35, Tryz.ntmps35
  go_wp2_with fail
  go_ret
  exact ⟨rfl, hB⟩
def cutH (t : List UInt8) : Bool := (Lib.cut t [46]).2.2
def nine : List UInt8 := [49, 50, 51, 52, 53, 54, 55, 56, 57]
def hasNZ (t : List UInt8) : Bool := Lib.containsAny t nine
def okD (t : List UInt8) : Bool := dgs (cutW t) && ((!cutH t || dgs (cutR t)) && !(decide (1 < (cutW t).length) && (cutW t).head? == some 48))
def dform (l : List UInt8) : Bool := okD (unL l) && (!ngL l || hasNZ (unL l))
theorem cut_three (t : List UInt8) : (cutH t = true ∧ t = cutW t ++ 46 :: cutR t ∧ 46 ∉ cutW t) ∨ (cutH t = false ∧ cutW t = t ∧ cutR t = [] ∧ 46 ∉ t) := by
 unfold cutH cutW cutR
 rcases cut_split t 46 with ⟨W, R, hw, e⟩ | hn
 ·left; rw [e, cut_hit hw]; exact ⟨rfl, rfl, hw⟩
 ·right; rw [cut_miss hn]; exact ⟨rfl, rfl, rfl, hn⟩
theorem dig_ascii {c : UInt8} (h : isDig c = true) : c.toNat < 128 := by have := isDig_iff.1 h; omega
theorem okD_ascii {t : List UInt8} (h1 : dgs (cutW t) = true) (h2 : cutH t = true → dgs (cutR t) = true) : ∀ (j : Nat) b, t[j]? = some b → b.toNat < 128 := by
 intro j b hb
 have hm := List.mem_of_getElem? hb
 rcases cut_three t with ⟨a1, a2, -⟩ | ⟨a1, a2, -⟩
 ·rw [a2] at hm
  rcases List.mem_append.1 hm with h | h
  ·exact dig_ascii ((dgs_is h1).2 b h)
  ·rcases List.mem_cons.1 h with rfl | h
   ·decide
   ·exact dig_ascii ((dgs_is (h2 a1)).2 b h)
 ·rw [a2] at h1
  exact dig_ascii ((dgs_is h1).2 b hm)
theorem conta_any (t : List UInt8) (w : World) (hl : t.length ≤ 1000) (ha : ∀ (j : Nat) b, t[j]? = some b → b.toNat < 128) :
  Calls Tryz.prog 36 #[.string ⟨t.toArray⟩, .string ⟨#[49, 50, 51, 52, 53, 54, 55, 56, 57]⟩] w fun e w' => e = .returned (.bool (hasNZ t)) ∧ Below w.heap.size w w' :=
 Tryz.strings_ContainsAny_laid ⟨t.toArray⟩ ⟨#[49, 50, 51, 52, 53, 54, 55, 56, 57]⟩ w (by rw [Lib.size_mk]; omega) (by decide) (by simpa using ha) (ascii_of_all (by decide))
set_option maxRecDepth 20000 in
set_option maxHeartbeats 3200000 in
theorem istext_any (l : List UInt8) (w : World) (hm : MaxC w) (hl : l.length ≤ 1000) : Calls Tryz.prog 19 #[.string ⟨l.toArray⟩] w fun e w' => e = .returned (.bool (dform l)) ∧ Below w.heap.size w w' := by
 have hu := unL_le l
 have hc := cut_le (unL l)
 have h1 := fun w => cutp_any l w
 have h2 := fun w h => cutd_any (unL l) w h (by omega)
 have h3 := fun w => ddig_any (cutW (unL l)) w (by omega)
 have h4 := fun w => ddig_any (cutR (unL l)) w (by omega)
 have h5 := fun w ha => conta_any (unL l) w (by omega) ha
 have h6 := okD_ascii (t := unL l)
 unfold dform okD
 rw [show (Lib.cut (unL l) [46]).2.2 = cutH (unL l) from rfl] at h2
 generalize hasNZ (unL l) = nz at *
 generalize cutH (unL l) = fd at *
 generalize cutW (unL l) = W at *
 generalize cutR (unL l) = R at *
 generalize unL l = U at *
 generalize ngL l = ng at *
 have H1 := Lib.hid h1
 have H2 := Lib.hid h2
 have HM := Lib.hid hm
 obtain ⟨hc1, hc2⟩ := hc
 clear h1 h2 hm
 have hB := Below.refl w.heap.size w
 cases hW : dgs W
 ·rw [hW] at h3
  have H3 := Lib.hid h3
  clear h3 h4 hW h5 h6
  go_enter Tryz.func19, Tryz.ntmps19
  go_wp2_with (first | (go_at_call 12; refine (H1.out _).mono ?_; rintro e w' ⟨rfl, rfl⟩) | (go_at_call 20; refine (H2.out _ (HM.out.up hB)).mono ?_; rintro e w' ⟨rfl, hb⟩; replace hB := below_more hB hb; clear hb) | (go_at_call 35; refine (H3.out _).mono ?_; rintro e w' ⟨rfl, hb⟩; replace hB := below_more hB hb; clear hb))
  go_ret
  exact ⟨rfl, hB⟩
 ·rw [hW] at h3
  have H3 := Lib.hid h3
  have hlead : ∀ {R' : Bool}, (fd = true → R' = true) → (fd = true → dgs R = R') → Calls Tryz.prog 19 #[.string ⟨l.toArray⟩] w fun e w' => e = .returned (.bool (true && ((!fd || R') && !(decide (1 < W.length) && W.head? == some 48)) && (!ng || nz))) ∧ Below w.heap.size w w' := by
   intro R' k1 k2
   have k3 : fd = true → dgs R = true := fun h => (k2 h).trans (k1 h)
   have h7 := fun w => h5 w (h6 hW k3)
   have H5 := Lib.hid h7
   have h8 : fd = true → ∀ w, Calls Tryz.prog 35 #[.string ⟨R.toArray⟩] w fun e w' => e = .returned (.bool true) ∧ Below w.heap.size w w' := fun h w => by have := h4 w; rw [k3 h] at this; exact this
   have kb : (!fd || R') = true := by
    cases fd
    ·rfl
    ·rw [k1 rfl]; rfl
   rw [kb]
   clear h5 h6 h4 h3 kb h7 k2 k3
   obtain ⟨c, W', rfl⟩ := List.exists_cons_of_ne_nil (dgs_is hW).1
   clear hW
   have hi0 : ∀ h, (⟨(c :: W').toArray⟩ : ByteArray)[0]'h = c := fun _ => rfl
   have hd : ((c :: W').head? == some 48) = ((c.toNat : Int) == 48) := by
    rw [Bool.eq_iff_iff]
    simp only [List.head?_cons, beq_iff_eq, Option.some.injEq]
    constructor
    ·rintro rfl; rfl
    ·intro h; apply UInt8.toNat_inj.1; show c.toNat = 48; omega
   rw [hd]
   clear hd
   cases fd
   ·clear h8 k1
    by_cases hl1 : W'.length = 0
    ·obtain rfl : W' = [] := List.eq_nil_of_length_eq_zero hl1
     rw [show decide (1 < [c].length) = false from rfl]
     cases ng
     ·skip
      go_enter Tryz.func19, Tryz.ntmps19
      go_wp2_with (first | (go_at_call 12; refine (H1.out _).mono ?_; rintro e w' ⟨rfl, rfl⟩) | (go_at_call 20; refine (H2.out _ (HM.out.up hB)).mono ?_; rintro e w' ⟨rfl, hb⟩; replace hB := below_more hB hb; clear hb) | (go_at_call 35; refine (H3.out _).mono ?_; rintro e w' ⟨rfl, hb⟩; replace hB := below_more hB hb; clear hb))
      go_ret
      exact ⟨rfl, hB⟩
     ·cases nz
      all_goals
       go_enter Tryz.func19, Tryz.ntmps19
       go_wp2_with (first | (go_at_call 12; refine (H1.out _).mono ?_; rintro e w' ⟨rfl, rfl⟩) | (go_at_call 20; refine (H2.out _ (HM.out.up hB)).mono ?_; rintro e w' ⟨rfl, hb⟩; replace hB := below_more hB hb; clear hb) | (go_at_call 35; refine (H3.out _).mono ?_; rintro e w' ⟨rfl, hb⟩; replace hB := below_more hB hb; clear hb) | (go_at_call 36; refine (H5.out _).mono ?_; rintro e w' ⟨rfl, hb⟩; replace hB := below_more hB hb; clear hb))
       go_ret
       exact ⟨rfl, hB⟩
    ·have hl2 : 0 < W'.length := by omega
     have hl3 : (1 : Int) < (W'.length : Int) + 1 := by omega
     rw [show decide (1 < (c :: W').length) = true from decide_eq_true (by rw [List.length_cons]; omega)]
     clear hl1
     cases hc48 : ((c.toNat : Int) == 48)
     ·cases ng
      ·skip
       go_enter Tryz.func19, Tryz.ntmps19
       go_wp2_with (first | (go_at_call 12; refine (H1.out _).mono ?_; rintro e w' ⟨rfl, rfl⟩) | (go_at_call 20; refine (H2.out _ (HM.out.up hB)).mono ?_; rintro e w' ⟨rfl, hb⟩; replace hB := below_more hB hb; clear hb) | (go_at_call 35; refine (H3.out _).mono ?_; rintro e w' ⟨rfl, hb⟩; replace hB := below_more hB hb; clear hb))
       go_ret
       exact ⟨rfl, hB⟩
      ·cases nz
       all_goals
        go_enter Tryz.func19, Tryz.ntmps19
        go_wp2_with (first | (go_at_call 12; refine (H1.out _).mono ?_; rintro e w' ⟨rfl, rfl⟩) | (go_at_call 20; refine (H2.out _ (HM.out.up hB)).mono ?_; rintro e w' ⟨rfl, hb⟩; replace hB := below_more hB hb; clear hb) | (go_at_call 35; refine (H3.out _).mono ?_; rintro e w' ⟨rfl, hb⟩; replace hB := below_more hB hb; clear hb) | (go_at_call 36; refine (H5.out _).mono ?_; rintro e w' ⟨rfl, hb⟩; replace hB := below_more hB hb; clear hb))
        go_ret
        exact ⟨rfl, hB⟩
     ·skip
      go_enter Tryz.func19, Tryz.ntmps19
      go_wp2_with (first | (go_at_call 12; refine (H1.out _).mono ?_; rintro e w' ⟨rfl, rfl⟩) | (go_at_call 20; refine (H2.out _ (HM.out.up hB)).mono ?_; rintro e w' ⟨rfl, hb⟩; replace hB := below_more hB hb; clear hb) | (go_at_call 35; refine (H3.out _).mono ?_; rintro e w' ⟨rfl, hb⟩; replace hB := below_more hB hb; clear hb))
      go_ret
      exact ⟨rfl, hB⟩
   ·have H4 := Lib.hid (h8 rfl)
    clear h8 k1
    by_cases hl1 : W'.length = 0
    ·obtain rfl : W' = [] := List.eq_nil_of_length_eq_zero hl1
     rw [show decide (1 < [c].length) = false from rfl]
     cases ng
     ·skip
      go_enter Tryz.func19, Tryz.ntmps19
      go_wp2_with (first | (go_at_call 12; refine (H1.out _).mono ?_; rintro e w' ⟨rfl, rfl⟩) | (go_at_call 20; refine (H2.out _ (HM.out.up hB)).mono ?_; rintro e w' ⟨rfl, hb⟩; replace hB := below_more hB hb; clear hb) | (go_at_call 35; first | ((with_reducible refine (H3.out _).mono ?_); rintro e w' ⟨rfl, hb⟩; replace hB := below_more hB hb; clear hb) | ((with_reducible refine (H4.out _).mono ?_); rintro e w' ⟨rfl, hb⟩; replace hB := below_more hB hb; clear hb)))
      go_ret
      exact ⟨rfl, hB⟩
     ·cases nz
      all_goals
       go_enter Tryz.func19, Tryz.ntmps19
       go_wp2_with (first | (go_at_call 12; refine (H1.out _).mono ?_; rintro e w' ⟨rfl, rfl⟩) | (go_at_call 20; refine (H2.out _ (HM.out.up hB)).mono ?_; rintro e w' ⟨rfl, hb⟩; replace hB := below_more hB hb; clear hb) | (go_at_call 35; first | ((with_reducible refine (H3.out _).mono ?_); rintro e w' ⟨rfl, hb⟩; replace hB := below_more hB hb; clear hb) | ((with_reducible refine (H4.out _).mono ?_); rintro e w' ⟨rfl, hb⟩; replace hB := below_more hB hb; clear hb)) | (go_at_call 36; refine (H5.out _).mono ?_; rintro e w' ⟨rfl, hb⟩; replace hB := below_more hB hb; clear hb))
       go_ret
       exact ⟨rfl, hB⟩
    ·have hl2 : 0 < W'.length := by omega
     have hl3 : (1 : Int) < (W'.length : Int) + 1 := by omega
     rw [show decide (1 < (c :: W').length) = true from decide_eq_true (by rw [List.length_cons]; omega)]
     clear hl1
     cases hc48 : ((c.toNat : Int) == 48)
     ·cases ng
      ·skip
       go_enter Tryz.func19, Tryz.ntmps19
       go_wp2_with (first | (go_at_call 12; refine (H1.out _).mono ?_; rintro e w' ⟨rfl, rfl⟩) | (go_at_call 20; refine (H2.out _ (HM.out.up hB)).mono ?_; rintro e w' ⟨rfl, hb⟩; replace hB := below_more hB hb; clear hb) | (go_at_call 35; first | ((with_reducible refine (H3.out _).mono ?_); rintro e w' ⟨rfl, hb⟩; replace hB := below_more hB hb; clear hb) | ((with_reducible refine (H4.out _).mono ?_); rintro e w' ⟨rfl, hb⟩; replace hB := below_more hB hb; clear hb)))
       go_ret
       exact ⟨rfl, hB⟩
      ·cases nz
       all_goals
        go_enter Tryz.func19, Tryz.ntmps19
        go_wp2_with (first | (go_at_call 12; refine (H1.out _).mono ?_; rintro e w' ⟨rfl, rfl⟩) | (go_at_call 20; refine (H2.out _ (HM.out.up hB)).mono ?_; rintro e w' ⟨rfl, hb⟩; replace hB := below_more hB hb; clear hb) | (go_at_call 35; first | ((with_reducible refine (H3.out _).mono ?_); rintro e w' ⟨rfl, hb⟩; replace hB := below_more hB hb; clear hb) | ((with_reducible refine (H4.out _).mono ?_); rintro e w' ⟨rfl, hb⟩; replace hB := below_more hB hb; clear hb)) | (go_at_call 36; refine (H5.out _).mono ?_; rintro e w' ⟨rfl, hb⟩; replace hB := below_more hB hb; clear hb))
        go_ret
        exact ⟨rfl, hB⟩
     ·skip
      go_enter Tryz.func19, Tryz.ntmps19
      go_wp2_with (first | (go_at_call 12; refine (H1.out _).mono ?_; rintro e w' ⟨rfl, rfl⟩) | (go_at_call 20; refine (H2.out _ (HM.out.up hB)).mono ?_; rintro e w' ⟨rfl, hb⟩; replace hB := below_more hB hb; clear hb) | (go_at_call 35; first | ((with_reducible refine (H3.out _).mono ?_); rintro e w' ⟨rfl, hb⟩; replace hB := below_more hB hb; clear hb) | ((with_reducible refine (H4.out _).mono ?_); rintro e w' ⟨rfl, hb⟩; replace hB := below_more hB hb; clear hb)))
      go_ret
      exact ⟨rfl, hB⟩
  by_cases hR : fd = true ∧ dgs R = false
  ·obtain ⟨rfl, hR⟩ := hR
   rw [hR] at h4 ⊢
   have H4 := Lib.hid h4
   clear h3 h4 hW hR h5 h6 hlead
   go_enter Tryz.func19, Tryz.ntmps19
   go_wp2_with (first | (go_at_call 12; refine (H1.out _).mono ?_; rintro e w' ⟨rfl, rfl⟩) | (go_at_call 20; refine (H2.out _ (HM.out.up hB)).mono ?_; rintro e w' ⟨rfl, hb⟩; replace hB := below_more hB hb; clear hb) | (go_at_call 35; first | ((with_reducible refine (H3.out _).mono ?_); rintro e w' ⟨rfl, hb⟩; replace hB := below_more hB hb; clear hb) | ((with_reducible refine (H4.out _).mono ?_); rintro e w' ⟨rfl, hb⟩; replace hB := below_more hB hb; clear hb)))
   go_ret
   exact ⟨rfl, hB⟩
  ·refine (hlead (R' := dgs R) (fun h => ?_) (fun _ => rfl)).mono fun _ _ h => h
   cases hR2 : dgs R
   ·exact absurd ⟨h, hR2⟩ hR
   ·rfl
open Go Go.RowKit
structure Fact where
 p : Value → World → Prop
 st : ∀ v w w', Below w.heap.size w w' → p v w → p v w'
def Fact.triv : Fact := ⟨fun _ _ => True, fun _ _ _ _ _ => trivial⟩
def look : List (Nat × Fact) → Nat → Fact
 | [], _ => Fact.triv
 | (k, f) :: rest, d => bif Nat.beq k d then f else look rest d
def factOf (FL : List (Nat × Fact)) (dst : Option Nat) (v : Value) (w : World) : Prop := match dst with
 | none => True
 | some d => (look FL d).p v w
def fillL (u : Nat → Value) : List Nat → Array Value → Array Value
 | [], t => t
 | d :: ds, t => fillL u ds (t.setIfInBounds d (u d))
def upd (u : Nat → Value) (d : Option Nat) (v : Value) (n : Nat) : Value := match d with
 | none => u n
 | some d => if n = d then v else u n
theorem fillL_size (u : Nat → Value) (ds : List Nat) : ∀ t : Array Value, (fillL u ds t).size = t.size := by
 induction ds with
 | nil => intro t; rfl
 | cons d ds ih => intro t; rw [fillL, ih]; simp
theorem fillL_get (u : Nat → Value) (ds : List Nat) : ∀ (t : Array Value) (n : Nat), (fillL u ds t)[n]? = if n < t.size then (if n ∈ ds then some (u n) else t[n]?) else none := by
 induction ds with
 | nil => intro t n; by_cases h : n < t.size <;> simp [fillL, h]
 | cons d ds ih =>
  intro t n
  rw [fillL, ih]
  by_cases h : n < t.size
  ·simp only [Array.size_setIfInBounds, h, if_true, List.mem_cons]
   by_cases h1 : n ∈ ds
   ·simp [h1]
   ·by_cases h2 : n = d
    ·subst h2; simp [h1, h]
    ·simp only [h1, h2, if_false, or_self]; rw [Array.getElem?_setIfInBounds_ne (Ne.symm h2)]
  ·simp [h]
theorem fillL_upd (u : Nat → Value) (ds : List Nat) (t : Array Value) (d : Nat) (v : Value) (hd : d ∈ ds) : (fillL u ds t).setIfInBounds d v = fillL (upd u (some d) v) ds t := by
 apply Array.ext_getElem?
 intro n
 rw [Array.getElem?_setIfInBounds, fillL_get, fillL_get, fillL_size]
 by_cases h : n < t.size
 ·by_cases h2 : d = n
  ·subst h2; simp [h, hd, upd]
  ·simp only [h, h2, if_true, if_false]
   by_cases h3 : n ∈ ds
   ·simp [h3, upd, Ne.symm h2]
   ·simp [h3]
 ·simp only [h, if_false]
  by_cases h2 : d = n
  ·subst h2; simp [h]
  ·simp [h2]
theorem fillL_self (ds : List Nat) (t : Array Value) : fillL (fun d => t.getD d undef) ds t = t := by
 apply Array.ext_getElem?
 intro n
 rw [fillL_get]
 by_cases h : n < t.size
 ·simp [h]
 ·simp [h]
theorem filter_less {p q : Nat → Bool} {i : Nat} (hpi : p i = true) (hqi : q i = false) (h : ∀ j, q j = true → p j = true) : ∀ l : List Nat, i ∈ l → (l.filter q).length < (l.filter p).length := by
 have hle : ∀ l : List Nat, (l.filter q).length ≤ (l.filter p).length := by
  intro l
  induction l with
  | nil => simp
  | cons x l ih =>
   rw [List.filter_cons, List.filter_cons]
   by_cases hq : q x = true
   ·simp [hq, h x hq]; exact ih
   ·by_cases hp : p x = true <;> simp [hq, hp] <;> omega
 intro l hl
 induction l with
 | nil => cases hl
 | cons x l ih =>
  rw [List.filter_cons, List.filter_cons]
  rcases List.mem_cons.1 hl with rfl | hl
  ·simp [hpi, hqi]; have := hle l; omega
  ·have := ih hl
   by_cases hq : q x = true
   ·simp [hq, h x hq]; exact this
   ·by_cases hp : p x = true <;> simp [hq, hp] <;> omega
section
variable {P : Program} {ops : Array Oper} {Q : Exit → Act → World → Prop} {FL : List (Nat × Fact)} {J : World → Prop} {t0 : Array Value} {df : List Deferred} {ds : List Nat}
theorem put_fill (u : Nat → Value) (o : Oper) (v : Value) (hd : ∀ d, o.dst = some d → d ∈ ds) : (⟨fillL u ds t0, df⟩ : Act).put o.dst v = ⟨fillL (upd u o.dst v) ds t0, df⟩ := by
 cases h : o.dst with
 | none => rfl
 | some d =>
  show Act.mk ((fillL u ds t0).setIfInBounds d v) df = _
  rw [fillL_upd _ _ _ _ _ (hd d h)]
theorem none_listed (n j : Nat) : (Array.replicate n false).getD j false = false := by
 by_cases h : j < n <;> simp [h]
end
open Go Go.RowKit
def AS.NoInt (w : World) (b : Nat) : Prop := ∀ j k n, w.cell? ⟨b, j, none⟩ ≠ some (.int k n)
open AS (NoInt)
def Leaf (x : Value) : Prop := ∀ k n, x ≠ .int k n
structure Bx (t : TypeId) (w : World) (g : Nat) (vs : List Value) : Prop where
 blk : w.heap[g]? = some (.cells vs.toArray t (0, 0))
 leaf : ∀ v ∈ vs, Leaf v
section
variable {t : TypeId} {w w' : World} {g : Nat} {vs : List Value}
theorem Bx.lt (h : Bx t w g vs) : g < w.heap.size := by
 rcases Nat.lt_or_ge g w.heap.size with hlt | hge
 ·exact hlt
 ·have := h.blk; rw [Array.getElem?_eq_none hge] at this; cases this
theorem Bx.up (h : Bx t w g vs) (hb : Below w.heap.size w w') : Bx t w' g vs := ⟨(hb.block g h.lt).trans h.blk, h.leaf⟩
end
end Go.Proofs.YthndbonfcdphgaaGreatDoor
namespace Go.Proofs.YthndbonfcdphgaaGreatDoor.AS
open Go Go.RowKit
open Go.Proofs.YthndbonfcdphgaaGreatDoor (fillL upd fillL_size fillL_get fillL_upd fillL_self filter_less none_listed put_fill)
structure Keep (w w' : World) : Prop where
 size : w.heap.size ≤ w'.heap.size
 blk : ∀ i, i < w.heap.size → (∃ j k n, w.cell? ⟨i, j, none⟩ = some (.int k n)) → w'.heap[i]? = w.heap[i]?
 box : ∀ (t : TypeId) (g : Nat) (vs : List Value), 2 ≤ vs.length → Bx t w g vs → ∃ vs' : List Value, vs'.length = vs.length ∧ Bx t w' g vs'
theorem Keep.ofBelow {w w' : World} (h : Below w.heap.size w w') : Keep w w' := ⟨h.size, fun i hi _ => h.block i hi, fun _ _ vs _ hb => ⟨vs, rfl, hb.up h⟩⟩
structure Fact where
 p : Value → World → Prop
 st : ∀ v w w', Keep w w' → p v w → p v w'
def Fact.triv : Fact := ⟨fun _ _ => True, fun _ _ _ _ _ => trivial⟩
def Fact.is (x : Value) : Fact := ⟨fun v _ => v = x, fun _ _ _ _ h => h⟩
def look : List (Nat × Fact) → Nat → Fact
 | [], _ => Fact.triv
 | (k, f) :: rest, d => bif Nat.beq k d then f else look rest d
def temps (FL : List (Nat × Fact)) : List Nat := FL.map (·.1)
def factOf (FL : List (Nat × Fact)) (dst : Option Nat) (v : Value) (w : World) : Prop := match dst with
 | none => True
 | some d => (look FL d).p v w
def Facts (FL : List (Nat × Fact)) (u : Nat → Value) (w : World) : List Nat → Prop
 | [] => True
 | d :: ds => (look FL d).p (u d) w ∧ Facts FL u w ds
theorem facts_mk {FL : List (Nat × Fact)} {u : Nat → Value} {w : World} {ds : List Nat} (h : ∀ d ∈ ds, (look FL d).p (u d) w) : Facts FL u w ds := by
 induction ds with
 | nil => trivial
 | cons d ds ih => exact ⟨h d (List.mem_cons_self ..), ih fun e he => h e (List.mem_cons_of_mem _ he)⟩
theorem facts_get {FL : List (Nat × Fact)} {u : Nat → Value} {w : World} {ds : List Nat} (h : Facts FL u w ds) (d : Nat) (hd : d ∈ ds) : (look FL d).p (u d) w := by
 induction ds with
 | nil => cases hd
 | cons e ds ih =>
  rcases List.mem_cons.1 hd with rfl | hd
  ·exact h.1
  ·exact ih h.2 hd
def edgesOk (ops : Array Oper) : Bool := (List.range ops.size).all fun i => match ops[i]? with
 | none => true
 | some o => o.after.all fun e => !Region.binds .any e || decide (e.on < i)
def needsOk (ops : Array Oper) (pt : List (List Nat)) (ds : List Nat) : Bool :=
 (List.range ops.size).all fun i => match ops[i]? with
  | none => true
  | some o => (match o.dst with | some d => ds.contains d | none => true) &&
   (pt.getD i []).all fun d => o.after.any fun e => Region.binds .any e && ((match ops[e.on]? with | some o' => o'.dst == some d | none => false) || (pt.getD e.on []).contains d)
def onceOk (ops : Array Oper) : Bool := (List.range ops.size).all fun i => (List.range ops.size).all fun j => match ops[i]?, ops[j]? with
 | some o, some o' => Nat.beq i j || (match o.dst, o'.dst with | some d, some d' => !Nat.beq d d' | _, _ => true)
 | _, _ => true
def storesOk (ops : Array Oper) (pt : List (List Nat)) (st : List Nat) (js : List (List Nat)) : Bool :=
 (List.range st.length).all fun m => decide (st.getD m 0 < ops.size) && (match ops[st.getD m 0]? with | some o => o.dst == none | none => false) &&
  (Nat.beq m 0 || Region.waitsFor .any ops (st.getD m 0) (st.getD (m - 1) 0)) && (js.getD (m + 1) []).all fun d => (pt.getD (st.getD m 0) []).contains d || (js.getD m []).contains d
def waits2 (ops : Array Oper) (s i : Nat) : Bool := Region.waitsFor .any ops s i || (List.range ops.size).any fun j => Region.waitsFor .any ops s j && Region.waitsFor .any ops j i
def limOk (ops : Array Oper) (st lm : List Nat) : Bool :=
 (List.range ops.size).all fun i => Nat.beq (lm.getD i st.length) st.length || waits2 ops (st.getD (lm.getD i st.length) ops.size) i
def allWritten (ops : Array Oper) (ds : List Nat) : Bool := ds.all fun d => ops.any fun o => o.dst == some d
def allocsOk (ops : Array Oper) (al st : List Nat) : Bool := al.all fun d => st.all fun s => (List.range ops.size).any fun i => (match ops[i]? with | some o => o.dst == some d | none => false) && waits2 ops s i
def chk (al : List Nat) (ops : Array Oper) (pt : List (List Nat)) (ds st : List Nat) (js : List (List Nat)) (lm : List Nat) : Bool :=
 allocsOk ops al st && al.all ds.contains && edgesOk ops && needsOk ops pt ds && onceOk ops && storesOk ops pt st js && limOk ops st lm && allWritten ops ds && (js.getD 0 []).isEmpty
section
variable {P : Program} {ops : Array Oper} {Q : Exit → Act → World → Prop} {FL : List (Nat × Fact)} {J : Nat → List Value → World → Prop} {t0 : Array Value} {df : List Deferred} {ds : List Nat}
 {st lm al : List Nat} {js : List (List Nat)} {pt : List (List Nat)}
def aOk (al : List Nat) (dst : Option Nat) (v : Value) (w w' : World) : Prop := match dst with
 | some d => bif al.contains d then v = .pointer (some ⟨w.heap.size, 0, none⟩) ∧ w.heap.size < w'.heap.size else True
 | none => True
def Apart (al : List Nat) (u : Nat → Value) : Prop := ∀ d ∈ al, ∀ d' ∈ al, d ≠ d' → u d ≠ u d'
def StepOk (al : List Nat) (P : Program) (ops : Array Oper) (Q : Exit → Act → World → Prop) (FL : List (Nat × Fact)) (J : Nat → List Value → World → Prop) (js : List (List Nat)) (fr : (Nat → Value) → Array Value) (df : List Deferred) (o : Oper) (need : List Nat) (lim : Nat) : Prop :=
 ∀ (k : Nat) (u : Nat → Value) (w : World), k ≤ lim → J k ((js.getD k []).map u) w → Facts FL u w need → ∀ K : Act → World → Prop, Shut (∀ v w', Below w.heap.size w w' → factOf FL o.dst v w' → aOk al o.dst v w w' → K ((⟨fr u, df⟩ : Act).put o.dst v) w') →
  if Region.wanted o (yielded ops (fr u)) = true then Oper.wp P o ⟨fr u, df⟩ w K Q else K ((⟨fr u, df⟩ : Act).put o.dst undef) w
def StoreOk (al : List Nat) (P : Program) (ops : Array Oper) (Q : Exit → Act → World → Prop) (FL : List (Nat × Fact)) (J : Nat → List Value → World → Prop) (js : List (List Nat)) (fr : (Nat → Value) → Array Value) (df : List Deferred) (o : Oper) (need : List Nat) (k : Nat) : Prop :=
 ∀ (u : Nat → Value) (w : World), J k ((js.getD k []).map u) w → Apart al u → Facts FL u w need → ∀ K : Act → World → Prop, Shut (∀ v w', J (k + 1) ((js.getD (k + 1) []).map u) w' → Keep w w' → K ((⟨fr u, df⟩ : Act).put o.dst v) w') →
  if Region.wanted o (yielded ops (fr u)) = true then Oper.wp P o ⟨fr u, df⟩ w K Q else K ((⟨fr u, df⟩ : Act).put o.dst undef) w
def StepsOk (al : List Nat) (P : Program) (ops : Array Oper) (Q : Exit → Act → World → Prop) (FL : List (Nat × Fact)) (J : Nat → List Value → World → Prop) (js : List (List Nat)) (fr : (Nat → Value) → Array Value) (df : List Deferred) (pt : List (List Nat)) (st lm : List Nat) : List Oper → Nat → Prop
 | [], _ => True
 | o :: rest, i => (match st.idxOf? i with
   | some k => StoreOk al P ops Q FL J js fr df o (pt.getD i []) k
   | none => StepOk al P ops Q FL J js fr df o (pt.getD i []) (lm.getD i st.length)) ∧ StepsOk al P ops Q FL J js fr df pt st lm rest (i + 1)
theorem StepsOk.nil {fr : (Nat → Value) → Array Value} {i : Nat} : StepsOk al P ops Q FL J js fr df pt st lm [] i := trivial
theorem sc {fr : (Nat → Value) → Array Value} {o : Oper} {rest : List Oper} {i : Nat} {need : List Nat} {lim : Nat} (h0 : st.idxOf? i = none) (h1 : pt.getD i [] = need) (h2 : lm.getD i st.length = lim)
  (h : StepOk al P ops Q FL J js fr df o need lim) (hs : StepsOk al P ops Q FL J js fr df pt st lm rest (i + 1)) : StepsOk al P ops Q FL J js fr df pt st lm (o :: rest) i := ⟨by rw [h0, h1, h2]; exact h, hs⟩
theorem steps_at {fr : (Nat → Value) → Array Value} : ∀ (l : List Oper) (i0 : Nat), StepsOk al P ops Q FL J js fr df pt st lm l i0 → ∀ i o, l[i]? = some o → (match st.idxOf? (i0 + i) with
      | some k => StoreOk al P ops Q FL J js fr df o (pt.getD (i0 + i) []) k
      | none => StepOk al P ops Q FL J js fr df o (pt.getD (i0 + i) []) (lm.getD (i0 + i) st.length)) := by
  intro l
  induction l with
  | nil => intro i0 _ i o h; simp at h
  | cons x l ih =>
    intro i0 hs i o h
    cases i with
    | zero => simp at h; subst h; exact hs.1
    | succ i =>
      have := ih (i0 + 1) hs.2 i o (by simpa using h)
      rwa [show i0 + 1 + i = i0 + (i + 1) by omega] at this
def Written (ops : Array Oper) (listed : Array Bool) (d : Nat) : Prop := ∃ j o', listed.getD j false = true ∧ ops[j]? = some o' ∧ o'.dst = some d
structure Inv (al : List Nat) (ops : Array Oper) (FL : List (Nat × Fact)) (J : Nat → List Value → World → Prop) (js : List (List Nat)) (t0 : Array Value) (df : List Deferred) (ds : List Nat) (pt : List (List Nat)) (st : List Nat) (listed : Array Bool) (a : Act) (w : World) : Prop where
 fr : ∃ k u, a = ⟨fillL u ds t0, df⟩ ∧ (∀ d, Written ops listed d → (look FL d).p (u d) w) ∧ J k ((js.getD k []).map u) w ∧ k ≤ st.length ∧ (∀ m, m < k → listed.getD (st.getD m 0) false = true) ∧
  (∀ m, k ≤ m → m < st.length → listed.getD (st.getD m 0) false = false) ∧ (∀ d ∈ js.getD k [], Written ops listed d) ∧ (∀ d ∈ al, Written ops listed d → ∃ g, u d = .pointer (some ⟨g, 0, none⟩) ∧ g < w.heap.size) ∧
  (∀ d ∈ al, ∀ d' ∈ al, d ≠ d' → Written ops listed d → Written ops listed d' → u d ≠ u d')
 cl : ∀ i, listed.getD i false = true → ∀ d ∈ pt.getD i [], Written ops listed d
 cs : ∀ j oj, ops[j]? = some oj → listed.getD j false = true → ∀ e ∈ oj.after, Region.binds .any e = true → listed.getD e.on false = true
 sz : listed.size = ops.size
theorem Written.more {listed : Array Bool} {d i : Nat} (h : Written ops listed d) : Written ops (listed.setIfInBounds i true) d := by
 obtain ⟨j, o', h1, h2, h3⟩ := h
 exact ⟨j, o', getD_set_true h1, h2, h3⟩
theorem getD_flag {listed : Array Bool} {i : Nat} (h : i < listed.size) : listed.getD i true = listed.getD i false := by simp [h]
structure Chk (al : List Nat) (ops : Array Oper) (pt : List (List Nat)) (ds st : List Nat) (js : List (List Nat)) (lm : List Nat) : Prop where
 edge : ∀ (i : Nat) (o : Oper), ops[i]? = some o → ∀ e ∈ o.after, Region.binds .any e = true → e.on < i
 dst : ∀ (i : Nat) (o : Oper), ops[i]? = some o → ∀ d, o.dst = some d → d ∈ ds
 need : ∀ (i : Nat) (o : Oper), ops[i]? = some o → ∀ d ∈ pt.getD i [], ∃ e ∈ o.after, Region.binds .any e = true ∧ ((∃ o' : Oper, ops[e.on]? = some o' ∧ o'.dst = some d) ∨ d ∈ pt.getD e.on [])
 once : ∀ (i j : Nat) (o o' : Oper) (d : Nat), ops[i]? = some o → ops[j]? = some o' → o.dst = some d → o'.dst = some d → i = j
 slt : ∀ m, m < st.length → st.getD m 0 < ops.size
 sdst : ∀ m, m < st.length → ∀ o : Oper, ops[st.getD m 0]? = some o → o.dst = none
 schain : ∀ m, 0 < m → m < st.length → Region.waitsFor .any ops (st.getD m 0) (st.getD (m - 1) 0) = true
 sjs : ∀ m, m < st.length → ∀ d ∈ js.getD (m + 1) [], d ∈ pt.getD (st.getD m 0) [] ∨ d ∈ js.getD m []
 lim : ∀ i, i < ops.size → lm.getD i st.length = st.length ∨ waits2 ops (st.getD (lm.getD i st.length) ops.size) i = true
 wr : ∀ d ∈ ds, ∃ (i : Nat) (o : Oper), ops[i]? = some o ∧ o.dst = some d
 js0 : js.getD 0 [] = []
 alw : ∀ d ∈ al, ∀ m, m < st.length → ∃ (i : Nat) (o : Oper), ops[i]? = some o ∧ o.dst = some d ∧ waits2 ops (st.getD m 0) i = true
 ald : ∀ d ∈ al, d ∈ ds
theorem chk_spec (h : chk al ops pt ds st js lm = true) : Chk al ops pt ds st js lm := by
 unfold chk at h
 simp only [Bool.and_eq_true] at h
 obtain ⟨⟨⟨⟨⟨⟨⟨⟨h8, h9⟩, h1⟩, h2⟩, h3⟩, h4⟩, h5⟩, h6⟩, h7⟩ := h
 have lt : ∀ (i : Nat) (o : Oper), ops[i]? = some o → i ∈ List.range ops.size := fun i o ho => List.mem_range.2 (Array.getElem?_eq_some_iff.1 ho).1
 constructor
 ·intro i o ho e he hb
  have h := List.all_eq_true.1 h1 i (lt i o ho)
  rw [ho] at h
  dsimp only at h
  rw [Array.all_eq_true_iff_forall_mem] at h
  have h := h e he
  rw [hb] at h
  simpa using h
 ·intro i o ho d hd
  have h := List.all_eq_true.1 h2 i (lt i o ho)
  rw [ho] at h
  dsimp only at h
  rw [hd] at h
  simp only [Bool.and_eq_true] at h
  simpa using h.1
 ·intro i o ho d hd
  have h := List.all_eq_true.1 h2 i (lt i o ho)
  rw [ho] at h
  simp only [Bool.and_eq_true] at h
  have h := List.all_eq_true.1 h.2 d hd
  rw [Array.any_eq_true] at h
  obtain ⟨k, hk, h⟩ := h
  rw [Bool.and_eq_true, Bool.or_eq_true] at h
  refine ⟨o.after[k], Array.getElem_mem _, h.1, ?_⟩
  rcases h.2 with h4 | h4
  ·left
   cases h5 : ops[(o.after[k]).on]? with
   | none => rw [h5] at h4; cases h4
   | some o' => rw [h5] at h4; exact ⟨o', rfl, by simpa using h4⟩
  ·right; simpa using h4
 ·intro i j o o' d ho ho' hd hd'
  have h := List.all_eq_true.1 (List.all_eq_true.1 h3 i (lt i o ho)) j (lt j o' ho')
  rw [ho, ho'] at h
  dsimp only at h
  rw [hd, hd'] at h
  simpa using h
 ·intro m hm
  have h := List.all_eq_true.1 h4 m (List.mem_range.2 hm)
  simp only [Bool.and_eq_true, decide_eq_true_eq] at h
  exact h.1.1.1
 ·intro m hm o ho
  have h := List.all_eq_true.1 h4 m (List.mem_range.2 hm)
  simp only [Bool.and_eq_true, decide_eq_true_eq] at h
  have h := h.1.1.2
  rw [ho] at h
  simpa using h
 ·intro m h0 hm
  have h := List.all_eq_true.1 h4 m (List.mem_range.2 hm)
  simp only [Bool.and_eq_true, decide_eq_true_eq, Bool.or_eq_true, Nat.beq_eq] at h
  rcases h.1.2 with h | h
  ·omega
  ·exact h
 ·intro m hm d hd
  have h := List.all_eq_true.1 h4 m (List.mem_range.2 hm)
  simp only [Bool.and_eq_true] at h
  have h := List.all_eq_true.1 h.2 d hd
  simpa using h
 ·intro i hi
  have h := List.all_eq_true.1 h5 i (List.mem_range.2 hi)
  simp only [Bool.or_eq_true, Nat.beq_eq] at h
  exact h
 ·intro d hd
  have h := List.all_eq_true.1 h6 d hd
  rw [Array.any_eq_true] at h
  obtain ⟨k, hk, h⟩ := h
  exact ⟨k, ops[k], by simp [hk], by simpa using h⟩
 ·simpa using h7
 ·intro d hd m hm
  have h := List.all_eq_true.1 (List.all_eq_true.1 h8 d hd) (st.getD m 0) (by simp [hm])
  obtain ⟨i, hi, h⟩ := List.any_eq_true.1 h
  rw [Bool.and_eq_true] at h
  cases ho : ops[i]? with
  | none => rw [ho] at h; cases h.1
  | some o => rw [ho] at h; exact ⟨i, o, ho, by simpa using h.1, h.2⟩
 ·intro d hd
  have h := List.all_eq_true.1 h9 d hd
  simpa using h
theorem inv_step (hc : Chk al ops pt ds st js lm) (hst : ∀ k l w w', Below w.heap.size w w' → J k l w → J k l w') (hs : StepsOk al P ops Q FL J js (fun u => fillL u ds t0) df pt st lm ops.toList 0) {listed : Array Bool} {a : Act} {w : World}
    (hI : Inv al ops FL J js t0 df ds pt st listed a w) {i : Nat} (hi : i ∈ Region.ready .any ops listed) :
    wpOp P ops Q i (Inv al ops FL J js t0 df ds pt st (listed.setIfInBounds i true)) a w := by
  obtain ⟨h0, o, ho, hall⟩ := mem_ready.1 hi
  have hlt : i < ops.size := (Array.getElem?_eq_some_iff.1 ho).1
  have hil : i < listed.size := by rw [hI.sz]; exact hlt
  have hun : listed.getD i false = false := by rw [← getD_flag hil]; exact h0
  obtain ⟨k, u, rfl, hfac, hJ, hk, hk1, hk2, hk3, hk4, hk5⟩ := hI.fr
  have hneed : ∀ d ∈ pt.getD i [], Written ops listed d := by
    intro d hd
    obtain ⟨e, he, hb, h1⟩ := hc.need i o ho d hd
    have h2 := hall e he hb
    rcases h1 with ⟨o', h3, h4⟩ | h3
    · exact ⟨e.on, o', h2, h3, h4⟩
    · exact hI.cl e.on h2 d h3
  have hstep := steps_at _ _ hs i o (by simpa using ho)
  rw [Nat.zero_add] at hstep
  have hcs : ∀ j oj, ops[j]? = some oj → (listed.setIfInBounds i true).getD j false = true → ∀ e ∈ oj.after, Region.binds .any e = true → (listed.setIfInBounds i true).getD e.on false = true := by
    intro j oj hj hl e he hb
    by_cases hij : i = j
    · subst hij
      have : oj = o := Option.some.inj (hj.symm.trans ho)
      subst this
      exact getD_set_true (hall e he hb)
    · rw [getD_set_ne false hij] at hl
      exact getD_set_true (hI.cs j oj hj hl e he hb)
  have hcl : ∀ j, (listed.setIfInBounds i true).getD j false = true → ∀ d ∈ pt.getD j [], Written ops (listed.setIfInBounds i true) d := by
    intro j hj d hd
    by_cases hij : i = j
    · subst hij; exact (hneed d hd).more
    · rw [getD_set_ne false hij] at hj
      exact (hI.cl j hj d hd).more
  have hwait : ∀ m, m < k → ∀ j, Region.waitsFor .any ops (st.getD m 0) j = true → listed.getD j false = true := by
    intro m hm j hw
    obtain ⟨oj, hoj, e, he, hb, hon⟩ := Region.waitsFor_spec hw
    rw [← hon]
    exact hI.cs _ oj hoj (hk1 m hm) e he hb
  have hwait2 : ∀ m, m < k → ∀ j, waits2 ops (st.getD m 0) j = true → listed.getD j false = true := by
    intro m hm j hw
    unfold waits2 at hw
    rw [Bool.or_eq_true] at hw
    rcases hw with hw | hw
    · exact hwait m hm j hw
    · obtain ⟨x, -, hx⟩ := List.any_eq_true.1 hw
      rw [Bool.and_eq_true] at hx
      obtain ⟨oj, hoj, e, he, hb, hon⟩ := Region.waitsFor_spec hx.2
      rw [← hon]
      exact hI.cs _ oj hoj (hwait m hm x hx.1) e he hb
  cases hsi : st.idxOf? i with
  | none =>
    rw [hsi] at hstep
    have hns : ∀ m, m < st.length → st.getD m 0 ≠ i := by
      intro m hm e
      have h1 : i ∈ st := by rw [← e]; simp [hm]
      have h2 := List.idxOf?_eq_none_iff.1 hsi
      exact h2 h1
    have hlim : k ≤ lm.getD i st.length := by
      rcases hc.lim i hlt with h1 | h1
      · omega
      · rcases Nat.lt_or_ge (lm.getD i st.length) k with h2 | h2
        · exfalso
          have h3 := hwait2 _ h2 i (by
            have e : st.getD (lm.getD i st.length) ops.size = st.getD (lm.getD i st.length) 0 := by
              have : lm.getD i st.length < st.length := by omega
              generalize lm.getD i st.length = z at *
              simp [this]
            rw [← e]; exact h1)
          rw [hun] at h3; cases h3
        · exact h2
    refine wpOp_step ho (fun K' hK => hstep k u w hlim hJ (facts_mk fun d hd => hfac d (hneed d hd)) K' ?_)
    intro v w' hb hf hao
    have hwi : ∀ d, Written ops (listed.setIfInBounds i true) d → o.dst = some d ∨ Written ops listed d := by
      rintro d ⟨j, o', h1, h2, h3⟩
      by_cases hij : i = j
      · subst hij
        rw [ho] at h2
        injection h2 with h2
        subst h2
        exact .inl h3
      · rw [getD_set_ne false hij] at h1
        exact .inr ⟨j, o', h1, h2, h3⟩
    have hnw : ∀ d, o.dst = some d → ¬ Written ops listed d := by
      rintro d hd ⟨j, o', h1, h2, h3⟩
      have := hc.once i j o o' d ho h2 hd h3
      subst this
      rw [hun] at h1; cases h1
    have hne : ∀ d, o.dst ≠ some d → upd u o.dst v d = u d := by
      intro d hd
      cases h : o.dst with
      | none => rfl
      | some d' => rw [h] at hd; simp only [upd]; rw [if_neg (fun h => hd (by rw [h]))]
    have hal : ∀ d ∈ al, o.dst = some d → v = .pointer (some ⟨w.heap.size, 0, none⟩) ∧ w.heap.size < w'.heap.size := by
      intro d hd h
      unfold aOk at hao
      rw [h] at hao
      dsimp only at hao
      rw [show al.contains d = true by simpa using hd] at hao
      exact hao
    refine hK _ _ ⟨⟨k, upd u o.dst v, put_fill u o v (hc.dst i o ho), ?_, ?_, hk, fun m hm => getD_set_true (hk1 m hm), fun m hm hm' => ?_, fun d hd => (hk3 d hd).more, fun d hd hw => ?_, fun d hd d' hd' hdd hw hw' => ?_⟩, hcl, hcs, by simpa using hI.sz⟩
    · rintro d ⟨j, o', h1, h2, h3⟩
      by_cases hd : o.dst = some d
      · rw [hd] at hf ⊢
        have e : upd u (some d) v d = v := by simp [upd]
        rw [e]; exact hf
      · have hw : Written ops listed d := by
          by_cases hij : i = j
          · subst hij
            rw [ho] at h2
            injection h2 with h2
            subst h2
            exact absurd h3 hd
          · rw [getD_set_ne false hij] at h1
            exact ⟨j, o', h1, h2, h3⟩
        have e : upd u o.dst v d = u d := by
          cases h : o.dst with
          | none => rfl
          | some d' => rw [h] at hd; simp only [upd]; rw [if_neg (fun h => hd (by rw [h]))]
        rw [e]
        exact (look FL d).st _ _ _ (Keep.ofBelow hb) (hfac d hw)
    · have e : (js.getD k []).map (upd u o.dst v) = (js.getD k []).map u := by
        apply List.map_congr_left
        intro d hd
        cases h : o.dst with
        | none => rfl
        | some d' =>
          simp only [upd]
          rw [if_neg]
          rintro rfl
          obtain ⟨j, o', h1, h2, h3⟩ := hk3 d hd
          have := hc.once i j o o' d ho h2 h h3
          subst this
          rw [hun] at h1; cases h1
      rw [e]
      exact hst _ _ _ _ hb hJ
    · rw [getD_set_ne false (Ne.symm (hns m hm'))]; exact hk2 m hm hm'
    · by_cases h : o.dst = some d
      · obtain ⟨h1, h2⟩ := hal d hd h
        exact ⟨w.heap.size, by rw [h]; simp [upd, h1], h2⟩
      · rcases hwi d hw with h1 | h1
        · exact absurd h1 h
        · obtain ⟨g, h2, h3⟩ := hk4 d hd h1
          exact ⟨g, by rw [hne d h]; exact h2, Nat.lt_of_lt_of_le h3 hb.size⟩
    · by_cases h : o.dst = some d
      · have h' : o.dst ≠ some d' := fun h2 => hdd (by rw [h] at h2; injection h2)
        rcases hwi d' hw' with h1 | h1
        · exact absurd h1 h'
        · obtain ⟨g, h2, h3⟩ := hk4 d' hd' h1
          rw [hne d' h', h2, h]
          simp only [upd, if_pos]
          rw [(hal d hd h).1]
          intro he
          simp at he <;> omega
      · rcases hwi d hw with h1 | h1
        · exact absurd h1 h
        · by_cases h' : o.dst = some d'
          · obtain ⟨g, h2, h3⟩ := hk4 d hd h1
            rw [hne d h, h2, h']
            simp only [upd, if_pos]
            rw [(hal d' hd' h').1]
            intro he
            simp at he <;> omega
          · rcases hwi d' hw' with h2 | h2
            · exact absurd h2 h'
            · rw [hne d h, hne d' h']; exact hk5 d hd d' hd' hdd h1 h2
  | some m =>
    rw [hsi] at hstep
    obtain ⟨hm, hmi, -⟩ := List.idxOf?_eq_some_iff.1 hsi
    have hmi' : st.getD m 0 = i := by simp [hm]; exact hmi
    have hmk : m = k := by
      rcases Nat.lt_trichotomy m k with h1 | h1 | h1
      · have := hk1 m h1; rw [hmi', hun] at this; cases this
      · exact h1
      · exfalso
        have h2 := hc.schain m (by omega) hm
        rw [hmi'] at h2
        obtain ⟨oj, hoj, e, he, hb, hon⟩ := Region.waitsFor_spec h2
        have : oj = o := Option.some.inj (hoj.symm.trans ho)
        subst this
        have h3 := hall e he hb
        rw [hon, hk2 (m - 1) (by omega) (by omega)] at h3
        cases h3
    subst hmk
    have hdn : o.dst = none := hc.sdst m hm o (by rw [hmi']; exact ho)
    have hwal : ∀ d ∈ al, Written ops listed d := by
      intro d hd
      obtain ⟨j, o', h1, h2, h3⟩ := hc.alw d hd m hm
      rw [hmi'] at h3
      refine ⟨j, o', ?_, h1, h2⟩
      unfold waits2 at h3
      rw [Bool.or_eq_true] at h3
      rcases h3 with h3 | h3
      · obtain ⟨oj, hoj, e, he, hb, hon⟩ := Region.waitsFor_spec h3
        have : oj = o := Option.some.inj (hoj.symm.trans ho)
        subst this
        rw [← hon]; exact hall e he hb
      · obtain ⟨x, -, hx⟩ := List.any_eq_true.1 h3
        rw [Bool.and_eq_true] at hx
        obtain ⟨oj, hoj, e, he, hb, hon⟩ := Region.waitsFor_spec hx.1
        have : oj = o := Option.some.inj (hoj.symm.trans ho)
        subst this
        have h4 := hall e he hb
        rw [hon] at h4
        obtain ⟨oj2, hoj2, e2, he2, hb2, hon2⟩ := Region.waitsFor_spec hx.2
        rw [← hon2]
        exact hI.cs _ oj2 hoj2 h4 e2 he2 hb2
    refine wpOp_step ho (fun K' hK => hstep u w hJ (fun d hd d' hd' hdd => hk5 d hd d' hd' hdd (hwal d hd) (hwal d' hd')) (facts_mk fun d hd => hfac d (hneed d hd)) K' ?_)
    intro v w' hJ' hb
    refine hK _ _ ⟨⟨m + 1, u, by rw [hdn]; rfl, ?_, hJ', hm, fun j hj => ?_, fun j hj hj' => ?_, fun d hd => ?_, fun d hd hw => ?_, fun d hd d' hd' hdd hw hw' => hk5 d hd d' hd' hdd (hwal d hd) (hwal d' hd')⟩, hcl, hcs, by simpa using hI.sz⟩
    · rintro d ⟨j, o', h1, h2, h3⟩
      have hij : i ≠ j := by
        rintro rfl
        rw [ho] at h2
        injection h2 with h2
        subst h2
        rw [hdn] at h3; cases h3
      rw [getD_set_ne false hij] at h1
      exact (look FL d).st _ _ _ hb (hfac d ⟨j, o', h1, h2, h3⟩)
    · by_cases h1 : j = m
      · subst h1; rw [hmi']; simp [hil]
      · exact getD_set_true (hk1 j (by omega))
    · have h1 := hk2 j (by omega) hj'
      by_cases h2 : st.getD j 0 = i
      · exfalso
        have h3 : ∀ n, m ≤ n → n < st.length → i ≤ st.getD n 0 ∧ (m < n → i < st.getD n 0) := by
          intro n
          induction n with
          | zero => intro h4 h5; exact ⟨by have : m = 0 := by omega
                                           subst this; rw [hmi']; exact Nat.le_refl _, fun h => by omega⟩
          | succ n ih =>
            intro h4 h5
            by_cases h6 : m = n + 1
            · subst h6; exact ⟨by rw [hmi']; exact Nat.le_refl _, fun h => by omega⟩
            · have h7 := ih (by omega) (by omega)
              have h8 := hc.schain (n + 1) (by omega) h5
              obtain ⟨oj, hoj, e, he, hb', hon⟩ := Region.waitsFor_spec h8
              have h9 := hc.edge _ oj hoj e he hb'
              rw [hon, Nat.add_sub_cancel] at h9
              exact ⟨by omega, fun _ => by omega⟩
        have := (h3 j (by omega) hj').2 (by omega)
        omega
      · rw [getD_set_ne false (Ne.symm h2)]; exact h1
    · rcases hc.sjs m hm d hd with h1 | h1
      · rw [hmi'] at h1; exact (hneed d h1).more
      · exact (hk3 d h1).more
    · obtain ⟨g, h1, h2⟩ := hk4 d hd (hwal d hd)
      exact ⟨g, h1, Nat.lt_of_lt_of_le h2 hb.size⟩
theorem ready_nil_all (hc : Chk al ops pt ds st js lm) {listed : Array Bool} (hsz : listed.size = ops.size) (hr : Region.ready .any ops listed = []) : ∀ n i, i < n → i < ops.size → listed.getD i false = true := by
 intro n
 induction n with
 | zero => intro i h; omega
 | succ n ih =>
  intro i hin hi
  have hil : i < listed.size := by omega
  cases hv : listed.getD i false with
  | true => rfl
  | false =>
   exfalso
   have ho : ops[i]? = some ops[i] := by simp [hi]
   have : i ∈ Region.ready .any ops listed := by
    rw [mem_ready]
    refine ⟨by simp [hil] at hv ⊢; exact hv, _, ho, fun e he hb => ?_⟩
    have h1 := hc.edge i _ ho e he hb
    exact ih e.on (by omega) (by omega)
   rw [hr] at this
   cases this
theorem wpAny_inv (hc : Chk al ops pt ds st js lm) (hst : ∀ k l w w', Below w.heap.size w w' → J k l w → J k l w') (hs : StepsOk al P ops Q FL J js (fun u => fillL u ds t0) df pt st lm ops.toList 0)
  (hend : ∀ u w, J st.length ((js.getD st.length []).map u) w → Facts FL u w ds → Q .normal ⟨fillL u ds t0, df⟩ w) :
  ∀ (fuel : Nat) (listed : Array Bool) (a : Act) (w : World), ((List.range ops.size).filter fun j => !listed.getD j true).length ≤ fuel → Inv al ops FL J js t0 df ds pt st listed a w → wpAny P .any ops Q fuel listed a w := by
 have hfin : ∀ (listed : Array Bool) (a : Act) (w : World), Inv al ops FL J js t0 df ds pt st listed a w → Region.ready .any ops listed = [] → Q .normal a w := by
  intro listed a w hI hr
  obtain ⟨k, u, rfl, hfac, hJ, hk, hk1, hk2, hk3, hk4, hk5⟩ := hI.fr
  have hall := ready_nil_all hc hI.sz hr
  have hkl : k = st.length := by
   rcases Nat.lt_or_ge k st.length with h | h
   ·have h1 := hk2 k (Nat.le_refl _) h
    rw [hall (st.getD k 0 + 1) _ (by omega) (hc.slt k h)] at h1
    cases h1
   ·omega
  subst hkl
  refine hend u w hJ (facts_mk fun d hd => hfac d ?_)
  obtain ⟨i, o, h1, h2⟩ := hc.wr d hd
  exact ⟨i, o, hall (i + 1) i (by omega) (Array.getElem?_eq_some_iff.1 h1).1, h1, h2⟩
 intro fuel
 induction fuel with
 | zero =>
  intro listed a w hcnt hI
  have hr : Region.ready .any ops listed = [] := by
   rw [List.eq_nil_iff_forall_not_mem]
   intro j hj
   obtain ⟨h0, o, ho, -⟩ := mem_ready.1 hj
   have hlt : j < ops.size := (Array.getElem?_eq_some_iff.1 ho).1
   have hm : j ∈ (List.range ops.size).filter fun j => !listed.getD j true := by
    rw [List.mem_filter]
    exact ⟨List.mem_range.2 hlt, by rw [h0]; rfl⟩
   have := List.length_pos_of_mem hm
   omega
  exact ⟨hr, hfin _ _ _ hI hr⟩
 | succ fuel ih =>
  intro listed a w hcnt hI
  refine ⟨fun hr => hfin _ _ _ hI hr, fun i hi => ?_⟩
  obtain ⟨h0, o, ho, -⟩ := mem_ready.1 hi
  have hlt : i < ops.size := (Array.getElem?_eq_some_iff.1 ho).1
  refine wpOp_mono (fun a' w' hI' => ih _ a' w' ?_ hI') (inv_step hc hst hs hI hi)
  have := filter_less (p := fun j => !listed.getD j true) (q := fun j => !(listed.setIfInBounds i true).getD j true) (i := i) (by simp only [h0]; rfl) (by
   have hil : i < listed.size := by rw [hI.sz]; exact hlt
   simp [hil]) (fun j hj => by
   by_cases hij : i = j
   ·subst hij
    exfalso
    have hil : i < listed.size := by rw [hI.sz]; exact hlt
    simp [hil] at hj
   ·rw [getD_set_ne true hij] at hj; exact hj) (List.range ops.size) (List.mem_range.2 hlt)
  omega
theorem region_facts {id : Nat} {w : World} {opl : List Oper} (FL : List (Nat × Fact)) (J : Nat → List Value → World → Prop) (pt : List (List Nat)) (st : List Nat) (js : List (List Nat)) (lm : List Nat) (al : List Nat) {fr : (Nat → Value) → Array Value} (hfr : ∀ u, fillL u (temps FL) t0 = fr u)
  (hm : P.follows .mixedOrders = true) (hchk : chk al opl.toArray pt (temps FL) st js lm = true) (hst : ∀ k l w w', Below w.heap.size w w' → J k l w → J k l w') (hJ : J 0 [] w.drew)
  (hs : StepsOk al P opl.toArray Q FL J js fr df pt st lm opl 0)
  (hend : ∀ u w, J st.length ((js.getD st.length []).map u) w → Facts FL u w (temps FL) → Q .normal ⟨fr u, df⟩ w) : (Code.region id opl.toArray true).wp P Q ⟨t0, df⟩ w := by
 obtain rfl : (fun u => fillL u (temps FL) t0) = fr := funext hfr
 have hc := chk_spec hchk
 refine wp_region_any hm (wpAny_inv (t0 := t0) hc hst hs hend opl.toArray.size _ _ _ ?_ ⟨⟨0, fun d => t0.getD d undef, by rw [fillL_self], ?_, by rw [hc.js0]; exact hJ, Nat.zero_le _, fun m h => by omega, fun m _ _ => none_listed _ _, fun d hd => (by rw [hc.js0] at hd; cases hd), fun d _ hw => (by obtain ⟨j, o', h1, _, _⟩ := hw; rw [none_listed] at h1; cases h1), fun d _ d' _ _ hw => by obtain ⟨j, o', h1, _, _⟩ := hw; rw [none_listed] at h1; cases h1⟩, ?_, ?_, by simp⟩)
 ·exact Nat.le_trans (List.length_filter_le _ _) (by simp)
 ·rintro d ⟨j, o', h1, -, -⟩
  rw [none_listed] at h1; cases h1
 ·intro i hi
  rw [none_listed] at hi; cases hi
 ·intro j oj _ hl
  rw [none_listed] at hl; cases hl
end
end Go.Proofs.YthndbonfcdphgaaGreatDoor.AS
namespace Go.Proofs.YthndbonfcdphgaaGreatDoor
open Go.RowKit
def sgn (neg : Bool) (a : Int) : Int := if neg then -a else a
def upN (x r : Int) : Int := if r = 0 then x else x + 1
def rqN (m : Int) (neg : Bool) (x r d : Int) : Int :=
 if m = 0 then (if 2 * r < d then x else upN x r)
 else if m = 1 then (if 2 * r = d ∧ x % 2 = 0 then x else if 2 * r < d then x else upN x r)
 else if m = 2 then x
 else if m = 3 then upN x r
 else if m = 4 then (if neg then upN x r else x)
 else (if neg then x else upN x r)
def negB (a b : Int) : Bool := !(decide (a < 0) == decide (b < 0))
def rnd (m a b : Int) : Int := sgn (negB a b) (rqN m (negB a b) ((a.natAbs : Int) / (b.natAbs : Int)) ((a.natAbs : Int) % (b.natAbs : Int)) (b.natAbs : Int))
theorem abs_div {a b : Int} : 0 ≤ (a.natAbs : Int) / (b.natAbs : Int) ∧ (a.natAbs : Int) / (b.natAbs : Int) ≤ (a.natAbs : Int) := by
 refine ⟨Int.ediv_nonneg (by omega) (by omega), Int.ediv_le_self _ (by omega)⟩
def DNo (W : World) : Nat → List Value → World → Prop := fun _ _ w => Below W.heap.size W w
theorem DNo.st (W : World) : ∀ k l w w', Below w.heap.size w w' → DNo W k l w → DNo W k l w' := fun _ _ _ _ hb h => below_more h hb
theorem atoi_okT {s : ByteArray} {w : World} (hv : ErrC w) (hs : s.size ≤ 1000000) {neg : Bool} {n : Nat} (h : Lib.atoiAll s.data.toList = endZ neg n) {v : Int} (he : endZ neg n = .ok v) :
  Calls Tryz.prog 21 #[.string s] w fun e w' => e = .returned (.tuple #[.int .i64 v, .nilIface]) ∧ Below w.heap.size w w' := by
 refine (atoi_end hv hs h).mono ?_
 rintro e w' ⟨⟨v2, er, rfl, ⟨h1, rfl⟩ | ⟨h1, _⟩⟩, hb⟩
 ·rw [he] at h1
  injection h1 with h1
  subst h1
  exact ⟨rfl, hb⟩
 ·rw [he] at h1; cases h1
theorem atoi_rngT {s : ByteArray} {w : World} (hv : ErrC w) (hs : s.size ≤ 1000000) {neg : Bool} {n : Nat} (h : Lib.atoiAll s.data.toList = endZ neg n) (he : endZ neg n = .range) :
  Calls Tryz.prog 21 #[.string s] w fun e w' => (∃ v g, e = .returned (.tuple #[.int .i64 v, .iface 76 (.pointer (some ⟨g, 0, none⟩))])) ∧ Below w.heap.size w w' := by
 refine (atoi_end hv hs h).mono ?_
 rintro e w' ⟨⟨v2, er, rfl, ⟨h1, rfl⟩ | ⟨h1, g, rfl⟩⟩, hb⟩
 ·rw [he] at h1; cases h1
 ·exact ⟨⟨v2, g, rfl⟩, hb⟩
def sgZ (neg : Bool) (n : Nat) : Int := if neg then -(n : Int) else n
theorem endZ_ok {neg : Bool} {n : Nat} {v : Int} (h : endZ neg n = .ok v) : v = sgZ neg n := by
 unfold endZ at h
 unfold sgZ
 cases neg
 ·rw [if_neg (by decide)] at h ⊢
  by_cases k : n < 9223372036854775808
  ·rw [if_pos k] at h; injection h with h; exact h.symm
  ·rw [if_neg k] at h; cases h
 ·rw [if_pos rfl] at h ⊢
  by_cases k : n ≤ 9223372036854775808
  ·rw [if_pos k] at h; injection h with h; exact h.symm
  ·rw [if_neg k] at h; cases h
theorem endZ_range {neg : Bool} {n : Nat} (h : endZ neg n = .range) : 9223372036854775808 ≤ n := by
 unfold endZ at h
 cases neg
 ·rw [if_neg (by decide)] at h
  by_cases k : n < 9223372036854775808
  ·rw [if_pos k] at h; cases h
  ·omega
 ·rw [if_pos rfl] at h
  by_cases k : n ≤ 9223372036854775808
  ·rw [if_pos k] at h; cases h
  ·omega
theorem sign_cases (l : List UInt8) : (ngL l = true ∧ l = 45 :: unL l) ∨ (ngL l = false ∧ l = unL l) := by
 unfold ngL unL Lib.trimPrefix
 cases l with
 | nil => right; exact ⟨rfl, rfl⟩
 | cons c t =>
  by_cases h : c = 45
  ·subst h; left; simp [Lib.hasPrefix]
  ·right
   have : List.isPrefixOf [45] (c :: t) = false := by simp [List.isPrefixOf]; exact Ne.symm h
   simp [Lib.hasPrefix, this]
open AS (Keep NoInt)
theorem qsigned_any (neg : Bool) (x r d a : Int) (w : World) (h0 : 0 ≤ a) (h1 : a ≤ 2000000000000000000) :
  Calls Tryz.prog 85 #[.agg #[.bool neg, .int .i64 x, .int .i64 r, .int .i64 d], .int .i64 a] w fun e w' => e = .returned (.int .i64 (sgn neg a)) ∧ Below w.heap.size w w' := by
 cases neg
 ·go_enter Tryz.func85, Tryz.ntmps85
  go_wp2
  go_ret
  exact ⟨rfl, (Below.refl _ _).alloc (Nat.le_refl _) _⟩
 ·go_enter Tryz.func85, Tryz.ntmps85
  go_wp2
  go_ret
  exact ⟨rfl, (Below.refl _ _).alloc (Nat.le_refl _) _⟩
theorem qdown_any (neg : Bool) (x r d : Int) (w : World) (h0 : 0 ≤ x) (h1 : x ≤ 1000000000000000000) :
  Calls Tryz.prog 58 #[.agg #[.bool neg, .int .i64 x, .int .i64 r, .int .i64 d]] w fun e w' => e = .returned (.int .i64 (sgn neg x)) ∧ Below w.heap.size w w' := by
 go_enter Tryz.func58, Tryz.ntmps58
 go_wp2_with (go_at_call 85; refine (qsigned_any _ _ _ _ _ _ (by omega) (by omega)).mono ?_; rintro e w' ⟨rfl, hb⟩)
 go_ret
 exact ⟨rfl, ((Below.refl _ _).alloc (Nat.le_refl _) _).trans (hb.mono (by simp))⟩
theorem qup_any (neg : Bool) (x r d : Int) (w : World) (h0 : 0 ≤ x) (h1 : x ≤ 1000000000000000000) :
  Calls Tryz.prog 59 #[.agg #[.bool neg, .int .i64 x, .int .i64 r, .int .i64 d]] w fun e w' => e = .returned (.int .i64 (sgn neg (upN x r))) ∧ Below w.heap.size w w' := by
 unfold upN
 by_cases hr : r = 0
 ·subst hr
  rw [if_pos rfl]
  go_enter Tryz.func59, Tryz.ntmps59
  go_wp2_with (go_at_call 85; refine (qsigned_any _ _ _ _ _ _ (by omega) (by omega)).mono ?_; rintro e w' ⟨rfl, hb⟩)
  go_ret
  exact ⟨rfl, ((Below.refl _ _).alloc (Nat.le_refl _) _).trans (hb.mono (by simp))⟩
 ·rw [if_neg hr]
  have h2 : (r == 0) = false := by simpa using hr
  clear hr
  go_enter Tryz.func59, Tryz.ntmps59
  go_wp2_with (go_at_call 85; refine (qsigned_any _ _ _ _ _ _ (by omega) (by omega)).mono ?_; rintro e w' ⟨rfl, hb⟩)
  go_ret
  exact ⟨rfl, ((Below.refl _ _).alloc (Nat.le_refl _) _).trans (hb.mono (by simp))⟩
theorem qfloor_any (neg : Bool) (x r d : Int) (w : World) (h0 : 0 ≤ x) (h1 : x ≤ 1000000000000000000) :
  Calls Tryz.prog 60 #[.agg #[.bool neg, .int .i64 x, .int .i64 r, .int .i64 d]] w fun e w' => e = .returned (.int .i64 (sgn neg (if neg then upN x r else x))) ∧ Below w.heap.size w w' := by
 cases neg
 ·rw [if_neg (by decide)]
  go_enter Tryz.func60, Tryz.ntmps60
  go_wp2_with (go_at_call 58; refine (qdown_any _ _ _ _ _ (by omega) (by omega)).mono ?_; rintro e w' ⟨rfl, hb⟩)
  go_ret
  exact ⟨rfl, ((Below.refl _ _).alloc (Nat.le_refl _) _).trans (hb.mono (by simp))⟩
 ·rw [if_pos rfl]
  go_enter Tryz.func60, Tryz.ntmps60
  go_wp2_with (go_at_call 59; refine (qup_any _ _ _ _ _ (by omega) (by omega)).mono ?_; rintro e w' ⟨rfl, hb⟩)
  go_ret
  exact ⟨rfl, ((Below.refl _ _).alloc (Nat.le_refl _) _).trans (hb.mono (by simp))⟩
theorem qceil_any (neg : Bool) (x r d : Int) (w : World) (h0 : 0 ≤ x) (h1 : x ≤ 1000000000000000000) :
  Calls Tryz.prog 61 #[.agg #[.bool neg, .int .i64 x, .int .i64 r, .int .i64 d]] w fun e w' => e = .returned (.int .i64 (sgn neg (if neg then x else upN x r))) ∧ Below w.heap.size w w' := by
 cases neg
 ·rw [if_neg (by decide)]
  go_enter Tryz.func61, Tryz.ntmps61
  go_wp2_with (go_at_call 59; refine (qup_any _ _ _ _ _ (by omega) (by omega)).mono ?_; rintro e w' ⟨rfl, hb⟩)
  go_ret
  exact ⟨rfl, ((Below.refl _ _).alloc (Nat.le_refl _) _).trans (hb.mono (by simp))⟩
 ·rw [if_pos rfl]
  go_enter Tryz.func61, Tryz.ntmps61
  go_wp2_with (go_at_call 58; refine (qdown_any _ _ _ _ _ (by omega) (by omega)).mono ?_; rintro e w' ⟨rfl, hb⟩)
  go_ret
  exact ⟨rfl, ((Below.refl _ _).alloc (Nat.le_refl _) _).trans (hb.mono (by simp))⟩
theorem qaway_any (neg : Bool) (x r d : Int) (w : World) (h0 : 0 ≤ x) (h1 : x ≤ 1000000000000000000) (h2 : 0 ≤ r) (h3 : r ≤ 1000000000000000000) :
  Calls Tryz.prog 56 #[.agg #[.bool neg, .int .i64 x, .int .i64 r, .int .i64 d]] w fun e w' => e = .returned (.int .i64 (sgn neg (if 2 * r < d then x else upN x r))) ∧ Below w.heap.size w w' := by
 by_cases hr : 2 * r < d
 ·rw [if_pos hr]
  go_enter Tryz.func56, Tryz.ntmps56
  go_wp2_with (go_at_call 58; refine (qdown_any _ _ _ _ _ (by omega) (by omega)).mono ?_; rintro e w' ⟨rfl, hb⟩)
  go_ret
  exact ⟨rfl, ((Below.refl _ _).alloc (Nat.le_refl _) _).trans (hb.mono (by simp))⟩
 ·rw [if_neg hr]
  go_enter Tryz.func56, Tryz.ntmps56
  go_wp2_with (go_at_call 59; refine (qup_any _ _ _ _ _ (by omega) (by omega)).mono ?_; rintro e w' ⟨rfl, hb⟩)
  go_ret
  exact ⟨rfl, ((Below.refl _ _).alloc (Nat.le_refl _) _).trans (hb.mono (by simp))⟩
theorem qeven_any (neg : Bool) (x r d : Int) (w : World) (h0 : 0 ≤ x) (h1 : x ≤ 1000000000000000000) (h2 : 0 ≤ r) (h3 : r ≤ 1000000000000000000) :
  Calls Tryz.prog 57 #[.agg #[.bool neg, .int .i64 x, .int .i64 r, .int .i64 d]] w fun e w' => e = .returned (.int .i64 (sgn neg (if 2 * r = d ∧ x % 2 = 0 then x else if 2 * r < d then x else upN x r))) ∧ Below w.heap.size w w' := by
 by_cases hd : 2 * r = d
 ·subst hd
  by_cases hx : x % 2 = 0
  ·rw [if_pos ⟨rfl, hx⟩]
   have hx1 : (x % 2 == 0) = true := by simpa using hx
   clear hx
   go_enter Tryz.func57, Tryz.ntmps57
   go_wp2_with (go_at_call 58; refine (qdown_any _ _ _ _ _ (by omega) (by omega)).mono ?_; rintro e w' ⟨rfl, hb⟩)
   go_ret
   exact ⟨rfl, ((Below.refl _ _).alloc (Nat.le_refl _) _).trans (hb.mono (by simp))⟩
  ·rw [if_neg (fun h => hx h.2)]
   have hx1 : (x % 2 == 0) = false := by simpa using hx
   clear hx
   go_enter Tryz.func57, Tryz.ntmps57
   go_wp2_with (go_at_call 56; refine (qaway_any _ _ _ _ _ (by omega) (by omega) (by omega) (by omega)).mono ?_; rintro e w' ⟨rfl, hb⟩)
   go_ret
   exact ⟨rfl, ((Below.refl _ _).alloc (Nat.le_refl _) _).trans (hb.mono (by simp))⟩
 ·rw [if_neg (fun h => hd h.1)]
  have hx1 : (2 * r == d) = false := by simpa using hd
  clear hd
  go_enter Tryz.func57, Tryz.ntmps57
  go_wp2_with (go_at_call 56; refine (qaway_any _ _ _ _ _ (by omega) (by omega) (by omega) (by omega)).mono ?_; rintro e w' ⟨rfl, hb⟩)
  all_goals
   go_ret
   exact ⟨rfl, ((Below.refl _ _).alloc (Nat.le_refl _) _).trans (hb.mono (by simp))⟩
set_option maxHeartbeats 1600000 in
theorem qdiv_nn (a b : Int) (w : World) (h1 : 0 < a) (h2 : a ≤ 1000000000000000000) (h3 : 0 < b) (h4 : b ≤ 1000000000000000000) :
  Calls Tryz.prog 41 #[.int .i64 (-a), .int .i64 (-b)] w fun e w' => e = .returned (.agg #[.bool (negB (-a) (-b)), .int .i64 (((-a).natAbs : Int) / ((-b).natAbs : Int)), .int .i64 (((-a).natAbs : Int) % ((-b).natAbs : Int)), .int .i64 ((-b).natAbs : Int)]) ∧ Below w.heap.size w w' := by
 have e1 : ((-a).natAbs : Int) = a := by omega
 have e2 : ((-b).natAbs : Int) = b := by omega
 have e3 : negB (-a) (-b) = false := by unfold negB; rw [decide_eq_true (show -a < 0 by omega), decide_eq_true (show -b < 0 by omega)]; rfl
 have hz : (b == 0) = false := by simp; omega
 have h0 : 0 ≤ a := by omega
 have m1 : max a (-a) = a := by omega
 have m2 : max (-a) a = a := by omega
 have m3 : max b (-b) = b := by omega
 have m4 : max (-b) b = b := by omega
 rw [e1, e2, e3]
 clear e1 e2 e3
 go_enter Tryz.func41, Tryz.ntmps41
 go_wp2
 go_region
 all_goals
  go_wp2
  exact bodyPost_ret (v := .agg #[.bool false, .int .i64 (a / b), .int .i64 (a % b), .int .i64 b]) (by simp [results, Tryz.results41, go_sem] <;> omega) rfl ⟨rfl, dc_drew ((Below.refl _ _).alloc (Nat.le_refl _) _)⟩
set_option maxHeartbeats 1600000 in
theorem qdiv_np (a b : Int) (w : World) (h1 : 0 < a) (h2 : a ≤ 1000000000000000000) (h3 : 0 < b) (h4 : b ≤ 1000000000000000000) :
  Calls Tryz.prog 41 #[.int .i64 (-a), .int .i64 b] w fun e w' => e = .returned (.agg #[.bool (negB (-a) b), .int .i64 (((-a).natAbs : Int) / (b.natAbs : Int)), .int .i64 (((-a).natAbs : Int) % (b.natAbs : Int)), .int .i64 (b.natAbs : Int)]) ∧ Below w.heap.size w w' := by
 have e1 : ((-a).natAbs : Int) = a := by omega
 have e2 : (b.natAbs : Int) = b := by omega
 have e3 : negB (-a) b = true := by unfold negB; rw [decide_eq_true (show -a < 0 by omega), decide_eq_false (show ¬ b < 0 by omega)]; rfl
 have hz : (b == 0) = false := by simp; omega
 have h0 : 0 ≤ a := by omega
 have m1 : max a (-a) = a := by omega
 have m2 : max (-a) a = a := by omega
 have m3 : max b (-b) = b := by omega
 have m4 : max (-b) b = b := by omega
 rw [e1, e2, e3]
 clear e1 e2 e3
 go_enter Tryz.func41, Tryz.ntmps41
 go_wp2
 go_region
 all_goals
  go_wp2
  exact bodyPost_ret (v := .agg #[.bool true, .int .i64 (a / b), .int .i64 (a % b), .int .i64 b]) (by simp [results, Tryz.results41, go_sem] <;> omega) rfl ⟨rfl, dc_drew ((Below.refl _ _).alloc (Nat.le_refl _) _)⟩
set_option maxHeartbeats 1600000 in
theorem qdiv_pn (a b : Int) (w : World) (h1 : 0 ≤ a) (h2 : a ≤ 1000000000000000000) (h3 : 0 < b) (h4 : b ≤ 1000000000000000000) :
  Calls Tryz.prog 41 #[.int .i64 a, .int .i64 (-b)] w fun e w' => e = .returned (.agg #[.bool (negB a (-b)), .int .i64 ((a.natAbs : Int) / ((-b).natAbs : Int)), .int .i64 ((a.natAbs : Int) % ((-b).natAbs : Int)), .int .i64 ((-b).natAbs : Int)]) ∧ Below w.heap.size w w' := by
 have e1 : (a.natAbs : Int) = a := by omega
 have e2 : ((-b).natAbs : Int) = b := by omega
 have e3 : negB a (-b) = true := by unfold negB; rw [decide_eq_false (show ¬ a < 0 by omega), decide_eq_true (show -b < 0 by omega)]; rfl
 have hz : (b == 0) = false := by simp; omega
 have h0 : 0 ≤ a := by omega
 have m1 : max a (-a) = a := by omega
 have m2 : max (-a) a = a := by omega
 have m3 : max b (-b) = b := by omega
 have m4 : max (-b) b = b := by omega
 rw [e1, e2, e3]
 clear e1 e2 e3
 go_enter Tryz.func41, Tryz.ntmps41
 go_wp2
 go_region
 all_goals
  go_wp2
  exact bodyPost_ret (v := .agg #[.bool true, .int .i64 (a / b), .int .i64 (a % b), .int .i64 b]) (by simp [results, Tryz.results41, go_sem] <;> omega) rfl ⟨rfl, dc_drew ((Below.refl _ _).alloc (Nat.le_refl _) _)⟩
set_option maxHeartbeats 1600000 in
theorem qdiv_pp (a b : Int) (w : World) (h1 : 0 ≤ a) (h2 : a ≤ 1000000000000000000) (h3 : 0 < b) (h4 : b ≤ 1000000000000000000) :
  Calls Tryz.prog 41 #[.int .i64 a, .int .i64 b] w fun e w' => e = .returned (.agg #[.bool (negB a b), .int .i64 ((a.natAbs : Int) / (b.natAbs : Int)), .int .i64 ((a.natAbs : Int) % (b.natAbs : Int)), .int .i64 (b.natAbs : Int)]) ∧ Below w.heap.size w w' := by
 have e1 : (a.natAbs : Int) = a := by omega
 have e2 : (b.natAbs : Int) = b := by omega
 have e3 : negB a b = false := by unfold negB; rw [decide_eq_false (show ¬ a < 0 by omega), decide_eq_false (show ¬ b < 0 by omega)]; rfl
 have hz : (b == 0) = false := by simp; omega
 have h0 : 0 ≤ a := by omega
 have m1 : max a (-a) = a := by omega
 have m2 : max (-a) a = a := by omega
 have m3 : max b (-b) = b := by omega
 have m4 : max (-b) b = b := by omega
 rw [e1, e2, e3]
 clear e1 e2 e3
 go_enter Tryz.func41, Tryz.ntmps41
 go_wp2
 go_region
 all_goals
  go_wp2
  exact bodyPost_ret (v := .agg #[.bool false, .int .i64 (a / b), .int .i64 (a % b), .int .i64 b]) (by simp [results, Tryz.results41, go_sem] <;> omega) rfl ⟨rfl, dc_drew ((Below.refl _ _).alloc (Nat.le_refl _) _)⟩
theorem qdivide_any (a b : Int) (w : World) (h1 : -1000000000000000000 ≤ a) (h2 : a ≤ 1000000000000000000) (h3 : -1000000000000000000 ≤ b) (h4 : b ≤ 1000000000000000000) (h0 : b ≠ 0) :
  Calls Tryz.prog 41 #[.int .i64 a, .int .i64 b] w fun e w' => e = .returned (.agg #[.bool (negB a b), .int .i64 ((a.natAbs : Int) / (b.natAbs : Int)), .int .i64 ((a.natAbs : Int) % (b.natAbs : Int)), .int .i64 (b.natAbs : Int)]) ∧ Below w.heap.size w w' := by
 by_cases ha : a < 0
 ·obtain ⟨A, rfl⟩ : ∃ A, a = -A := ⟨-a, by omega⟩
  by_cases hb : b < 0
  ·obtain ⟨B, rfl⟩ : ∃ B, b = -B := ⟨-b, by omega⟩
   exact qdiv_nn A B w (by omega) (by omega) (by omega) (by omega)
  ·exact qdiv_np A b w (by omega) (by omega) (by omega) (by omega)
 ·by_cases hb : b < 0
  ·obtain ⟨B, rfl⟩ : ∃ B, b = -B := ⟨-b, by omega⟩
   exact qdiv_pn a B w (by omega) (by omega) (by omega) (by omega)
  ·exact qdiv_pp a b w (by omega) (by omega) (by omega) (by omega)
theorem modes_any (w : World) : Calls Tryz.prog 40 #[] w fun e w' => e = .returned (.agg #[.func (Fn.func 56) #[] #[], .func (Fn.func 57) #[] #[], .func (Fn.func 58) #[] #[], .func (Fn.func 59) #[] #[], .func (Fn.func 60) #[] #[], .func (Fn.func 61) #[] #[]]) ∧ Below w.heap.size w w' := by
 go_enter Tryz.func40, Tryz.ntmps40
 go_wp2
 exact bodyPost_ret (v := .agg #[.func (Fn.func 56) #[] #[], .func (Fn.func 57) #[] #[], .func (Fn.func 58) #[] #[], .func (Fn.func 59) #[] #[], .func (Fn.func 60) #[] #[], .func (Fn.func 61) #[] #[]]) (by simp [results, Tryz.results40, go_sem]) rfl ⟨rfl, (Below.refl _ _).alloc (Nat.le_refl _) _⟩
def rdFL (m a b : Int) (neg : Bool) (x r d z : Int) (k : Nat) : List (Nat × AS.Fact) := [(7, AS.Fact.is (.agg #[.func (Fn.func 56) #[] #[], .func (Fn.func 57) #[] #[], .func (Fn.func 58) #[] #[], .func (Fn.func 59) #[] #[], .func (Fn.func 60) #[] #[], .func (Fn.func 61) #[] #[]])), (8, AS.Fact.is (.int .i64 m)), (9, AS.Fact.is (.func (Fn.func k) #[] #[])), (10, AS.Fact.is (.int .i64 a)), (11, AS.Fact.is (.int .i64 b)), (12, AS.Fact.is (.agg #[.bool neg, .int .i64 x, .int .i64 r, .int .i64 d])), (13, AS.Fact.is (.int .i64 z)), (6, AS.Fact.is (.int .i64 z))]
set_option maxRecDepth 20000 in
set_option maxHeartbeats 1600000 in
theorem rounded_0 (a b : Int) (w : World) (h1 : -1000000000000000000 ≤ a) (h2 : a ≤ 1000000000000000000) (h3 : -1000000000000000000 ≤ b) (h4 : b ≤ 1000000000000000000) (h0 : b ≠ 0) :
  Calls Tryz.prog 26 #[.int .i64 a, .int .i64 b, .int .i64 0] w fun e w' => e = .returned (.int .i64 (rnd 0 a b)) ∧ Below w.heap.size w w' := by
 unfold rnd
 have hd := fun w => qdivide_any a b w h1 h2 h3 h4 h0
 have q1 := abs_div (a := a) (b := b)
 have q2 : (a.natAbs : Int) / (b.natAbs : Int) ≤ 1000000000000000000 := Int.le_trans q1.2 (by omega)
 have q3 : 0 ≤ (a.natAbs : Int) % (b.natAbs : Int) := Int.emod_nonneg _ (by omega)
 have q4 : (a.natAbs : Int) % (b.natAbs : Int) ≤ 1000000000000000000 := Int.le_trans (Int.le_of_lt (Int.emod_lt_of_pos _ (by omega))) (show (b.natAbs : Int) ≤ 1000000000000000000 by omega)
 have q0 := q1.1
 clear q1
 generalize (a.natAbs : Int) / (b.natAbs : Int) = x at *
 generalize (a.natAbs : Int) % (b.natAbs : Int) = r at *
 generalize (b.natAbs : Int) = d at *
 generalize negB a b = neg at *
 have HD := Lib.hid hd
 clear hd h1 h2 h3 h4 h0
 obtain ⟨z, hz⟩ : ∃ z, sgn neg (rqN 0 neg x r d) = z := ⟨_, rfl⟩
 have HZ : Hid (sgn neg (if 2 * r < d then x else upN x r) = z) := Lib.hid (by rw [← hz]; rfl)
 rw [hz]
 clear hz
 have HQ : Hid (∀ w, Calls Tryz.prog 56 #[.agg #[.bool neg, .int .i64 x, .int .i64 r, .int .i64 d]] w fun e w' => e = .returned (.int .i64 z) ∧ Below w.heap.size w w') := Lib.hid (fun w => by rw [← HZ.out]; exact qaway_any _ _ _ _ _ q0 q2 q3 q4)
 clear HZ q0 q2 q3 q4
 go_enter Tryz.func26, Tryz.ntmps26
 go_upto_region 1 with (fail)
 refine AS.region_facts (rdFL 0 a b neg x r d z 56) (DNo w) [[], [], [7, 8], [], [], [10, 11], [9, 12], [13]] [] [[]] [0, 0, 0, 0, 0, 0, 0, 0] [] (fun u => by simp only [rdFL, AS.temps, List.map_cons, List.map_nil, fillL, List.setIfInBounds_toArray, List.set_cons_zero, List.set_cons_succ]; rfl) (by kernel_rfl) (by kernel_rfl) (DNo.st w) (dc_drew (Below.refl _ _)) ?_ ?_
 ·refine AS.sc rfl rfl rfl ?_ ?_
  ·intro k_ u w_ hk hJ hF K hK
   clear hF
   go_simp
   refine (modes_any _).mono ?_
   rintro e w' ⟨rfl, hb⟩
   exact hK.out _ _ hb rfl trivial
  refine AS.sc rfl rfl rfl ?_ ?_
  ·intro k_ u w_ hk hJ hF K hK
   clear hF
   go_simp
   exact hK.out _ _ (Below.refl _ _) (rfl) trivial
  refine AS.sc rfl rfl rfl ?_ ?_
  ·intro k_ u w_ hk hJ hF K hK
   have h7 : u 7 = .agg #[.func (Fn.func 56) #[] #[], .func (Fn.func 57) #[] #[], .func (Fn.func 58) #[] #[], .func (Fn.func 59) #[] #[], .func (Fn.func 60) #[] #[], .func (Fn.func 61) #[] #[]] := AS.facts_get hF 7 (by simp)
   have h8 : u 8 = .int .i64 0 := AS.facts_get hF 8 (by simp)
   clear hF
   simp only [h7, h8] at hK ⊢
   clear h7 h8
   go_simp
   exact hK.out _ _ (Below.refl _ _) (rfl) trivial
  refine AS.sc rfl rfl rfl ?_ ?_
  ·intro k_ u w_ hk hJ hF K hK
   clear hF
   go_simp
   exact hK.out _ _ (Below.refl _ _) (rfl) trivial
  refine AS.sc rfl rfl rfl ?_ ?_
  ·intro k_ u w_ hk hJ hF K hK
   clear hF
   go_simp
   exact hK.out _ _ (Below.refl _ _) (rfl) trivial
  refine AS.sc rfl rfl rfl ?_ ?_
  ·intro k_ u w_ hk hJ hF K hK
   have h10 : u 10 = .int .i64 a := AS.facts_get hF 10 (by simp)
   have h11 : u 11 = .int .i64 b := AS.facts_get hF 11 (by simp)
   clear hF
   simp only [h10, h11] at hK ⊢
   clear h10 h11
   go_simp
   refine (HD.out _).mono ?_
   rintro e w' ⟨rfl, hb⟩
   exact hK.out _ _ hb rfl trivial
  refine AS.sc rfl rfl rfl ?_ ?_
  ·intro k_ u w_ hk hJ hF K hK
   have h9 : u 9 = .func (Fn.func 56) #[] #[] := AS.facts_get hF 9 (by simp)
   have h12 : u 12 = .agg #[.bool neg, .int .i64 x, .int .i64 r, .int .i64 d] := AS.facts_get hF 12 (by simp)
   clear hF
   simp only [h9, h12] at hK ⊢
   clear h9 h12
   go_simp
   refine (HQ.out _).mono ?_
   rintro e w' ⟨rfl, hb⟩
   exact hK.out _ _ hb rfl trivial
  refine AS.sc rfl rfl rfl ?_ ?_
  ·intro k_ u w_ hk hJ hF K hK
   have h13 : u 13 = .int .i64 z := AS.facts_get hF 13 (by simp)
   clear hF
   simp only [h13] at hK ⊢
   clear h13
   go_simp
   exact hK.out _ _ (Below.refl _ _) (rfl) trivial
  exact AS.StepsOk.nil
 ·intro u W3 hJ9 hF
  have h6 : u 6 = .int .i64 z := AS.facts_get hF 6 (by simp [rdFL, AS.temps])
  clear hF
  rw [show u 6 = _ from h6]
  clear h6
  go_wp2_with fail
  go_ret
  exact ⟨rfl, hJ9⟩
set_option maxRecDepth 20000 in
set_option maxHeartbeats 1600000 in
theorem rounded_1 (a b : Int) (w : World) (h1 : -1000000000000000000 ≤ a) (h2 : a ≤ 1000000000000000000) (h3 : -1000000000000000000 ≤ b) (h4 : b ≤ 1000000000000000000) (h0 : b ≠ 0) :
  Calls Tryz.prog 26 #[.int .i64 a, .int .i64 b, .int .i64 1] w fun e w' => e = .returned (.int .i64 (rnd 1 a b)) ∧ Below w.heap.size w w' := by
 unfold rnd
 have hd := fun w => qdivide_any a b w h1 h2 h3 h4 h0
 have q1 := abs_div (a := a) (b := b)
 have q2 : (a.natAbs : Int) / (b.natAbs : Int) ≤ 1000000000000000000 := Int.le_trans q1.2 (by omega)
 have q3 : 0 ≤ (a.natAbs : Int) % (b.natAbs : Int) := Int.emod_nonneg _ (by omega)
 have q4 : (a.natAbs : Int) % (b.natAbs : Int) ≤ 1000000000000000000 := Int.le_trans (Int.le_of_lt (Int.emod_lt_of_pos _ (by omega))) (show (b.natAbs : Int) ≤ 1000000000000000000 by omega)
 have q0 := q1.1
 clear q1
 generalize (a.natAbs : Int) / (b.natAbs : Int) = x at *
 generalize (a.natAbs : Int) % (b.natAbs : Int) = r at *
 generalize (b.natAbs : Int) = d at *
 generalize negB a b = neg at *
 have HD := Lib.hid hd
 clear hd h1 h2 h3 h4 h0
 obtain ⟨z, hz⟩ : ∃ z, sgn neg (rqN 1 neg x r d) = z := ⟨_, rfl⟩
 have HZ : Hid (sgn neg (if 2 * r = d ∧ x % 2 = 0 then x else if 2 * r < d then x else upN x r) = z) := Lib.hid (by rw [← hz]; rfl)
 rw [hz]
 clear hz
 have HQ : Hid (∀ w, Calls Tryz.prog 57 #[.agg #[.bool neg, .int .i64 x, .int .i64 r, .int .i64 d]] w fun e w' => e = .returned (.int .i64 z) ∧ Below w.heap.size w w') := Lib.hid (fun w => by rw [← HZ.out]; exact qeven_any _ _ _ _ _ q0 q2 q3 q4)
 clear HZ q0 q2 q3 q4
 go_enter Tryz.func26, Tryz.ntmps26
 go_upto_region 1 with (fail)
 refine AS.region_facts (rdFL 1 a b neg x r d z 57) (DNo w) [[], [], [7, 8], [], [], [10, 11], [9, 12], [13]] [] [[]] [0, 0, 0, 0, 0, 0, 0, 0] [] (fun u => by simp only [rdFL, AS.temps, List.map_cons, List.map_nil, fillL, List.setIfInBounds_toArray, List.set_cons_zero, List.set_cons_succ]; rfl) (by kernel_rfl) (by kernel_rfl) (DNo.st w) (dc_drew (Below.refl _ _)) ?_ ?_
 ·refine AS.sc rfl rfl rfl ?_ ?_
  ·intro k_ u w_ hk hJ hF K hK
   clear hF
   go_simp
   refine (modes_any _).mono ?_
   rintro e w' ⟨rfl, hb⟩
   exact hK.out _ _ hb rfl trivial
  refine AS.sc rfl rfl rfl ?_ ?_
  ·intro k_ u w_ hk hJ hF K hK
   clear hF
   go_simp
   exact hK.out _ _ (Below.refl _ _) (rfl) trivial
  refine AS.sc rfl rfl rfl ?_ ?_
  ·intro k_ u w_ hk hJ hF K hK
   have h7 : u 7 = .agg #[.func (Fn.func 56) #[] #[], .func (Fn.func 57) #[] #[], .func (Fn.func 58) #[] #[], .func (Fn.func 59) #[] #[], .func (Fn.func 60) #[] #[], .func (Fn.func 61) #[] #[]] := AS.facts_get hF 7 (by simp)
   have h8 : u 8 = .int .i64 1 := AS.facts_get hF 8 (by simp)
   clear hF
   simp only [h7, h8] at hK ⊢
   clear h7 h8
   go_simp
   exact hK.out _ _ (Below.refl _ _) (rfl) trivial
  refine AS.sc rfl rfl rfl ?_ ?_
  ·intro k_ u w_ hk hJ hF K hK
   clear hF
   go_simp
   exact hK.out _ _ (Below.refl _ _) (rfl) trivial
  refine AS.sc rfl rfl rfl ?_ ?_
  ·intro k_ u w_ hk hJ hF K hK
   clear hF
   go_simp
   exact hK.out _ _ (Below.refl _ _) (rfl) trivial
  refine AS.sc rfl rfl rfl ?_ ?_
  ·intro k_ u w_ hk hJ hF K hK
   have h10 : u 10 = .int .i64 a := AS.facts_get hF 10 (by simp)
   have h11 : u 11 = .int .i64 b := AS.facts_get hF 11 (by simp)
   clear hF
   simp only [h10, h11] at hK ⊢
   clear h10 h11
   go_simp
   refine (HD.out _).mono ?_
   rintro e w' ⟨rfl, hb⟩
   exact hK.out _ _ hb rfl trivial
  refine AS.sc rfl rfl rfl ?_ ?_
  ·intro k_ u w_ hk hJ hF K hK
   have h9 : u 9 = .func (Fn.func 57) #[] #[] := AS.facts_get hF 9 (by simp)
   have h12 : u 12 = .agg #[.bool neg, .int .i64 x, .int .i64 r, .int .i64 d] := AS.facts_get hF 12 (by simp)
   clear hF
   simp only [h9, h12] at hK ⊢
   clear h9 h12
   go_simp
   refine (HQ.out _).mono ?_
   rintro e w' ⟨rfl, hb⟩
   exact hK.out _ _ hb rfl trivial
  refine AS.sc rfl rfl rfl ?_ ?_
  ·intro k_ u w_ hk hJ hF K hK
   have h13 : u 13 = .int .i64 z := AS.facts_get hF 13 (by simp)
   clear hF
   simp only [h13] at hK ⊢
   clear h13
   go_simp
   exact hK.out _ _ (Below.refl _ _) (rfl) trivial
  exact AS.StepsOk.nil
 ·intro u W3 hJ9 hF
  have h6 : u 6 = .int .i64 z := AS.facts_get hF 6 (by simp [rdFL, AS.temps])
  clear hF
  rw [show u 6 = _ from h6]
  clear h6
  go_wp2_with fail
  go_ret
  exact ⟨rfl, hJ9⟩
set_option maxRecDepth 20000 in
set_option maxHeartbeats 1600000 in
theorem rounded_2 (a b : Int) (w : World) (h1 : -1000000000000000000 ≤ a) (h2 : a ≤ 1000000000000000000) (h3 : -1000000000000000000 ≤ b) (h4 : b ≤ 1000000000000000000) (h0 : b ≠ 0) :
  Calls Tryz.prog 26 #[.int .i64 a, .int .i64 b, .int .i64 2] w fun e w' => e = .returned (.int .i64 (rnd 2 a b)) ∧ Below w.heap.size w w' := by
 unfold rnd
 have hd := fun w => qdivide_any a b w h1 h2 h3 h4 h0
 have q1 := abs_div (a := a) (b := b)
 have q2 : (a.natAbs : Int) / (b.natAbs : Int) ≤ 1000000000000000000 := Int.le_trans q1.2 (by omega)
 have q3 : 0 ≤ (a.natAbs : Int) % (b.natAbs : Int) := Int.emod_nonneg _ (by omega)
 have q4 : (a.natAbs : Int) % (b.natAbs : Int) ≤ 1000000000000000000 := Int.le_trans (Int.le_of_lt (Int.emod_lt_of_pos _ (by omega))) (show (b.natAbs : Int) ≤ 1000000000000000000 by omega)
 have q0 := q1.1
 clear q1
 generalize (a.natAbs : Int) / (b.natAbs : Int) = x at *
 generalize (a.natAbs : Int) % (b.natAbs : Int) = r at *
 generalize (b.natAbs : Int) = d at *
 generalize negB a b = neg at *
 have HD := Lib.hid hd
 clear hd h1 h2 h3 h4 h0
 obtain ⟨z, hz⟩ : ∃ z, sgn neg (rqN 2 neg x r d) = z := ⟨_, rfl⟩
 have HZ : Hid (sgn neg (x) = z) := Lib.hid (by rw [← hz]; rfl)
 rw [hz]
 clear hz
 have HQ : Hid (∀ w, Calls Tryz.prog 58 #[.agg #[.bool neg, .int .i64 x, .int .i64 r, .int .i64 d]] w fun e w' => e = .returned (.int .i64 z) ∧ Below w.heap.size w w') := Lib.hid (fun w => by rw [← HZ.out]; exact qdown_any _ _ _ _ _ q0 q2)
 clear HZ q0 q2 q3 q4
 go_enter Tryz.func26, Tryz.ntmps26
 go_upto_region 1 with (fail)
 refine AS.region_facts (rdFL 2 a b neg x r d z 58) (DNo w) [[], [], [7, 8], [], [], [10, 11], [9, 12], [13]] [] [[]] [0, 0, 0, 0, 0, 0, 0, 0] [] (fun u => by simp only [rdFL, AS.temps, List.map_cons, List.map_nil, fillL, List.setIfInBounds_toArray, List.set_cons_zero, List.set_cons_succ]; rfl) (by kernel_rfl) (by kernel_rfl) (DNo.st w) (dc_drew (Below.refl _ _)) ?_ ?_
 ·refine AS.sc rfl rfl rfl ?_ ?_
  ·intro k_ u w_ hk hJ hF K hK
   clear hF
   go_simp
   refine (modes_any _).mono ?_
   rintro e w' ⟨rfl, hb⟩
   exact hK.out _ _ hb rfl trivial
  refine AS.sc rfl rfl rfl ?_ ?_
  ·intro k_ u w_ hk hJ hF K hK
   clear hF
   go_simp
   exact hK.out _ _ (Below.refl _ _) (rfl) trivial
  refine AS.sc rfl rfl rfl ?_ ?_
  ·intro k_ u w_ hk hJ hF K hK
   have h7 : u 7 = .agg #[.func (Fn.func 56) #[] #[], .func (Fn.func 57) #[] #[], .func (Fn.func 58) #[] #[], .func (Fn.func 59) #[] #[], .func (Fn.func 60) #[] #[], .func (Fn.func 61) #[] #[]] := AS.facts_get hF 7 (by simp)
   have h8 : u 8 = .int .i64 2 := AS.facts_get hF 8 (by simp)
   clear hF
   simp only [h7, h8] at hK ⊢
   clear h7 h8
   go_simp
   exact hK.out _ _ (Below.refl _ _) (rfl) trivial
  refine AS.sc rfl rfl rfl ?_ ?_
  ·intro k_ u w_ hk hJ hF K hK
   clear hF
   go_simp
   exact hK.out _ _ (Below.refl _ _) (rfl) trivial
  refine AS.sc rfl rfl rfl ?_ ?_
  ·intro k_ u w_ hk hJ hF K hK
   clear hF
   go_simp
   exact hK.out _ _ (Below.refl _ _) (rfl) trivial
  refine AS.sc rfl rfl rfl ?_ ?_
  ·intro k_ u w_ hk hJ hF K hK
   have h10 : u 10 = .int .i64 a := AS.facts_get hF 10 (by simp)
   have h11 : u 11 = .int .i64 b := AS.facts_get hF 11 (by simp)
   clear hF
   simp only [h10, h11] at hK ⊢
   clear h10 h11
   go_simp
   refine (HD.out _).mono ?_
   rintro e w' ⟨rfl, hb⟩
   exact hK.out _ _ hb rfl trivial
  refine AS.sc rfl rfl rfl ?_ ?_
  ·intro k_ u w_ hk hJ hF K hK
   have h9 : u 9 = .func (Fn.func 58) #[] #[] := AS.facts_get hF 9 (by simp)
   have h12 : u 12 = .agg #[.bool neg, .int .i64 x, .int .i64 r, .int .i64 d] := AS.facts_get hF 12 (by simp)
   clear hF
   simp only [h9, h12] at hK ⊢
   clear h9 h12
   go_simp
   refine (HQ.out _).mono ?_
   rintro e w' ⟨rfl, hb⟩
   exact hK.out _ _ hb rfl trivial
  refine AS.sc rfl rfl rfl ?_ ?_
  ·intro k_ u w_ hk hJ hF K hK
   have h13 : u 13 = .int .i64 z := AS.facts_get hF 13 (by simp)
   clear hF
   simp only [h13] at hK ⊢
   clear h13
   go_simp
   exact hK.out _ _ (Below.refl _ _) (rfl) trivial
  exact AS.StepsOk.nil
 ·intro u W3 hJ9 hF
  have h6 : u 6 = .int .i64 z := AS.facts_get hF 6 (by simp [rdFL, AS.temps])
  clear hF
  rw [show u 6 = _ from h6]
  clear h6
  go_wp2_with fail
  go_ret
  exact ⟨rfl, hJ9⟩
set_option maxRecDepth 20000 in
set_option maxHeartbeats 1600000 in
theorem rounded_3 (a b : Int) (w : World) (h1 : -1000000000000000000 ≤ a) (h2 : a ≤ 1000000000000000000) (h3 : -1000000000000000000 ≤ b) (h4 : b ≤ 1000000000000000000) (h0 : b ≠ 0) :
  Calls Tryz.prog 26 #[.int .i64 a, .int .i64 b, .int .i64 3] w fun e w' => e = .returned (.int .i64 (rnd 3 a b)) ∧ Below w.heap.size w w' := by
 unfold rnd
 have hd := fun w => qdivide_any a b w h1 h2 h3 h4 h0
 have q1 := abs_div (a := a) (b := b)
 have q2 : (a.natAbs : Int) / (b.natAbs : Int) ≤ 1000000000000000000 := Int.le_trans q1.2 (by omega)
 have q3 : 0 ≤ (a.natAbs : Int) % (b.natAbs : Int) := Int.emod_nonneg _ (by omega)
 have q4 : (a.natAbs : Int) % (b.natAbs : Int) ≤ 1000000000000000000 := Int.le_trans (Int.le_of_lt (Int.emod_lt_of_pos _ (by omega))) (show (b.natAbs : Int) ≤ 1000000000000000000 by omega)
 have q0 := q1.1
 clear q1
 generalize (a.natAbs : Int) / (b.natAbs : Int) = x at *
 generalize (a.natAbs : Int) % (b.natAbs : Int) = r at *
 generalize (b.natAbs : Int) = d at *
 generalize negB a b = neg at *
 have HD := Lib.hid hd
 clear hd h1 h2 h3 h4 h0
 obtain ⟨z, hz⟩ : ∃ z, sgn neg (rqN 3 neg x r d) = z := ⟨_, rfl⟩
 have HZ : Hid (sgn neg (upN x r) = z) := Lib.hid (by rw [← hz]; rfl)
 rw [hz]
 clear hz
 have HQ : Hid (∀ w, Calls Tryz.prog 59 #[.agg #[.bool neg, .int .i64 x, .int .i64 r, .int .i64 d]] w fun e w' => e = .returned (.int .i64 z) ∧ Below w.heap.size w w') := Lib.hid (fun w => by rw [← HZ.out]; exact qup_any _ _ _ _ _ q0 q2)
 clear HZ q0 q2 q3 q4
 go_enter Tryz.func26, Tryz.ntmps26
 go_upto_region 1 with (fail)
 refine AS.region_facts (rdFL 3 a b neg x r d z 59) (DNo w) [[], [], [7, 8], [], [], [10, 11], [9, 12], [13]] [] [[]] [0, 0, 0, 0, 0, 0, 0, 0] [] (fun u => by simp only [rdFL, AS.temps, List.map_cons, List.map_nil, fillL, List.setIfInBounds_toArray, List.set_cons_zero, List.set_cons_succ]; rfl) (by kernel_rfl) (by kernel_rfl) (DNo.st w) (dc_drew (Below.refl _ _)) ?_ ?_
 ·refine AS.sc rfl rfl rfl ?_ ?_
  ·intro k_ u w_ hk hJ hF K hK
   clear hF
   go_simp
   refine (modes_any _).mono ?_
   rintro e w' ⟨rfl, hb⟩
   exact hK.out _ _ hb rfl trivial
  refine AS.sc rfl rfl rfl ?_ ?_
  ·intro k_ u w_ hk hJ hF K hK
   clear hF
   go_simp
   exact hK.out _ _ (Below.refl _ _) (rfl) trivial
  refine AS.sc rfl rfl rfl ?_ ?_
  ·intro k_ u w_ hk hJ hF K hK
   have h7 : u 7 = .agg #[.func (Fn.func 56) #[] #[], .func (Fn.func 57) #[] #[], .func (Fn.func 58) #[] #[], .func (Fn.func 59) #[] #[], .func (Fn.func 60) #[] #[], .func (Fn.func 61) #[] #[]] := AS.facts_get hF 7 (by simp)
   have h8 : u 8 = .int .i64 3 := AS.facts_get hF 8 (by simp)
   clear hF
   simp only [h7, h8] at hK ⊢
   clear h7 h8
   go_simp
   exact hK.out _ _ (Below.refl _ _) (rfl) trivial
  refine AS.sc rfl rfl rfl ?_ ?_
  ·intro k_ u w_ hk hJ hF K hK
   clear hF
   go_simp
   exact hK.out _ _ (Below.refl _ _) (rfl) trivial
  refine AS.sc rfl rfl rfl ?_ ?_
  ·intro k_ u w_ hk hJ hF K hK
   clear hF
   go_simp
   exact hK.out _ _ (Below.refl _ _) (rfl) trivial
  refine AS.sc rfl rfl rfl ?_ ?_
  ·intro k_ u w_ hk hJ hF K hK
   have h10 : u 10 = .int .i64 a := AS.facts_get hF 10 (by simp)
   have h11 : u 11 = .int .i64 b := AS.facts_get hF 11 (by simp)
   clear hF
   simp only [h10, h11] at hK ⊢
   clear h10 h11
   go_simp
   refine (HD.out _).mono ?_
   rintro e w' ⟨rfl, hb⟩
   exact hK.out _ _ hb rfl trivial
  refine AS.sc rfl rfl rfl ?_ ?_
  ·intro k_ u w_ hk hJ hF K hK
   have h9 : u 9 = .func (Fn.func 59) #[] #[] := AS.facts_get hF 9 (by simp)
   have h12 : u 12 = .agg #[.bool neg, .int .i64 x, .int .i64 r, .int .i64 d] := AS.facts_get hF 12 (by simp)
   clear hF
   simp only [h9, h12] at hK ⊢
   clear h9 h12
   go_simp
   refine (HQ.out _).mono ?_
   rintro e w' ⟨rfl, hb⟩
   exact hK.out _ _ hb rfl trivial
  refine AS.sc rfl rfl rfl ?_ ?_
  ·intro k_ u w_ hk hJ hF K hK
   have h13 : u 13 = .int .i64 z := AS.facts_get hF 13 (by simp)
   clear hF
   simp only [h13] at hK ⊢
   clear h13
   go_simp
   exact hK.out _ _ (Below.refl _ _) (rfl) trivial
  exact AS.StepsOk.nil
 ·intro u W3 hJ9 hF
  have h6 : u 6 = .int .i64 z := AS.facts_get hF 6 (by simp [rdFL, AS.temps])
  clear hF
  rw [show u 6 = _ from h6]
  clear h6
  go_wp2_with fail
  go_ret
  exact ⟨rfl, hJ9⟩
set_option maxRecDepth 20000 in
set_option maxHeartbeats 1600000 in
theorem rounded_4 (a b : Int) (w : World) (h1 : -1000000000000000000 ≤ a) (h2 : a ≤ 1000000000000000000) (h3 : -1000000000000000000 ≤ b) (h4 : b ≤ 1000000000000000000) (h0 : b ≠ 0) :
  Calls Tryz.prog 26 #[.int .i64 a, .int .i64 b, .int .i64 4] w fun e w' => e = .returned (.int .i64 (rnd 4 a b)) ∧ Below w.heap.size w w' := by
 unfold rnd
 have hd := fun w => qdivide_any a b w h1 h2 h3 h4 h0
 have q1 := abs_div (a := a) (b := b)
 have q2 : (a.natAbs : Int) / (b.natAbs : Int) ≤ 1000000000000000000 := Int.le_trans q1.2 (by omega)
 have q3 : 0 ≤ (a.natAbs : Int) % (b.natAbs : Int) := Int.emod_nonneg _ (by omega)
 have q4 : (a.natAbs : Int) % (b.natAbs : Int) ≤ 1000000000000000000 := Int.le_trans (Int.le_of_lt (Int.emod_lt_of_pos _ (by omega))) (show (b.natAbs : Int) ≤ 1000000000000000000 by omega)
 have q0 := q1.1
 clear q1
 generalize (a.natAbs : Int) / (b.natAbs : Int) = x at *
 generalize (a.natAbs : Int) % (b.natAbs : Int) = r at *
 generalize (b.natAbs : Int) = d at *
 generalize negB a b = neg at *
 have HD := Lib.hid hd
 clear hd h1 h2 h3 h4 h0
 obtain ⟨z, hz⟩ : ∃ z, sgn neg (rqN 4 neg x r d) = z := ⟨_, rfl⟩
 have HZ : Hid (sgn neg (if neg then upN x r else x) = z) := Lib.hid (by rw [← hz]; rfl)
 rw [hz]
 clear hz
 have HQ : Hid (∀ w, Calls Tryz.prog 60 #[.agg #[.bool neg, .int .i64 x, .int .i64 r, .int .i64 d]] w fun e w' => e = .returned (.int .i64 z) ∧ Below w.heap.size w w') := Lib.hid (fun w => by rw [← HZ.out]; exact qfloor_any _ _ _ _ _ q0 q2)
 clear HZ q0 q2 q3 q4
 go_enter Tryz.func26, Tryz.ntmps26
 go_upto_region 1 with (fail)
 refine AS.region_facts (rdFL 4 a b neg x r d z 60) (DNo w) [[], [], [7, 8], [], [], [10, 11], [9, 12], [13]] [] [[]] [0, 0, 0, 0, 0, 0, 0, 0] [] (fun u => by simp only [rdFL, AS.temps, List.map_cons, List.map_nil, fillL, List.setIfInBounds_toArray, List.set_cons_zero, List.set_cons_succ]; rfl) (by kernel_rfl) (by kernel_rfl) (DNo.st w) (dc_drew (Below.refl _ _)) ?_ ?_
 ·refine AS.sc rfl rfl rfl ?_ ?_
  ·intro k_ u w_ hk hJ hF K hK
   clear hF
   go_simp
   refine (modes_any _).mono ?_
   rintro e w' ⟨rfl, hb⟩
   exact hK.out _ _ hb rfl trivial
  refine AS.sc rfl rfl rfl ?_ ?_
  ·intro k_ u w_ hk hJ hF K hK
   clear hF
   go_simp
   exact hK.out _ _ (Below.refl _ _) (rfl) trivial
  refine AS.sc rfl rfl rfl ?_ ?_
  ·intro k_ u w_ hk hJ hF K hK
   have h7 : u 7 = .agg #[.func (Fn.func 56) #[] #[], .func (Fn.func 57) #[] #[], .func (Fn.func 58) #[] #[], .func (Fn.func 59) #[] #[], .func (Fn.func 60) #[] #[], .func (Fn.func 61) #[] #[]] := AS.facts_get hF 7 (by simp)
   have h8 : u 8 = .int .i64 4 := AS.facts_get hF 8 (by simp)
   clear hF
   simp only [h7, h8] at hK ⊢
   clear h7 h8
   go_simp
   exact hK.out _ _ (Below.refl _ _) (rfl) trivial
  refine AS.sc rfl rfl rfl ?_ ?_
  ·intro k_ u w_ hk hJ hF K hK
   clear hF
   go_simp
   exact hK.out _ _ (Below.refl _ _) (rfl) trivial
  refine AS.sc rfl rfl rfl ?_ ?_
  ·intro k_ u w_ hk hJ hF K hK
   clear hF
   go_simp
   exact hK.out _ _ (Below.refl _ _) (rfl) trivial
  refine AS.sc rfl rfl rfl ?_ ?_
  ·intro k_ u w_ hk hJ hF K hK
   have h10 : u 10 = .int .i64 a := AS.facts_get hF 10 (by simp)
   have h11 : u 11 = .int .i64 b := AS.facts_get hF 11 (by simp)
   clear hF
   simp only [h10, h11] at hK ⊢
   clear h10 h11
   go_simp
   refine (HD.out _).mono ?_
   rintro e w' ⟨rfl, hb⟩
   exact hK.out _ _ hb rfl trivial
  refine AS.sc rfl rfl rfl ?_ ?_
  ·intro k_ u w_ hk hJ hF K hK
   have h9 : u 9 = .func (Fn.func 60) #[] #[] := AS.facts_get hF 9 (by simp)
   have h12 : u 12 = .agg #[.bool neg, .int .i64 x, .int .i64 r, .int .i64 d] := AS.facts_get hF 12 (by simp)
   clear hF
   simp only [h9, h12] at hK ⊢
   clear h9 h12
   go_simp
   refine (HQ.out _).mono ?_
   rintro e w' ⟨rfl, hb⟩
   exact hK.out _ _ hb rfl trivial
  refine AS.sc rfl rfl rfl ?_ ?_
  ·intro k_ u w_ hk hJ hF K hK
   have h13 : u 13 = .int .i64 z := AS.facts_get hF 13 (by simp)
   clear hF
   simp only [h13] at hK ⊢
   clear h13
   go_simp
   exact hK.out _ _ (Below.refl _ _) (rfl) trivial
  exact AS.StepsOk.nil
 ·intro u W3 hJ9 hF
  have h6 : u 6 = .int .i64 z := AS.facts_get hF 6 (by simp [rdFL, AS.temps])
  clear hF
  rw [show u 6 = _ from h6]
  clear h6
  go_wp2_with fail
  go_ret
  exact ⟨rfl, hJ9⟩
set_option maxRecDepth 20000 in
set_option maxHeartbeats 1600000 in
theorem rounded_5 (a b : Int) (w : World) (h1 : -1000000000000000000 ≤ a) (h2 : a ≤ 1000000000000000000) (h3 : -1000000000000000000 ≤ b) (h4 : b ≤ 1000000000000000000) (h0 : b ≠ 0) :
  Calls Tryz.prog 26 #[.int .i64 a, .int .i64 b, .int .i64 5] w fun e w' => e = .returned (.int .i64 (rnd 5 a b)) ∧ Below w.heap.size w w' := by
 unfold rnd
 have hd := fun w => qdivide_any a b w h1 h2 h3 h4 h0
 have q1 := abs_div (a := a) (b := b)
 have q2 : (a.natAbs : Int) / (b.natAbs : Int) ≤ 1000000000000000000 := Int.le_trans q1.2 (by omega)
 have q3 : 0 ≤ (a.natAbs : Int) % (b.natAbs : Int) := Int.emod_nonneg _ (by omega)
 have q4 : (a.natAbs : Int) % (b.natAbs : Int) ≤ 1000000000000000000 := Int.le_trans (Int.le_of_lt (Int.emod_lt_of_pos _ (by omega))) (show (b.natAbs : Int) ≤ 1000000000000000000 by omega)
 have q0 := q1.1
 clear q1
 generalize (a.natAbs : Int) / (b.natAbs : Int) = x at *
 generalize (a.natAbs : Int) % (b.natAbs : Int) = r at *
 generalize (b.natAbs : Int) = d at *
 generalize negB a b = neg at *
 have HD := Lib.hid hd
 clear hd h1 h2 h3 h4 h0
 obtain ⟨z, hz⟩ : ∃ z, sgn neg (rqN 5 neg x r d) = z := ⟨_, rfl⟩
 have HZ : Hid (sgn neg (if neg then x else upN x r) = z) := Lib.hid (by rw [← hz]; rfl)
 rw [hz]
 clear hz
 have HQ : Hid (∀ w, Calls Tryz.prog 61 #[.agg #[.bool neg, .int .i64 x, .int .i64 r, .int .i64 d]] w fun e w' => e = .returned (.int .i64 z) ∧ Below w.heap.size w w') := Lib.hid (fun w => by rw [← HZ.out]; exact qceil_any _ _ _ _ _ q0 q2)
 clear HZ q0 q2 q3 q4
 go_enter Tryz.func26, Tryz.ntmps26
 go_upto_region 1 with (fail)
 refine AS.region_facts (rdFL 5 a b neg x r d z 61) (DNo w) [[], [], [7, 8], [], [], [10, 11], [9, 12], [13]] [] [[]] [0, 0, 0, 0, 0, 0, 0, 0] [] (fun u => by simp only [rdFL, AS.temps, List.map_cons, List.map_nil, fillL, List.setIfInBounds_toArray, List.set_cons_zero, List.set_cons_succ]; rfl) (by kernel_rfl) (by kernel_rfl) (DNo.st w) (dc_drew (Below.refl _ _)) ?_ ?_
 ·refine AS.sc rfl rfl rfl ?_ ?_
  ·intro k_ u w_ hk hJ hF K hK
   clear hF
   go_simp
   refine (modes_any _).mono ?_
   rintro e w' ⟨rfl, hb⟩
   exact hK.out _ _ hb rfl trivial
  refine AS.sc rfl rfl rfl ?_ ?_
  ·intro k_ u w_ hk hJ hF K hK
   clear hF
   go_simp
   exact hK.out _ _ (Below.refl _ _) (rfl) trivial
  refine AS.sc rfl rfl rfl ?_ ?_
  ·intro k_ u w_ hk hJ hF K hK
   have h7 : u 7 = .agg #[.func (Fn.func 56) #[] #[], .func (Fn.func 57) #[] #[], .func (Fn.func 58) #[] #[], .func (Fn.func 59) #[] #[], .func (Fn.func 60) #[] #[], .func (Fn.func 61) #[] #[]] := AS.facts_get hF 7 (by simp)
   have h8 : u 8 = .int .i64 5 := AS.facts_get hF 8 (by simp)
   clear hF
   simp only [h7, h8] at hK ⊢
   clear h7 h8
   go_simp
   exact hK.out _ _ (Below.refl _ _) (rfl) trivial
  refine AS.sc rfl rfl rfl ?_ ?_
  ·intro k_ u w_ hk hJ hF K hK
   clear hF
   go_simp
   exact hK.out _ _ (Below.refl _ _) (rfl) trivial
  refine AS.sc rfl rfl rfl ?_ ?_
  ·intro k_ u w_ hk hJ hF K hK
   clear hF
   go_simp
   exact hK.out _ _ (Below.refl _ _) (rfl) trivial
  refine AS.sc rfl rfl rfl ?_ ?_
  ·intro k_ u w_ hk hJ hF K hK
   have h10 : u 10 = .int .i64 a := AS.facts_get hF 10 (by simp)
   have h11 : u 11 = .int .i64 b := AS.facts_get hF 11 (by simp)
   clear hF
   simp only [h10, h11] at hK ⊢
   clear h10 h11
   go_simp
   refine (HD.out _).mono ?_
   rintro e w' ⟨rfl, hb⟩
   exact hK.out _ _ hb rfl trivial
  refine AS.sc rfl rfl rfl ?_ ?_
  ·intro k_ u w_ hk hJ hF K hK
   have h9 : u 9 = .func (Fn.func 61) #[] #[] := AS.facts_get hF 9 (by simp)
   have h12 : u 12 = .agg #[.bool neg, .int .i64 x, .int .i64 r, .int .i64 d] := AS.facts_get hF 12 (by simp)
   clear hF
   simp only [h9, h12] at hK ⊢
   clear h9 h12
   go_simp
   refine (HQ.out _).mono ?_
   rintro e w' ⟨rfl, hb⟩
   exact hK.out _ _ hb rfl trivial
  refine AS.sc rfl rfl rfl ?_ ?_
  ·intro k_ u w_ hk hJ hF K hK
   have h13 : u 13 = .int .i64 z := AS.facts_get hF 13 (by simp)
   clear hF
   simp only [h13] at hK ⊢
   clear h13
   go_simp
   exact hK.out _ _ (Below.refl _ _) (rfl) trivial
  exact AS.StepsOk.nil
 ·intro u W3 hJ9 hF
  have h6 : u 6 = .int .i64 z := AS.facts_get hF 6 (by simp [rdFL, AS.temps])
  clear hF
  rw [show u 6 = _ from h6]
  clear h6
  go_wp2_with fail
  go_ret
  exact ⟨rfl, hJ9⟩
theorem rounded_any (m a b : Int) (w : World) (hm0 : 0 ≤ m) (hm1 : m ≤ 5) (h1 : -1000000000000000000 ≤ a) (h2 : a ≤ 1000000000000000000) (h3 : -1000000000000000000 ≤ b) (h4 : b ≤ 1000000000000000000) (h0 : b ≠ 0) :
  Calls Tryz.prog 26 #[.int .i64 a, .int .i64 b, .int .i64 m] w fun e w' => e = .returned (.int .i64 (rnd m a b)) ∧ Below w.heap.size w w' := by
 have hc : m = 0 ∨ m = 1 ∨ m = 2 ∨ m = 3 ∨ m = 4 ∨ m = 5 := by omega
 rcases hc with rfl | rfl | rfl | rfl | rfl | rfl
 ·exact rounded_0 a b w h1 h2 h3 h4 h0
 ·exact rounded_1 a b w h1 h2 h3 h4 h0
 ·exact rounded_2 a b w h1 h2 h3 h4 h0
 ·exact rounded_3 a b w h1 h2 h3 h4 h0
 ·exact rounded_4 a b w h1 h2 h3 h4 h0
 ·exact rounded_5 a b w h1 h2 h3 h4 h0
end Go.Proofs.YthndbonfcdphgaaGreatDoor
