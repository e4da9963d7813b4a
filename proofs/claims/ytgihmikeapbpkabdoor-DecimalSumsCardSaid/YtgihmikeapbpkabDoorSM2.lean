/- Contracts of the functions that the statement reaches, part 2: what was proved of each, callees first. -/
import Derived.Shelf.Strings.Builder1
import Derived.Shelf.Strings.Builder2
import Derived.Shelf.Small.Wraps
import Derived.Shelf.Strings.BuilderF
import Derived.Shelf.Strings.BuilderK
import Derived.Shelf.Strings.Builder2Cap
import Derived.Shelf.Strconv.Itoa0
import Derived.Shelf.Strconv.Itoa1
import Derived.Shelf.LaysM
import Derived.Shelf.Strconv.Itoa2
import Derived.Shelf.Strconv.Itoa3
import Derived.Shelf.Strings.Prefix
import Derived.Shelf.Bits.Mul64
import Derived.Shelf.Strings.Repeat
import Derived.Shelf.Strings.BuilderCap
import Derived.Ground.Names2Prog
import Derived.Shelf.Slices.SearchI
import Derived.Test.YtgihmikeapbpkabDoorProg
import Derived.Lib.AppendIntMem
import Derived.Lib.ItoaLen
import Derived.Deep.QuietTactic
import Derived.BigQuiet
import Derived.OpenShut
import Derived.Outline
import Derived.Test.YtgihmikeapbpkabDoorRows
import Derived.Handed
import Derived.ProofKit
import Derived.LaidMore
import Derived.Lay
import Derived.Stop.Joined
import Derived.ChangeSame
import Derived.Lib.LaidTab
import Derived.Test.YtgihmikeapbpkabDoorSM1
namespace Go.Proofs
open Go.Shelf
def Tryd.lays170_ren : Go.Shelf.Ren := ⟨fun | 170 => 44 | n => n, fun | 70 => 63 | 3 => 3 | 0 => 0 | 72 => 66 | 37 => 64 | 5 => 5 | n => n, fun | n => n⟩
theorem Tryd.lays170 : Go.Proofs.Lays.n170 Tryd.prog Tryd.lays170_ren := {
 mixed := by kernel_rfl
 f170 := Tryd.func44.trans (congrArg some (by kernel_rfl))
 t0 := Tryd.underlying0
 a0 := Tryd.isAgg0
 z0 := Tryd.sizeOf0
 v0 := Tryd.zeroValue0
 t3 := Tryd.underlying3
 a3 := Tryd.isAgg3
 z3 := Tryd.sizeOf3
 v3 := Tryd.zeroValue3
 t37 := Tryd.underlying64
 a37 := Tryd.isAgg64
 z37 := Tryd.sizeOf64
 v37 := Tryd.zeroValue64
 t70 := Tryd.underlying63
 a70 := Tryd.isAgg63
 z70 := Tryd.sizeOf63
 v70 := Tryd.zeroValue63
 t72 := Tryd.underlying66
 a72 := Tryd.isAgg66
 z72 := Tryd.sizeOf66
 v72 := Tryd.zeroValue66 }
open Go.RowKit in
theorem Tryd.Builder_Len (B b : Nat) (bs : List Value) (w : World) (h : Lib.IsBuilder 66 5 B b bs w) :
  Calls Tryd.prog 44 #[.pointer (some ⟨b, 0, none⟩)] w fun e w' => e = .returned (.int .i64 bs.length) ∧ w' = w := Any.Builder_Len Tryd.lays170 B b bs w h
def Tryd.lays169_ren : Go.Shelf.Ren := ⟨fun | 169 => 45 | n => n, fun | 70 => 63 | 9 => 9 | 0 => 0 | 72 => 66 | 37 => 64 | 127 => 81 | 3 => 3 | 5 => 5 | n => n, fun | n => n⟩
theorem Tryd.lays169 : Go.Proofs.Lays.n169 Tryd.prog Tryd.lays169_ren := {
 mixed := by kernel_rfl
 f169 := Tryd.func45.trans (congrArg some (by kernel_rfl))
 t0 := Tryd.underlying0
 a0 := Tryd.isAgg0
 z0 := Tryd.sizeOf0
 v0 := Tryd.zeroValue0
 t3 := Tryd.underlying3
 a3 := Tryd.isAgg3
 z3 := Tryd.sizeOf3
 v3 := Tryd.zeroValue3
 t9 := Tryd.underlying9
 a9 := Tryd.isAgg9
 z9 := Tryd.sizeOf9
 v9 := Tryd.zeroValue9
 t37 := Tryd.underlying64
 a37 := Tryd.isAgg64
 z37 := Tryd.sizeOf64
 v37 := Tryd.zeroValue64
 t70 := Tryd.underlying63
 a70 := Tryd.isAgg63
 z70 := Tryd.sizeOf63
 v70 := Tryd.zeroValue63
 t72 := Tryd.underlying66
 a72 := Tryd.isAgg66
 z72 := Tryd.sizeOf66
 v72 := Tryd.zeroValue66
 t127 := Tryd.underlying81
 a127 := Tryd.isAgg81
 z127 := Tryd.sizeOf81
 v127 := Tryd.zeroValue81 }
theorem Tryd.Builder_Extra_169 : Builder.Extra Tryd.prog Tryd.lays169_ren := {
 sizeBuilder := by kernel_rfl
 liesBuilder := by kernel_rfl
 t5 := Tryd.underlying5
 a5 := Tryd.isAgg5
 z5 := Tryd.sizeOf5
 v5 := Tryd.zeroValue5
 infoByte := by kernel_rfl
 cellsByte := by kernel_rfl
 sizeByte := by kernel_rfl
 neB5 := by decide }
open Go.RowKit in
theorem Tryd.Builder_String (B b : Nat) (l : List UInt8) (w : World) (h : Lib.IsBuilder 66 5 B b (Lib.byteCells l) w) (h0 : l ≠ []) :
  Calls Tryd.prog 45 #[.pointer (some ⟨b, 0, none⟩)] w fun e w' => e = .returned (.string ⟨l.toArray⟩) ∧ Below B w w' := Any.Builder_String Tryd.lays169 Tryd.Builder_Extra_169 B b l w h h0
open Go.RowKit in
theorem Tryd.Builder_String_empty (B b : Nat) (w : World) (h : Lib.IsBuilder 66 5 B b [] w) (hBw : B ≤ w.heap.size) :
  Calls Tryd.prog 45 #[.pointer (some ⟨b, 0, none⟩)] w fun e w' => e = .returned (.string ⟨#[]⟩) ∧ Below B w w' := Any.Builder_String_empty Tryd.lays169 Tryd.Builder_Extra_169 B b w h hBw
open Go.RowKit in
theorem Tryd.Builder_String_any (B b : Nat) (l : List UInt8) (w : World) (h : Lib.IsBuilder 66 5 B b (Lib.byteCells l) w) (hBw : B ≤ w.heap.size) :
  Calls Tryd.prog 45 #[.pointer (some ⟨b, 0, none⟩)] w fun e w' => e = .returned (.string ⟨l.toArray⟩) ∧ Below B w w' := Any.Builder_String_any Tryd.lays169 Tryd.Builder_Extra_169 B b l w h hBw
def Tryd.lays241_ren : Go.Shelf.Ren := ⟨fun | 241 => 57 | 277 => 64 | n => n, fun | 70 => 63 | 3 => 3 | 0 => 0 | 72 => 66 | 37 => 64 | 5 => 5 | n => n, fun | n => n⟩
theorem Tryd.lays241 : Go.Proofs.Lays.n241 Tryd.prog Tryd.lays241_ren := {
 mixed := by kernel_rfl
 f241 := Tryd.func57.trans (congrArg some (by kernel_rfl))
 f277 := Tryd.func64.trans (congrArg some (by kernel_rfl))
 t0 := Tryd.underlying0
 a0 := Tryd.isAgg0
 z0 := Tryd.sizeOf0
 v0 := Tryd.zeroValue0
 t3 := Tryd.underlying3
 a3 := Tryd.isAgg3
 z3 := Tryd.sizeOf3
 v3 := Tryd.zeroValue3
 t37 := Tryd.underlying64
 a37 := Tryd.isAgg64
 z37 := Tryd.sizeOf64
 v37 := Tryd.zeroValue64
 t70 := Tryd.underlying63
 a70 := Tryd.isAgg63
 z70 := Tryd.sizeOf63
 v70 := Tryd.zeroValue63
 t72 := Tryd.underlying66
 a72 := Tryd.isAgg66
 z72 := Tryd.sizeOf66
 v72 := Tryd.zeroValue66 }
theorem Tryd.Builder_Extra_241 : Builder.Extra Tryd.prog Tryd.lays241_ren := {
 sizeBuilder := by kernel_rfl
 liesBuilder := by kernel_rfl
 t5 := Tryd.underlying5
 a5 := Tryd.isAgg5
 z5 := Tryd.sizeOf5
 v5 := Tryd.zeroValue5
 infoByte := by kernel_rfl
 cellsByte := by kernel_rfl
 sizeByte := by kernel_rfl
 neB5 := by decide }
open Go.RowKit in
theorem Tryd.Builder_grow_fresh (B b n : Nat) (w : World) (hB : B ≤ b) (hbk : w.heap[b]? = some (.cells #[.pointer (some ⟨b, 0, none⟩), .slice none 0 0] 66 (0, 0))) (hBw : B ≤ w.heap.size) (hn : n ≤ 281474976710656) :
  Calls Tryd.prog 57 #[.pointer (some ⟨b, 0, none⟩), .int .i64 n] w fun e w' => e = .returned (.tuple #[]) ∧ (Lib.BuilderAt 66 5 B b (.pointer (some ⟨b, 0, none⟩)) [] w' ∧ Below B w w') := Any.Builder_grow_fresh Tryd.lays241 Tryd.Builder_Extra_241 B b n w hB hbk hBw hn
def Tryd.lays165_ren : Go.Shelf.Ren := ⟨fun | 165 => 42 | 240 => 56 | 241 => 57 | 276 => 63 | 277 => 64 | n => n, fun | 70 => 63 | 3 => 3 | 0 => 0 | 4 => 4 | 9 => 9 | 20 => 20 | 72 => 66 | 37 => 64 | 164 => 87 | 5 => 5 | n => n, fun | n => n⟩
theorem Tryd.lays165 : Go.Proofs.Lays.n165 Tryd.prog Tryd.lays165_ren := {
 mixed := by kernel_rfl
 f165 := Tryd.func42.trans (congrArg some (by kernel_rfl))
 f240 := Tryd.func56.trans (congrArg some (by kernel_rfl))
 f241 := Tryd.func57.trans (congrArg some (by kernel_rfl))
 f276 := Tryd.func63.trans (congrArg some (by kernel_rfl))
 f277 := Tryd.func64.trans (congrArg some (by kernel_rfl))
 t0 := Tryd.underlying0
 a0 := Tryd.isAgg0
 z0 := Tryd.sizeOf0
 v0 := Tryd.zeroValue0
 t3 := Tryd.underlying3
 a3 := Tryd.isAgg3
 z3 := Tryd.sizeOf3
 v3 := Tryd.zeroValue3
 t4 := Tryd.underlying4
 a4 := Tryd.isAgg4
 z4 := Tryd.sizeOf4
 v4 := Tryd.zeroValue4
 t9 := Tryd.underlying9
 a9 := Tryd.isAgg9
 z9 := Tryd.sizeOf9
 v9 := Tryd.zeroValue9
 t20 := Tryd.underlying20
 a20 := Tryd.isAgg20
 z20 := Tryd.sizeOf20
 v20 := Tryd.zeroValue20
 t37 := Tryd.underlying64
 a37 := Tryd.isAgg64
 z37 := Tryd.sizeOf64
 v37 := Tryd.zeroValue64
 t70 := Tryd.underlying63
 a70 := Tryd.isAgg63
 z70 := Tryd.sizeOf63
 v70 := Tryd.zeroValue63
 t72 := Tryd.underlying66
 a72 := Tryd.isAgg66
 z72 := Tryd.sizeOf66
 v72 := Tryd.zeroValue66
 t164 := Tryd.underlying87
 a164 := Tryd.isAgg87
 z164 := Tryd.sizeOf87
 v164 := Tryd.zeroValue87 }
theorem Tryd.Builder_Extra_165 : Builder.Extra Tryd.prog Tryd.lays165_ren := {
 sizeBuilder := by kernel_rfl
 liesBuilder := by kernel_rfl
 t5 := Tryd.underlying5
 a5 := Tryd.isAgg5
 z5 := Tryd.sizeOf5
 v5 := Tryd.zeroValue5
 infoByte := by kernel_rfl
 cellsByte := by kernel_rfl
 sizeByte := by kernel_rfl
 neB5 := by decide }
open Go.RowKit in
theorem Tryd.Builder_Grow_fresh (B b n : Nat) (w : World) (hB : B ≤ b) (hbk : w.heap[b]? = some (.cells #[.pointer none, .slice none 0 0] 66 (0, 0))) (hBw : B ≤ w.heap.size) (hn : n ≤ 281474976710656) :
  Calls Tryd.prog 42 #[.pointer (some ⟨b, 0, none⟩), .int .i64 n] w fun e w' => e = .returned (.tuple #[]) ∧ (Lib.BuilderAt 66 5 B b (.pointer (some ⟨b, 0, none⟩)) [] w' ∧ Below B w w') := Any.Builder_Grow_fresh Tryd.lays165 Tryd.Builder_Extra_165 B b n w hB hbk hBw hn
def Tryd.lays210_ren : Go.Shelf.Ren := ⟨fun | 210 => 38 | 206 => 52 | n => n, fun | 9 => 9 | 4 => 4 | 3 => 3 | n => n, fun | n => n⟩
theorem Tryd.lays210 : Go.Proofs.Lays.n210 Tryd.prog Tryd.lays210_ren := {
 mixed := by kernel_rfl
 f206 := Tryd.func52.trans (congrArg some (by kernel_rfl))
 f210 := Tryd.func38.trans (congrArg some (by kernel_rfl))
 t3 := Tryd.underlying3
 a3 := Tryd.isAgg3
 z3 := Tryd.sizeOf3
 v3 := Tryd.zeroValue3
 t4 := Tryd.underlying4
 a4 := Tryd.isAgg4
 z4 := Tryd.sizeOf4
 v4 := Tryd.zeroValue4
 t9 := Tryd.underlying9
 a9 := Tryd.isAgg9
 z9 := Tryd.sizeOf9
 v9 := Tryd.zeroValue9 }
open Go.RowKit in
theorem Tryd.stringslite_CutPrefix (s p : ByteArray) (w : World) :
  Calls Tryd.prog 38 #[.string s, .string p] w fun e w' => e = .returned (.tuple #[.string ⟨(Lib.trimPrefix s.data.toList p.data.toList).toArray⟩, .bool (Lib.hasPrefix s.data.toList p.data.toList)]) ∧ w' = w := Any.stringslite_CutPrefix Tryd.lays210 s p w
def Tryd.lays103_ren : Go.Shelf.Ren := ⟨fun | 103 => 32 | 210 => 38 | 206 => 52 | n => n, fun | 9 => 9 | 4 => 4 | 24 => 48 | 3 => 3 | n => n, fun | n => n⟩
theorem Tryd.lays103 : Go.Proofs.Lays.n103 Tryd.prog Tryd.lays103_ren := {
 mixed := by kernel_rfl
 f103 := Tryd.func32.trans (congrArg some (by kernel_rfl))
 f206 := Tryd.func52.trans (congrArg some (by kernel_rfl))
 f210 := Tryd.func38.trans (congrArg some (by kernel_rfl))
 t3 := Tryd.underlying3
 a3 := Tryd.isAgg3
 z3 := Tryd.sizeOf3
 v3 := Tryd.zeroValue3
 t4 := Tryd.underlying4
 a4 := Tryd.isAgg4
 z4 := Tryd.sizeOf4
 v4 := Tryd.zeroValue4
 t9 := Tryd.underlying9
 a9 := Tryd.isAgg9
 z9 := Tryd.sizeOf9
 v9 := Tryd.zeroValue9
 t24 := Tryd.underlying48
 a24 := Tryd.isAgg48
 z24 := Tryd.sizeOf48
 v24 := Tryd.zeroValue48 }
open Go.RowKit in
theorem Tryd.strings_CutPrefix (s p : ByteArray) (w : World) :
  Calls Tryd.prog 32 #[.string s, .string p] w fun e w' => e = .returned (.tuple #[.string ⟨(Lib.trimPrefix s.data.toList p.data.toList).toArray⟩, .bool (Lib.hasPrefix s.data.toList p.data.toList)]) ∧ w' = w := Any.strings_CutPrefix Tryd.lays103 s p w
def Tryd.lays215_ren : Go.Shelf.Ren := ⟨fun | 215 => 37 | n => n, fun | 3 => 3 | 4 => 4 | n => n, fun | n => n⟩
theorem Tryd.lays215 : Go.Proofs.Lays.n215 Tryd.prog Tryd.lays215_ren := {
 mixed := by kernel_rfl
 f215 := Tryd.func37.trans (congrArg some (by kernel_rfl))
 t3 := Tryd.underlying3
 a3 := Tryd.isAgg3
 z3 := Tryd.sizeOf3
 v3 := Tryd.zeroValue3
 t4 := Tryd.underlying4
 a4 := Tryd.isAgg4
 z4 := Tryd.sizeOf4
 v4 := Tryd.zeroValue4 }
open Go.RowKit in
theorem Tryd.cmp_isNaN_int (x : Int) (w : World) :
  Calls Tryd.prog 37 #[.int .i64 x] w fun e w' => e = .returned (.bool false) ∧ w' = w := Any.cmp_isNaN_int Tryd.lays215 x w
def Tryd.lays122_ren : Go.Shelf.Ren := ⟨fun | 122 => 31 | 215 => 37 | n => n, fun | 3 => 3 | 4 => 4 | n => n, fun | n => n⟩
theorem Tryd.lays122 : Go.Proofs.Lays.n122 Tryd.prog Tryd.lays122_ren := {
 mixed := by kernel_rfl
 f122 := Tryd.func31.trans (congrArg some (by kernel_rfl))
 f215 := Tryd.func37.trans (congrArg some (by kernel_rfl))
 t3 := Tryd.underlying3
 a3 := Tryd.isAgg3
 z3 := Tryd.sizeOf3
 v3 := Tryd.zeroValue3
 t4 := Tryd.underlying4
 a4 := Tryd.isAgg4
 z4 := Tryd.sizeOf4
 v4 := Tryd.zeroValue4 }
open Go.RowKit in
theorem Tryd.cmp_Compare_int (x y : Int) (w : World) :
  Calls Tryd.prog 31 #[.int .i64 x, .int .i64 y] w fun e w' => e = .returned (.int .i64 (Lib.compareInt x y)) ∧ w' = w := Any.cmp_Compare_int Tryd.lays122 x y w
open Go.RowKit in
theorem Tryd.Builder_Len_f (B b : Nat) (bs : List Value) (w : World) (h : Lib.IsBuilderF 66 5 B b bs w) :
  Calls Tryd.prog 44 #[.pointer (some ⟨b, 0, none⟩)] w fun e w' => e = .returned (.int .i64 bs.length) ∧ w' = w := Any.Builder_Len_f Tryd.lays170 B b bs w h
open Go.RowKit in
theorem Tryd.Builder_String_f (B b : Nat) (l : List UInt8) (w : World) (h : Lib.IsBuilderF 66 5 B b (Lib.byteCells l) w) (h0 : l ≠ []) :
  Calls Tryd.prog 45 #[.pointer (some ⟨b, 0, none⟩)] w fun e w' => e = .returned (.string ⟨l.toArray⟩) ∧ (Lib.IsBuilderF 66 5 B b (Lib.byteCells l) w' ∧ Below B w w') := Any.Builder_String_f Tryd.lays169 Tryd.Builder_Extra_169 B b l w h h0
open Go.RowKit in
theorem Tryd.Builder_String_empty_f (B b : Nat) (w : World) (h : Lib.IsBuilderF 66 5 B b [] w) (hBw : B ≤ w.heap.size) :
  Calls Tryd.prog 45 #[.pointer (some ⟨b, 0, none⟩)] w fun e w' => e = .returned (.string ⟨#[]⟩) ∧ (Lib.IsBuilderF 66 5 B b [] w' ∧ Below B w w') := Any.Builder_String_empty_f Tryd.lays169 Tryd.Builder_Extra_169 B b w h hBw
open Go.RowKit in
theorem Tryd.Builder_String_any_f (B b : Nat) (l : List UInt8) (w : World) (h : Lib.IsBuilderF 66 5 B b (Lib.byteCells l) w) (hBw : B ≤ w.heap.size) :
  Calls Tryd.prog 45 #[.pointer (some ⟨b, 0, none⟩)] w fun e w' => e = .returned (.string ⟨l.toArray⟩) ∧ (Lib.IsBuilderF 66 5 B b (Lib.byteCells l) w' ∧ Below B w w') := Any.Builder_String_any_f Tryd.lays169 Tryd.Builder_Extra_169 B b l w h hBw
open Go.RowKit in
theorem Tryd.Builder_String_k (B b : Nat) (l : List UInt8) (w : World) (h : Lib.IsBuilderF 66 5 B b (Lib.byteCells l) w) (h0 : l ≠ []) :
  Calls Tryd.prog 45 #[.pointer (some ⟨b, 0, none⟩)] w fun e w' => e = .returned (.string ⟨l.toArray⟩) ∧ (Lib.IsBuilderF 66 5 B b (Lib.byteCells l) w' ∧ Below B w w' ∧ Lib.OthersKept 5 (some b) w w') := Any.Builder_String_k Tryd.lays169 Tryd.Builder_Extra_169 B b l w h h0
open Go.RowKit in
theorem Tryd.Builder_String_empty_k (B b : Nat) (w : World) (h : Lib.IsBuilderF 66 5 B b [] w) (hBw : B ≤ w.heap.size) :
  Calls Tryd.prog 45 #[.pointer (some ⟨b, 0, none⟩)] w fun e w' => e = .returned (.string ⟨#[]⟩) ∧ (Lib.IsBuilderF 66 5 B b [] w' ∧ Below B w w' ∧ Lib.OthersKept 5 (some b) w w') := Any.Builder_String_empty_k Tryd.lays169 Tryd.Builder_Extra_169 B b w h hBw
open Go.RowKit in
theorem Tryd.Builder_String_any_k (B b : Nat) (l : List UInt8) (w : World) (h : Lib.IsBuilderF 66 5 B b (Lib.byteCells l) w) (hBw : B ≤ w.heap.size) :
  Calls Tryd.prog 45 #[.pointer (some ⟨b, 0, none⟩)] w fun e w' => e = .returned (.string ⟨l.toArray⟩) ∧ (Lib.IsBuilderF 66 5 B b (Lib.byteCells l) w' ∧ Below B w w' ∧ Lib.OthersKept 5 (some b) w w') := Any.Builder_String_any_k Tryd.lays169 Tryd.Builder_Extra_169 B b l w h hBw
open Go.RowKit in
theorem Tryd.Builder_grow_fresh_cap (B b n : Nat) (w : World) (hB : B ≤ b) (hbk : w.heap[b]? = some (.cells #[.pointer (some ⟨b, 0, none⟩), .slice none 0 0] 66 (0, 0))) (hBw : B ≤ w.heap.size) (hn : n ≤ 281474976710656) :
  Calls Tryd.prog 57 #[.pointer (some ⟨b, 0, none⟩), .int .i64 n] w fun e w' => e = .returned (.tuple #[]) ∧ (Lib.BuilderAt 66 5 B b (.pointer (some ⟨b, 0, none⟩)) [] w' ∧ Below B w w') ∧ ∃ p cap, w'.cell? ⟨b, 1, none⟩ = some (.slice p 0 cap) ∧ n ≤ cap := Any.Builder_grow_fresh_cap Tryd.lays241 Tryd.Builder_Extra_241 B b n w hB hbk hBw hn
open Go.RowKit in
theorem Tryd.Builder_Grow_fresh_cap (B b n : Nat) (w : World) (hB : B ≤ b) (hbk : w.heap[b]? = some (.cells #[.pointer none, .slice none 0 0] 66 (0, 0))) (hBw : B ≤ w.heap.size) (hn : n ≤ 281474976710656) :
  Calls Tryd.prog 42 #[.pointer (some ⟨b, 0, none⟩), .int .i64 n] w fun e w' => e = .returned (.tuple #[]) ∧ (Lib.BuilderAt 66 5 B b (.pointer (some ⟨b, 0, none⟩)) [] w' ∧ Below B w w') ∧ ∃ p cap, w'.cell? ⟨b, 1, none⟩ = some (.slice p 0 cap) ∧ n ≤ cap := Any.Builder_Grow_fresh_cap Tryd.lays165 Tryd.Builder_Extra_165 B b n w hB hbk hBw hn
def Tryd.lays129_ren : Go.Shelf.Ren := ⟨fun | 129 => 66 | n => n, fun | 53 => 78 | 3 => 3 | 4 => 4 | 46 => 59 | 5 => 5 | 9 => 9 | n => n, fun | n => n⟩
theorem Tryd.lays129 : Go.Proofs.Lays.n129 Tryd.prog Tryd.lays129_ren := {
 mixed := by kernel_rfl
 f129 := Tryd.func66.trans (congrArg some (by kernel_rfl))
 t3 := Tryd.underlying3
 a3 := Tryd.isAgg3
 z3 := Tryd.sizeOf3
 v3 := Tryd.zeroValue3
 t4 := Tryd.underlying4
 a4 := Tryd.isAgg4
 z4 := Tryd.sizeOf4
 v4 := Tryd.zeroValue4
 t5 := Tryd.underlying5
 a5 := Tryd.isAgg5
 z5 := Tryd.sizeOf5
 v5 := Tryd.zeroValue5
 t9 := Tryd.underlying9
 a9 := Tryd.isAgg9
 z9 := Tryd.sizeOf9
 v9 := Tryd.zeroValue9
 t46 := Tryd.underlying59
 a46 := Tryd.isAgg59
 z46 := Tryd.sizeOf59
 v46 := Tryd.zeroValue59
 t53 := Tryd.underlying78
 a53 := Tryd.isAgg78
 z53 := Tryd.sizeOf78
 v53 := Tryd.zeroValue78 }
theorem Tryd.bits_Len64 (x : Int) (w : World) (h0 : 0 ≤ x) (h1 : x ≤ 18446744073709551615) :
  Calls Tryd.prog 66 #[.int .u64 x] w fun e w' => e = .returned (.int .i64 (Lib.bitLen x.toNat)) ∧ w' = w := Any.bits_Len64 Tryd.lays129 x w h0 h1
def Tryd.lays317_ren : Go.Shelf.Ren := ⟨fun | 317 => 65 | n => n, fun | 3 => 3 | 46 => 59 | n => n, fun | n => n⟩
theorem Tryd.lays317 : Go.Proofs.Lays.n317 Tryd.prog Tryd.lays317_ren := {
 mixed := by kernel_rfl
 f317 := Tryd.func65.trans (congrArg some (by kernel_rfl))
 t3 := Tryd.underlying3
 a3 := Tryd.isAgg3
 z3 := Tryd.sizeOf3
 v3 := Tryd.zeroValue3
 t46 := Tryd.underlying59
 a46 := Tryd.isAgg59
 z46 := Tryd.sizeOf59
 v46 := Tryd.zeroValue59 }
open Go.Lib in
theorem Tryd.internal_strconv_log10Pow2 (x : Nat) (h : x ≤ 64) (w : World) :
  Calls Tryd.prog 65 #[.int .i64 x] w fun e w' => e = .returned (.int .i64 (Lib.l10 x)) ∧ w' = w := Any.internal_strconv_log10Pow2 Tryd.lays317 x h w
def Tryd.lays318_ren : Go.Shelf.Ren := ⟨fun | 318 => 67 | n => n, fun | 3 => 3 | 4 => 4 | n => n, fun | n => n⟩
theorem Tryd.lays318 : Go.Proofs.Lays.n318 Tryd.prog Tryd.lays318_ren := {
 mixed := by kernel_rfl
 f318 := Tryd.func67.trans (congrArg some (by kernel_rfl))
 t3 := Tryd.underlying3
 a3 := Tryd.isAgg3
 z3 := Tryd.sizeOf3
 v3 := Tryd.zeroValue3
 t4 := Tryd.underlying4
 a4 := Tryd.isAgg4
 z4 := Tryd.sizeOf4
 v4 := Tryd.zeroValue4 }
open Go.Lib in
theorem Tryd.internal_strconv_bool2_int (b : Bool) (w : World) :
  Calls Tryd.prog 67 #[.bool b] w fun e w' => e = .returned (.int .i64 (if b then 1 else 0)) ∧ w' = w := Any.internal_strconv_bool2_int Tryd.lays318 b w
def Tryd.lays283_ren : Go.Shelf.Ren := ⟨fun | 283 => 59 | n => n, fun | 3 => 3 | 9 => 9 | 4 => 4 | n => n, fun | n => n⟩
theorem Tryd.lays283 : Go.Proofs.Lays.n283 Tryd.prog Tryd.lays283_ren := {
 mixed := by kernel_rfl
 f283 := Tryd.func59.trans (congrArg some (by kernel_rfl))
 t3 := Tryd.underlying3
 a3 := Tryd.isAgg3
 z3 := Tryd.sizeOf3
 v3 := Tryd.zeroValue3
 t4 := Tryd.underlying4
 a4 := Tryd.isAgg4
 z4 := Tryd.sizeOf4
 v4 := Tryd.zeroValue4
 t9 := Tryd.underlying9
 a9 := Tryd.isAgg9
 z9 := Tryd.sizeOf9
 v9 := Tryd.zeroValue9 }
open Go.Lib in
theorem Tryd.internal_strconv_small (i : Nat) (h : i < 100) (w : World) :
  Calls Tryd.prog 59 #[.int .i64 i] w fun e w' => e = .returned (.string ⟨(Lib.decDigits i).toArray⟩) ∧ w' = w := Any.internal_strconv_small Tryd.lays283 i h w
def Tryd.laysM284_ren : Go.Shelf.Ren := ⟨fun | 284 => 60 | 129 => 66 | 317 => 65 | 318 => 67 | n => n, fun | 53 => 78 | 3 => 3 | 212 => 91 | 0 => 0 | 4 => 4 | 46 => 59 | 5 => 5 | 9 => 9 | n => n, fun | 17 => 0 | n => n⟩
theorem Tryd.laysM284 : Go.Proofs.LaysM.n284 Tryd.prog Tryd.laysM284_ren := {
 mixed := by kernel_rfl
 f129 := Tryd.func66.trans (congrArg some (by kernel_rfl))
 f284 := Tryd.func60.trans (congrArg some (by kernel_rfl))
 f317 := Tryd.func65.trans (congrArg some (by kernel_rfl))
 f318 := Tryd.func67.trans (congrArg some (by kernel_rfl))
 t0 := Tryd.underlying0
 a0 := Tryd.isAgg0
 z0 := Tryd.sizeOf0
 v0 := Tryd.zeroValue0
 t3 := Tryd.underlying3
 a3 := Tryd.isAgg3
 z3 := Tryd.sizeOf3
 v3 := Tryd.zeroValue3
 t4 := Tryd.underlying4
 a4 := Tryd.isAgg4
 z4 := Tryd.sizeOf4
 v4 := Tryd.zeroValue4
 t5 := Tryd.underlying5
 a5 := Tryd.isAgg5
 z5 := Tryd.sizeOf5
 v5 := Tryd.zeroValue5
 t9 := Tryd.underlying9
 a9 := Tryd.isAgg9
 z9 := Tryd.sizeOf9
 v9 := Tryd.zeroValue9
 t46 := Tryd.underlying59
 a46 := Tryd.isAgg59
 z46 := Tryd.sizeOf59
 v46 := Tryd.zeroValue59
 t53 := Tryd.underlying78
 a53 := Tryd.isAgg78
 z53 := Tryd.sizeOf78
 v53 := Tryd.zeroValue78
 t212 := Tryd.underlying91
 a212 := Tryd.isAgg91
 z212 := Tryd.sizeOf91
 v212 := Tryd.zeroValue91
 g17 := by kernel_rfl
 i0 := by kernel_rfl
 i3 := by kernel_rfl
 i4 := by kernel_rfl
 i5 := by kernel_rfl
 i9 := by kernel_rfl
 i46 := by kernel_rfl
 i53 := by kernel_rfl
 i212 := by kernel_rfl
 m17 := by kernel_rfl }
open Go.Lib in
theorem Tryd.internal_strconv_numDigits (u : Nat) (h1 : 1 ≤ u) (h2 : u < 18446744073709551616) (w : World) (htab : Lib.TabIs Tryd.prog w "internal/strconv.uint64pow10" .u64 Lib.pow10Tab) :
  Calls Tryd.prog 60 #[.int .u64 u] w fun e w' => e = .returned (.int .i64 (Lib.nDigits u)) ∧ w' = w := Any.internal_strconv_numDigits Tryd.laysM284 u h1 h2 w htab
def Tryd.lays285_ren : Go.Shelf.Ren := ⟨fun | 285 => 61 | n => n, fun | 37 => 64 | 53 => 78 | 3 => 3 | 4 => 4 | 51 => 75 | 9 => 9 | 5 => 5 | 0 => 0 | n => n, fun | n => n⟩
theorem Tryd.lays285 : Go.Proofs.Lays.n285 Tryd.prog Tryd.lays285_ren := {
 mixed := by kernel_rfl
 f285 := Tryd.func61.trans (congrArg some (by kernel_rfl))
 t0 := Tryd.underlying0
 a0 := Tryd.isAgg0
 z0 := Tryd.sizeOf0
 v0 := Tryd.zeroValue0
 t3 := Tryd.underlying3
 a3 := Tryd.isAgg3
 z3 := Tryd.sizeOf3
 v3 := Tryd.zeroValue3
 t4 := Tryd.underlying4
 a4 := Tryd.isAgg4
 z4 := Tryd.sizeOf4
 v4 := Tryd.zeroValue4
 t5 := Tryd.underlying5
 a5 := Tryd.isAgg5
 z5 := Tryd.sizeOf5
 v5 := Tryd.zeroValue5
 t9 := Tryd.underlying9
 a9 := Tryd.isAgg9
 z9 := Tryd.sizeOf9
 v9 := Tryd.zeroValue9
 t37 := Tryd.underlying64
 a37 := Tryd.isAgg64
 z37 := Tryd.sizeOf64
 v37 := Tryd.zeroValue64
 t51 := Tryd.underlying75
 a51 := Tryd.isAgg75
 z51 := Tryd.sizeOf75
 v51 := Tryd.zeroValue75
 t53 := Tryd.underlying78
 a53 := Tryd.isAgg78
 z53 := Tryd.sizeOf78
 v53 := Tryd.zeroValue78 }
open Go.RowKit Go.Sort Go.Lib in
theorem Tryd.internal_strconv_formatBase10 (blk off cap : Nat) (u : Nat) (d : Array UInt8) (w : World) (hH : Holds (fun (b : UInt8) => Value.int .u8 (b.toNat : Int)) w blk off d) (hu : u < 10 ^ d.size) (hu64 : u < 18446744073709551616) (hsz : d.size < 4611686018427387904) :
  Calls Tryd.prog 61 #[.slice (some ⟨blk, off, none⟩) d.size cap, .int .u64 u] w fun e w' =>
   e = .returned (.tuple #[]) ∧ ∃ (n v' : Nat) (dk : Array UInt8), w' = (putRow (fun (b : UInt8) => Value.int .u8 (b.toNat : Int)) w blk off dk).drewN n ∧ FmtInv d.size u 0 v' dk := Any.internal_strconv_formatBase10 Tryd.lays285 blk off cap u d w hH hu hu64 hsz
def Tryd.laysM246_ren : Go.Shelf.Ren := ⟨fun | 246 => 53 | 283 => 59 | 284 => 60 | 285 => 61 | 286 => 62 | 129 => 66 | 317 => 65 | 318 => 67 | 319 => 68 | 320 => 69 | 337 => 70 | 338 => 71 | n => n, fun | 2 => 2 | 3 => 3 | 9 => 9 | 4 => 4 | 171 => 82 | 0 => 0 | 53 => 78 | 37 => 64 | 5 => 5 | 173 => 85 | 212 => 91 | 51 => 75 | 20 => 20 | 213 => 92 | 46 => 59 | 232 => 95 | 233 => 96 | n => n, fun | 17 => 0 | 18 => 2 | 19 => 3 | n => n⟩
theorem Tryd.laysM246 : Go.Proofs.LaysM.n246 Tryd.prog Tryd.laysM246_ren := {
 mixed := by kernel_rfl
 f129 := Tryd.func66.trans (congrArg some (by kernel_rfl))
 f246 := Tryd.func53.trans (congrArg some (by kernel_rfl))
 f283 := Tryd.func59.trans (congrArg some (by kernel_rfl))
 f284 := Tryd.func60.trans (congrArg some (by kernel_rfl))
 f285 := Tryd.func61.trans (congrArg some (by kernel_rfl))
 f286 := Tryd.func62.trans (congrArg some (by kernel_rfl))
 f317 := Tryd.func65.trans (congrArg some (by kernel_rfl))
 f318 := Tryd.func67.trans (congrArg some (by kernel_rfl))
 f319 := Tryd.func68.trans (congrArg some (by kernel_rfl))
 f320 := Tryd.func69.trans (congrArg some (by kernel_rfl))
 f337 := Tryd.func70.trans (congrArg some (by kernel_rfl))
 f338 := Tryd.func71.trans (congrArg some (by kernel_rfl))
 t0 := Tryd.underlying0
 a0 := Tryd.isAgg0
 z0 := Tryd.sizeOf0
 v0 := Tryd.zeroValue0
 t2 := Tryd.underlying2
 a2 := Tryd.isAgg2
 z2 := Tryd.sizeOf2
 v2 := Tryd.zeroValue2
 t3 := Tryd.underlying3
 a3 := Tryd.isAgg3
 z3 := Tryd.sizeOf3
 v3 := Tryd.zeroValue3
 t4 := Tryd.underlying4
 a4 := Tryd.isAgg4
 z4 := Tryd.sizeOf4
 v4 := Tryd.zeroValue4
 t5 := Tryd.underlying5
 a5 := Tryd.isAgg5
 z5 := Tryd.sizeOf5
 v5 := Tryd.zeroValue5
 t9 := Tryd.underlying9
 a9 := Tryd.isAgg9
 z9 := Tryd.sizeOf9
 v9 := Tryd.zeroValue9
 t20 := Tryd.underlying20
 a20 := Tryd.isAgg20
 z20 := Tryd.sizeOf20
 v20 := Tryd.zeroValue20
 t37 := Tryd.underlying64
 a37 := Tryd.isAgg64
 z37 := Tryd.sizeOf64
 v37 := Tryd.zeroValue64
 t46 := Tryd.underlying59
 a46 := Tryd.isAgg59
 z46 := Tryd.sizeOf59
 v46 := Tryd.zeroValue59
 t51 := Tryd.underlying75
 a51 := Tryd.isAgg75
 z51 := Tryd.sizeOf75
 v51 := Tryd.zeroValue75
 t53 := Tryd.underlying78
 a53 := Tryd.isAgg78
 z53 := Tryd.sizeOf78
 v53 := Tryd.zeroValue78
 t171 := Tryd.underlying82
 a171 := Tryd.isAgg82
 z171 := Tryd.sizeOf82
 v171 := Tryd.zeroValue82
 t173 := Tryd.underlying85
 a173 := Tryd.isAgg85
 z173 := Tryd.sizeOf85
 v173 := Tryd.zeroValue85
 t212 := Tryd.underlying91
 a212 := Tryd.isAgg91
 z212 := Tryd.sizeOf91
 v212 := Tryd.zeroValue91
 t213 := Tryd.underlying92
 a213 := Tryd.isAgg92
 z213 := Tryd.sizeOf92
 t232 := Tryd.underlying95
 a232 := Tryd.isAgg95
 z232 := Tryd.sizeOf95
 v232 := Tryd.zeroValue95
 t233 := Tryd.underlying96
 a233 := Tryd.isAgg96
 z233 := Tryd.sizeOf96
 v233 := Tryd.zeroValue96
 g17 := by kernel_rfl
 g18 := by kernel_rfl
 g19 := by kernel_rfl
 i0 := by kernel_rfl
 i2 := by kernel_rfl
 i3 := by kernel_rfl
 i4 := by kernel_rfl
 i5 := by kernel_rfl
 i9 := by kernel_rfl
 i20 := by kernel_rfl
 i37 := by kernel_rfl
 i46 := by kernel_rfl
 i51 := by kernel_rfl
 i53 := by kernel_rfl
 i171 := by kernel_rfl
 i173 := by kernel_rfl
 i212 := by kernel_rfl
 i232 := by kernel_rfl
 i233 := by kernel_rfl
 m17 := by kernel_rfl
 m18 := by kernel_rfl
 m19 := by kernel_rfl }
open Go.RowKit Go.Sort Go.Lib in
theorem Tryd.internal_strconv_FormatInt_10 (n : Int) (h0 : -9223372036854775808 ≤ n) (h1 : n ≤ 9223372036854775807) (w : World) (htab : Lib.TabIs Tryd.prog w "internal/strconv.uint64pow10" .u64 Lib.pow10Tab) :
  Calls Tryd.prog 53 #[.int .i64 n, .int .i64 10] w fun e w' => e = .returned (.string ⟨(Lib.itoa n).toArray⟩) ∧ ∃ k os, w' = grow (w.drewN k) os := Any.internal_strconv_FormatInt_10 Tryd.laysM246 n h0 h1 w htab
def Tryd.lays246_ren : Go.Shelf.Ren := ⟨fun | 246 => 53 | 283 => 59 | 284 => 60 | 285 => 61 | 286 => 62 | 129 => 66 | 317 => 65 | 318 => 67 | 319 => 68 | 320 => 69 | 337 => 70 | 338 => 71 | n => n, fun | 2 => 2 | 3 => 3 | 9 => 9 | 4 => 4 | 171 => 82 | 0 => 0 | 53 => 78 | 37 => 64 | 5 => 5 | 173 => 85 | 212 => 91 | 51 => 75 | 20 => 20 | 213 => 92 | 46 => 59 | 232 => 95 | 233 => 96 | n => n, fun | 17 => 0 | 18 => 2 | 19 => 3 | n => n⟩
theorem Tryd.lays246 : Go.Proofs.Lays.n246 Tryd.prog Tryd.lays246_ren := {
 mixed := by kernel_rfl
 f129 := Tryd.func66.trans (congrArg some (by kernel_rfl))
 f246 := Tryd.func53.trans (congrArg some (by kernel_rfl))
 f283 := Tryd.func59.trans (congrArg some (by kernel_rfl))
 f284 := Tryd.func60.trans (congrArg some (by kernel_rfl))
 f285 := Tryd.func61.trans (congrArg some (by kernel_rfl))
 f286 := Tryd.func62.trans (congrArg some (by kernel_rfl))
 f317 := Tryd.func65.trans (congrArg some (by kernel_rfl))
 f318 := Tryd.func67.trans (congrArg some (by kernel_rfl))
 f319 := Tryd.func68.trans (congrArg some (by kernel_rfl))
 f320 := Tryd.func69.trans (congrArg some (by kernel_rfl))
 f337 := Tryd.func70.trans (congrArg some (by kernel_rfl))
 f338 := Tryd.func71.trans (congrArg some (by kernel_rfl))
 t0 := Tryd.underlying0
 a0 := Tryd.isAgg0
 z0 := Tryd.sizeOf0
 v0 := Tryd.zeroValue0
 t2 := Tryd.underlying2
 a2 := Tryd.isAgg2
 z2 := Tryd.sizeOf2
 v2 := Tryd.zeroValue2
 t3 := Tryd.underlying3
 a3 := Tryd.isAgg3
 z3 := Tryd.sizeOf3
 v3 := Tryd.zeroValue3
 t4 := Tryd.underlying4
 a4 := Tryd.isAgg4
 z4 := Tryd.sizeOf4
 v4 := Tryd.zeroValue4
 t5 := Tryd.underlying5
 a5 := Tryd.isAgg5
 z5 := Tryd.sizeOf5
 v5 := Tryd.zeroValue5
 t9 := Tryd.underlying9
 a9 := Tryd.isAgg9
 z9 := Tryd.sizeOf9
 v9 := Tryd.zeroValue9
 t20 := Tryd.underlying20
 a20 := Tryd.isAgg20
 z20 := Tryd.sizeOf20
 v20 := Tryd.zeroValue20
 t37 := Tryd.underlying64
 a37 := Tryd.isAgg64
 z37 := Tryd.sizeOf64
 v37 := Tryd.zeroValue64
 t46 := Tryd.underlying59
 a46 := Tryd.isAgg59
 z46 := Tryd.sizeOf59
 v46 := Tryd.zeroValue59
 t51 := Tryd.underlying75
 a51 := Tryd.isAgg75
 z51 := Tryd.sizeOf75
 v51 := Tryd.zeroValue75
 t53 := Tryd.underlying78
 a53 := Tryd.isAgg78
 z53 := Tryd.sizeOf78
 v53 := Tryd.zeroValue78
 t171 := Tryd.underlying82
 a171 := Tryd.isAgg82
 z171 := Tryd.sizeOf82
 v171 := Tryd.zeroValue82
 t173 := Tryd.underlying85
 a173 := Tryd.isAgg85
 z173 := Tryd.sizeOf85
 v173 := Tryd.zeroValue85
 t212 := Tryd.underlying91
 a212 := Tryd.isAgg91
 z212 := Tryd.sizeOf91
 v212 := Tryd.zeroValue91
 t213 := Tryd.underlying92
 a213 := Tryd.isAgg92
 z213 := Tryd.sizeOf92
 t232 := Tryd.underlying95
 a232 := Tryd.isAgg95
 z232 := Tryd.sizeOf95
 v232 := Tryd.zeroValue95
 t233 := Tryd.underlying96
 a233 := Tryd.isAgg96
 z233 := Tryd.sizeOf96
 v233 := Tryd.zeroValue96
 g17 := by kernel_rfl
 g18 := by kernel_rfl
 g19 := by kernel_rfl }
open Go.RowKit Go.Sort Go.Lib in
theorem Tryd.internal_strconv_FormatInt_10_small (i : Nat) (hi : i < 100) (w : World) :
  Calls Tryd.prog 53 #[.int .i64 i, .int .i64 10] w fun e w' => e = .returned (.string ⟨(Lib.decDigits i).toArray⟩) ∧ w' = w := Any.internal_strconv_FormatInt_10_small Tryd.lays246 i hi w
def Tryd.laysM243_ren : Go.Shelf.Ren := ⟨fun | 243 => 39 | 246 => 53 | 283 => 59 | 284 => 60 | 285 => 61 | 286 => 62 | 129 => 66 | 317 => 65 | 318 => 67 | 319 => 68 | 320 => 69 | 337 => 70 | 338 => 71 | n => n, fun | 3 => 3 | 9 => 9 | 2 => 2 | 4 => 4 | 171 => 82 | 0 => 0 | 53 => 78 | 37 => 64 | 5 => 5 | 173 => 85 | 212 => 91 | 51 => 75 | 20 => 20 | 213 => 92 | 46 => 59 | 232 => 95 | 233 => 96 | n => n, fun | 17 => 0 | 18 => 2 | 19 => 3 | n => n⟩
theorem Tryd.laysM243 : Go.Proofs.LaysM.n243 Tryd.prog Tryd.laysM243_ren := {
 mixed := by kernel_rfl
 f129 := Tryd.func66.trans (congrArg some (by kernel_rfl))
 f243 := Tryd.func39.trans (congrArg some (by kernel_rfl))
 f246 := Tryd.func53.trans (congrArg some (by kernel_rfl))
 f283 := Tryd.func59.trans (congrArg some (by kernel_rfl))
 f284 := Tryd.func60.trans (congrArg some (by kernel_rfl))
 f285 := Tryd.func61.trans (congrArg some (by kernel_rfl))
 f286 := Tryd.func62.trans (congrArg some (by kernel_rfl))
 f317 := Tryd.func65.trans (congrArg some (by kernel_rfl))
 f318 := Tryd.func67.trans (congrArg some (by kernel_rfl))
 f319 := Tryd.func68.trans (congrArg some (by kernel_rfl))
 f320 := Tryd.func69.trans (congrArg some (by kernel_rfl))
 f337 := Tryd.func70.trans (congrArg some (by kernel_rfl))
 f338 := Tryd.func71.trans (congrArg some (by kernel_rfl))
 t0 := Tryd.underlying0
 a0 := Tryd.isAgg0
 z0 := Tryd.sizeOf0
 v0 := Tryd.zeroValue0
 t2 := Tryd.underlying2
 a2 := Tryd.isAgg2
 z2 := Tryd.sizeOf2
 v2 := Tryd.zeroValue2
 t3 := Tryd.underlying3
 a3 := Tryd.isAgg3
 z3 := Tryd.sizeOf3
 v3 := Tryd.zeroValue3
 t4 := Tryd.underlying4
 a4 := Tryd.isAgg4
 z4 := Tryd.sizeOf4
 v4 := Tryd.zeroValue4
 t5 := Tryd.underlying5
 a5 := Tryd.isAgg5
 z5 := Tryd.sizeOf5
 v5 := Tryd.zeroValue5
 t9 := Tryd.underlying9
 a9 := Tryd.isAgg9
 z9 := Tryd.sizeOf9
 v9 := Tryd.zeroValue9
 t20 := Tryd.underlying20
 a20 := Tryd.isAgg20
 z20 := Tryd.sizeOf20
 v20 := Tryd.zeroValue20
 t37 := Tryd.underlying64
 a37 := Tryd.isAgg64
 z37 := Tryd.sizeOf64
 v37 := Tryd.zeroValue64
 t46 := Tryd.underlying59
 a46 := Tryd.isAgg59
 z46 := Tryd.sizeOf59
 v46 := Tryd.zeroValue59
 t51 := Tryd.underlying75
 a51 := Tryd.isAgg75
 z51 := Tryd.sizeOf75
 v51 := Tryd.zeroValue75
 t53 := Tryd.underlying78
 a53 := Tryd.isAgg78
 z53 := Tryd.sizeOf78
 v53 := Tryd.zeroValue78
 t171 := Tryd.underlying82
 a171 := Tryd.isAgg82
 z171 := Tryd.sizeOf82
 v171 := Tryd.zeroValue82
 t173 := Tryd.underlying85
 a173 := Tryd.isAgg85
 z173 := Tryd.sizeOf85
 v173 := Tryd.zeroValue85
 t212 := Tryd.underlying91
 a212 := Tryd.isAgg91
 z212 := Tryd.sizeOf91
 v212 := Tryd.zeroValue91
 t213 := Tryd.underlying92
 a213 := Tryd.isAgg92
 z213 := Tryd.sizeOf92
 t232 := Tryd.underlying95
 a232 := Tryd.isAgg95
 z232 := Tryd.sizeOf95
 v232 := Tryd.zeroValue95
 t233 := Tryd.underlying96
 a233 := Tryd.isAgg96
 z233 := Tryd.sizeOf96
 v233 := Tryd.zeroValue96
 g17 := by kernel_rfl
 g18 := by kernel_rfl
 g19 := by kernel_rfl
 i0 := by kernel_rfl
 i2 := by kernel_rfl
 i3 := by kernel_rfl
 i4 := by kernel_rfl
 i5 := by kernel_rfl
 i9 := by kernel_rfl
 i20 := by kernel_rfl
 i37 := by kernel_rfl
 i46 := by kernel_rfl
 i51 := by kernel_rfl
 i53 := by kernel_rfl
 i171 := by kernel_rfl
 i173 := by kernel_rfl
 i212 := by kernel_rfl
 i232 := by kernel_rfl
 i233 := by kernel_rfl
 m17 := by kernel_rfl
 m18 := by kernel_rfl
 m19 := by kernel_rfl }
open Go.RowKit Go.Sort Go.Lib in
theorem Tryd.internal_strconv_Itoa (n : Int) (h0 : -9223372036854775808 ≤ n) (h1 : n ≤ 9223372036854775807) (w : World) (htab : Lib.TabIs Tryd.prog w "internal/strconv.uint64pow10" .u64 Lib.pow10Tab) :
  Calls Tryd.prog 39 #[.int .i64 n] w fun e w' => e = .returned (.string ⟨(Lib.itoa n).toArray⟩) ∧ ∃ k os, w' = grow (w.drewN k) os := Any.internal_strconv_Itoa Tryd.laysM243 n h0 h1 w htab
def Tryd.lays243_ren : Go.Shelf.Ren := ⟨fun | 243 => 39 | 246 => 53 | 283 => 59 | 284 => 60 | 285 => 61 | 286 => 62 | 129 => 66 | 317 => 65 | 318 => 67 | 319 => 68 | 320 => 69 | 337 => 70 | 338 => 71 | n => n, fun | 3 => 3 | 9 => 9 | 2 => 2 | 4 => 4 | 171 => 82 | 0 => 0 | 53 => 78 | 37 => 64 | 5 => 5 | 173 => 85 | 212 => 91 | 51 => 75 | 20 => 20 | 213 => 92 | 46 => 59 | 232 => 95 | 233 => 96 | n => n, fun | 17 => 0 | 18 => 2 | 19 => 3 | n => n⟩
theorem Tryd.lays243 : Go.Proofs.Lays.n243 Tryd.prog Tryd.lays243_ren := {
 mixed := by kernel_rfl
 f129 := Tryd.func66.trans (congrArg some (by kernel_rfl))
 f243 := Tryd.func39.trans (congrArg some (by kernel_rfl))
 f246 := Tryd.func53.trans (congrArg some (by kernel_rfl))
 f283 := Tryd.func59.trans (congrArg some (by kernel_rfl))
 f284 := Tryd.func60.trans (congrArg some (by kernel_rfl))
 f285 := Tryd.func61.trans (congrArg some (by kernel_rfl))
 f286 := Tryd.func62.trans (congrArg some (by kernel_rfl))
 f317 := Tryd.func65.trans (congrArg some (by kernel_rfl))
 f318 := Tryd.func67.trans (congrArg some (by kernel_rfl))
 f319 := Tryd.func68.trans (congrArg some (by kernel_rfl))
 f320 := Tryd.func69.trans (congrArg some (by kernel_rfl))
 f337 := Tryd.func70.trans (congrArg some (by kernel_rfl))
 f338 := Tryd.func71.trans (congrArg some (by kernel_rfl))
 t0 := Tryd.underlying0
 a0 := Tryd.isAgg0
 z0 := Tryd.sizeOf0
 v0 := Tryd.zeroValue0
 t2 := Tryd.underlying2
 a2 := Tryd.isAgg2
 z2 := Tryd.sizeOf2
 v2 := Tryd.zeroValue2
 t3 := Tryd.underlying3
 a3 := Tryd.isAgg3
 z3 := Tryd.sizeOf3
 v3 := Tryd.zeroValue3
 t4 := Tryd.underlying4
 a4 := Tryd.isAgg4
 z4 := Tryd.sizeOf4
 v4 := Tryd.zeroValue4
 t5 := Tryd.underlying5
 a5 := Tryd.isAgg5
 z5 := Tryd.sizeOf5
 v5 := Tryd.zeroValue5
 t9 := Tryd.underlying9
 a9 := Tryd.isAgg9
 z9 := Tryd.sizeOf9
 v9 := Tryd.zeroValue9
 t20 := Tryd.underlying20
 a20 := Tryd.isAgg20
 z20 := Tryd.sizeOf20
 v20 := Tryd.zeroValue20
 t37 := Tryd.underlying64
 a37 := Tryd.isAgg64
 z37 := Tryd.sizeOf64
 v37 := Tryd.zeroValue64
 t46 := Tryd.underlying59
 a46 := Tryd.isAgg59
 z46 := Tryd.sizeOf59
 v46 := Tryd.zeroValue59
 t51 := Tryd.underlying75
 a51 := Tryd.isAgg75
 z51 := Tryd.sizeOf75
 v51 := Tryd.zeroValue75
 t53 := Tryd.underlying78
 a53 := Tryd.isAgg78
 z53 := Tryd.sizeOf78
 v53 := Tryd.zeroValue78
 t171 := Tryd.underlying82
 a171 := Tryd.isAgg82
 z171 := Tryd.sizeOf82
 v171 := Tryd.zeroValue82
 t173 := Tryd.underlying85
 a173 := Tryd.isAgg85
 z173 := Tryd.sizeOf85
 v173 := Tryd.zeroValue85
 t212 := Tryd.underlying91
 a212 := Tryd.isAgg91
 z212 := Tryd.sizeOf91
 v212 := Tryd.zeroValue91
 t213 := Tryd.underlying92
 a213 := Tryd.isAgg92
 z213 := Tryd.sizeOf92
 t232 := Tryd.underlying95
 a232 := Tryd.isAgg95
 z232 := Tryd.sizeOf95
 v232 := Tryd.zeroValue95
 t233 := Tryd.underlying96
 a233 := Tryd.isAgg96
 z233 := Tryd.sizeOf96
 v233 := Tryd.zeroValue96
 g17 := by kernel_rfl
 g18 := by kernel_rfl
 g19 := by kernel_rfl }
open Go.RowKit Go.Sort Go.Lib in
theorem Tryd.internal_strconv_Itoa_small (i : Nat) (hi : i < 100) (w : World) :
  Calls Tryd.prog 39 #[.int .i64 i] w fun e w' => e = .returned (.string ⟨(Lib.decDigits i).toArray⟩) ∧ w' = w := Any.internal_strconv_Itoa_small Tryd.lays243 i hi w
def Tryd.laysM171_ren : Go.Shelf.Ren := ⟨fun | 171 => 33 | 243 => 39 | 246 => 53 | 283 => 59 | 284 => 60 | 285 => 61 | 286 => 62 | 129 => 66 | 317 => 65 | 318 => 67 | 319 => 68 | 320 => 69 | 337 => 70 | 338 => 71 | n => n, fun | 3 => 3 | 9 => 9 | 2 => 2 | 4 => 4 | 171 => 82 | 0 => 0 | 53 => 78 | 37 => 64 | 5 => 5 | 173 => 85 | 212 => 91 | 51 => 75 | 20 => 20 | 213 => 92 | 46 => 59 | 232 => 95 | 233 => 96 | n => n, fun | 17 => 0 | 18 => 2 | 19 => 3 | n => n⟩
theorem Tryd.laysM171 : Go.Proofs.LaysM.n171 Tryd.prog Tryd.laysM171_ren := {
 mixed := by kernel_rfl
 f129 := Tryd.func66.trans (congrArg some (by kernel_rfl))
 f171 := Tryd.func33.trans (congrArg some (by kernel_rfl))
 f243 := Tryd.func39.trans (congrArg some (by kernel_rfl))
 f246 := Tryd.func53.trans (congrArg some (by kernel_rfl))
 f283 := Tryd.func59.trans (congrArg some (by kernel_rfl))
 f284 := Tryd.func60.trans (congrArg some (by kernel_rfl))
 f285 := Tryd.func61.trans (congrArg some (by kernel_rfl))
 f286 := Tryd.func62.trans (congrArg some (by kernel_rfl))
 f317 := Tryd.func65.trans (congrArg some (by kernel_rfl))
 f318 := Tryd.func67.trans (congrArg some (by kernel_rfl))
 f319 := Tryd.func68.trans (congrArg some (by kernel_rfl))
 f320 := Tryd.func69.trans (congrArg some (by kernel_rfl))
 f337 := Tryd.func70.trans (congrArg some (by kernel_rfl))
 f338 := Tryd.func71.trans (congrArg some (by kernel_rfl))
 t0 := Tryd.underlying0
 a0 := Tryd.isAgg0
 z0 := Tryd.sizeOf0
 v0 := Tryd.zeroValue0
 t2 := Tryd.underlying2
 a2 := Tryd.isAgg2
 z2 := Tryd.sizeOf2
 v2 := Tryd.zeroValue2
 t3 := Tryd.underlying3
 a3 := Tryd.isAgg3
 z3 := Tryd.sizeOf3
 v3 := Tryd.zeroValue3
 t4 := Tryd.underlying4
 a4 := Tryd.isAgg4
 z4 := Tryd.sizeOf4
 v4 := Tryd.zeroValue4
 t5 := Tryd.underlying5
 a5 := Tryd.isAgg5
 z5 := Tryd.sizeOf5
 v5 := Tryd.zeroValue5
 t9 := Tryd.underlying9
 a9 := Tryd.isAgg9
 z9 := Tryd.sizeOf9
 v9 := Tryd.zeroValue9
 t20 := Tryd.underlying20
 a20 := Tryd.isAgg20
 z20 := Tryd.sizeOf20
 v20 := Tryd.zeroValue20
 t37 := Tryd.underlying64
 a37 := Tryd.isAgg64
 z37 := Tryd.sizeOf64
 v37 := Tryd.zeroValue64
 t46 := Tryd.underlying59
 a46 := Tryd.isAgg59
 z46 := Tryd.sizeOf59
 v46 := Tryd.zeroValue59
 t51 := Tryd.underlying75
 a51 := Tryd.isAgg75
 z51 := Tryd.sizeOf75
 v51 := Tryd.zeroValue75
 t53 := Tryd.underlying78
 a53 := Tryd.isAgg78
 z53 := Tryd.sizeOf78
 v53 := Tryd.zeroValue78
 t171 := Tryd.underlying82
 a171 := Tryd.isAgg82
 z171 := Tryd.sizeOf82
 v171 := Tryd.zeroValue82
 t173 := Tryd.underlying85
 a173 := Tryd.isAgg85
 z173 := Tryd.sizeOf85
 v173 := Tryd.zeroValue85
 t212 := Tryd.underlying91
 a212 := Tryd.isAgg91
 z212 := Tryd.sizeOf91
 v212 := Tryd.zeroValue91
 t213 := Tryd.underlying92
 a213 := Tryd.isAgg92
 z213 := Tryd.sizeOf92
 t232 := Tryd.underlying95
 a232 := Tryd.isAgg95
 z232 := Tryd.sizeOf95
 v232 := Tryd.zeroValue95
 t233 := Tryd.underlying96
 a233 := Tryd.isAgg96
 z233 := Tryd.sizeOf96
 v233 := Tryd.zeroValue96
 g17 := by kernel_rfl
 g18 := by kernel_rfl
 g19 := by kernel_rfl
 i0 := by kernel_rfl
 i2 := by kernel_rfl
 i3 := by kernel_rfl
 i4 := by kernel_rfl
 i5 := by kernel_rfl
 i9 := by kernel_rfl
 i20 := by kernel_rfl
 i37 := by kernel_rfl
 i46 := by kernel_rfl
 i51 := by kernel_rfl
 i53 := by kernel_rfl
 i171 := by kernel_rfl
 i173 := by kernel_rfl
 i212 := by kernel_rfl
 i232 := by kernel_rfl
 i233 := by kernel_rfl
 m17 := by kernel_rfl
 m18 := by kernel_rfl
 m19 := by kernel_rfl }
open Go.RowKit Go.Sort Go.Lib in
theorem Tryd.strconv_Itoa (n : Int) (h0 : -9223372036854775808 ≤ n) (h1 : n ≤ 9223372036854775807) (w : World) (htab : Lib.TabIs Tryd.prog w "internal/strconv.uint64pow10" .u64 Lib.pow10Tab) :
  Calls Tryd.prog 33 #[.int .i64 n] w fun e w' => e = .returned (.string ⟨(Lib.itoa n).toArray⟩) ∧ ∃ k os, w' = grow (w.drewN k) os := Any.strconv_Itoa Tryd.laysM171 n h0 h1 w htab
def Tryd.lays171_ren : Go.Shelf.Ren := ⟨fun | 171 => 33 | 243 => 39 | 246 => 53 | 283 => 59 | 284 => 60 | 285 => 61 | 286 => 62 | 129 => 66 | 317 => 65 | 318 => 67 | 319 => 68 | 320 => 69 | 337 => 70 | 338 => 71 | n => n, fun | 3 => 3 | 9 => 9 | 2 => 2 | 4 => 4 | 171 => 82 | 0 => 0 | 53 => 78 | 37 => 64 | 5 => 5 | 173 => 85 | 212 => 91 | 51 => 75 | 20 => 20 | 213 => 92 | 46 => 59 | 232 => 95 | 233 => 96 | n => n, fun | 17 => 0 | 18 => 2 | 19 => 3 | n => n⟩
theorem Tryd.lays171 : Go.Proofs.Lays.n171 Tryd.prog Tryd.lays171_ren := {
 mixed := by kernel_rfl
 f129 := Tryd.func66.trans (congrArg some (by kernel_rfl))
 f171 := Tryd.func33.trans (congrArg some (by kernel_rfl))
 f243 := Tryd.func39.trans (congrArg some (by kernel_rfl))
 f246 := Tryd.func53.trans (congrArg some (by kernel_rfl))
 f283 := Tryd.func59.trans (congrArg some (by kernel_rfl))
 f284 := Tryd.func60.trans (congrArg some (by kernel_rfl))
 f285 := Tryd.func61.trans (congrArg some (by kernel_rfl))
 f286 := Tryd.func62.trans (congrArg some (by kernel_rfl))
 f317 := Tryd.func65.trans (congrArg some (by kernel_rfl))
 f318 := Tryd.func67.trans (congrArg some (by kernel_rfl))
 f319 := Tryd.func68.trans (congrArg some (by kernel_rfl))
 f320 := Tryd.func69.trans (congrArg some (by kernel_rfl))
 f337 := Tryd.func70.trans (congrArg some (by kernel_rfl))
 f338 := Tryd.func71.trans (congrArg some (by kernel_rfl))
 t0 := Tryd.underlying0
 a0 := Tryd.isAgg0
 z0 := Tryd.sizeOf0
 v0 := Tryd.zeroValue0
 t2 := Tryd.underlying2
 a2 := Tryd.isAgg2
 z2 := Tryd.sizeOf2
 v2 := Tryd.zeroValue2
 t3 := Tryd.underlying3
 a3 := Tryd.isAgg3
 z3 := Tryd.sizeOf3
 v3 := Tryd.zeroValue3
 t4 := Tryd.underlying4
 a4 := Tryd.isAgg4
 z4 := Tryd.sizeOf4
 v4 := Tryd.zeroValue4
 t5 := Tryd.underlying5
 a5 := Tryd.isAgg5
 z5 := Tryd.sizeOf5
 v5 := Tryd.zeroValue5
 t9 := Tryd.underlying9
 a9 := Tryd.isAgg9
 z9 := Tryd.sizeOf9
 v9 := Tryd.zeroValue9
 t20 := Tryd.underlying20
 a20 := Tryd.isAgg20
 z20 := Tryd.sizeOf20
 v20 := Tryd.zeroValue20
 t37 := Tryd.underlying64
 a37 := Tryd.isAgg64
 z37 := Tryd.sizeOf64
 v37 := Tryd.zeroValue64
 t46 := Tryd.underlying59
 a46 := Tryd.isAgg59
 z46 := Tryd.sizeOf59
 v46 := Tryd.zeroValue59
 t51 := Tryd.underlying75
 a51 := Tryd.isAgg75
 z51 := Tryd.sizeOf75
 v51 := Tryd.zeroValue75
 t53 := Tryd.underlying78
 a53 := Tryd.isAgg78
 z53 := Tryd.sizeOf78
 v53 := Tryd.zeroValue78
 t171 := Tryd.underlying82
 a171 := Tryd.isAgg82
 z171 := Tryd.sizeOf82
 v171 := Tryd.zeroValue82
 t173 := Tryd.underlying85
 a173 := Tryd.isAgg85
 z173 := Tryd.sizeOf85
 v173 := Tryd.zeroValue85
 t212 := Tryd.underlying91
 a212 := Tryd.isAgg91
 z212 := Tryd.sizeOf91
 v212 := Tryd.zeroValue91
 t213 := Tryd.underlying92
 a213 := Tryd.isAgg92
 z213 := Tryd.sizeOf92
 t232 := Tryd.underlying95
 a232 := Tryd.isAgg95
 z232 := Tryd.sizeOf95
 v232 := Tryd.zeroValue95
 t233 := Tryd.underlying96
 a233 := Tryd.isAgg96
 z233 := Tryd.sizeOf96
 v233 := Tryd.zeroValue96
 g17 := by kernel_rfl
 g18 := by kernel_rfl
 g19 := by kernel_rfl }
open Go.RowKit Go.Sort Go.Lib in
theorem Tryd.strconv_Itoa_small (i : Nat) (hi : i < 100) (w : World) :
  Calls Tryd.prog 33 #[.int .i64 i] w fun e w' => e = .returned (.string ⟨(Lib.decDigits i).toArray⟩) ∧ w' = w := Any.strconv_Itoa_small Tryd.lays171 i hi w
def Tryd.lays206_ren : Go.Shelf.Ren := ⟨fun | 206 => 52 | n => n, fun | 9 => 9 | 4 => 4 | 3 => 3 | n => n, fun | n => n⟩
theorem Tryd.lays206 : Go.Proofs.Lays.n206 Tryd.prog Tryd.lays206_ren := {
 mixed := by kernel_rfl
 f206 := Tryd.func52.trans (congrArg some (by kernel_rfl))
 t3 := Tryd.underlying3
 a3 := Tryd.isAgg3
 z3 := Tryd.sizeOf3
 v3 := Tryd.zeroValue3
 t4 := Tryd.underlying4
 a4 := Tryd.isAgg4
 z4 := Tryd.sizeOf4
 v4 := Tryd.zeroValue4
 t9 := Tryd.underlying9
 a9 := Tryd.isAgg9
 z9 := Tryd.sizeOf9
 v9 := Tryd.zeroValue9 }
open Go.RowKit Go.Lib in
theorem Tryd.stringslite_HasPrefix (s p : ByteArray) (w : World) :
  Calls Tryd.prog 52 #[.string s, .string p] w fun e w' => e = .returned (.bool (Lib.hasPrefix s.data.toList p.data.toList)) ∧ w' = w := Any.stringslite_HasPrefix Tryd.lays206 s p w
def Tryd.lays99_ren : Go.Shelf.Ren := ⟨fun | 99 => 41 | 206 => 52 | n => n, fun | 9 => 9 | 4 => 4 | 3 => 3 | n => n, fun | n => n⟩
theorem Tryd.lays99 : Go.Proofs.Lays.n99 Tryd.prog Tryd.lays99_ren := {
 mixed := by kernel_rfl
 f99 := Tryd.func41.trans (congrArg some (by kernel_rfl))
 f206 := Tryd.func52.trans (congrArg some (by kernel_rfl))
 t3 := Tryd.underlying3
 a3 := Tryd.isAgg3
 z3 := Tryd.sizeOf3
 v3 := Tryd.zeroValue3
 t4 := Tryd.underlying4
 a4 := Tryd.isAgg4
 z4 := Tryd.sizeOf4
 v4 := Tryd.zeroValue4
 t9 := Tryd.underlying9
 a9 := Tryd.isAgg9
 z9 := Tryd.sizeOf9
 v9 := Tryd.zeroValue9 }
open Go.RowKit Go.Lib in
theorem Tryd.strings_HasPrefix (s p : ByteArray) (w : World) :
  Calls Tryd.prog 41 #[.string s, .string p] w fun e w' => e = .returned (.bool (Lib.hasPrefix s.data.toList p.data.toList)) ∧ w' = w := Any.strings_HasPrefix Tryd.lays99 s p w
def Tryd.lays264_ren : Go.Shelf.Ren := ⟨fun | 264 => 55 | n => n, fun | 53 => 78 | 46 => 59 | n => n, fun | n => n⟩
theorem Tryd.lays264 : Go.Proofs.Lays.n264 Tryd.prog Tryd.lays264_ren := {
 mixed := by kernel_rfl
 f264 := Tryd.func55.trans (congrArg some (by kernel_rfl))
 t46 := Tryd.underlying59
 a46 := Tryd.isAgg59
 z46 := Tryd.sizeOf59
 v46 := Tryd.zeroValue59
 t53 := Tryd.underlying78
 a53 := Tryd.isAgg78
 z53 := Tryd.sizeOf78
 v53 := Tryd.zeroValue78 }
open Go.RowKit Go.Lib in
theorem Tryd.bits_Mul64 (x y : Nat) (hx : x < 18446744073709551616) (hy : y < 18446744073709551616) (w : World) :
  Calls Tryd.prog 55 #[.int .u64 x, .int .u64 y] w fun e w' => e = .returned (.tuple #[.int .u64 ((x * y / 18446744073709551616 : Nat) : Int), .int .u64 ((x * y % 18446744073709551616 : Nat) : Int)]) ∧ w' = w := Any.bits_Mul64 Tryd.lays264 x y hx hy w
def Tryd.lays212_ren : Go.Shelf.Ren := ⟨fun | 212 => 40 | 263 => 54 | 264 => 55 | n => n, fun | 46 => 59 | 51 => 75 | 146 => 76 | 53 => 78 | 148 => 79 | n => n, fun | n => n⟩
theorem Tryd.lays212 : Go.Proofs.Lays.n212 Tryd.prog Tryd.lays212_ren := {
 mixed := by kernel_rfl
 f212 := Tryd.func40.trans (congrArg some (by kernel_rfl))
 f263 := Tryd.func54.trans (congrArg some (by kernel_rfl))
 f264 := Tryd.func55.trans (congrArg some (by kernel_rfl))
 t46 := Tryd.underlying59
 a46 := Tryd.isAgg59
 z46 := Tryd.sizeOf59
 v46 := Tryd.zeroValue59
 t51 := Tryd.underlying75
 a51 := Tryd.isAgg75
 z51 := Tryd.sizeOf75
 v51 := Tryd.zeroValue75
 t53 := Tryd.underlying78
 a53 := Tryd.isAgg78
 z53 := Tryd.sizeOf78
 v53 := Tryd.zeroValue78
 t146 := Tryd.underlying76
 a146 := Tryd.isAgg76
 z146 := Tryd.sizeOf76
 v146 := Tryd.zeroValue76
 t148 := Tryd.underlying79
 a148 := Tryd.isAgg79
 z148 := Tryd.sizeOf79
 v148 := Tryd.zeroValue79 }
open Go.RowKit Go.Lib in
theorem Tryd.bits_Mul (x y : Nat) (hx : x < 18446744073709551616) (hy : y < 18446744073709551616) (w : World) :
  Calls Tryd.prog 40 #[.int .u64 x, .int .u64 y] w fun e w' => e = .returned (.tuple #[.int .u64 ((x * y / 18446744073709551616 : Nat) : Int), .int .u64 ((x * y % 18446744073709551616 : Nat) : Int)]) ∧ w' = w := Any.bits_Mul Tryd.lays212 x y hx hy w
def Tryd.lays105_ren : Go.Shelf.Ren := ⟨fun | 105 => 34 | 212 => 40 | 99 => 41 | 165 => 42 | 166 => 43 | 170 => 44 | 169 => 45 | 263 => 54 | 264 => 55 | 206 => 52 | 240 => 56 | 241 => 57 | 276 => 63 | 277 => 64 | n => n, fun | 9 => 9 | 3 => 3 | 4 => 4 | 20 => 20 | 0 => 0 | 46 => 59 | 109 => 60 | 5 => 5 | 72 => 66 | 76 => 70 | 51 => 75 | 146 => 76 | 53 => 78 | 148 => 79 | 70 => 63 | 37 => 64 | 75 => 69 | 127 => 81 | 164 => 87 | 80 => 73 | n => n, fun | n => n⟩
theorem Tryd.lays105 : Go.Proofs.Lays.n105 Tryd.prog Tryd.lays105_ren := {
 mixed := by kernel_rfl
 f99 := Tryd.func41.trans (congrArg some (by kernel_rfl))
 f105 := Tryd.func34.trans (congrArg some (by kernel_rfl))
 f165 := Tryd.func42.trans (congrArg some (by kernel_rfl))
 f166 := Tryd.func43.trans (congrArg some (by kernel_rfl))
 f169 := Tryd.func45.trans (congrArg some (by kernel_rfl))
 f170 := Tryd.func44.trans (congrArg some (by kernel_rfl))
 f206 := Tryd.func52.trans (congrArg some (by kernel_rfl))
 f212 := Tryd.func40.trans (congrArg some (by kernel_rfl))
 f240 := Tryd.func56.trans (congrArg some (by kernel_rfl))
 f241 := Tryd.func57.trans (congrArg some (by kernel_rfl))
 f263 := Tryd.func54.trans (congrArg some (by kernel_rfl))
 f264 := Tryd.func55.trans (congrArg some (by kernel_rfl))
 f276 := Tryd.func63.trans (congrArg some (by kernel_rfl))
 f277 := Tryd.func64.trans (congrArg some (by kernel_rfl))
 t0 := Tryd.underlying0
 a0 := Tryd.isAgg0
 z0 := Tryd.sizeOf0
 v0 := Tryd.zeroValue0
 t3 := Tryd.underlying3
 a3 := Tryd.isAgg3
 z3 := Tryd.sizeOf3
 v3 := Tryd.zeroValue3
 t4 := Tryd.underlying4
 a4 := Tryd.isAgg4
 z4 := Tryd.sizeOf4
 v4 := Tryd.zeroValue4
 t5 := Tryd.underlying5
 a5 := Tryd.isAgg5
 z5 := Tryd.sizeOf5
 v5 := Tryd.zeroValue5
 t9 := Tryd.underlying9
 a9 := Tryd.isAgg9
 z9 := Tryd.sizeOf9
 v9 := Tryd.zeroValue9
 t20 := Tryd.underlying20
 a20 := Tryd.isAgg20
 z20 := Tryd.sizeOf20
 v20 := Tryd.zeroValue20
 t37 := Tryd.underlying64
 a37 := Tryd.isAgg64
 z37 := Tryd.sizeOf64
 v37 := Tryd.zeroValue64
 t46 := Tryd.underlying59
 a46 := Tryd.isAgg59
 z46 := Tryd.sizeOf59
 v46 := Tryd.zeroValue59
 t51 := Tryd.underlying75
 a51 := Tryd.isAgg75
 z51 := Tryd.sizeOf75
 v51 := Tryd.zeroValue75
 t53 := Tryd.underlying78
 a53 := Tryd.isAgg78
 z53 := Tryd.sizeOf78
 v53 := Tryd.zeroValue78
 t70 := Tryd.underlying63
 a70 := Tryd.isAgg63
 z70 := Tryd.sizeOf63
 v70 := Tryd.zeroValue63
 t72 := Tryd.underlying66
 a72 := Tryd.isAgg66
 z72 := Tryd.sizeOf66
 v72 := Tryd.zeroValue66
 t75 := Tryd.underlying69
 a75 := Tryd.isAgg69
 z75 := Tryd.sizeOf69
 v75 := Tryd.zeroValue69
 t76 := Tryd.underlying70
 a76 := Tryd.isAgg70
 z76 := Tryd.sizeOf70
 v76 := Tryd.zeroValue70
 t109 := Tryd.underlying60
 a109 := Tryd.isAgg60
 z109 := Tryd.sizeOf60
 v109 := Tryd.zeroValue60
 t127 := Tryd.underlying81
 a127 := Tryd.isAgg81
 z127 := Tryd.sizeOf81
 v127 := Tryd.zeroValue81
 t146 := Tryd.underlying76
 a146 := Tryd.isAgg76
 z146 := Tryd.sizeOf76
 v146 := Tryd.zeroValue76
 t148 := Tryd.underlying79
 a148 := Tryd.isAgg79
 z148 := Tryd.sizeOf79
 v148 := Tryd.zeroValue79
 t164 := Tryd.underlying87
 a164 := Tryd.isAgg87
 z164 := Tryd.sizeOf87
 v164 := Tryd.zeroValue87 }
theorem Tryd.Builder_Extra_105 : Builder.Extra Tryd.prog Tryd.lays105_ren := {
 sizeBuilder := by kernel_rfl
 liesBuilder := by kernel_rfl
 t5 := Tryd.underlying5
 a5 := Tryd.isAgg5
 z5 := Tryd.sizeOf5
 v5 := Tryd.zeroValue5
 infoByte := by kernel_rfl
 cellsByte := by kernel_rfl
 sizeByte := by kernel_rfl
 neB5 := by decide }
open Go.RowKit Go.Lib in
theorem Tryd.strings_Repeat_main (s : ByteArray) (c : Nat) (w : World) (hc2 : 2 ≤ c) (hc : c ≤ 9223372036854775807) (hlen : s.size * c ≤ 140737488355328) (h0 : 0 < s.size) :
  Calls Tryd.prog 34 #[.string s, .int .i64 c] w fun e w' => e = .returned (.string ⟨(Lib.repeatL s.data.toList c).toArray⟩) ∧ Below w.heap.size w w' := Any.strings_Repeat_main Tryd.lays105 Tryd.Builder_Extra_105 s c w hc2 hc hlen h0
open Go.RowKit Go.Lib in
theorem Tryd.strings_Repeat_zero (s : ByteArray) (w : World) :
  Calls Tryd.prog 34 #[.string s, .int .i64 0] w fun e w' => e = .returned (.string ⟨#[]⟩) ∧ w' = w := Any.strings_Repeat_zero Tryd.lays105 s w
open Go.RowKit Go.Lib in
theorem Tryd.strings_Repeat_one (s : ByteArray) (w : World) :
  Calls Tryd.prog 34 #[.string s, .int .i64 1] w fun e w' => e = .returned (.string s) ∧ w' = w := Any.strings_Repeat_one Tryd.lays105 s w
open Go.RowKit Go.Lib in
theorem Tryd.strings_Repeat_empty (s : ByteArray) (c : Nat) (w : World) (hc2 : 2 ≤ c) (hc : c ≤ 9223372036854775807) (h0 : s.size = 0) :
  Calls Tryd.prog 34 #[.string s, .int .i64 c] w fun e w' => e = .returned (.string ⟨#[]⟩) ∧ w' = w := Any.strings_Repeat_empty Tryd.lays105 s c w hc2 hc h0
open Go.RowKit Go.Lib in
theorem Tryd.strings_Repeat_negative (s : ByteArray) (c : Int) (w : World) (hc : c < 0) :
  Calls Tryd.prog 34 #[.string s, .int .i64 c] w fun e w' => e = .panicked [{ v := repeatPanic Tryd.lays105_ren "strings: negative Repeat count", recovered := false }] ∧ w' = w := Any.strings_Repeat_negative Tryd.lays105 s c w hc
open Go.RowKit Go.Lib in
theorem Tryd.strings_Repeat_overflow (s : ByteArray) (c : Nat) (w : World) (hc : c ≤ 9223372036854775807) (hs : s.size ≤ 9223372036854775807) (hbig : 9223372036854775807 < s.size * c) :
  Calls Tryd.prog 34 #[.string s, .int .i64 c] w fun e w' => e = .panicked [{ v := repeatPanic Tryd.lays105_ren "strings: Repeat output length overflow", recovered := false }] ∧ w' = w := Any.strings_Repeat_overflow Tryd.lays105 s c w hc hs hbig
open Go.RowKit Go.Lib in
theorem Tryd.strings_Repeat (s : ByteArray) (c : Nat) (w : World) (hc : c ≤ 9223372036854775807) (hlen : s.size * c ≤ 140737488355328) :
  Calls Tryd.prog 34 #[.string s, .int .i64 c] w fun e w' => e = .returned (.string ⟨(Lib.repeatL s.data.toList c).toArray⟩) ∧ Below w.heap.size w w' := Any.strings_Repeat Tryd.lays105 Tryd.Builder_Extra_105 s c w hc hlen
def Tryd.laysNm237_ren : Go.Shelf.Ren := ⟨fun | 37 => 37 | n => n, fun | 3 => 3 | 4 => 4 | n => n, fun | n => n⟩
theorem Tryd.laysNm237 : Go.Proofs.Lays2.n37 Tryd.prog Tryd.laysNm237_ren := {
 mixed := by kernel_rfl
 f37 := Tryd.func37.trans (congrArg some (by kernel_rfl))
 t3 := Tryd.underlying3
 a3 := Tryd.isAgg3
 z3 := Tryd.sizeOf3
 v3 := Tryd.zeroValue3
 t4 := Tryd.underlying4
 a4 := Tryd.isAgg4
 z4 := Tryd.sizeOf4
 v4 := Tryd.zeroValue4 }
open Go.RowKit Go.Lib in
theorem Tryd.cmp_isNaN_int2 (x : Int) (w : World) :
  Calls Tryd.prog 37 #[.int .i64 x] w fun e w' => e = .returned (.bool false) ∧ w' = w := Any.cmp_isNaN_int2 Tryd.laysNm237 x w
end Go.Proofs
namespace Go.Proofs.YtgihmikeapbpkabDoor
open Go.RowKit
open AS (Keep NoInt)
abbrev DTab (B : Nat) (w : World) : Prop := Lib.TabBelow Tryd.prog B w "internal/strconv.uint64pow10" .u64 Lib.pow10Tab
theorem DTab.up {w w' : World} (h : DTab w.heap.size w) (hb : Below w.heap.size w w') : DTab w'.heap.size w' := fun w2 h2 => h w2 (hb.trans (h2.mono hb.size))
theorem itoa_any (n : Int) (h0 : -9223372036854775808 ≤ n) (h1 : n ≤ 9223372036854775807) (w : World) (ht : DTab w.heap.size w) :
  Calls Tryd.prog 33 #[.int .i64 n] w fun e w' => e = .returned (.string ⟨(Lib.itoa n).toArray⟩) ∧ Below w.heap.size w w' := by
 refine (Tryd.strconv_Itoa n h0 h1 w ht.here).mono ?_
 rintro e w' ⟨he, k, os, rfl⟩
 exact ⟨he, Lib.below_grow _ _ (Nat.le_refl _) _ _⟩
theorem bytes_eq {a b : ByteArray} (h : a.data.toList = b.data.toList) : a = b := by
 cases a; cases b; congr; exact Array.toList_inj.1 h
theorem dret_str {a b : ByteArray} (h : a = b) : Ending.returned (.string a) = .returned (.string b) := by rw [h]
theorem rep48 (c : Nat) (w : World) (hc : c ≤ 20) : Calls Tryd.prog 34 #[.string ⟨#[48]⟩, .int .i64 c] w fun e w' => e = .returned (.string ⟨(Lib.repeatL [48] c).toArray⟩) ∧ Below w.heap.size w w' :=
 Tryd.strings_Repeat ⟨#[48]⟩ c w (by omega) (by rw [show (⟨#[48]⟩ : ByteArray).size = 1 from rfl]; omega)
def padD (D : List UInt8) (s : Nat) : List UInt8 := List.replicate (s + 1 - D.length) 48 ++ D
theorem padD_len (D : List UInt8) (s : Nat) : s < (padD D s).length := by unfold padD; simp; omega
theorem padD_le {D : List UInt8} {s n : Nat} (h : D.length ≤ n) (h2 : s < n) : (padD D s).length ≤ n := by unfold padD; simp; omega
def bareT (P : List UInt8) (s : Nat) : List UInt8 := if s = 0 then P else P.take (P.length - s) ++ 46 :: P.drop (P.length - s)
def signT (neg : Bool) (T : List UInt8) : List UInt8 := if neg then 45 :: T else T
set_option maxHeartbeats 800000 in
theorem dtext_000 (n : Int) (I D : List UInt8) (s : Nat) (w : World) (ht : DTab w.heap.size w) (hv : validB n s = true) (hd : Lib.itoa n = I) (h1 : Lib.trimPrefix I [45] = D) (h2 : Lib.hasPrefix I [45] = false) (hl : D.length ≤ 20) (hm : s < D.length) (hs : 0 < s) :
  Calls Tryd.prog 18 #[.int .i64 n, .int .i64 s] w fun e w' => e = .returned (.string ⟨(signT false (bareT (padD D s) s)).toArray⟩) ∧ Below w.heap.size w w' := by
 have hn := validB_is hv
 have hpl := padD_len D s
 have hple := padD_le (D := D) (s := s) (n := 20) hl (by omega)
 have hp0 : padD D s = D := by unfold padD; rw [show s + 1 - D.length = 0 by omega]; rfl
 rw [hp0] at *
 have hlt : decide ((D.length : Int) < (s : Int) + 1) = false := decide_eq_false (by omega)
 clear hp0
 obtain ⟨R, hR⟩ : ∃ R, signT false (bareT D s) = R := ⟨_, rfl⟩
 rw [hR]
 have HR := Lib.hid hR
 clear hR
 have hB := Below.refl w.heap.size w
 have HS := Lib.hid hs
 go_enter Tryd.func18, Tryd.ntmps18
 go_wp2_with (first | (go_at_call 23; refine (valid_any _ _ _).mono ?_; rintro e w' ⟨rfl, rfl⟩) | (go_at_call 33; refine (itoa_any _ (by omega) (by omega) _ ht).mono ?_; rintro e w' ⟨rfl, hb⟩; replace hB := below_more hB hb; clear hb) | (go_at_call 32; refine (Tryd.strings_CutPrefix _ _ _).mono ?_; rintro e w' ⟨rfl, hw⟩; subst hw) | (go_at_call 34; refine (rep48 c _ hc9).mono ?_; rintro e w' ⟨rfl, hb⟩; replace hB := below_more hB hb; clear hb))
 go_ret
 exact ⟨dret_str (bytes_eq (by rw [← HR.out]; simp [signT, bareT, ByteArray.data_append, Nat.pos_iff_ne_zero.1 HS.out, Lib.extract_data] <;> exact List.take_of_length_le (by simp))), hB⟩
set_option maxHeartbeats 800000 in
theorem dtext_100 (n : Int) (I D : List UInt8) (s : Nat) (w : World) (ht : DTab w.heap.size w) (hv : validB n s = true) (hd : Lib.itoa n = I) (h1 : Lib.trimPrefix I [45] = D) (h2 : Lib.hasPrefix I [45] = true) (hl : D.length ≤ 20) (hm : s < D.length) (hs : 0 < s) :
  Calls Tryd.prog 18 #[.int .i64 n, .int .i64 s] w fun e w' => e = .returned (.string ⟨(signT true (bareT (padD D s) s)).toArray⟩) ∧ Below w.heap.size w w' := by
 have hn := validB_is hv
 have hpl := padD_len D s
 have hple := padD_le (D := D) (s := s) (n := 20) hl (by omega)
 have hp0 : padD D s = D := by unfold padD; rw [show s + 1 - D.length = 0 by omega]; rfl
 rw [hp0] at *
 have hlt : decide ((D.length : Int) < (s : Int) + 1) = false := decide_eq_false (by omega)
 clear hp0
 obtain ⟨R, hR⟩ : ∃ R, signT true (bareT D s) = R := ⟨_, rfl⟩
 rw [hR]
 have HR := Lib.hid hR
 clear hR
 have hB := Below.refl w.heap.size w
 have HS := Lib.hid hs
 go_enter Tryd.func18, Tryd.ntmps18
 go_wp2_with (first | (go_at_call 23; refine (valid_any _ _ _).mono ?_; rintro e w' ⟨rfl, rfl⟩) | (go_at_call 33; refine (itoa_any _ (by omega) (by omega) _ ht).mono ?_; rintro e w' ⟨rfl, hb⟩; replace hB := below_more hB hb; clear hb) | (go_at_call 32; refine (Tryd.strings_CutPrefix _ _ _).mono ?_; rintro e w' ⟨rfl, hw⟩; subst hw) | (go_at_call 34; refine (rep48 c _ hc9).mono ?_; rintro e w' ⟨rfl, hb⟩; replace hB := below_more hB hb; clear hb))
 go_ret
 exact ⟨dret_str (bytes_eq (by rw [← HR.out]; simp [signT, bareT, ByteArray.data_append, Nat.pos_iff_ne_zero.1 HS.out, Lib.extract_data] <;> exact List.take_of_length_le (by simp))), hB⟩
def roundE (a b m : Int) : Int := if modeB m then (if termB a && termB b then (if b = 0 then 10 else 0) else 2) else 1
def roundV (a b m : Int) : Int := if roundE a b m = 0 then rnd m a b else 0
set_option maxHeartbeats 1600000 in
theorem round_any (a b m : Int) (w : World) : Calls Tryd.prog 11 #[.int .i64 a, .int .i64 b, .int .i64 m] w fun e w' => e = .returned (.tuple #[.int .i64 (roundV a b m), .int .i64 (roundE a b m)]) ∧ Below w.heap.size w w' := by
 unfold roundV roundE
 cases hm : modeB m
 ·rw [if_neg (by simp), if_neg (by simp)]
  have hB := Below.refl w.heap.size w
  go_enter Tryd.func11, Tryd.ntmps11
  go_wp2_with (first | (go_at_call 19; refine (isMode_any _ _).mono ?_; rintro e w' ⟨rfl, hb⟩; replace hB := below_more hB hb; clear hb) | (go_at_call 20; refine (isTerm_any _ _).mono ?_; rintro e w' ⟨rfl, rfl⟩) | (go_at_call 21; refine (rounded_any _ _ _ _ (by omega) (by omega) (by omega) (by omega) (by omega) (by omega) (by omega)).mono ?_; rintro e w' ⟨rfl, hb⟩; replace hB := below_more hB hb; clear hb))
  go_ret2
  exact ⟨rfl, hB⟩
 ·rw [if_pos rfl]
  have hm2 := modeB_is hm
  obtain ⟨hm3, hm4⟩ := hm2
  cases ha : termB a
  ·rw [if_neg (by simp), if_neg (by simp)]
   have hB := Below.refl w.heap.size w
   go_enter Tryd.func11, Tryd.ntmps11
   go_wp2_with (first | (go_at_call 19; refine (isMode_any _ _).mono ?_; rintro e w' ⟨rfl, hb⟩; replace hB := below_more hB hb; clear hb) | (go_at_call 20; refine (isTerm_any _ _).mono ?_; rintro e w' ⟨rfl, rfl⟩) | (go_at_call 21; refine (rounded_any _ _ _ _ (by omega) (by omega) (by omega) (by omega) (by omega) (by omega) (by omega)).mono ?_; rintro e w' ⟨rfl, hb⟩; replace hB := below_more hB hb; clear hb))
   go_ret2
   exact ⟨rfl, hB⟩
  ·cases hb : termB b
   ·rw [if_neg (by simp), if_neg (by simp)]
    have hB := Below.refl w.heap.size w
    go_enter Tryd.func11, Tryd.ntmps11
    go_wp2_with (first | (go_at_call 19; refine (isMode_any _ _).mono ?_; rintro e w' ⟨rfl, hb⟩; replace hB := below_more hB hb; clear hb) | (go_at_call 20; refine (isTerm_any _ _).mono ?_; rintro e w' ⟨rfl, rfl⟩) | (go_at_call 21; refine (rounded_any _ _ _ _ (by omega) (by omega) (by omega) (by omega) (by omega) (by omega) (by omega)).mono ?_; rintro e w' ⟨rfl, hb⟩; replace hB := below_more hB hb; clear hb))
    go_ret2
    exact ⟨rfl, hB⟩
   ·rw [Bool.and_self, if_pos rfl]
    obtain ⟨ha3, ha4⟩ := termB_is ha
    obtain ⟨hb3, hb4⟩ := termB_is hb
    by_cases h0 : b = 0
    ·subst h0
     rw [if_pos rfl, if_neg (by decide)]
     have hB := Below.refl w.heap.size w
     go_enter Tryd.func11, Tryd.ntmps11
     go_wp2_with (first | (go_at_call 19; refine (isMode_any _ _).mono ?_; rintro e w' ⟨rfl, hb⟩; replace hB := below_more hB hb; clear hb) | (go_at_call 20; refine (isTerm_any _ _).mono ?_; rintro e w' ⟨rfl, rfl⟩) | (go_at_call 21; refine (rounded_any _ _ _ _ (by omega) (by omega) (by omega) (by omega) (by omega) (by omega) (by omega)).mono ?_; rintro e w' ⟨rfl, hb⟩; replace hB := below_more hB hb; clear hb))
     go_ret2
     exact ⟨rfl, hB⟩
    ·rw [if_neg h0, if_pos rfl]
     have h1 : (b == 0) = false := by simpa using h0
     have hB := Below.refl w.heap.size w
     go_enter Tryd.func11, Tryd.ntmps11
     go_wp2_with (first | (go_at_call 19; refine (isMode_any _ _).mono ?_; rintro e w' ⟨rfl, hb⟩; replace hB := below_more hB hb; clear hb) | (go_at_call 20; refine (isTerm_any _ _).mono ?_; rintro e w' ⟨rfl, rfl⟩) | (go_at_call 21; refine (rounded_any _ _ _ _ (by omega) (by omega) (by omega) (by omega) (by omega) (by omega) (by omega)).mono ?_; rintro e w' ⟨rfl, hb⟩; replace hB := below_more hB hb; clear hb))
     go_ret2
     exact ⟨rfl, hB⟩
theorem dig1234 : Lib.itoa (-1234) = [45, 49, 50, 51, 52] := by
 have h : Lib.decDigits 1234 = [49, 50, 51, 52] := by
  rw [Lib.decDigits, dif_neg (by decide), Lib.decDigits, dif_neg (by decide), Lib.decDigits, dif_neg (by decide), Lib.decDigits, dif_pos (by decide)]
  rfl
 show (if (-1234 : Int) < 0 then 45 :: Lib.decDigits 1234 else _) = _
 rw [if_pos (by decide), h]
theorem text1234 (w : World) (ht : DTab w.heap.size w) : Calls Tryd.prog 18 #[.int .i64 (-1234), .int .i64 2] w fun e w' => e = .returned (.string ⟨#[45, 49, 50, 46, 51, 52]⟩) ∧ Below w.heap.size w w' :=
 dtext_100 (-1234) [45, 49, 50, 51, 52] [49, 50, 51, 52] 2 w ht (by decide) dig1234 (by decide) (by decide) (by decide) (by decide) (by decide)
theorem round52 (w : World) : Calls Tryd.prog 11 #[.int .i64 (-5), .int .i64 2, .int .i64 0] w fun e w' => e = .returned (.tuple #[.int .i64 (-3), .int .i64 0]) ∧ Below w.heap.size w w' := by
 have h := round_any (-5) 2 0 w
 rw [show roundV (-5) 2 0 = -3 by decide, show roundE (-5) 2 0 = 0 by decide] at h
 exact h
set_option maxHeartbeats 800000 in
theorem dawake_any (w : World) (ht : DTab w.heap.size w) : Calls Tryd.prog 9 #[] w fun e w' => e = .returned (.bool true) ∧ Below w.heap.size w w' := by
 have HT := Lib.hid ht
 clear ht
 have hB := Below.refl w.heap.size w
 go_enter Tryd.func9, Tryd.ntmps9
 go_wp2_with (first | (go_at_call 11; refine (round52 _).mono ?_; rintro e w' ⟨rfl, hb⟩; replace hB := below_more hB hb; clear hb) | (go_at_call 18; refine (text1234 _ (DTab.up HT.out hB)).mono ?_; rintro e w' ⟨rfl, hb⟩; replace hB := below_more hB hb; clear hb))
 go_ret
 exact ⟨rfl, hB⟩
theorem power_at (x : Int) (h0 : 0 ≤ x) (h9 : x ≤ 9) (w : World) : Calls Tryd.prog 24 #[.int .i64 x] w fun e w' => e = .returned (.int .i64 (pw x.toNat)) ∧ w = w' := by
 obtain ⟨k, rfl⟩ : ∃ k : Nat, x = k := ⟨x.toNat, by omega⟩
 exact power_any k (by omega) w
def rangeB (x : Int) : Bool := decide (-1000000000000000 ≤ x) && decide (x ≤ 1000000000000000)
def rescE (n f t m : Int) : Int := if modeB m && scaleB t then (if validB n f then (if t < f then 0 else if rangeB (n * pw (t - f).toNat) then 0 else 2) else 2) else 1
def rescV (n f t m : Int) : Int := if rescE n f t m = 0 then (if t < f then rnd m n (pw (f - t).toNat) else n * pw (t - f).toNat) else 0
theorem range_div {n p : Int} (hp : 0 < p) : (-(1000000000000000 / p) ≤ n ∧ n ≤ 1000000000000000 / p) ↔ (-1000000000000000 ≤ n * p ∧ n * p ≤ 1000000000000000) := by
 have h1 : ∀ x : Int, x ≤ 1000000000000000 / p ↔ x * p ≤ 1000000000000000 := fun x => Int.le_ediv_iff_mul_le hp
 have h2 := h1 n
 have h3 := h1 (-n)
 rw [Int.neg_mul] at h3
 constructor
 ·intro h; exact ⟨by have := h3.1 (by omega); omega, h2.1 h.2⟩
 ·intro h; exact ⟨by have := h3.2 (by omega); omega, h2.2 h.2⟩
theorem pw_zero : pw 0 = 1 := rfl
set_option maxHeartbeats 3200000 in
theorem rescale_any (n f t m : Int) (w : World) : Calls Tryd.prog 12 #[.int .i64 n, .int .i64 f, .int .i64 t, .int .i64 m] w fun e w' => e = .returned (.tuple #[.int .i64 (rescV n f t m), .int .i64 (rescE n f t m)]) ∧ Below w.heap.size w w' := by
 unfold rescV rescE
 cases hm : modeB m
 ·rw [if_neg (by simp), if_neg (by simp)]
  have hB := Below.refl w.heap.size w
  go_enter Tryd.func12, Tryd.ntmps12
  go_wp2_with (first | (go_at_call 19; refine (isMode_any _ _).mono ?_; rintro e w' ⟨rfl, hb⟩; replace hB := below_more hB hb; clear hb) | (go_at_call 22; refine (isScale_any _ _).mono ?_; rintro e w' ⟨rfl, rfl⟩) | (go_at_call 23; refine (valid_any _ _ _).mono ?_; rintro e w' ⟨rfl, rfl⟩) | (go_at_call 21; refine (rounded_any _ _ _ _ (by omega) (by omega) (by omega) (by omega) (by omega) (by omega) (by omega)).mono ?_; rintro e w' ⟨rfl, hb⟩; replace hB := below_more hB hb; clear hb))
  go_ret2
  exact ⟨rfl, hB⟩
 ·have hm2 := modeB_is hm
  obtain ⟨hm3, hm4⟩ := hm2
  rw [Bool.true_and]
  cases hs : scaleB t
  ·rw [if_neg (by simp), if_neg (by simp)]
   have hB := Below.refl w.heap.size w
   go_enter Tryd.func12, Tryd.ntmps12
   go_wp2_with (first | (go_at_call 19; refine (isMode_any _ _).mono ?_; rintro e w' ⟨rfl, hb⟩; replace hB := below_more hB hb; clear hb) | (go_at_call 22; refine (isScale_any _ _).mono ?_; rintro e w' ⟨rfl, rfl⟩) | (go_at_call 23; refine (valid_any _ _ _).mono ?_; rintro e w' ⟨rfl, rfl⟩) | (go_at_call 21; refine (rounded_any _ _ _ _ (by omega) (by omega) (by omega) (by omega) (by omega) (by omega) (by omega)).mono ?_; rintro e w' ⟨rfl, hb⟩; replace hB := below_more hB hb; clear hb))
   go_ret2
   exact ⟨rfl, hB⟩
  ·obtain ⟨ht0, ht9⟩ := scaleB_is hs
   rw [if_pos rfl]
   cases hv : validB n f
   ·rw [if_neg (by simp), if_neg (by simp)]
    have hB := Below.refl w.heap.size w
    go_enter Tryd.func12, Tryd.ntmps12
    go_wp2_with (first | (go_at_call 19; refine (isMode_any _ _).mono ?_; rintro e w' ⟨rfl, hb⟩; replace hB := below_more hB hb; clear hb) | (go_at_call 22; refine (isScale_any _ _).mono ?_; rintro e w' ⟨rfl, rfl⟩) | (go_at_call 23; refine (valid_any _ _ _).mono ?_; rintro e w' ⟨rfl, rfl⟩) | (go_at_call 21; refine (rounded_any _ _ _ _ (by omega) (by omega) (by omega) (by omega) (by omega) (by omega) (by omega)).mono ?_; rintro e w' ⟨rfl, hb⟩; replace hB := below_more hB hb; clear hb))
    go_ret2
    exact ⟨rfl, hB⟩
   ·rw [if_pos rfl]
    obtain ⟨⟨hn1, hn2⟩, hf0, hf9⟩ := validB_is hv
    by_cases hlt : t < f
    ·rw [if_pos hlt, if_pos hlt, if_pos rfl]
     have hpp := pw_bd (show (f - t).toNat ≤ 9 by omega)
     have hp : ∀ w, Calls Tryd.prog 24 #[.int .i64 (f - t)] w fun e w' => e = .returned (.int .i64 (pw (f - t).toNat)) ∧ w = w' := fun w => power_at _ (by omega) (by omega) w
     obtain ⟨p, hpe⟩ : ∃ p, pw (f - t).toNat = p := ⟨_, rfl⟩
     rw [hpe] at hp hpp ⊢
     obtain ⟨hp1, hp2⟩ := hpp
     have HP := Lib.hid hp
     have HPE := Lib.hid hpe
     clear hp hpe
     have hp0 : p ≠ 0 := by omega
     clear hs hv
     have hs : scaleB t = true := by simp [scaleB]; omega
     have hv : validB n f = true := by simp [validB, scaleB]; omega
     have hB := Below.refl w.heap.size w
     go_enter Tryd.func12, Tryd.ntmps12
     go_wp2_with (first | (go_at_call 19; refine (isMode_any _ _).mono ?_; rintro e w' ⟨rfl, hb⟩; replace hB := below_more hB hb; clear hb) | (go_at_call 22; refine (isScale_any _ _).mono ?_; rintro e w' ⟨rfl, rfl⟩) | (go_at_call 23; refine (valid_any _ _ _).mono ?_; rintro e w' ⟨rfl, rfl⟩) | (go_at_call 24; refine (HP.out _).mono ?_; rintro e w' ⟨rfl, rfl⟩) | (go_at_call 21; refine (rounded_any _ _ _ _ (by omega) (by omega) (by omega) (by omega) (by omega) (by omega) (by omega)).mono ?_; rintro e w' ⟨rfl, hb⟩; replace hB := below_more hB hb; clear hb))
     go_ret2
     exact ⟨rfl, hB⟩
    ·rw [if_neg hlt, if_neg hlt]
     have hpp := pw_bd (show (t - f).toNat ≤ 9 by omega)
     have hp : ∀ w, Calls Tryd.prog 24 #[.int .i64 (t - f)] w fun e w' => e = .returned (.int .i64 (pw (t - f).toNat)) ∧ w = w' := fun w => power_at _ (by omega) (by omega) w
     obtain ⟨p, hpe⟩ : ∃ p, pw (t - f).toNat = p := ⟨_, rfl⟩
     rw [hpe] at hp hpp ⊢
     obtain ⟨hp1, hp2⟩ := hpp
     have HP := Lib.hid hp
     have HPE := Lib.hid hpe
     clear hp hpe
     have hrd := range_div (n := n) (p := p) (by omega)
     have hq0 : 0 ≤ 1000000000000000 / p := Int.ediv_nonneg (by omega) (by omega)
     have hq1 : 1000000000000000 / p ≤ 1000000000000000 := Int.ediv_le_self _ (by omega)
     have hpz : (p == 0) = false := by simp; omega
     by_cases h1 : n < -(1000000000000000 / p)
     ·have hr : rangeB (n * p) = false := by
       have h2 : ¬ (-(1000000000000000 / p) ≤ n ∧ n ≤ 1000000000000000 / p) := fun h => by omega
       rw [hrd] at h2
       simp [rangeB]; omega
      rw [hr]
      clear hrd hr
      rw [if_neg (by simp), if_neg (by simp)]
      have hB := Below.refl w.heap.size w
      go_enter Tryd.func12, Tryd.ntmps12
      go_wp2_with (first | (go_at_call 19; refine (isMode_any _ _).mono ?_; rintro e w' ⟨rfl, hb⟩; replace hB := below_more hB hb; clear hb) | (go_at_call 22; refine (isScale_any _ _).mono ?_; rintro e w' ⟨rfl, rfl⟩) | (go_at_call 23; refine (valid_any _ _ _).mono ?_; rintro e w' ⟨rfl, rfl⟩) | (go_at_call 24; refine (HP.out _).mono ?_; rintro e w' ⟨rfl, rfl⟩) | (go_at_call 21; refine (rounded_any _ _ _ _ (by omega) (by omega) (by omega) (by omega) (by omega) (by omega) (by omega)).mono ?_; rintro e w' ⟨rfl, hb⟩; replace hB := below_more hB hb; clear hb))
      go_ret2
      exact ⟨rfl, hB⟩
     ·by_cases h2 : 1000000000000000 / p < n
      ·have hr : rangeB (n * p) = false := by
        have h3 : ¬ (-(1000000000000000 / p) ≤ n ∧ n ≤ 1000000000000000 / p) := fun h => by omega
        rw [hrd] at h3
        simp [rangeB]; omega
       rw [hr]
       clear hrd hr
       have h4 : decide (n < -(1000000000000000 / p)) = false := decide_eq_false h1
       rw [if_neg (by simp), if_neg (by simp)]
       have hB := Below.refl w.heap.size w
       go_enter Tryd.func12, Tryd.ntmps12
       go_wp2_with (first | (go_at_call 19; refine (isMode_any _ _).mono ?_; rintro e w' ⟨rfl, hb⟩; replace hB := below_more hB hb; clear hb) | (go_at_call 22; refine (isScale_any _ _).mono ?_; rintro e w' ⟨rfl, rfl⟩) | (go_at_call 23; refine (valid_any _ _ _).mono ?_; rintro e w' ⟨rfl, rfl⟩) | (go_at_call 24; refine (HP.out _).mono ?_; rintro e w' ⟨rfl, rfl⟩) | (go_at_call 21; refine (rounded_any _ _ _ _ (by omega) (by omega) (by omega) (by omega) (by omega) (by omega) (by omega)).mono ?_; rintro e w' ⟨rfl, hb⟩; replace hB := below_more hB hb; clear hb))
       go_ret2
       exact ⟨rfl, hB⟩
      ·have hx := hrd.1 ⟨by omega, by omega⟩
       obtain ⟨hx1, hx2⟩ := hx
       rw [show rangeB (n * p) = true by simp [rangeB]; omega, if_pos rfl, if_pos rfl]
       have h4 : decide (n < -(1000000000000000 / p)) = false := decide_eq_false h1
       have h5 : decide (1000000000000000 / p < n) = false := decide_eq_false h2
       clear hrd h1 h2
       have hB := Below.refl w.heap.size w
       go_enter Tryd.func12, Tryd.ntmps12
       go_wp2_with (first | (go_at_call 19; refine (isMode_any _ _).mono ?_; rintro e w' ⟨rfl, hb⟩; replace hB := below_more hB hb; clear hb) | (go_at_call 22; refine (isScale_any _ _).mono ?_; rintro e w' ⟨rfl, rfl⟩) | (go_at_call 23; refine (valid_any _ _ _).mono ?_; rintro e w' ⟨rfl, rfl⟩) | (go_at_call 24; refine (HP.out _).mono ?_; rintro e w' ⟨rfl, rfl⟩) | (go_at_call 21; refine (rounded_any _ _ _ _ (by omega) (by omega) (by omega) (by omega) (by omega) (by omega) (by omega)).mono ?_; rintro e w' ⟨rfl, hb⟩; replace hB := below_more hB hb; clear hb))
       go_ret2
       exact ⟨rfl, hB⟩
def C2 (w : World) (b : Nat) (x y : Value) : Prop := w.cell? ⟨b, 0, none⟩ = some x ∧ w.cell? ⟨b, 1, none⟩ = some y ∧ b < w.heap.size
theorem c2up {w w' : World} {b : Nat} {x y : Value} (h : Hid (C2 w b x y)) (hb : Below w.heap.size w w') : Hid (C2 w' b x y) :=
 Lib.hid ⟨(hb.cell (p := ⟨b, 0, none⟩) h.out.2.2).trans h.out.1, (hb.cell (p := ⟨b, 1, none⟩) h.out.2.2).trans h.out.2.1, Nat.lt_of_lt_of_le h.out.2.2 hb.size⟩
theorem dc_drewN {B : Nat} {a w : World} (h : Below B a w) (n : Nat) : Below B a (w.drewN n) := ⟨h.os, h.tape, h.output, h.size, h.block⟩
theorem resc_near {n F T m : Int} (hm : m = 0 ∨ m = 1) (hT : 0 ≤ T) (hTF : T ≤ F) (hF : F ≤ 9) (hn : -1000000000000 ≤ n ∧ n ≤ 1000000000000) :
  ∃ v, rescV n F T m = v ∧ rescE n F T m = 0 ∧ -(pw (F - T).toNat) ≤ 2 * (v * pw (F - T).toNat - n) ∧ 2 * (v * pw (F - T).toNat - n) ≤ pw (F - T).toNat ∧ -1000000000001 ≤ v ∧ v ≤ 1000000000001 ∧ (∀ k : Int, -k ≤ n → n ≤ k → -(k + 1) ≤ v ∧ v ≤ k + 1) := by
 have hv : validB n F = true := by simp [validB, scaleB]; omega
 have hs : (modeB m && scaleB T) = true := by simp [modeB, scaleB]; omega
 by_cases h : T < F
 ·have hE : rescE n F T m = 0 := by unfold rescE; rw [if_pos hs, if_pos hv, if_pos h]
  have hV : rescV n F T m = rnd m n (pw (F - T).toNat) := by unfold rescV; rw [if_pos hE, if_pos h]
  have hp := (pw_bd (show (F - T).toNat ≤ 9 by omega)).1
  have hne := rnd_near (a := n) hm (show 0 < pw (F - T).toNat by omega)
  have hb := rnd_bd (m := m) (a := n) (b := pw (F - T).toNat) (n := 1000000000000) (by omega) (by omega)
  exact ⟨_, hV, hE, hne.1, hne.2, by omega, by omega, fun k k1 k2 => rnd_bd k1 k2⟩
 ·obtain rfl : T = F := by omega
  have e : (T - T).toNat = 0 := by omega
  have hE : rescE n T T m = 0 := by unfold rescE; rw [if_pos hs, if_pos hv, if_neg h, e, pw_zero, Int.mul_one, if_pos (by simp [rangeB]; omega)]
  have hV : rescV n T T m = n := by unfold rescV; rw [if_pos hE, if_neg h, e, pw_zero, Int.mul_one]
  rw [e, pw_zero]
  exact ⟨n, hV, hE, by omega, by omega, by omega, by omega, fun k _ _ => by omega⟩
structure SP (p : Int) (k : Nat) (S P : Int) : Prop where
 s1 : -(k * 2147483648 : Int) ≤ S
 s2 : S ≤ k * 2147483648
 q1 : -(k * 2147483649 : Int) ≤ P
 q2 : P ≤ k * 2147483649
 n1 : -((k : Int) * p) ≤ 2 * (P * p - S)
 n2 : 2 * (P * p - S) ≤ (k : Int) * p
theorem SP.next {p : Int} {k : Nat} {S P x v : Int} (h : SP p k S P) (hx1 : -2147483648 ≤ x) (hx2 : x ≤ 2147483648) (hv1 : -2147483649 ≤ v) (hv2 : v ≤ 2147483649) (h1 : -p ≤ 2 * (v * p - x)) (h2 : 2 * (v * p - x) ≤ p) : SP p (k + 1) (S + x) (P + v) := by
 obtain ⟨a1, a2, a3, a4, a5, a6⟩ := h
 have e1 : (P + v) * p = P * p + v * p := Int.add_mul _ _ _
 have e2 : ((k + 1 : Nat) : Int) * p = (k : Int) * p + p := by rw [show ((k + 1 : Nat) : Int) = (k : Int) + 1 by omega, Int.add_mul, Int.one_mul]
 refine ⟨by omega, by omega, by omega, by omega, ?_, ?_⟩
 ·rw [e1, e2]; omega
 ·rw [e1, e2]; omega
theorem SP.fin {p : Int} {k : Nat} {S P v : Int} (hp : 1 ≤ p) (h : SP p k S P) (h1 : -p ≤ 2 * (v * p - S)) (h2 : 2 * (v * p - S) ≤ p) : 2 * ((P - v).natAbs : Int) ≤ (k : Int) + 1 := by
 obtain ⟨-, -, -, -, a5, a6⟩ := h
 have e : (2 * (P - v)) * p = 2 * (P * p) - 2 * (v * p) := by rw [Int.mul_assoc, Int.sub_mul, Int.mul_sub]
 have e2 : ((k : Int) + 1) * p = (k : Int) * p + p := by rw [Int.add_mul, Int.one_mul]
 have b1 : 2 * (P - v) ≤ (k : Int) + 1 := Int.le_of_mul_le_mul_right (a := p) (by rw [e, e2]; omega) (by omega)
 have b2 : -((k : Int) + 1) ≤ 2 * (P - v) := Int.le_of_mul_le_mul_right (a := p) (by rw [e, Int.neg_mul, e2]; omega) (by omega)
 omega
set_option maxRecDepth 20000 in
set_option maxHeartbeats 3200000 in
theorem dsums_long (A : Option Addr) (len cap : Nat) (b off : Nat) (zs : List Int) (s0 s1 : Int) (ev : Bool) (w : World) (ht : DTab w.heap.size w) (hlen : len ≤ 9223372036854775807) (hA : 0 < len → A = some ⟨b, off, none⟩ ∧ b < w.heap.size) (hc : ∀ i, i < len → w.cell? ⟨b, off + i, none⟩ = some (.int .i32 (zs.getD i 0))) (hz : ∀ i, i < len → -2147483648 ≤ zs.getD i 0 ∧ zs.getD i 0 ≤ 2147483647) (ws0 : 0 ≤ s0 ∧ s0 ≤ 255) (ws1 : 0 ≤ s1 ∧ s1 ≤ 255) (h100 : 100 < len) : Calls Tryd.prog 6 #[.slice A len cap, .agg #[.int .u8 s0, .int .u8 s1], .bool ev] w fun e w' => e = .returned (.bool true) ∧ Below w.heap.size w w' := by
 have HT := Lib.hid ht
 clear ht
 have hB : Below w.heap.size w (w.alloc (.cells #[.int .u8 s0, .int .u8 s1] 37)) := (Below.refl _ _).alloc (Nat.le_refl _) _
 have K1 : Hid (C2 (w.alloc (.cells #[.int .u8 s0, .int .u8 s1] 37)) w.heap.size (.int .u8 s0) (.int .u8 s1)) := Lib.hid ⟨by simp, by simp, by simp⟩
 have HC := Lib.hid hc
 have HZ := Lib.hid hz
 have HA := Lib.hid hA
 clear hc hz hA
 have h1 : (100 : Int) < (len : Int) := by omega
 go_enter Tryd.func6, Tryd.ntmps6
 go_wp2_with (go_at_call 9; refine (dawake_any _ (DTab.up HT.out hB)).mono ?_; rintro e w' ⟨rfl, hb⟩; replace hB := below_more hB hb; replace K1 := c2up K1 hb; clear hb; obtain ⟨p1, p2, p3⟩ := K1.out)
 go_ret
 exact ⟨rfl, hB⟩
set_option maxRecDepth 20000 in
set_option maxHeartbeats 12800000 in
theorem dsums_short (A : Option Addr) (len cap : Nat) (b off : Nat) (zs : List Int) (s0 s1 : Int) (ev : Bool) (w : World) (ht : DTab w.heap.size w) (hlen : len ≤ 9223372036854775807) (hA : 0 < len → A = some ⟨b, off, none⟩ ∧ b < w.heap.size) (hc : ∀ i, i < len → w.cell? ⟨b, off + i, none⟩ = some (.int .i32 (zs.getD i 0))) (hz : ∀ i, i < len → -2147483648 ≤ zs.getD i 0 ∧ zs.getD i 0 ≤ 2147483647) (ws0 : 0 ≤ s0 ∧ s0 ≤ 255) (ws1 : 0 ≤ s1 ∧ s1 ≤ 255) (h100 : len ≤ 100) : Calls Tryd.prog 6 #[.slice A len cap, .agg #[.int .u8 s0, .int .u8 s1], .bool ev] w fun e w' => e = .returned (.bool true) ∧ Below w.heap.size w w' := by
 have HT := Lib.hid ht
 clear ht
 have hB : Below w.heap.size w (w.alloc (.cells #[.int .u8 s0, .int .u8 s1] 37)) := (Below.refl _ _).alloc (Nat.le_refl _) _
 have K1 : Hid (C2 (w.alloc (.cells #[.int .u8 s0, .int .u8 s1] 37)) w.heap.size (.int .u8 s0) (.int .u8 s1)) := Lib.hid ⟨by simp, by simp, by simp⟩
 have HC := Lib.hid hc
 have HZ := Lib.hid hz
 have HA := Lib.hid hA
 clear hc hz hA
 have h1 : decide ((100 : Int) < (len : Int)) = false := decide_eq_false (by omega)
 obtain ⟨ws2, ws3⟩ := ws0
 obtain ⟨ws4, ws5⟩ := ws1
 obtain ⟨f0, hf0⟩ : ∃ x, s0 % 10 = x := ⟨_, rfl⟩
 obtain ⟨f1, hf1⟩ : ∃ x, s1 % 10 = x := ⟨_, rfl⟩
 have t0 : s0.tmod 10 = f0 := by rw [Int.tmod_eq_emod_of_nonneg (by omega)]; exact hf0
 have t1 : s1.tmod 10 = f1 := by rw [Int.tmod_eq_emod_of_nonneg (by omega)]; exact hf1
 have a0 : 0 ≤ f0 := by omega
 have a1 : f0 ≤ 9 := by omega
 have a2 : 0 ≤ f1 := by omega
 have a3 : f1 ≤ 9 := by omega
 have c0 : IntKind.i64.wrap f0 = f0 := by rw [IntKind.wrap_i64]; omega
 have c1 : IntKind.i64.wrap f1 = f1 := by rw [IntKind.wrap_i64]; omega
 have HF0 := Lib.hid hf0
 have HF1 := Lib.hid hf1
 have HT0 := Lib.hid t0
 have HT1 := Lib.hid t1
 have C0 := Lib.hid c0
 have C1 := Lib.hid c1
 clear hf0 hf1 t0 t1 c0 c1
 go_enter Tryd.func6, Tryd.ntmps6
 go_wp2_with (go_at_call 9; refine (dawake_any _ (DTab.up HT.out hB)).mono ?_; rintro e w' ⟨rfl, hb⟩; replace hB := below_more hB hb; replace K1 := c2up K1 hb; clear hb; obtain ⟨p1, p2, p3⟩ := K1.out)
 have o0 := HF0.out
 have o1 := HF1.out
 have o2 := HT0.out
 have o3 := HT1.out
 have o4 := C0.out
 have o5 := C1.out
 go_quiet (fail)
 clear o0 o1 o2 o3 o4 o5 p1 p2 p3 K1 h1 ws2 ws3 ws4 ws5
 cases ev
 ·by_cases hsw : f0 < f1
  ·have hsw2 := hsw
   have hp := (pw_bd (show (f1 - f0).toNat ≤ 9 by omega)).1
   go_wp2_with fail
   replace hB := dc_drewN hB nq
   generalize w'.drewN nq = W2 at *
   go_loopw [10, 11, 42] (fun s q i wr => ∃ (k : Nat) (S P : Int), k ≤ len ∧ s = .int .i64 S ∧ q = .int .i64 P ∧ i = .int .i64 k ∧ Below w.heap.size w wr ∧ SP (pw (f1 - f0).toNat) k S P) (fun _ _ i _ => len - (intOf i).toNat)
   case atStart => exact ⟨0, 0, 0, by omega, rfl, rfl, rfl, hB, by simp, by simp, by simp, by simp, by simp, by simp⟩
   case round =>
    clear hB
    obtain ⟨k, S, P, hk, rfl, rfl, rfl, hB, hsp⟩ := hrel
    have sb1 : -220000000000 ≤ S := by have := hsp.s1; omega
    have sb2 : S ≤ 220000000000 := by have := hsp.s2; omega
    have pb1 : -220000000000 ≤ P := by have := hsp.q1; omega
    have pb2 : P ≤ 220000000000 := by have := hsp.q2; omega
    have HSP := Lib.hid hsp
    clear hsp
    by_cases hlt : k < len
    ·obtain ⟨rfl, hbw⟩ := HA.out (by omega)
     have hc := HC.out k hlt
     have hc2 : wr.cell? ⟨b, off + k, none⟩ = some (.int .i32 (zs.getD k 0)) := (hB.cell (p := ⟨b, off + k, none⟩) hbw).trans hc
     obtain ⟨x1, x2⟩ := HZ.out k hlt
     clear hc
     generalize zs.getD k 0 = x at *
     obtain ⟨v, hV, hE, n1, n2, v1, v2, v3⟩ := resc_near (n := x) (F := f1) (T := f0) (m := 0) (by omega) (by omega) (by omega) (by omega) ⟨by omega, by omega⟩
     obtain ⟨v4, v5⟩ := v3 2147483648 (by omega) (by omega)
     have hr : ∀ w, Calls Tryd.prog 12 #[.int .i64 x, .int .i64 f1, .int .i64 f0, .int .i64 0] w fun e w' => e = .returned (.tuple #[.int .i64 v, .int .i64 0]) ∧ Below w.heap.size w w' := fun w => by have h := rescale_any x f1 f0 0 w; rw [hV, hE] at h; exact h
     have HR := Lib.hid hr
     have HN := Lib.hid (HSP.out.next x1 (by omega) (by omega) (by omega) n1 n2)
     clear hr hV hE n1 n2 v3 v1 v2
     go_wp2_with (go_at_call 12; refine (HR.out _).mono ?_; rintro e w2 ⟨rfl, hb⟩; replace hB := below_more hB hb; clear hb)
     go_roundw
     case rel => exact ⟨k + 1, S + x, P + v, by omega, rfl, rfl, by go_num, hB, HN.out⟩
     case measure => simp [intOf]; omega
    ·obtain rfl : k = len := by omega
     obtain ⟨v, hV, hE, n1, n2, v1, v2, -⟩ := resc_near (n := S) (F := f1) (T := f0) (m := 0) (by omega) (by omega) (by omega) (by omega) ⟨by omega, by omega⟩
     have hr : ∀ w, Calls Tryd.prog 12 #[.int .i64 S, .int .i64 f1, .int .i64 f0, .int .i64 0] w fun e w' => e = .returned (.tuple #[.int .i64 v, .int .i64 0]) ∧ Below w.heap.size w w' := fun w => by have h := rescale_any S f1 f0 0 w; rw [hV, hE] at h; exact h
     have hfin := HSP.out.fin hp n1 n2
     obtain ⟨g, hg⟩ : ∃ g, ((P - v).natAbs : Int) = g := ⟨_, rfl⟩
     rw [hg] at hfin
     have hg0 : 0 ≤ g := by omega
     have hs : ∀ w, Calls Tryd.prog 10 #[.int .i64 (P - v)] w fun e w' => e = .returned (.int .i64 g) ∧ w = w' := fun w => by rw [← hg]; exact size_any (P - v) w (by omega) (by omega)
     have HR := Lib.hid hr
     have HS := Lib.hid hs
     have hkk : decide ((k : Int) < (k : Int)) = false := by simp
     clear hr hs hV hE n1 n2 hg hlt hk
     go_wp2_with (first | (go_at_call 12; refine (HR.out _).mono ?_; rintro e w2 ⟨rfl, hb⟩; replace hB := below_more hB hb; clear hb) | (go_at_call 10; refine (HS.out _).mono ?_; rintro e w2 ⟨rfl, rfl⟩))
     go_ret
     exact ⟨rfl, hB⟩
  ·have hsw1 : decide (f0 < f1) = false := decide_eq_false hsw
   have hp := (pw_bd (show (f0 - f1).toNat ≤ 9 by omega)).1
   go_wp2_with fail
   replace hB := dc_drewN hB nq
   generalize w'.drewN nq = W2 at *
   go_loopw [10, 11, 42] (fun s q i wr => ∃ (k : Nat) (S P : Int), k ≤ len ∧ s = .int .i64 S ∧ q = .int .i64 P ∧ i = .int .i64 k ∧ Below w.heap.size w wr ∧ SP (pw (f0 - f1).toNat) k S P) (fun _ _ i _ => len - (intOf i).toNat)
   case atStart => exact ⟨0, 0, 0, by omega, rfl, rfl, rfl, hB, by simp, by simp, by simp, by simp, by simp, by simp⟩
   case round =>
    clear hB
    obtain ⟨k, S, P, hk, rfl, rfl, rfl, hB, hsp⟩ := hrel
    have sb1 : -220000000000 ≤ S := by have := hsp.s1; omega
    have sb2 : S ≤ 220000000000 := by have := hsp.s2; omega
    have pb1 : -220000000000 ≤ P := by have := hsp.q1; omega
    have pb2 : P ≤ 220000000000 := by have := hsp.q2; omega
    have HSP := Lib.hid hsp
    clear hsp
    by_cases hlt : k < len
    ·obtain ⟨rfl, hbw⟩ := HA.out (by omega)
     have hc := HC.out k hlt
     have hc2 : wr.cell? ⟨b, off + k, none⟩ = some (.int .i32 (zs.getD k 0)) := (hB.cell (p := ⟨b, off + k, none⟩) hbw).trans hc
     obtain ⟨x1, x2⟩ := HZ.out k hlt
     clear hc
     generalize zs.getD k 0 = x at *
     obtain ⟨v, hV, hE, n1, n2, v1, v2, v3⟩ := resc_near (n := x) (F := f0) (T := f1) (m := 0) (by omega) (by omega) (by omega) (by omega) ⟨by omega, by omega⟩
     obtain ⟨v4, v5⟩ := v3 2147483648 (by omega) (by omega)
     have hr : ∀ w, Calls Tryd.prog 12 #[.int .i64 x, .int .i64 f0, .int .i64 f1, .int .i64 0] w fun e w' => e = .returned (.tuple #[.int .i64 v, .int .i64 0]) ∧ Below w.heap.size w w' := fun w => by have h := rescale_any x f0 f1 0 w; rw [hV, hE] at h; exact h
     have HR := Lib.hid hr
     have HN := Lib.hid (HSP.out.next x1 (by omega) (by omega) (by omega) n1 n2)
     clear hr hV hE n1 n2 v3 v1 v2
     go_wp2_with (go_at_call 12; refine (HR.out _).mono ?_; rintro e w2 ⟨rfl, hb⟩; replace hB := below_more hB hb; clear hb)
     go_roundw
     case rel => exact ⟨k + 1, S + x, P + v, by omega, rfl, rfl, by go_num, hB, HN.out⟩
     case measure => simp [intOf]; omega
    ·obtain rfl : k = len := by omega
     obtain ⟨v, hV, hE, n1, n2, v1, v2, -⟩ := resc_near (n := S) (F := f0) (T := f1) (m := 0) (by omega) (by omega) (by omega) (by omega) ⟨by omega, by omega⟩
     have hr : ∀ w, Calls Tryd.prog 12 #[.int .i64 S, .int .i64 f0, .int .i64 f1, .int .i64 0] w fun e w' => e = .returned (.tuple #[.int .i64 v, .int .i64 0]) ∧ Below w.heap.size w w' := fun w => by have h := rescale_any S f0 f1 0 w; rw [hV, hE] at h; exact h
     have hfin := HSP.out.fin hp n1 n2
     obtain ⟨g, hg⟩ : ∃ g, ((P - v).natAbs : Int) = g := ⟨_, rfl⟩
     rw [hg] at hfin
     have hg0 : 0 ≤ g := by omega
     have hs : ∀ w, Calls Tryd.prog 10 #[.int .i64 (P - v)] w fun e w' => e = .returned (.int .i64 g) ∧ w = w' := fun w => by rw [← hg]; exact size_any (P - v) w (by omega) (by omega)
     have HR := Lib.hid hr
     have HS := Lib.hid hs
     have hkk : decide ((k : Int) < (k : Int)) = false := by simp
     clear hr hs hV hE n1 n2 hg hlt hk
     go_wp2_with (first | (go_at_call 12; refine (HR.out _).mono ?_; rintro e w2 ⟨rfl, hb⟩; replace hB := below_more hB hb; clear hb) | (go_at_call 10; refine (HS.out _).mono ?_; rintro e w2 ⟨rfl, rfl⟩))
     go_ret
     exact ⟨rfl, hB⟩
 ·by_cases hsw : f0 < f1
  ·have hsw2 := hsw
   have hp := (pw_bd (show (f1 - f0).toNat ≤ 9 by omega)).1
   go_wp2_with fail
   replace hB := dc_drewN hB nq
   generalize w'.drewN nq = W2 at *
   go_loopw [10, 11, 42] (fun s q i wr => ∃ (k : Nat) (S P : Int), k ≤ len ∧ s = .int .i64 S ∧ q = .int .i64 P ∧ i = .int .i64 k ∧ Below w.heap.size w wr ∧ SP (pw (f1 - f0).toNat) k S P) (fun _ _ i _ => len - (intOf i).toNat)
   case atStart => exact ⟨0, 0, 0, by omega, rfl, rfl, rfl, hB, by simp, by simp, by simp, by simp, by simp, by simp⟩
   case round =>
    clear hB
    obtain ⟨k, S, P, hk, rfl, rfl, rfl, hB, hsp⟩ := hrel
    have sb1 : -220000000000 ≤ S := by have := hsp.s1; omega
    have sb2 : S ≤ 220000000000 := by have := hsp.s2; omega
    have pb1 : -220000000000 ≤ P := by have := hsp.q1; omega
    have pb2 : P ≤ 220000000000 := by have := hsp.q2; omega
    have HSP := Lib.hid hsp
    clear hsp
    by_cases hlt : k < len
    ·obtain ⟨rfl, hbw⟩ := HA.out (by omega)
     have hc := HC.out k hlt
     have hc2 : wr.cell? ⟨b, off + k, none⟩ = some (.int .i32 (zs.getD k 0)) := (hB.cell (p := ⟨b, off + k, none⟩) hbw).trans hc
     obtain ⟨x1, x2⟩ := HZ.out k hlt
     clear hc
     generalize zs.getD k 0 = x at *
     obtain ⟨v, hV, hE, n1, n2, v1, v2, v3⟩ := resc_near (n := x) (F := f1) (T := f0) (m := 1) (by omega) (by omega) (by omega) (by omega) ⟨by omega, by omega⟩
     obtain ⟨v4, v5⟩ := v3 2147483648 (by omega) (by omega)
     have hr : ∀ w, Calls Tryd.prog 12 #[.int .i64 x, .int .i64 f1, .int .i64 f0, .int .i64 1] w fun e w' => e = .returned (.tuple #[.int .i64 v, .int .i64 0]) ∧ Below w.heap.size w w' := fun w => by have h := rescale_any x f1 f0 1 w; rw [hV, hE] at h; exact h
     have HR := Lib.hid hr
     have HN := Lib.hid (HSP.out.next x1 (by omega) (by omega) (by omega) n1 n2)
     clear hr hV hE n1 n2 v3 v1 v2
     go_wp2_with (go_at_call 12; refine (HR.out _).mono ?_; rintro e w2 ⟨rfl, hb⟩; replace hB := below_more hB hb; clear hb)
     go_roundw
     case rel => exact ⟨k + 1, S + x, P + v, by omega, rfl, rfl, by go_num, hB, HN.out⟩
     case measure => simp [intOf]; omega
    ·obtain rfl : k = len := by omega
     obtain ⟨v, hV, hE, n1, n2, v1, v2, -⟩ := resc_near (n := S) (F := f1) (T := f0) (m := 1) (by omega) (by omega) (by omega) (by omega) ⟨by omega, by omega⟩
     have hr : ∀ w, Calls Tryd.prog 12 #[.int .i64 S, .int .i64 f1, .int .i64 f0, .int .i64 1] w fun e w' => e = .returned (.tuple #[.int .i64 v, .int .i64 0]) ∧ Below w.heap.size w w' := fun w => by have h := rescale_any S f1 f0 1 w; rw [hV, hE] at h; exact h
     have hfin := HSP.out.fin hp n1 n2
     obtain ⟨g, hg⟩ : ∃ g, ((P - v).natAbs : Int) = g := ⟨_, rfl⟩
     rw [hg] at hfin
     have hg0 : 0 ≤ g := by omega
     have hs : ∀ w, Calls Tryd.prog 10 #[.int .i64 (P - v)] w fun e w' => e = .returned (.int .i64 g) ∧ w = w' := fun w => by rw [← hg]; exact size_any (P - v) w (by omega) (by omega)
     have HR := Lib.hid hr
     have HS := Lib.hid hs
     have hkk : decide ((k : Int) < (k : Int)) = false := by simp
     clear hr hs hV hE n1 n2 hg hlt hk
     go_wp2_with (first | (go_at_call 12; refine (HR.out _).mono ?_; rintro e w2 ⟨rfl, hb⟩; replace hB := below_more hB hb; clear hb) | (go_at_call 10; refine (HS.out _).mono ?_; rintro e w2 ⟨rfl, rfl⟩))
     go_ret
     exact ⟨rfl, hB⟩
  ·have hsw1 : decide (f0 < f1) = false := decide_eq_false hsw
   have hp := (pw_bd (show (f0 - f1).toNat ≤ 9 by omega)).1
   go_wp2_with fail
   replace hB := dc_drewN hB nq
   generalize w'.drewN nq = W2 at *
   go_loopw [10, 11, 42] (fun s q i wr => ∃ (k : Nat) (S P : Int), k ≤ len ∧ s = .int .i64 S ∧ q = .int .i64 P ∧ i = .int .i64 k ∧ Below w.heap.size w wr ∧ SP (pw (f0 - f1).toNat) k S P) (fun _ _ i _ => len - (intOf i).toNat)
   case atStart => exact ⟨0, 0, 0, by omega, rfl, rfl, rfl, hB, by simp, by simp, by simp, by simp, by simp, by simp⟩
   case round =>
    clear hB
    obtain ⟨k, S, P, hk, rfl, rfl, rfl, hB, hsp⟩ := hrel
    have sb1 : -220000000000 ≤ S := by have := hsp.s1; omega
    have sb2 : S ≤ 220000000000 := by have := hsp.s2; omega
    have pb1 : -220000000000 ≤ P := by have := hsp.q1; omega
    have pb2 : P ≤ 220000000000 := by have := hsp.q2; omega
    have HSP := Lib.hid hsp
    clear hsp
    by_cases hlt : k < len
    ·obtain ⟨rfl, hbw⟩ := HA.out (by omega)
     have hc := HC.out k hlt
     have hc2 : wr.cell? ⟨b, off + k, none⟩ = some (.int .i32 (zs.getD k 0)) := (hB.cell (p := ⟨b, off + k, none⟩) hbw).trans hc
     obtain ⟨x1, x2⟩ := HZ.out k hlt
     clear hc
     generalize zs.getD k 0 = x at *
     obtain ⟨v, hV, hE, n1, n2, v1, v2, v3⟩ := resc_near (n := x) (F := f0) (T := f1) (m := 1) (by omega) (by omega) (by omega) (by omega) ⟨by omega, by omega⟩
     obtain ⟨v4, v5⟩ := v3 2147483648 (by omega) (by omega)
     have hr : ∀ w, Calls Tryd.prog 12 #[.int .i64 x, .int .i64 f0, .int .i64 f1, .int .i64 1] w fun e w' => e = .returned (.tuple #[.int .i64 v, .int .i64 0]) ∧ Below w.heap.size w w' := fun w => by have h := rescale_any x f0 f1 1 w; rw [hV, hE] at h; exact h
     have HR := Lib.hid hr
     have HN := Lib.hid (HSP.out.next x1 (by omega) (by omega) (by omega) n1 n2)
     clear hr hV hE n1 n2 v3 v1 v2
     go_wp2_with (go_at_call 12; refine (HR.out _).mono ?_; rintro e w2 ⟨rfl, hb⟩; replace hB := below_more hB hb; clear hb)
     go_roundw
     case rel => exact ⟨k + 1, S + x, P + v, by omega, rfl, rfl, by go_num, hB, HN.out⟩
     case measure => simp [intOf]; omega
    ·obtain rfl : k = len := by omega
     obtain ⟨v, hV, hE, n1, n2, v1, v2, -⟩ := resc_near (n := S) (F := f0) (T := f1) (m := 1) (by omega) (by omega) (by omega) (by omega) ⟨by omega, by omega⟩
     have hr : ∀ w, Calls Tryd.prog 12 #[.int .i64 S, .int .i64 f0, .int .i64 f1, .int .i64 1] w fun e w' => e = .returned (.tuple #[.int .i64 v, .int .i64 0]) ∧ Below w.heap.size w w' := fun w => by have h := rescale_any S f0 f1 1 w; rw [hV, hE] at h; exact h
     have hfin := HSP.out.fin hp n1 n2
     obtain ⟨g, hg⟩ : ∃ g, ((P - v).natAbs : Int) = g := ⟨_, rfl⟩
     rw [hg] at hfin
     have hg0 : 0 ≤ g := by omega
     have hs : ∀ w, Calls Tryd.prog 10 #[.int .i64 (P - v)] w fun e w' => e = .returned (.int .i64 g) ∧ w = w' := fun w => by rw [← hg]; exact size_any (P - v) w (by omega) (by omega)
     have HR := Lib.hid hr
     have HS := Lib.hid hs
     have hkk : decide ((k : Int) < (k : Int)) = false := by simp
     clear hr hs hV hE n1 n2 hg hlt hk
     go_wp2_with (first | (go_at_call 12; refine (HR.out _).mono ?_; rintro e w2 ⟨rfl, hb⟩; replace hB := below_more hB hb; clear hb) | (go_at_call 10; refine (HS.out _).mono ?_; rintro e w2 ⟨rfl, rfl⟩))
     go_ret
     exact ⟨rfl, hB⟩
theorem law_dsums (A : Option Addr) (len cap : Nat) (b off : Nat) (zs : List Int) (s0 s1 : Int) (ev : Bool) (w : World) (ht : DTab w.heap.size w) (hlen : len ≤ 9223372036854775807) (hA : 0 < len → A = some ⟨b, off, none⟩ ∧ b < w.heap.size) (hc : ∀ i, i < len → w.cell? ⟨b, off + i, none⟩ = some (.int .i32 (zs.getD i 0))) (hz : ∀ i, i < len → -2147483648 ≤ zs.getD i 0 ∧ zs.getD i 0 ≤ 2147483647) (ws0 : 0 ≤ s0 ∧ s0 ≤ 255) (ws1 : 0 ≤ s1 ∧ s1 ≤ 255) : Calls Tryd.prog 6 #[.slice A len cap, .agg #[.int .u8 s0, .int .u8 s1], .bool ev] w fun e w' => e = .returned (.bool true) ∧ Below w.heap.size w w' := by
 by_cases h : len ≤ 100
 ·exact dsums_short A len cap b off zs s0 s1 ev w ht hlen hA hc hz ws0 ws1 h
 ·exact dsums_long A len cap b off zs s0 s1 ev w ht hlen hA hc hz ws0 ws1 (by omega)
open Go.ChangeShapes Go.WideShapes Go.ChangeAt Go.WideMaps Go.WideElems Go.RowKit
theorem own : ownKnob Tryd.prog.godebug = none := by kernel_rfl
abbrev laidL : List (String × DataW Unit) := [("math/bits.deBruijn32tab", Rows.laid_math_bits_deBruijn32tab), ("math/bits.deBruijn64tab", Rows.laid_math_bits_deBruijn64tab), ("internal/strconv.uint64pow10", Rows.laid_internal_strconv_uint64pow10)]
theorem door_met (os : Os) (args : Array Value) : laidMetH Tryd.prog laidL ((World.laidAll Tryd.prog os laidL).forCall (fun _ _ => 0) ⟨#[], args, []⟩).memory := by
 rw [MakeChecks.laidMetH_plain _ _ _ (by kernel_rfl)]
 exact laidMet_laidAll _ (by kernel_rfl) (by kernel_rfl)
theorem pow_is : Rows.laid_internal_strconv_uint64pow10 (H := Unit) = Lib.tabData .u64 Lib.pow10Tab := by kernel_rfl
theorem tab_of_laid {W : World} (h : laidMetH Tryd.prog laidL W) : DTab W.heap.size W := by
 rw [MakeChecks.laidMetH_plain _ _ _ (by kernel_rfl)] at h
 obtain ⟨ps, ⟨g0, t0, cs0, f0, p0, q0, hg0, ht0, hv0, hd0, ⟨g1, t1, cs1, f1, p1, q1, hg1, ht1, hv1, hd1, ⟨g2, t2, cs2, f2, p2, q2, hg2, ht2, hv2, hd2, _, _⟩, _⟩, _⟩, _, _⟩ := h
 have hg : Tryd.prog.globalNamed "internal/strconv.uint64pow10" = some g2 := hg2
 have hgg : Tryd.prog.globalNamed "internal/strconv.uint64pow10" = some 0 := by kernel_rfl
 have hty : (Tryd.prog.globals[0]?).map (·.type) = some 91 := by kernel_rfl
 obtain rfl := Option.some.inj (hgg.symm.trans hg2)
 obtain rfl := Option.some.inj (hty.symm.trans ht2)
 refine Lib.tabBelow_of_tabIs ?_
 unfold Lib.TabIs
 rw [hv2]
 rw [pow_is] at hd2
 rw [← Lib.cells_of_tab Tryd.underlying91 Tryd.underlying78 (by kernel_rfl) (by kernel_rfl) hd2]
theorem lifted_shaped {H : Type} {enc : TypeId × Value → H} {a : Assume} {C : Checked} {os : Os} {f : FuncId} {fn : Func} {s : ChangeSpec} {conds : List PathCond} {apart fresh handsOn again : Bool} {X : World → Array Value → Prop}
  (hX : ∀ (w w' : World) (args : Array Value), w.heap = w'.heap → X w args → X w' args) (own : ownKnob C.prog.godebug = none) (started : os.Started) (noInit : C.prog.inits.idxOf? f = none) (hfn : C.prog.funcs[f]? = some fn)
  (witness : ∃ (w : World) (tape : Tape) (i : Input), w.os = os ∧ (w.forCall tape i).Shaped C.prog ∧ i.vars = [] ∧ Input.okWide C.prog (w.forCall tape i) .any w.heap.size f i ∧
   ((s.pre enc C.prog fn conds apart (w.forCall tape i).memory i.args ∧ X (w.forCall tape i).memory i.args) ∧ sizedMet enc C.prog fn (OpenSpec.ofChange s) apart (w.forCall tape i).memory i.args) ∧ a.holds C.prog (lone (Frame.enter C.prog f i.args .normal) [] (w.forCall tape i)))
  (contract : ∀ (W : World) (base : Nat) (args : Array Value) (ds gs : List (DataW H)) (before : List MemPlace), W.ShapedOpen C.prog →
   (∀ (j : Nat) t v, fn.params[j]? = some t → args[j]? = some v → Value.okWide C.prog W .any base t v) → DataW.Whole enc C.prog fn.params.toList s.vars apart W args.toList ds gs before → X W args →
   Calls C.prog f args W fun e W' => ∃ v, e = .returned v ∧ s.post enc C.prog fn apart fresh handsOn again W args v W') :
  ReturnsInHanded a C os f .any (fun w args => (s.pre enc C.prog fn conds apart w args ∧ X w args) ∧ sizedMet enc C.prog fn (OpenSpec.ofChange s) apart w args) (s.post enc C.prog fn apart fresh handsOn again) := by
 refine returnsInHanded_of_calls own started noInit witness fun w tape i _ hsh _ hok hpre _ => ?_
 obtain ⟨_, _, _, fn', hfn', _, _, _, _, hval⟩ := hok
 obtain rfl : fn' = fn := Option.some.inj (hfn'.symm.trans hfn)
 obtain ⟨⟨⟨ds, gs, before, hw, _⟩, hx⟩, _⟩ := hpre
 refine (contract (w.forCall tape i) w.heap.size i.args ds gs before hsh hval (DataW.Whole.of_heap (w' := w.forCall tape i) (by rfl) hw) (hX _ _ _ (by rfl) hx)).mono fun e W' ⟨v, he, hp⟩ => ?_
 subst he
 exact ChangeSpec.post_blind hp
theorem post_below {H : Type} {enc : TypeId × Value → H} {P : Program} {f : Func} {s : ChangeSpec} {ap fr ho ag : Bool} {W W' : World} {args : Array Value} {v : Value} {ds gs : List (DataW H)} {before pa pv : List MemPlace}
  (hW : DataW.Whole enc P f.params.toList s.vars ap W args.toList ds gs before)
  (hres : ∀ (b : Nat) (sp : Nat → Bool) (hd : Bool), DataW.TrodAll enc P W' b sp hd f.resultTypes.toList (v.resultList f.resultTypes.size) (s.fn H (ds ++ gs)).results [])
  (hargs : ∀ sp : Nat → Bool, (∀ p ∈ before, sp p.block = true) → DataW.TrodAll enc P W' 0 sp true f.params.toList args.toList (s.fn H (ds ++ gs)).args pa)
  (hvars : ∀ sp : Nat → Bool, (∀ p ∈ before, sp p.block = true) → DataW.TrodVars enc P W' sp s.vars (s.fn H (ds ++ gs)).vars pv)
  (hps : before = pa ++ pv) (hb : Below W.heap.size W W')
  (hok : ∀ (j : Nat) (t : TypeId) (r : Value), f.resultTypes[j]? = some t → (v.resultList f.resultTypes.size)[j]? = some r → Value.okWide P W' .any 0 t r) : s.post enc P f ap fr ho ag W args v W' := by
 have hlt : ∀ p ∈ before, p.block < W.heap.size := fun p hp => hW.lt p hp
 have hin : ∀ p ∈ before, (fun b => decide (b < W.heap.size)) p.block = true := fun p hp => by simpa using hlt p hp
 refine ⟨ds, gs, before, [], pa, pv, hW, hres _ _ _, hargs _ hin, hvars _ hin, World.keptBut_mono (fun p hp => ⟨hp, .inr (List.mem_append.1 (hps ▸ hp))⟩) (hb.frame (· ∈ before)), fun _ => ?_⟩
 obtain ⟨_, _, _, _, _, hz, hn⟩ := hW
 refine ⟨hok, _, _, ([] ++ pa) ++ pv, ⟨[] ++ pa, pv, trodAll_append (hargs _ (fun _ _ => rfl)) (hres _ _ _), hvars _ (fun _ _ => rfl), rfl, fun b off hp => ?_, fun ha => ?_⟩, ?_⟩
 ·have hbe : MemPlace.cell b off ∈ before := by rw [hps]; simpa using hp
  rw [hb.frozen (hlt _ hbe)]
  exact hz b off hbe
 ·have h9 := hn ha
  rw [hps] at h9
  simpa using h9
 ·intro p hp _
  rw [hps, ← List.nil_append pa]
  exact hp
theorem two_of {α : Type} (l : List α) (h : (⟨l⟩ : Array α).size = 2) : ∃ a b, l = [a, b] := by
 match l, h with
 | [a, b], _ => exact ⟨a, b, rfl⟩
section
variable {H : Type} {enc : TypeId × Value → H} {P : Program} {w : World} {r : Reach} {b0 base : Nat} {t e : TypeId} {k : IntKind} {spare : Nat → Bool} {held : Bool} {v : Value} {d : DataW H} {ps : List MemPlace}
theorem open_arr2 (ht : P.underlying t = some (.array 2 e)) (he : P.underlying e = some (.int k)) (hce : P.cellsOf e = 1) (hct : P.cellsOf t = 2) (hval : Value.okWide P w r b0 t v) (hd : DataW.Trod enc P w base spare held t v d ps) :
  ∃ x y, v = .agg #[.int k x, .int k y] ∧ d = .agg [.lit (.int k x), .lit (.int k y)] ∧ ps = [] ∧ (Lit.int k x).wf = true ∧ (Lit.int k y).wf = true := by
 obtain ⟨cs, rfl, hsz, _⟩ : ∃ cs, v = .agg cs ∧ cs.size = P.cellsOf t ∧ Row.okWide P w r b0 t cs := by
  simpa [Value.okWide, ht] using hval
 rw [hct] at hsz
 obtain ⟨l⟩ := cs
 obtain ⟨c0, c1, rfl⟩ := two_of l hsz
 obtain ⟨fuel, hf⟩ := hd
 obtain ⟨xs, m, _, hx, _, hl, hel⟩ := DataW.trod_array ht hf
 match xs, hl, hx, hel with
 | [q0, q1], _, hx, hel =>
  have e0 := hel 0 (by omega)
  have e1 := hel 1 (by omega)
  rw [hce] at e0 e1
  obtain ⟨x, h0, h0', w0⟩ := DataW.trod_int he (by simpa [Value.cells] using e0 : DataW.trod enc P w base spare held m e [c0] = some q0)
  obtain ⟨y, h1, h1', w1⟩ := DataW.trod_int he (by simpa [Value.cells] using e1 : DataW.trod enc P w base spare held m e [c1] = some q1)
  simp at h0 h1
  subst h0 h1 h0' h1'
  simp only [List.map_cons, List.map_nil, List.flatMap_cons, List.flatMap_nil, List.append_nil, Prod.mk.injEq] at hx
  exact ⟨x, y, rfl, hx.1, hx.2, w0, w1⟩
theorem shut_arr2 (ht : P.underlying t = some (.array 2 e)) (he : P.underlying e = some (.int k)) (hce : P.cellsOf e = 1) (hct : P.cellsOf t = 2) {x y : Int} (wx : (Lit.int k x).wf = true) (wy : (Lit.int k y).wf = true) :
  DataW.Trod enc P w base spare held t (.agg #[.int k x, .int k y]) (.agg [.lit (.int k x), .lit (.int k y)]) [] :=
 ⟨2, by simp [DataW.trod, Value.cells, ht, he, hct, hce, wx, wy, show List.range 2 = [0, 1] from rfl]⟩
end
end Go.Proofs.YtgihmikeapbpkabDoor
