/-
  NARROWER THAN 'FOR EVERY INPUT', by the rows' own cells (each row's printed sentence says how): MoneyAdd: laid · MoneySum: laid · MoneyConvert: laid · MoneyPortion: laid · MoneyNearest: laid · MoneyMonotonic: laid · MoneyText: laid · MoneyParse: laid · DecimalParse: laid.
  DERIVED. THE GIVEN ROWS OF THIS SEAT. 9 by the template 'for every input the law returns true; each argument reads behind the call as it read before'; 0 by the template 'total and deterministic' (their statements: YthndbonfcdphgaaDoorTotals.lean).
  GIVEN WITH THE SEED: the statements are not yours to turn. If you find one false, say at which input.
  Laid BY PROGRAM, IN A SANDBOX (cutbox-rows.mjs): the forced cells as the released guide's own fill.sh prints them over the translation f94794be11973711… (all of the seat's roots in one cut). By AI agents, Wed Nov 11 2026. No macro, syntax, notation, axiom, sorry.
-/
import Derived.Test.YthndbonfcdphgaaDoorChecked
import GoSem.PinnedTables
import GoSem.Claim
import GoSem.ClaimJoined
import GoSem.ClaimMapViews
import Derived.JoinedTies
import Derived.KernelRfl
namespace Go.Proofs.YthndbonfcdphgaaDoor
/- THE CELL 'sum', in the pinned program and in every row, IS THE sha256 OF THE DUMP (.gsa) THAT YthndbonfcdphgaaDoorProg.lean LOADS. Nothing in Lean hashes anything: it is a label: what it is worth is what the hold of that sum in a sandbox is worth. -/
noncomputable def Tryd.pinned : Pinned := { name := "ythndbonfcdphgaadoor", sum := "f94794be1197371158b7d83618962e42b05314108cb52068c3fb70f72424b844", checked := Tryd.checked }
namespace Rows
def none {H : Type} : Left H := { results := [], args := [] }

/- WHAT THE LISTED PACKAGE-LEVEL VARIABLES READ AS WHEN THE CALL BEGINS. Each datum BY PROGRAM (the guide's laid-datum.mjs) off the statement by which the dump's own 'gosem.cut.vars' lays the variable. In a bare row this is a premise. The card (YthndbonfcdphgaaDoorCards.lean) ties it to the program's text. -/
def laid_math_bits_deBruijn32tab {H : Type} : DataW H := .agg [.lit (.int .u8 0), .lit (.int .u8 1), .lit (.int .u8 28), .lit (.int .u8 2), .lit (.int .u8 29), .lit (.int .u8 14), .lit (.int .u8 24), .lit (.int .u8 3), .lit (.int .u8 30), .lit (.int .u8 22), .lit (.int .u8 20), .lit (.int .u8 15), .lit (.int .u8 25), .lit (.int .u8 17), .lit (.int .u8 4), .lit (.int .u8 8), .lit (.int .u8 31), .lit (.int .u8 27), .lit (.int .u8 13), .lit (.int .u8 23), .lit (.int .u8 21), .lit (.int .u8 19), .lit (.int .u8 16), .lit (.int .u8 7), .lit (.int .u8 26), .lit (.int .u8 12), .lit (.int .u8 18), .lit (.int .u8 6), .lit (.int .u8 11), .lit (.int .u8 5), .lit (.int .u8 10), .lit (.int .u8 9)]
def laid_math_bits_deBruijn64tab {H : Type} : DataW H := .agg [.lit (.int .u8 0), .lit (.int .u8 1), .lit (.int .u8 56), .lit (.int .u8 2), .lit (.int .u8 57), .lit (.int .u8 49), .lit (.int .u8 28), .lit (.int .u8 3), .lit (.int .u8 61), .lit (.int .u8 58), .lit (.int .u8 42), .lit (.int .u8 50), .lit (.int .u8 38), .lit (.int .u8 29), .lit (.int .u8 17), .lit (.int .u8 4), .lit (.int .u8 62), .lit (.int .u8 47), .lit (.int .u8 59), .lit (.int .u8 36), .lit (.int .u8 45), .lit (.int .u8 43), .lit (.int .u8 51), .lit (.int .u8 22), .lit (.int .u8 53), .lit (.int .u8 39), .lit (.int .u8 33), .lit (.int .u8 30), .lit (.int .u8 24), .lit (.int .u8 18), .lit (.int .u8 12), .lit (.int .u8 5), .lit (.int .u8 63), .lit (.int .u8 55), .lit (.int .u8 48), .lit (.int .u8 27), .lit (.int .u8 60), .lit (.int .u8 41), .lit (.int .u8 37), .lit (.int .u8 16), .lit (.int .u8 46), .lit (.int .u8 35), .lit (.int .u8 44), .lit (.int .u8 21), .lit (.int .u8 52), .lit (.int .u8 32), .lit (.int .u8 23), .lit (.int .u8 11), .lit (.int .u8 54), .lit (.int .u8 26), .lit (.int .u8 40), .lit (.int .u8 15), .lit (.int .u8 34), .lit (.int .u8 20), .lit (.int .u8 31), .lit (.int .u8 10), .lit (.int .u8 25), .lit (.int .u8 14), .lit (.int .u8 19), .lit (.int .u8 9), .lit (.int .u8 13), .lit (.int .u8 8), .lit (.int .u8 7), .lit (.int .u8 6)]
def laid_internal_strconv_uint64pow10 {H : Type} : DataW H := .agg [.lit (.int .u64 1), .lit (.int .u64 10), .lit (.int .u64 100), .lit (.int .u64 1000), .lit (.int .u64 10000), .lit (.int .u64 100000), .lit (.int .u64 1000000), .lit (.int .u64 10000000), .lit (.int .u64 100000000), .lit (.int .u64 1000000000), .lit (.int .u64 10000000000), .lit (.int .u64 100000000000), .lit (.int .u64 1000000000000), .lit (.int .u64 10000000000000), .lit (.int .u64 100000000000000), .lit (.int .u64 1000000000000000), .lit (.int .u64 10000000000000000), .lit (.int .u64 100000000000000000), .lit (.int .u64 1000000000000000000), .lit (.int .u64 10000000000000000000)]
def laid_unicode_utf8_acceptRanges {H : Type} : DataW H := .agg [.agg [.lit (.int .u8 128), .lit (.int .u8 191)], .agg [.lit (.int .u8 160), .lit (.int .u8 191)], .agg [.lit (.int .u8 128), .lit (.int .u8 159)], .agg [.lit (.int .u8 144), .lit (.int .u8 191)], .agg [.lit (.int .u8 128), .lit (.int .u8 143)], .agg [.lit (.int .u8 0), .lit (.int .u8 0)], .agg [.lit (.int .u8 0), .lit (.int .u8 0)], .agg [.lit (.int .u8 0), .lit (.int .u8 0)], .agg [.lit (.int .u8 0), .lit (.int .u8 0)], .agg [.lit (.int .u8 0), .lit (.int .u8 0)], .agg [.lit (.int .u8 0), .lit (.int .u8 0)], .agg [.lit (.int .u8 0), .lit (.int .u8 0)], .agg [.lit (.int .u8 0), .lit (.int .u8 0)], .agg [.lit (.int .u8 0), .lit (.int .u8 0)], .agg [.lit (.int .u8 0), .lit (.int .u8 0)], .agg [.lit (.int .u8 0), .lit (.int .u8 0)]]
def laid_strconv_ErrRange {H : Type} : DataW H := .iface "*errors.errorString" (.ptr (.agg [.lit (.string [118, 97, 108, 117, 101, 32, 111, 117, 116, 32, 111, 102, 32, 114, 97, 110, 103, 101])]))
def laid_strconv_ErrSyntax {H : Type} : DataW H := .iface "*errors.errorString" (.ptr (.agg [.lit (.string [105, 110, 118, 97, 108, 105, 100, 32, 115, 121, 110, 116, 97, 120])]))
/-- One of Go's own tables, pinned by name: the form's constant. -/
def laid_unicode_utf8_first : DataW Unit := Go.Pinned.utf8First

/-- 'tallystonelaw04.MoneyAdd': WHATEVER THE INPUT: true; the input reads as it did. -/
def moneyAddSpec : ChangeSpec := { name := "moneyAdd", fn := fun _ => fun
  | [d1, d2] => { results := [.lit (.bool true)], args := [d1, d2] }
  | _ => none }
def moneyAddRow : OpenClaim := { program := "ythndbonfcdphgaadoor", sum := "f94794be1197371158b7d83618962e42b05314108cb52068c3fb70f72424b844", func := "tallystone/tallystonelaw04.MoneyAdd", spec := "moneyAdd", named := ["internal/strconv.uint64pow10", "math/bits.deBruijn32tab", "math/bits.deBruijn64tab"], apart := false, laid := [("math/bits.deBruijn32tab", laid_math_bits_deBruijn32tab), ("math/bits.deBruijn64tab", laid_math_bits_deBruijn64tab), ("internal/strconv.uint64pow10", laid_internal_strconv_uint64pow10)] }
def MoneyAddSaid : Prop := moneyAddRow.holds Tryd.pinned (OpenSpec.ofChange moneyAddSpec)

/-- ITS FALSE NEIGHBOUR: 'it returns false'. Refute it at one input. -/
def moneyAddWrong : ChangeSpec := { name := "moneyAdd", fn := fun _ => fun
  | [d1, d2] => { results := [.lit (.bool false)], args := [d1, d2] }
  | _ => none }
def MoneyAddWrongFalsely : Prop := moneyAddRow.holds Tryd.pinned (OpenSpec.ofChange moneyAddWrong)

/-- 'tallystonelaw04.MoneySum': WHATEVER THE INPUT: true; the input reads as it did. -/
def moneySumSpec : ChangeSpec := { name := "moneySum", fn := fun _ => fun
  | [d] => { results := [.lit (.bool true)], args := [d] }
  | _ => none }
def moneySumRow : OpenClaim := { program := "ythndbonfcdphgaadoor", sum := "f94794be1197371158b7d83618962e42b05314108cb52068c3fb70f72424b844", func := "tallystone/tallystonelaw04.MoneySum", spec := "moneySum", named := ["internal/strconv.uint64pow10", "math/bits.deBruijn32tab", "math/bits.deBruijn64tab"], apart := false, laid := [("math/bits.deBruijn32tab", laid_math_bits_deBruijn32tab), ("math/bits.deBruijn64tab", laid_math_bits_deBruijn64tab), ("internal/strconv.uint64pow10", laid_internal_strconv_uint64pow10)] }
def MoneySumSaid : Prop := moneySumRow.holds Tryd.pinned (OpenSpec.ofChange moneySumSpec)

/-- ITS FALSE NEIGHBOUR: 'it returns false'. Refute it at one input. -/
def moneySumWrong : ChangeSpec := { name := "moneySum", fn := fun _ => fun
  | [d] => { results := [.lit (.bool false)], args := [d] }
  | _ => none }
def MoneySumWrongFalsely : Prop := moneySumRow.holds Tryd.pinned (OpenSpec.ofChange moneySumWrong)

/-- 'tallystonelaw04.MoneyConvert': WHATEVER THE INPUT: true; the input reads as it did. -/
def moneyConvertSpec : ChangeSpec := { name := "moneyConvert", fn := fun _ => fun
  | [d1, d2] => { results := [.lit (.bool true)], args := [d1, d2] }
  | _ => none }
def moneyConvertRow : OpenClaim := { program := "ythndbonfcdphgaadoor", sum := "f94794be1197371158b7d83618962e42b05314108cb52068c3fb70f72424b844", func := "tallystone/tallystonelaw04.MoneyConvert", spec := "moneyConvert", recurses := true, named := ["internal/strconv.uint64pow10", "math/bits.deBruijn32tab", "math/bits.deBruijn64tab"], apart := false, laid := [("math/bits.deBruijn32tab", laid_math_bits_deBruijn32tab), ("math/bits.deBruijn64tab", laid_math_bits_deBruijn64tab), ("internal/strconv.uint64pow10", laid_internal_strconv_uint64pow10)] }
def MoneyConvertSaid : Prop := moneyConvertRow.holds Tryd.pinned (OpenSpec.ofChange moneyConvertSpec)

/-- ITS FALSE NEIGHBOUR: 'it returns false'. Refute it at one input. -/
def moneyConvertWrong : ChangeSpec := { name := "moneyConvert", fn := fun _ => fun
  | [d1, d2] => { results := [.lit (.bool false)], args := [d1, d2] }
  | _ => none }
def MoneyConvertWrongFalsely : Prop := moneyConvertRow.holds Tryd.pinned (OpenSpec.ofChange moneyConvertWrong)

/-- 'tallystonelaw04.MoneyPortion': WHATEVER THE INPUT: true; the input reads as it did. -/
def moneyPortionSpec : ChangeSpec := { name := "moneyPortion", fn := fun _ => fun
  | [d1, d2, d3] => { results := [.lit (.bool true)], args := [d1, d2, d3] }
  | _ => none }
def moneyPortionRow : OpenClaim := { program := "ythndbonfcdphgaadoor", sum := "f94794be1197371158b7d83618962e42b05314108cb52068c3fb70f72424b844", func := "tallystone/tallystonelaw04.MoneyPortion", spec := "moneyPortion", recurses := true, named := ["internal/strconv.uint64pow10", "math/bits.deBruijn32tab", "math/bits.deBruijn64tab"], apart := false, laid := [("math/bits.deBruijn32tab", laid_math_bits_deBruijn32tab), ("math/bits.deBruijn64tab", laid_math_bits_deBruijn64tab), ("internal/strconv.uint64pow10", laid_internal_strconv_uint64pow10)] }
def MoneyPortionSaid : Prop := moneyPortionRow.holds Tryd.pinned (OpenSpec.ofChange moneyPortionSpec)

/-- ITS FALSE NEIGHBOUR: 'it returns false'. Refute it at one input. -/
def moneyPortionWrong : ChangeSpec := { name := "moneyPortion", fn := fun _ => fun
  | [d1, d2, d3] => { results := [.lit (.bool false)], args := [d1, d2, d3] }
  | _ => none }
def MoneyPortionWrongFalsely : Prop := moneyPortionRow.holds Tryd.pinned (OpenSpec.ofChange moneyPortionWrong)

/-- 'tallystonelaw04.MoneyNearest': WHATEVER THE INPUT: true; the input reads as it did. -/
def moneyNearestSpec : ChangeSpec := { name := "moneyNearest", fn := fun _ => fun
  | [d1, d2, d3] => { results := [.lit (.bool true)], args := [d1, d2, d3] }
  | _ => none }
def moneyNearestRow : OpenClaim := { program := "ythndbonfcdphgaadoor", sum := "f94794be1197371158b7d83618962e42b05314108cb52068c3fb70f72424b844", func := "tallystone/tallystonelaw04.MoneyNearest", spec := "moneyNearest", named := ["internal/strconv.uint64pow10", "math/bits.deBruijn32tab", "math/bits.deBruijn64tab"], apart := false, laid := [("math/bits.deBruijn32tab", laid_math_bits_deBruijn32tab), ("math/bits.deBruijn64tab", laid_math_bits_deBruijn64tab), ("internal/strconv.uint64pow10", laid_internal_strconv_uint64pow10)] }
def MoneyNearestSaid : Prop := moneyNearestRow.holds Tryd.pinned (OpenSpec.ofChange moneyNearestSpec)

/-- ITS FALSE NEIGHBOUR: 'it returns false'. Refute it at one input. -/
def moneyNearestWrong : ChangeSpec := { name := "moneyNearest", fn := fun _ => fun
  | [d1, d2, d3] => { results := [.lit (.bool false)], args := [d1, d2, d3] }
  | _ => none }
def MoneyNearestWrongFalsely : Prop := moneyNearestRow.holds Tryd.pinned (OpenSpec.ofChange moneyNearestWrong)

/-- 'tallystonelaw04.MoneyMonotonic': WHATEVER THE INPUT: true; the input reads as it did. -/
def moneyMonotonicSpec : ChangeSpec := { name := "moneyMonotonic", fn := fun _ => fun
  | [d1, d2, d3] => { results := [.lit (.bool true)], args := [d1, d2, d3] }
  | _ => none }
def moneyMonotonicRow : OpenClaim := { program := "ythndbonfcdphgaadoor", sum := "f94794be1197371158b7d83618962e42b05314108cb52068c3fb70f72424b844", func := "tallystone/tallystonelaw04.MoneyMonotonic", spec := "moneyMonotonic", named := ["internal/strconv.uint64pow10", "math/bits.deBruijn32tab", "math/bits.deBruijn64tab"], apart := false, laid := [("math/bits.deBruijn32tab", laid_math_bits_deBruijn32tab), ("math/bits.deBruijn64tab", laid_math_bits_deBruijn64tab), ("internal/strconv.uint64pow10", laid_internal_strconv_uint64pow10)] }
def MoneyMonotonicSaid : Prop := moneyMonotonicRow.holds Tryd.pinned (OpenSpec.ofChange moneyMonotonicSpec)

/-- ITS FALSE NEIGHBOUR: 'it returns false'. Refute it at one input. -/
def moneyMonotonicWrong : ChangeSpec := { name := "moneyMonotonic", fn := fun _ => fun
  | [d1, d2, d3] => { results := [.lit (.bool false)], args := [d1, d2, d3] }
  | _ => none }
def MoneyMonotonicWrongFalsely : Prop := moneyMonotonicRow.holds Tryd.pinned (OpenSpec.ofChange moneyMonotonicWrong)

/-- 'tallystonelaw04.MoneyText': WHATEVER THE INPUT: true; the input reads as it did. -/
def moneyTextSpec : ChangeSpec := { name := "moneyText", fn := fun _ => fun
  | [d] => { results := [.lit (.bool true)], args := [d] }
  | _ => none }
def moneyTextRow : OpenClaim := { program := "ythndbonfcdphgaadoor", sum := "f94794be1197371158b7d83618962e42b05314108cb52068c3fb70f72424b844", func := "tallystone/tallystonelaw04.MoneyText", spec := "moneyText", inPlace := ["internal/bytealg.IndexByteString", "internal/bytealg.IndexString"], recurses := true, named := ["internal/strconv.uint64pow10", "math/bits.deBruijn32tab", "math/bits.deBruijn64tab", "internal/bytealg.MaxLen", "unicode/utf8.first", "unicode/utf8.acceptRanges", "strconv.ErrSyntax", "strconv.ErrRange"], apart := false, laid := [("math/bits.deBruijn32tab", laid_math_bits_deBruijn32tab), ("math/bits.deBruijn64tab", laid_math_bits_deBruijn64tab), ("internal/strconv.uint64pow10", laid_internal_strconv_uint64pow10), ("unicode/utf8.acceptRanges", laid_unicode_utf8_acceptRanges), ("strconv.ErrRange", laid_strconv_ErrRange), ("strconv.ErrSyntax", laid_strconv_ErrSyntax), ("unicode/utf8.first", laid_unicode_utf8_first)] }
def MoneyTextSaid : Prop := moneyTextRow.holds Tryd.pinned (OpenSpec.ofChange moneyTextSpec)

/-- ITS FALSE NEIGHBOUR: 'it returns false'. Refute it at one input. -/
def moneyTextWrong : ChangeSpec := { name := "moneyText", fn := fun _ => fun
  | [d] => { results := [.lit (.bool false)], args := [d] }
  | _ => none }
def MoneyTextWrongFalsely : Prop := moneyTextRow.holds Tryd.pinned (OpenSpec.ofChange moneyTextWrong)

/-- 'tallystonelaw04.MoneyParse': WHATEVER THE INPUT: true; the input reads as it did. -/
def moneyParseSpec : ChangeSpec := { name := "moneyParse", fn := fun _ => fun
  | [d] => { results := [.lit (.bool true)], args := [d] }
  | _ => none }
def moneyParseRow : OpenClaim := { program := "ythndbonfcdphgaadoor", sum := "f94794be1197371158b7d83618962e42b05314108cb52068c3fb70f72424b844", func := "tallystone/tallystonelaw04.MoneyParse", spec := "moneyParse", inPlace := ["internal/bytealg.IndexByteString", "internal/bytealg.IndexString"], named := ["internal/strconv.uint64pow10", "math/bits.deBruijn32tab", "math/bits.deBruijn64tab", "internal/bytealg.MaxLen", "unicode/utf8.first", "unicode/utf8.acceptRanges", "strconv.ErrSyntax", "strconv.ErrRange"], apart := false, laid := [("math/bits.deBruijn32tab", laid_math_bits_deBruijn32tab), ("math/bits.deBruijn64tab", laid_math_bits_deBruijn64tab), ("internal/strconv.uint64pow10", laid_internal_strconv_uint64pow10), ("unicode/utf8.acceptRanges", laid_unicode_utf8_acceptRanges), ("strconv.ErrRange", laid_strconv_ErrRange), ("strconv.ErrSyntax", laid_strconv_ErrSyntax), ("unicode/utf8.first", laid_unicode_utf8_first)] }
def MoneyParseSaid : Prop := moneyParseRow.holds Tryd.pinned (OpenSpec.ofChange moneyParseSpec)

/-- ITS FALSE NEIGHBOUR: 'it returns false'. Refute it at one input. -/
def moneyParseWrong : ChangeSpec := { name := "moneyParse", fn := fun _ => fun
  | [d] => { results := [.lit (.bool false)], args := [d] }
  | _ => none }
def MoneyParseWrongFalsely : Prop := moneyParseRow.holds Tryd.pinned (OpenSpec.ofChange moneyParseWrong)

/-- 'tallystonelaw03.DecimalParse': WHATEVER THE INPUT: true; the input reads as it did. -/
def decimalParseSpec : ChangeSpec := { name := "decimalParse", fn := fun _ => fun
  | [d1, d2] => { results := [.lit (.bool true)], args := [d1, d2] }
  | _ => none }
def decimalParseRow : OpenClaim := { program := "ythndbonfcdphgaadoor", sum := "f94794be1197371158b7d83618962e42b05314108cb52068c3fb70f72424b844", func := "tallystone/tallystonelaw03.DecimalParse", spec := "decimalParse", inPlace := ["internal/abi.NoEscape", "internal/bytealg.MakeNoZero", "internal/bytealg.IndexByteString", "internal/bytealg.IndexString"], unfollowed := true, recurses := true, named := ["internal/strconv.uint64pow10", "math/bits.deBruijn32tab", "math/bits.deBruijn64tab", "internal/bytealg.MaxLen", "unicode/utf8.first", "unicode/utf8.acceptRanges", "strconv.ErrSyntax", "strconv.ErrRange"], apart := false, laid := [("math/bits.deBruijn32tab", laid_math_bits_deBruijn32tab), ("math/bits.deBruijn64tab", laid_math_bits_deBruijn64tab), ("internal/strconv.uint64pow10", laid_internal_strconv_uint64pow10), ("unicode/utf8.acceptRanges", laid_unicode_utf8_acceptRanges), ("strconv.ErrRange", laid_strconv_ErrRange), ("strconv.ErrSyntax", laid_strconv_ErrSyntax), ("unicode/utf8.first", laid_unicode_utf8_first)] }
def DecimalParseSaid : Prop := decimalParseRow.holds Tryd.pinned (OpenSpec.ofChange decimalParseSpec)

/-- ITS FALSE NEIGHBOUR: 'it returns false'. Refute it at one input. -/
def decimalParseWrong : ChangeSpec := { name := "decimalParse", fn := fun _ => fun
  | [d1, d2] => { results := [.lit (.bool false)], args := [d1, d2] }
  | _ => none }
def DecimalParseWrongFalsely : Prop := decimalParseRow.holds Tryd.pinned (OpenSpec.ofChange decimalParseWrong)

/- THE SECOND FORM. 'bulk': how many values and letters a reading holds, each counted each time it is reached (what is shared counts as often as it is met; a slice's spare places count too). A statement '..UptoSaid' is the law's where the arguments, and the package variables that the reading takes, are together of bulk at most 1048576: NARROWER than '..Said'. Prove '..Said' where nothing that the law and all that it calls make is longer than what came in: it says more and counts as full. Else prove '..UptoSaid'. A law counts once. -/
mutual
def uptoBulk {H : Type} : DataW H → Nat
  | .lit (.string bytes) => bytes.length + 1
  | .lit _ => 1
  | .nil => 1
  | .ptr d => uptoBulk d + 1
  | .slice elems spare => uptoBulkAll elems + uptoBulkAll spare + 1
  | .agg parts => uptoBulkAll parts + 1
  | .iface _ d => uptoBulk d + 1
  | .map entries => uptoBulkEntries entries + 1
  | .held _ => 1
def uptoBulkAll {H : Type} : List (DataW H) → Nat
  | [] => 0
  | d :: r => uptoBulk d + uptoBulkAll r
def uptoBulkEntries {H : Type} : List (Lit × DataW H) → Nat
  | [] => 0
  | x :: r => uptoBulkEntry x + uptoBulkEntries r
def uptoBulkEntry {H : Type} : Lit × DataW H → Nat
  | (.string bytes, d) => bytes.length + uptoBulk d + 1
  | (_, d) => uptoBulk d + 1
 end
def uptoSmall : (H : Type) → List (DataW H) → Bool := fun _ ds => decide (uptoBulkAll ds ≤ 1048576)
def OpenSpec.upto (s : _root_.Go.ChangeSpec) : _root_.Go.OpenSpec := { _root_.Go.OpenSpec.ofChange s with cond := some uptoSmall }

/-- 'tallystonelaw04.MoneyAdd', WHERE WHAT IT READS IS OF BULK AT MOST 1048576: true; the input reads as it did. -/
def moneyAddUptoRow : OpenClaim := { program := "ythndbonfcdphgaadoor", sum := "f94794be1197371158b7d83618962e42b05314108cb52068c3fb70f72424b844", func := "tallystone/tallystonelaw04.MoneyAdd", spec := "moneyAdd", named := ["internal/strconv.uint64pow10", "math/bits.deBruijn32tab", "math/bits.deBruijn64tab"], apart := false, laid := [("math/bits.deBruijn32tab", laid_math_bits_deBruijn32tab), ("math/bits.deBruijn64tab", laid_math_bits_deBruijn64tab), ("internal/strconv.uint64pow10", laid_internal_strconv_uint64pow10)], narrowed := true }
def MoneyAddUptoSaid : Prop := moneyAddUptoRow.holds Tryd.pinned (OpenSpec.upto moneyAddSpec)

/-- 'tallystonelaw04.MoneySum', WHERE WHAT IT READS IS OF BULK AT MOST 1048576: true; the input reads as it did. -/
def moneySumUptoRow : OpenClaim := { program := "ythndbonfcdphgaadoor", sum := "f94794be1197371158b7d83618962e42b05314108cb52068c3fb70f72424b844", func := "tallystone/tallystonelaw04.MoneySum", spec := "moneySum", named := ["internal/strconv.uint64pow10", "math/bits.deBruijn32tab", "math/bits.deBruijn64tab"], apart := false, laid := [("math/bits.deBruijn32tab", laid_math_bits_deBruijn32tab), ("math/bits.deBruijn64tab", laid_math_bits_deBruijn64tab), ("internal/strconv.uint64pow10", laid_internal_strconv_uint64pow10)], narrowed := true }
def MoneySumUptoSaid : Prop := moneySumUptoRow.holds Tryd.pinned (OpenSpec.upto moneySumSpec)

/-- 'tallystonelaw04.MoneyConvert', WHERE WHAT IT READS IS OF BULK AT MOST 1048576: true; the input reads as it did. -/
def moneyConvertUptoRow : OpenClaim := { program := "ythndbonfcdphgaadoor", sum := "f94794be1197371158b7d83618962e42b05314108cb52068c3fb70f72424b844", func := "tallystone/tallystonelaw04.MoneyConvert", spec := "moneyConvert", recurses := true, named := ["internal/strconv.uint64pow10", "math/bits.deBruijn32tab", "math/bits.deBruijn64tab"], apart := false, laid := [("math/bits.deBruijn32tab", laid_math_bits_deBruijn32tab), ("math/bits.deBruijn64tab", laid_math_bits_deBruijn64tab), ("internal/strconv.uint64pow10", laid_internal_strconv_uint64pow10)], narrowed := true }
def MoneyConvertUptoSaid : Prop := moneyConvertUptoRow.holds Tryd.pinned (OpenSpec.upto moneyConvertSpec)

/-- 'tallystonelaw04.MoneyPortion', WHERE WHAT IT READS IS OF BULK AT MOST 1048576: true; the input reads as it did. -/
def moneyPortionUptoRow : OpenClaim := { program := "ythndbonfcdphgaadoor", sum := "f94794be1197371158b7d83618962e42b05314108cb52068c3fb70f72424b844", func := "tallystone/tallystonelaw04.MoneyPortion", spec := "moneyPortion", recurses := true, named := ["internal/strconv.uint64pow10", "math/bits.deBruijn32tab", "math/bits.deBruijn64tab"], apart := false, laid := [("math/bits.deBruijn32tab", laid_math_bits_deBruijn32tab), ("math/bits.deBruijn64tab", laid_math_bits_deBruijn64tab), ("internal/strconv.uint64pow10", laid_internal_strconv_uint64pow10)], narrowed := true }
def MoneyPortionUptoSaid : Prop := moneyPortionUptoRow.holds Tryd.pinned (OpenSpec.upto moneyPortionSpec)

/-- 'tallystonelaw04.MoneyNearest', WHERE WHAT IT READS IS OF BULK AT MOST 1048576: true; the input reads as it did. -/
def moneyNearestUptoRow : OpenClaim := { program := "ythndbonfcdphgaadoor", sum := "f94794be1197371158b7d83618962e42b05314108cb52068c3fb70f72424b844", func := "tallystone/tallystonelaw04.MoneyNearest", spec := "moneyNearest", named := ["internal/strconv.uint64pow10", "math/bits.deBruijn32tab", "math/bits.deBruijn64tab"], apart := false, laid := [("math/bits.deBruijn32tab", laid_math_bits_deBruijn32tab), ("math/bits.deBruijn64tab", laid_math_bits_deBruijn64tab), ("internal/strconv.uint64pow10", laid_internal_strconv_uint64pow10)], narrowed := true }
def MoneyNearestUptoSaid : Prop := moneyNearestUptoRow.holds Tryd.pinned (OpenSpec.upto moneyNearestSpec)

/-- 'tallystonelaw04.MoneyMonotonic', WHERE WHAT IT READS IS OF BULK AT MOST 1048576: true; the input reads as it did. -/
def moneyMonotonicUptoRow : OpenClaim := { program := "ythndbonfcdphgaadoor", sum := "f94794be1197371158b7d83618962e42b05314108cb52068c3fb70f72424b844", func := "tallystone/tallystonelaw04.MoneyMonotonic", spec := "moneyMonotonic", named := ["internal/strconv.uint64pow10", "math/bits.deBruijn32tab", "math/bits.deBruijn64tab"], apart := false, laid := [("math/bits.deBruijn32tab", laid_math_bits_deBruijn32tab), ("math/bits.deBruijn64tab", laid_math_bits_deBruijn64tab), ("internal/strconv.uint64pow10", laid_internal_strconv_uint64pow10)], narrowed := true }
def MoneyMonotonicUptoSaid : Prop := moneyMonotonicUptoRow.holds Tryd.pinned (OpenSpec.upto moneyMonotonicSpec)

/-- 'tallystonelaw04.MoneyText', WHERE WHAT IT READS IS OF BULK AT MOST 1048576: true; the input reads as it did. -/
def moneyTextUptoRow : OpenClaim := { program := "ythndbonfcdphgaadoor", sum := "f94794be1197371158b7d83618962e42b05314108cb52068c3fb70f72424b844", func := "tallystone/tallystonelaw04.MoneyText", spec := "moneyText", inPlace := ["internal/bytealg.IndexByteString", "internal/bytealg.IndexString"], recurses := true, named := ["internal/strconv.uint64pow10", "math/bits.deBruijn32tab", "math/bits.deBruijn64tab", "internal/bytealg.MaxLen", "unicode/utf8.first", "unicode/utf8.acceptRanges", "strconv.ErrSyntax", "strconv.ErrRange"], apart := false, laid := [("math/bits.deBruijn32tab", laid_math_bits_deBruijn32tab), ("math/bits.deBruijn64tab", laid_math_bits_deBruijn64tab), ("internal/strconv.uint64pow10", laid_internal_strconv_uint64pow10), ("unicode/utf8.acceptRanges", laid_unicode_utf8_acceptRanges), ("strconv.ErrRange", laid_strconv_ErrRange), ("strconv.ErrSyntax", laid_strconv_ErrSyntax), ("unicode/utf8.first", laid_unicode_utf8_first)], narrowed := true }
def MoneyTextUptoSaid : Prop := moneyTextUptoRow.holds Tryd.pinned (OpenSpec.upto moneyTextSpec)

/-- 'tallystonelaw04.MoneyParse', WHERE WHAT IT READS IS OF BULK AT MOST 1048576: true; the input reads as it did. -/
def moneyParseUptoRow : OpenClaim := { program := "ythndbonfcdphgaadoor", sum := "f94794be1197371158b7d83618962e42b05314108cb52068c3fb70f72424b844", func := "tallystone/tallystonelaw04.MoneyParse", spec := "moneyParse", inPlace := ["internal/bytealg.IndexByteString", "internal/bytealg.IndexString"], named := ["internal/strconv.uint64pow10", "math/bits.deBruijn32tab", "math/bits.deBruijn64tab", "internal/bytealg.MaxLen", "unicode/utf8.first", "unicode/utf8.acceptRanges", "strconv.ErrSyntax", "strconv.ErrRange"], apart := false, laid := [("math/bits.deBruijn32tab", laid_math_bits_deBruijn32tab), ("math/bits.deBruijn64tab", laid_math_bits_deBruijn64tab), ("internal/strconv.uint64pow10", laid_internal_strconv_uint64pow10), ("unicode/utf8.acceptRanges", laid_unicode_utf8_acceptRanges), ("strconv.ErrRange", laid_strconv_ErrRange), ("strconv.ErrSyntax", laid_strconv_ErrSyntax), ("unicode/utf8.first", laid_unicode_utf8_first)], narrowed := true }
def MoneyParseUptoSaid : Prop := moneyParseUptoRow.holds Tryd.pinned (OpenSpec.upto moneyParseSpec)

/-- 'tallystonelaw03.DecimalParse', WHERE WHAT IT READS IS OF BULK AT MOST 1048576: true; the input reads as it did. -/
def decimalParseUptoRow : OpenClaim := { program := "ythndbonfcdphgaadoor", sum := "f94794be1197371158b7d83618962e42b05314108cb52068c3fb70f72424b844", func := "tallystone/tallystonelaw03.DecimalParse", spec := "decimalParse", inPlace := ["internal/abi.NoEscape", "internal/bytealg.MakeNoZero", "internal/bytealg.IndexByteString", "internal/bytealg.IndexString"], unfollowed := true, recurses := true, named := ["internal/strconv.uint64pow10", "math/bits.deBruijn32tab", "math/bits.deBruijn64tab", "internal/bytealg.MaxLen", "unicode/utf8.first", "unicode/utf8.acceptRanges", "strconv.ErrSyntax", "strconv.ErrRange"], apart := false, laid := [("math/bits.deBruijn32tab", laid_math_bits_deBruijn32tab), ("math/bits.deBruijn64tab", laid_math_bits_deBruijn64tab), ("internal/strconv.uint64pow10", laid_internal_strconv_uint64pow10), ("unicode/utf8.acceptRanges", laid_unicode_utf8_acceptRanges), ("strconv.ErrRange", laid_strconv_ErrRange), ("strconv.ErrSyntax", laid_strconv_ErrSyntax), ("unicode/utf8.first", laid_unicode_utf8_first)], narrowed := true }
def DecimalParseUptoSaid : Prop := decimalParseUptoRow.holds Tryd.pinned (OpenSpec.upto decimalParseSpec)

end Rows
end Go.Proofs.YthndbonfcdphgaaDoor
