/- Contracts and the law of AllocateRunning, part 1: what was proved of each, callees first. -/
import Derived.Deep.QuietTactic
import Derived.BigQuiet
import Derived.Outline
import Derived.Laws.AppendOwnNone
import Derived.OwnWalk
import Derived.Deep.RegionLawGrows
import Derived.Handed
import Derived.ProofKit
import Derived.ChangeSlices
import Derived.OpenShut
import Derived.Carry
import Derived.Test.YtocojbkhdijjeaaI2
namespace Go.Proofs.Ytocojbkhdijjeaa
theorem amtB_neg (n : Int) : amtB (-n) = amtB n := by
 unfold amtB
 rw [Bool.eq_iff_iff]
 simp only [Bool.and_eq_true, decide_eq_true_eq]
 omega
theorem hr_ref {a b : Int} (h0 : 0 ≤ a) (hb : 0 < b) : hr a b = if b - a % b ≤ a % b then a / b + 1 else a / b := by
 rw [hr_tdiv hb, Int.tdiv_eq_ediv_of_nonneg h0, Int.tmod_eq_emod_of_nonneg h0]
 have h2 : 0 ≤ a % b := Int.emod_nonneg _ (by omega)
 by_cases h : b ≤ 2 * (a % b)
 ·rw [if_pos h, if_pos (by omega)]
 ·rw [if_neg h, if_neg (show ¬ 2 * (a % b) ≤ -b by omega), if_neg (by omega)]
open Go.RowKit
theorem rmvalid_any (n : Int) (w : World) : Calls Try.prog 24 #[.int .i64 n] w fun e w' => e = .returned (.bool (amtB n)) ∧ w = w' := by
 unfold amtB
 by_cases h1 : (-1000000000000 : Int) ≤ n
 ·by_cases h2 : n ≤ 1000000000000
  ·rw [decide_eq_true h1, decide_eq_true h2]
   go_enter Try.func24, Try.ntmps24
   go_wp2
   go_ret
   exact ⟨rfl, rfl⟩
  ·rw [decide_eq_true h1, decide_eq_false h2]
   have h3 : decide (n ≤ 1000000000000) = false := decide_eq_false h2
   clear h2
   go_enter Try.func24, Try.ntmps24
   go_wp2
   go_ret
   exact ⟨rfl, rfl⟩
 ·rw [decide_eq_false h1]
  have h3 : decide ((-1000000000000 : Int) ≤ n) = false := decide_eq_false h1
  clear h1
  go_enter Try.func24, Try.ntmps24
  go_wp2
  go_ret
  exact ⟨rfl, rfl⟩
theorem checked_any (n : Int) (w : World) : Calls Try.prog 36 #[.int .i64 n] w fun e w' => e = .returned (.tuple #[.int .i64 (amV n), .int .i64 (amE n)]) ∧ w = w' := by
 unfold amV amE
 cases h : amtB n
 all_goals
  have HV := fun w => rmvalid_any n w
  rw [h] at HV
  have H := Lib.hid HV
  clear HV
  go_enter Try.func36, Try.ntmps36
  go_wp2_with (go_at_call 24; refine (H.out _).mono ?_; rintro e w' ⟨rfl, rfl⟩)
  go_ret2
  exact ⟨rfl, rfl⟩
theorem numB_is {m : Int} (h : numB m = true) : 0 ≤ m ∧ m ≤ 1000000000000 := by simpa [numB] using h
theorem mrround_pos (a b : Int) (w : World) (ha1 : 0 ≤ a) (ha2 : a ≤ 1000000000000000000) (hb1 : 1 ≤ b) (hb2 : b ≤ 1000000) : Calls Try.prog 37 #[.int .i64 a, .int .i64 b] w fun e w' => e = .returned (.int .i64 (hr a b)) ∧ Below w.heap.size w w' := by
 rw [hr_ref ha1 (by omega)]
 have m1 : 0 ≤ a % b := Int.emod_nonneg _ (by omega)
 have m2 : a % b < b := Int.emod_lt_of_pos _ (by omega)
 have q1 : 0 ≤ a / b := Int.ediv_nonneg ha1 (by omega)
 have q2 : a / b ≤ a := Int.ediv_le_self _ ha1
 have hb0 : ¬ b = 0 := by omega
 have ha0 : decide (a < 0) = false := decide_eq_false (by omega)
 obtain ⟨q, hq⟩ : ∃ q, a / b = q := ⟨_, rfl⟩
 obtain ⟨r, hmd0⟩ : ∃ r, a % b = r := ⟨_, rfl⟩
 have hdv : IntKind.i64.wrap (a.tdiv b) = q := by rw [Int.tdiv_eq_ediv_of_nonneg ha1, IntKind.wrap_i64]; omega
 have hmd : a.tmod b = r := by rw [Int.tmod_eq_emod_of_nonneg ha1]; exact hmd0
 rw [hq, hmd0]
 rw [hq] at q1 q2
 rw [hmd0] at m1 m2
 clear hq hmd0
 have hB := Below.refl w.heap.size w
 by_cases h1 : b - r ≤ r
 ·rw [if_pos h1]
  go_enter Try.func37, Try.ntmps37
  go_wp2_with fail
  go_quiet (fail)
  replace hB := below_drewN hB nq
  go_wp2_with fail
  go_ret
  exact ⟨rfl, hB⟩
 ·rw [if_neg h1]
  have h1' : decide (b - r ≤ r) = false := decide_eq_false h1
  go_enter Try.func37, Try.ntmps37
  go_wp2_with fail
  go_quiet (fail)
  replace hB := below_drewN hB nq
  go_wp2_with fail
  go_ret
  exact ⟨rfl, hB⟩
theorem mrround_any (a b : Int) (w : World) (ha : -1000000000000000000 ≤ a ∧ a ≤ 1000000000000000000) (hb : 1 ≤ b ∧ b ≤ 1000000) : Calls Try.prog 37 #[.int .i64 a, .int .i64 b] w fun e w' => e = .returned (.int .i64 (hr a b)) ∧ Below w.heap.size w w' := by
 obtain ⟨ha1, ha2⟩ := ha
 obtain ⟨hb1, hb2⟩ := hb
 by_cases h0 : a < 0
 ·obtain ⟨c, rfl⟩ : ∃ c, a = -c := ⟨-a, by omega⟩
  have hR := fun w => mrround_pos c b w (by omega) (by omega) hb1 hb2
  have hb9 := hr_le (a := c) (b := b) (n := 1000000000000000000) (by omega) (by omega) (by omega)
  rw [hr_neg (by omega)]
  obtain ⟨x1, x2⟩ := hb9
  generalize hr c b = X at *
  have HR := Lib.hid hR
  clear hR
  have hB := Below.refl w.heap.size w
  go_enter Try.func37, Try.ntmps37
  go_wp2_with (go_at_call 37; refine (HR.out _).mono ?_; rintro e w' ⟨rfl, hb⟩; replace hB := below_more hB hb; clear hb)
  go_ret
  exact ⟨rfl, hB⟩
 ·exact mrround_pos a b w (by omega) ha2 hb1 hb2
theorem far_ref {n num den : Int} (h1 : 0 < n) (hnum : 0 ≤ num) (hden : 0 < den) (h : 1000000000000 / n < num / den) : 1000000000000 < hr (n * num) den := by
 have hq : 0 < num / den := by have : 0 ≤ (1000000000000 : Int) / n := Int.ediv_nonneg (by omega) (by omega); omega
 have h2 : 1000000000000 < num / den * n := (Int.ediv_lt_iff_lt_mul h1).1 h
 have h3 : (1000000000000 : Int) / (num / den) < n := (Int.ediv_lt_iff_lt_mul hq).2 (by rw [Int.mul_comm]; exact h2)
 have := hr_far (n := n) hnum hden (show (0 : Int) ≤ 1000000000000 by omega) hq (by omega)
 have h5 := (hr_near0 (a := n * num) (b := den) (Int.mul_nonneg (by omega) hnum) hden).2.2
 omega
theorem near_ref {n num den : Int} (h1 : 0 < n) (hnum : 0 ≤ num) (hden : 0 < den) (h : ¬ 1000000000000 / n < num / den) : 0 ≤ n * (num / den) ∧ n * (num / den) ≤ 1000000000000 := by
 have h4 : 0 ≤ num / den := Int.ediv_nonneg hnum (by omega)
 have h2 : num / den * n ≤ 1000000000000 := (Int.le_ediv_iff_mul_le h1).1 (by omega)
 rw [Int.mul_comm] at h2
 exact ⟨Int.mul_nonneg (by omega) h4, h2⟩
set_option maxHeartbeats 1600000 in
theorem mrport_ok (n num den : Int) (w : World) (hn : amtB n = true) (hn0 : 0 ≤ n) (hN : numB num = true) (hD : denB den = true) : Calls Try.prog 25 #[.int .i64 n, .int .i64 num, .int .i64 den] w fun e w' => e = .returned (.tuple #[.int .i64 (amV (hr (n * num) den)), .int .i64 (amE (hr (n * num) den))]) ∧ Below w.heap.size w w' := by
 obtain ⟨c1, c2⟩ := numB_is hN
 obtain ⟨d1, d2⟩ := denB_is hD
 obtain ⟨q, r, nr, R, e1, e2, e3, e4, e5, ⟨a1, a2⟩, ⟨a3, a4⟩, ⟨a5, a6⟩, a7, a8⟩ := mult_in hn ⟨c1, c2⟩ ⟨d1, d2⟩
 obtain ⟨n1, n2⟩ := amtB_is hn
 have hV := fun w => rmvalid_any n w
 rw [hn] at hV
 have HV := Lib.hid hV
 have g0 : decide (n < 0) = false := decide_eq_false (by omega)
 have g1 : decide (num < 0) = false := decide_eq_false (by omega)
 have g2 : decide (1000000000000 < num) = false := decide_eq_false (by omega)
 have g3 : decide (den < 1) = false := decide_eq_false (by omega)
 have g4 : decide (1000000 < den) = false := decide_eq_false (by omega)
 have hb0 : ¬ den = 0 := by omega
 have hdv : IntKind.i64.wrap (num.tdiv den) = q := by rw [Int.tdiv_eq_ediv_of_nonneg (by omega), IntKind.wrap_i64]; omega
 have hmd : num.tmod den = r := by rw [Int.tmod_eq_emod_of_nonneg (by omega)]; exact e2
 have hfar := fun h1 => far_ref (n := n) h1 c1 (show 0 < den by omega)
 have hnear := fun h1 => near_ref (n := n) h1 c1 (show 0 < den by omega)
 rw [e1] at hfar hnear
 have hB := Below.refl w.heap.size w
 by_cases hp : 0 < n
 ·have hn9 : ¬ n = 0 := by omega
  obtain ⟨m, hm⟩ : ∃ m, 1000000000000 / n = m := ⟨_, rfl⟩
  have m1 : 0 ≤ m := by rw [← hm]; exact Int.ediv_nonneg (by omega) (by omega)
  have m2 : m ≤ 1000000000000 := by rw [← hm]; exact Int.ediv_le_self _ (by omega)
  have hdm : IntKind.i64.wrap ((1000000000000 : Int).tdiv n) = m := by rw [Int.tdiv_eq_ediv_of_nonneg (by omega), IntKind.wrap_i64]; omega
  rw [hm] at hfar hnear
  by_cases hf : m < q
  ·have hno : amtB (hr (n * num) den) = false := amtB_no (.inr (hfar hp hf))
   unfold amV amE
   rw [hno]
   clear e5 hfar hnear hm e1 e2 e3 e4 hV
   go_enter Try.func25, Try.ntmps25
   go_wp2_with (go_at_call 24; refine (HV.out _).mono ?_; rintro e w' ⟨rfl, rfl⟩)
   go_quiet (fail)
   replace hB := below_drewN hB nq
   generalize World.drewN _ nq = W1 at *
   go_wp2_with fail
   go_ret2
   exact ⟨rfl, hB⟩
  ·have hf' : decide (m < q) = false := decide_eq_false hf
   obtain ⟨p1, p2⟩ := hnear hp hf
   have hR := fun w => mrround_any nr den w ⟨a5, a6⟩ ⟨d1, d2⟩
   rw [e4] at hR
   have hM := fun w => checked_any (n * q + R) w
   rw [← e5] at hM
   obtain ⟨V, hVV⟩ : ∃ V, hr (n * num) den = V := ⟨_, rfl⟩
   obtain ⟨Q, hQ⟩ : ∃ Q, n * q = Q := ⟨_, rfl⟩
   rw [hVV, hQ] at e5
   rw [hVV] at hM ⊢
   rw [hQ] at p1 p2
   have hE : Q + R = V := e5.symm
   have HM := Lib.hid hM
   have HR := Lib.hid hR
   clear hM hR e5 hfar hnear hm hVV e1 e2 e4 hf hV
   go_enter Try.func25, Try.ntmps25
   go_wp2_with (go_at_call 24; refine (HV.out _).mono ?_; rintro e w' ⟨rfl, rfl⟩)
   go_quiet (fail)
   replace hB := below_drewN hB nq
   generalize World.drewN _ nq = W1 at *
   go_wp2_with (first | (go_at_call 37; refine (HR.out _).mono ?_; rintro e w' ⟨rfl, hb⟩; replace hB := below_more hB hb; clear hb) | (go_at_call 36; refine (HM.out _).mono ?_; rintro e w' ⟨rfl, rfl⟩))
   go_ret2
   exact ⟨rfl, hB⟩
 ·obtain rfl : n = 0 := by omega
  obtain rfl : nr = 0 := by rw [← e3, Int.zero_mul]
  obtain rfl : R = 0 := by rw [← e4]; exact hr_zero (by omega)
  have e6 : hr (0 * num) den = 0 := by rw [Int.zero_mul]; exact hr_zero (by omega)
  have hR := fun w => mrround_any 0 den w ⟨a5, a6⟩ ⟨d1, d2⟩
  rw [e4] at hR
  have hM := fun w => checked_any 0 w
  rw [e6]
  have HM := Lib.hid hM
  have HR := Lib.hid hR
  clear hM hR e5 e6 hfar hnear e1 e2 e3 e4 hV hp g0
  go_enter Try.func25, Try.ntmps25
  go_wp2_with (go_at_call 24; refine (HV.out _).mono ?_; rintro e w' ⟨rfl, rfl⟩)
  go_quiet (fail)
  replace hB := below_drewN hB nq
  generalize World.drewN _ nq = W1 at *
  go_wp2_with (first | (go_at_call 37; refine (HR.out _).mono ?_; rintro e w' ⟨rfl, hb⟩; replace hB := below_more hB hb; clear hb) | (go_at_call 36; refine (HM.out _).mono ?_; rintro e w' ⟨rfl, rfl⟩))
  go_ret2
  exact ⟨rfl, hB⟩
theorem amV_neg (x : Int) : amV (-x) = -amV x := by
 unfold amV; rw [amtB_neg]; split <;> simp
theorem amE_neg (x : Int) : amE (-x) = amE x := by unfold amE; rw [amtB_neg]
theorem amV_bd (x : Int) : -1000000000000 ≤ amV x ∧ amV x ≤ 1000000000000 := by
 unfold amV
 by_cases h : amtB x = true
 ·rw [if_pos h]; exact amtB_is h
 ·rw [if_neg h]; omega
theorem mrportion_any (n num den : Int) (w : World) : Calls Try.prog 25 #[.int .i64 n, .int .i64 num, .int .i64 den] w fun e w' => e = .returned (.tuple #[.int .i64 (portV n num den), .int .i64 (portE n num den)]) ∧ Below w.heap.size w w' := by
 have hB := Below.refl w.heap.size w
 have hV := fun w => rmvalid_any n w
 unfold portV portE portB
 cases h0 : amtB n
 ·rw [h0] at hV
  have HV := Lib.hid hV
  clear hV
  go_enter Try.func25, Try.ntmps25
  go_wp2_with (go_at_call 24; refine (HV.out _).mono ?_; rintro e w' ⟨rfl, rfl⟩)
  go_ret2
  exact ⟨rfl, hB⟩
 ·rw [h0] at hV
  have HV := Lib.hid hV
  clear hV
  cases hN : numB num
  ·unfold numB at hN
   by_cases h1 : num < 0
   ·clear hN
    go_enter Try.func25, Try.ntmps25
    go_wp2_with (go_at_call 24; refine (HV.out _).mono ?_; rintro e w' ⟨rfl, rfl⟩)
    go_ret2
    exact ⟨rfl, hB⟩
   ·have h1' : decide (num < 0) = false := decide_eq_false h1
    have h2 : 1000000000000 < num := by
     rw [decide_eq_true (show 0 ≤ num by omega), Bool.true_and] at hN
     have := of_decide_eq_false hN
     omega
    clear hN h1
    go_enter Try.func25, Try.ntmps25
    go_wp2_with (go_at_call 24; refine (HV.out _).mono ?_; rintro e w' ⟨rfl, rfl⟩)
    go_ret2
    exact ⟨rfl, hB⟩
  ·obtain ⟨c1, c2⟩ := numB_is hN
   have h1' : decide (num < 0) = false := decide_eq_false (by omega)
   have h2' : decide (1000000000000 < num) = false := decide_eq_false (by omega)
   cases hD : denB den
   ·unfold denB at hD
    by_cases h3 : den < 1
    ·clear hD
     go_enter Try.func25, Try.ntmps25
     go_wp2_with (go_at_call 24; refine (HV.out _).mono ?_; rintro e w' ⟨rfl, rfl⟩)
     go_ret2
     exact ⟨rfl, hB⟩
    ·have h3' : decide (den < 1) = false := decide_eq_false h3
     have h4 : 1000000 < den := by
      rw [decide_eq_true (show 1 ≤ den by omega), Bool.true_and] at hD
      have := of_decide_eq_false hD
      omega
     clear hD h3
     go_enter Try.func25, Try.ntmps25
     go_wp2_with (go_at_call 24; refine (HV.out _).mono ?_; rintro e w' ⟨rfl, rfl⟩)
     go_ret2
     exact ⟨rfl, hB⟩
   ·by_cases hneg : n < 0
    ·obtain ⟨d1, d2⟩ := denB_is hD
     have h3' : decide (den < 1) = false := decide_eq_false (by omega)
     have h4' : decide (1000000 < den) = false := decide_eq_false (by omega)
     obtain ⟨c, rfl⟩ : ∃ c, n = -c := ⟨-n, by omega⟩
     rw [amtB_neg] at h0
     have hP := fun w => mrport_ok c num den w h0 (by omega) hN hD
     obtain ⟨n1, n2⟩ := amtB_is h0
     rw [Int.neg_mul, hr_neg (by omega), amV_neg, amE_neg]
     obtain ⟨v1, v2⟩ := amV_bd (hr (c * num) den)
     generalize amV (hr (c * num) den) = V at *
     generalize amE (hr (c * num) den) = E at *
     have HP := Lib.hid hP
     clear hP hD hN h0
     go_enter Try.func25, Try.ntmps25
     go_wp2_with (first | (go_at_call 24; refine (HV.out _).mono ?_; rintro e w' ⟨rfl, rfl⟩) | (go_at_call 25; refine (HP.out _).mono ?_; rintro e w' ⟨rfl, hb⟩; replace hB := below_more hB hb; clear hb))
     go_ret2
     exact ⟨rfl, hB⟩
    ·exact mrport_ok n num den w h0 (by omega) hN hD
def OwnI (k : IntKind) (e : TypeId) (w : World) (base : Nat) (v : Value) (L : List Int) : Prop := w.ownsRow base e 1 v L.length (L.map fun d => Value.int k d)
section
variable {k : IntKind} {e : TypeId} {w w' : World} {base B : Nat} {v : Value} {A : Option Addr} {L M zs : List Int}
theorem OwnI.nil : OwnI k e w base (.slice none 0 0) [] := World.ownsRow_nil _ _ _ _
theorem OwnI.up (h : OwnI k e w base v L) (hb : Below w.heap.size w w') : OwnI k e w' base v L := by
 obtain ⟨h1, h2⟩ := h
 refine ⟨h1, ?_⟩
 rcases h2 with h2 | ⟨g, cap, cur, rfl, hbg, hg, rest⟩
 ·exact .inl h2
 ·have hlt : g < w.heap.size := by
   rcases Nat.lt_or_ge g w.heap.size with hlt | hge
   ·exact hlt
   ·rw [Array.getElem?_eq_none hge] at hg; cases hg
  exact .inr ⟨g, cap, cur, rfl, hbg, (hb.block g hlt).trans hg, rest⟩
theorem OwnI.ints (h : OwnI k e w base v L) : ∃ A c, v = .slice A L.length c ∧ IntsAt k w A L := by
 obtain ⟨h1, h2⟩ := h
 rcases h2 with ⟨rfl, h0⟩ | ⟨g, cap, cur, rfl, hbg, hg, hn, hcap, hsz, hcur⟩
 ·obtain rfl : L = [] := List.eq_nil_of_length_eq_zero h0
  exact ⟨none, 0, rfl, IntsAt.nil⟩
 ·refine ⟨_, cap, rfl, fun _ => ⟨g, 0, rfl, ?_, fun j hj => ?_⟩⟩
  ·rcases Nat.lt_or_ge g w.heap.size with hlt | hge
   ·exact hlt
   ·rw [Array.getElem?_eq_none hge] at hg; cases hg
  ·have h3 : cur.toList[j]? = some (Value.int k (L.getD j 0)) := by
    have : (cur.toList.take (L.length * 1))[j]? = some (Value.int k (L.getD j 0)) := by
     rw [hcur, List.getElem?_map, List.getElem?_eq_getElem hj, List.getD_eq_getElem?_getD, List.getElem?_eq_getElem hj]; rfl
    rw [List.getElem?_take] at this
    split at this
    ·exact this
    ·cases this
   simp only [World.cell?, hg, Nat.zero_add]
   simpa using h3
end
theorem wpList_append_int {P : Program} (w : World) {ops : Array Oper} {rest : List Oper} {o : Oper} {a : Act} {Q : Exit → Act → World → Prop} (hgd : o.guard = none) (s x : Operand) (t : TypeId)
  (ho : o.op = .call { callee := .builtin .append, args := #[s, x], argTypes := #[t, t] })
  (k : IntKind) (base : Nat) (e : TypeId) (i : TypeInfo) (bytes : Nat) (ht : P.underlying t = some (.slice e)) (hi : P.info? e = some i) (hz : i.zero = some (.int k 0))
  (hsize : i.size = 1) (hby : i.bytes = bytes) (hb8 : bytes ≤ 8)
  (v : Value) (L : List Int) (hs : a.eval s = v) (hown : OwnI k e w base v L) (X : Int) (c : Nat) (hx : a.eval x = .slice (some ⟨w.heap.size, 0, none⟩) 1 c)
  (hlen : L.length ≤ 100000000) (hbase : base ≤ w.heap.size)
  (h : ∀ v' w', Hid (OwnI k e w' base v' (L ++ [X])) → Below base w w' → wpList P ops Q rest (a.put o.dst v') w') : wpList P ops Q (o :: rest) a (w.alloc (.cells #[.int k X] e)) := by
 refine wpList_append_own (w.alloc (.cells #[.int k X] e)) hgd s x t ho base e i (.int k 0) 1 bytes ht hi hz hsize hby rfl (by decide) v L.length (L.map fun d => Value.int k d) hs (World.ownsRow.alloc hown _)
  ⟨w.heap.size, 0, none⟩ 1 c [.int k X] hx rfl ?_ ?_ ?_ ?_ ?_ ?_
 ·intro j u hj
  match j, hj with
  | 0, hj =>
   simp at hj; subst hj
   unfold World.cell? Addr.add
   rw [if_pos rfl]
   dsimp only
   rw [heap_alloc_new]
   rfl
 ·intro u hu; simp at hu; subst hu; rfl
 ·unfold maxLen; omega
 ·have : (L.length + 1) * bytes ≤ (L.length + 1) * 8 := Nat.mul_le_mul_left _ hb8
  omega
 ·simp; omega
 ·intro v' w' h1 h2 _
  refine h v' w' ?_ ?_
  ·show World.ownsRow _ _ _ _ _ _ _
   rw [List.length_append, List.map_append]
   exact h1
  ·refine ((Below.refl base w).alloc hbase _).grown h2 (by simp; omega) (fun j hj => ?_)
   exact (World.ownsRow.lt hown j hj).1
open Go.RowKit
theorem take_snoc (L : List Int) (k : Nat) (h : k < L.length) : L.take (k + 1) = L.take k ++ [L.getD k 0] := by
 rw [List.take_succ_eq_append_getElem h, List.getD_eq_getElem?_getD, List.getElem?_eq_getElem h]; rfl
theorem SlC.slr {w : World} {v : Value} {L : List Int} (h : SlC w v L) : SlR w v L := by
 obtain ⟨A, c, e, _, h⟩ := h
 exact ⟨A, c, e, h⟩
theorem running_any (A : Option Addr) (c : Nat) (l : List Int) (num den : Int) (w : World) (hz : IntsAt .i64 w A l) (hl : l.length ≤ 1000) :
  Calls Try.prog 12 #[.slice A l.length c, .int .i64 num, .int .i64 den] w fun e w' => ∃ v, e = .returned (.tuple #[v, .int .i64 (runE l num den)]) ∧ SlR w' v (runL l num den) ∧ Below w.heap.size w w' := by
 refine (running_cap A c l num den w hz hl).mono ?_
 rintro e w' ⟨v, h1, h2, h3⟩
 exact ⟨v, h1, h2.slr, h3⟩
set_option maxRecDepth 20000 in
set_option maxHeartbeats 3200000 in
theorem rrunning_any (A : Option Addr) (c : Nat) (l : List Int) (num den : Int) (w : World) (hz : IntsAt .i64 w A l) (hl : l.length ≤ 1000) :
  Calls Try.prog 13 #[.slice A l.length c, .int .i64 num, .int .i64 den] w fun e w' => ∃ v, e = .returned (.tuple #[v, .int .i64 (runE l num den)]) ∧ SlR w' v (runL l num den) ∧ Below w.heap.size w w' := by
 have hB := Below.refl w.heap.size w
 have hPo := fun n w => mrportion_any n num den w
 have hbad0 : l.all amtB = false → runE l num den = 1 := fun h => by unfold runE rargB; rw [h]; rfl
 have hbadL : runE l num den ≠ 0 → runL l num den = [] := fun h => by unfold runL; rw [if_neg h]
 obtain ⟨n, hn⟩ : ∃ n, l.length = n := ⟨_, rfl⟩
 rw [hn] at hl ⊢
 obtain ⟨s0, hs0⟩ : ∃ s0, w.heap.size = s0 := ⟨_, rfl⟩
 have HS0 := Lib.hid hs0
 have HZ := Lib.hid hz
 have HN := Lib.hid hn
 have HPO := Lib.hid hPo
 have HB0 := Lib.hid hbad0
 have HBL := Lib.hid hbadL
 rw [hs0] at hB
 clear hz hn hPo hbad0 hbadL hs0
 obtain ⟨i0, hi, hz0, hz1, hz2⟩ := info_parts infoI_int
 go_enter Try.func13, Try.ntmps13
 go_wp2_with fail
 go_loopg [8] n (fun kx s8 wr => ∃ k : Nat, s8 = .int .i64 k ∧ k ≤ n ∧ n - k ≤ kx ∧ Hid ((l.take k).all amtB = true) ∧ wr = w)
 case atStart => exact ⟨0, rfl, by omega, by omega, Lib.hid (by simp), rfl⟩
 case round =>
  obtain ⟨k, rfl, hk, hkx, HA, rfl⟩ := hrel
  by_cases hlt : k < n
  ·have hltz : (k : Int) < (n : Int) := by omega
   obtain ⟨b, off, rfl, hbw, hcs⟩ := HZ.out (by rw [HN.out]; omega)
   have hc := hcs k (by rw [HN.out]; exact hlt)
   have hV := fun w => rmvalid_any (l.getD k 0) w
   obtain ⟨x, hx⟩ : ∃ x, l.getD k 0 = x := ⟨_, rfl⟩
   rw [hx] at hc hV
   cases hok : amtB x
   ·rw [hok] at hV
    have HV := Lib.hid hV
    have hE := HB0.out (all_false_at (by rw [HN.out]; exact hlt) (by rw [hx]; exact hok))
    have HE := Lib.hid hE
    have HL := Lib.hid (HBL.out (by rw [hE]; decide))
    clear hV hok hx hcs hE
    go_wp2_with (go_at_call 24; refine (HV.out _).mono ?_; rintro e w' ⟨rfl, rfl⟩)
    go_ret2
    exact ⟨_, by rw [HE.out]; rfl, by rw [HL.out]; exact SlR.nil, by rw [HS0.out]; exact hB⟩
   ·rw [hok] at hV
    have HV := Lib.hid hV
    have HA2 : Hid ((l.take (k + 1)).all amtB = true) := Lib.hid (by rw [take_all1 l k (by rw [HN.out]; exact hlt), HA.out, hx, hok]; rfl)
    clear hV hok hx hcs
    go_wp2_with (go_at_call 24; refine (HV.out _).mono ?_; rintro e w' ⟨rfl, rfl⟩)
    go_roundg (n - (k + 1))
    case measure => omega
    case rel => exact ⟨k + 1, by go_num, by omega, by omega, HA2, rfl⟩
  ·have hkn : k = n := by omega
   have hltz : ¬ (k : Int) < (n : Int) := by omega
   have hall : l.all amtB = true := by have := HA.out; rwa [List.take_of_length_le (by rw [HN.out]; omega)] at this
   have hP0 := fun w => HPO.out 0 w
   by_cases hnd : (numB num && denB den) = true
   ·have hN : numB num = true := by simp at hnd; exact hnd.1
    have hD : denB den = true := by simp at hnd; exact hnd.2
    have hr0 : hr (0 * num) den = 0 := by rw [Int.zero_mul]; exact hr_zero (by have := denB_is hD; omega)
    have e1 : portE 0 num den = 0 := by unfold portE portB; rw [hnd, hr0]; rfl
    have e2 : portV 0 num den = 0 := by unfold portV portB; rw [hnd, hr0]; rfl
    rw [e1, e2] at hP0
    have harg : rargB l num den = true := by unfold rargB; rw [hall, hnd]; rfl
    have hbad := fun k h1 h2 => run_bad (k := k) harg h1 h2
    have hgood := run_good harg
    have hLD : runE l num den = 0 → runL l num den = runD l num den := fun h => by unfold runL; rw [if_pos h]
    rw [HN.out] at hbad hgood
    have HP := Lib.hid hP0
    have HBAD := Lib.hid hbad
    have HGOOD := Lib.hid hgood
    have HLD := Lib.hid hLD
    have HDL : Hid ((runD l num den).length = n) := Lib.hid (by rw [runD_len]; exact HN.out)
    have HALL := Lib.hid hall
    have HNUM := Lib.hid hN
    have HDEN := Lib.hid hD
    have HP0 := Lib.hid (rpor_zero (l := l) (num := num) hD)
    clear hP0 hr0 hnd hN hD e1 e2 hall hbad hgood hLD harg HA
    go_wp2_with (go_at_call 25; refine (HP.out _).mono ?_; rintro e w1 ⟨rfl, hb⟩; replace hB := hB.trans (hb.mono (by rw [HS0.out]; exact Nat.le_refl _)); clear hb)
    have hO : Hid (OwnI .i64 3 w1 s0 (.slice none 0 0) ((runD l num den).take 0)) := Lib.hid OwnI.nil
    go_loopg [9, 11, 12, 13, 14, 15] n (fun kx s9 s11 s12 s13 s14 s15 wq => ∃ k : Nat, s9 = .int .i64 (rpor l num den k) ∧ s12 = .int .i64 (rsum l k) ∧ s13 = .int .i64 k ∧ k ≤ n ∧ n - k ≤ kx ∧ Hid (∀ j, j < k → rokB l num den (j + 1) = true) ∧ Hid (amtB (rsum l k) = true ∧ amtB (rpor l num den k) = true) ∧ Hid (OwnI .i64 3 wq s0 s11 ((runD l num den).take k)) ∧ Below s0 wr wq)
    case atStart => exact ⟨0, by rw [HP0.out], by rw [rsum_zero], rfl, by omega, by omega, Lib.hid (fun j h => by omega), Lib.hid (by rw [rsum_zero, HP0.out]; exact ⟨by decide, by decide⟩), hO, hB⟩
    case round =>
     clear hO hB
     rename World => w0
     obtain ⟨k, rfl, rfl, rfl, hk, hkx, HR, HSP, hO, hB⟩ := hrel
     have hsz : s0 ≤ w0.heap.size := by have := hB.size; have := HS0.out; omega
     by_cases hlt2 : k < n
     ·have hltz2 : (k : Int) < (n : Int) := by omega
      obtain ⟨b, off, rfl, hbw, hcs⟩ := HZ.out (by rw [HN.out]; omega)
      have hc := (hB.cell (p := ⟨b, off + k, none⟩) (by have := HS0.out; show b < s0; omega)).trans (hcs k (by rw [HN.out]; exact hlt2))
      have hx1 := all_take HALL.out (show k < l.length by rw [HN.out]; exact hlt2)
      have hsn := rsum_next (l := l) (k := k) (by rw [HN.out]; exact hlt2)
      have hDk := runD_at (l := l) (num := num) (den := den) (k := k) (by rw [HN.out]; exact hlt2)
      have hpn : rpor l num den (k + 1) = hr (rsum l (k + 1) * num) den := rfl
      have hrk9 : rokB l num den (k + 1) = (amtB (rsum l (k + 1)) && amtB (rpor l num den (k + 1))) := rfl
      have hbd := HBAD.out k hlt2
      have htk := take_snoc (runD l num den) k (by rw [HDL.out]; exact hlt2)
      have htl : Hid (((runD l num den).take k).length ≤ 100000000) := Lib.hid (by rw [List.length_take]; omega)
      have hsa := HSP.out.1
      have hpa := HSP.out.2
      have HRN : Hid (rokB l num den (k + 1) = true → ∀ j, j < k + 1 → rokB l num den (j + 1) = true) := Lib.hid (fun h j hj => by
       by_cases e : j = k
       ·subst e; exact h
       ·exact HR.out j (by omega))
      rw [hDk] at htk
      rw [hpn] at hrk9 htk
      rw [hsn] at hrk9 htk
      have HPN : Hid (rpor l num den (k + 1) = hr (rsum l (k + 1) * num) den) := Lib.hid hpn
      obtain ⟨x, hx⟩ : ∃ x, l.getD k 0 = x := ⟨_, rfl⟩
      rw [hx] at hc hrk9 htk hsn hx1
      have HSN := Lib.hid hsn
      obtain ⟨S, hS⟩ : ∃ S, rsum l k = S := ⟨_, rfl⟩
      obtain ⟨P, hP⟩ : ∃ P, rpor l num den k = P := ⟨_, rfl⟩
      rw [hS] at hsa hrk9 htk ⊢
      rw [hP] at hpa htk ⊢
      have HSS := Lib.hid hS
      obtain ⟨s1, s2⟩ := amtB_is hsa
      obtain ⟨x1, x2⟩ := amtB_is hx1
      obtain ⟨p1, p2⟩ := amtB_is hpa
      obtain ⟨T, hT⟩ : ∃ T, S + x = T := ⟨_, rfl⟩
      rw [hT] at hrk9 htk
      have HT := Lib.hid hT.symm
      have t1 : -2000000000000 ≤ T := by omega
      have t2 : T ≤ 2000000000000 := by omega
      have hV := fun w => rmvalid_any T w
      have hQ := fun w => HPO.out T w
      cases ht : amtB T
      ·rw [ht] at hV hrk9
       have hE := hbd (by rw [hrk9]; rfl)
       have HE := Lib.hid hE
       have HL := Lib.hid (HBL.out (by rw [hE]; decide))
       have HV := Lib.hid hV
       clear hV hQ hE hrk9 htk hsn hDk hpn hbd hx hcs hx1 hsa hpa hS hP ht
       go_wp2_with (go_at_call 24; refine (HV.out _).mono ?_; rintro e w' ⟨rfl, rfl⟩)
       go_ret2
       exact ⟨_, by rw [HE.out]; rfl, by rw [HL.out]; exact SlR.nil, by rw [HS0.out]; exact hB⟩
      ·rw [ht] at hV hrk9
       have hpb : portB T num den = true := by unfold portB; rw [ht, HNUM.out, HDEN.out]; rfl
       have e5 : portV T num den = amV (hr (T * num) den) := by unfold portV; rw [if_pos hpb]
       have e6 : portE T num den = amE (hr (T * num) den) := by unfold portE; rw [if_pos hpb]
       rw [e5, e6] at hQ
       obtain ⟨P2, hP2⟩ : ∃ P2, hr (T * num) den = P2 := ⟨_, rfl⟩
       rw [hP2] at hQ hrk9 htk
       have HPP : Hid (rpor l num den (k + 1) = P2) := Lib.hid (by rw [HPN.out, HSN.out, HSS.out, ← HT.out, hP2])
       have HSS2 : Hid (rsum l (k + 1) = T) := Lib.hid (by rw [HSN.out, HSS.out, ← HT.out])
       cases hq : amtB P2
       ·rw [hq] at hrk9
        have e7 : amV P2 = 0 := by unfold amV; rw [hq]; rfl
        have e8 : amE P2 = 2 := by unfold amE; rw [hq]; rfl
        rw [e7, e8] at hQ
        have hE := hbd (by rw [hrk9]; rfl)
        have HE := Lib.hid hE
        have HL := Lib.hid (HBL.out (by rw [hE]; decide))
        have HV := Lib.hid hV
        have HQ := Lib.hid hQ
        clear hV hQ hE hrk9 htk hsn hDk hpn hbd hx hcs hx1 hsa hpa hS hP ht hq hpb e5 e6 e7 e8 hP2
        go_wp2_with (first
         | (go_at_call 24; refine (HV.out _).mono ?_; rintro e w' ⟨rfl, rfl⟩)
         | (go_at_call 25; refine (HQ.out _).mono ?_; rintro e w2 ⟨rfl, hb⟩; replace hB := hB.trans (hb.mono hsz); clear hb))
        go_ret2
        exact ⟨_, by rw [HE.out]; rfl, by rw [HL.out]; exact SlR.nil, by rw [HS0.out]; exact hB⟩
       ·rw [hq] at hrk9
        have e7 : amV P2 = P2 := by unfold amV; rw [hq]; rfl
        have e8 : amE P2 = 0 := by unfold amE; rw [hq]; rfl
        rw [e7, e8] at hQ
        obtain ⟨p3, p4⟩ := amtB_is hq
        have HR2 := Lib.hid (HRN.out (by rw [hrk9]; rfl))
        have HSP2 : Hid (amtB (rsum l (k + 1)) = true ∧ amtB (rpor l num den (k + 1)) = true) := Lib.hid (by rw [HSS2.out, HPP.out]; exact ⟨ht, hq⟩)
        have HV := Lib.hid hV
        have HQ := Lib.hid hQ
        have HTK : Hid ((runD l num den).take k ++ [P2 - P] = (runD l num den).take (k + 1)) := Lib.hid htk.symm
        clear hV hQ hrk9 htk hsn hDk hpn hbd hx hcs hx1 hsa hpa hS hP ht hq hpb e5 e6 e7 e8 hP2
        go_wp2_with (first
         | (go_at_call 24; refine (HV.out _).mono ?_; rintro e w' ⟨rfl, rfl⟩)
         | (go_at_call 25; refine (HQ.out _).mono ?_; rintro e w2 ⟨rfl, hb⟩; have hO2 := Lib.hid (hO.out.up hb); have hsz2 : s0 ≤ w2.heap.size := Nat.le_trans hsz hb.size; replace hB := hB.trans (hb.mono hsz); clear hb)
         | (at_builtin; refine wpList_append_int w2 rfl (.tmp 62) (.tmp 66) 22 rfl .i64 s0 3 i0 8 Try.underlying22 hi hz0 hz1 hz2 (by omega) u11 _ (by rfl) hO2.out (P2 - P) 1 rfl htl.out hsz2 ?_; intro v3 w3 ho3 hb3; replace ho3 := ho3.out; rw [HTK.out] at ho3; replace ho3 := Lib.hid ho3; replace hB := hB.trans hb3; clear hb3))
        go_roundg (n - (k + 1))
        case measure => omega
        case rel => exact ⟨k + 1, by rw [HPP.out], by rw [HSS2.out], by go_num, by omega, by omega, HR2, HSP2, ho3, hB⟩
     ·have hkn2 : k = n := by omega
      have hltz2 : ¬ (k : Int) < (n : Int) := by omega
      have hE := HGOOD.out fun j hj => HR.out j (by have : j < n := hj; omega)
      have HE : Hid (runE l num den = 0) := Lib.hid hE
      have HL : Hid (runL l num den = runD l num den) := Lib.hid (HLD.out hE)
      have hO2 := hO.out
      rw [List.take_of_length_le (by rw [HDL.out]; omega)] at hO2
      obtain ⟨A9, c9, ev9, hI9⟩ := hO2.ints
      have HI9 := Lib.hid hI9
      have HE9 := Lib.hid ev9
      clear hE hO2 hO ev9 hI9
      go_wp2_with fail
      go_ret2
      exact ⟨_, by rw [HE.out]; rfl, by rw [HL.out]; exact ⟨A9, c9, HE9.out, HI9.out⟩, by rw [HS0.out]; exact hB⟩
   ·have hp : portB 0 num den = false := by
     unfold portB
     cases h : (numB num && denB den)
     ·simp
     ·exact absurd h hnd
    have e1 : portE 0 num den = 1 := by unfold portE; rw [hp]; rfl
    have e2 : portV 0 num den = 0 := by unfold portV; rw [hp]; rfl
    have hE : runE l num den = 1 := by
     unfold runE rargB
     cases h : (numB num && denB den)
     ·simp
     ·exact absurd h hnd
    rw [e1, e2] at hP0
    have HE := Lib.hid hE
    have HL := Lib.hid (HBL.out (by rw [hE]; decide))
    have HP := Lib.hid hP0
    clear hP0 hnd e1 e2 hE hp hall HA
    go_wp2_with (go_at_call 25; refine (HP.out _).mono ?_; rintro e w1 ⟨rfl, hb⟩; replace hB := hB.trans (hb.mono (by rw [HS0.out]; exact Nat.le_refl _)); clear hb)
    go_ret2
    exact ⟨_, by rw [HE.out]; rfl, by rw [HL.out]; exact SlR.nil, by rw [HS0.out]; exact hB⟩
theorem step_append_new {P : Program} {ops : Array Oper} {o : Oper} {a : Act} {tm : Array Value} {w : World} {K : Act → World → Prop} {Q : Exit → Act → World → Prop} {E : Prop} (hgd : o.guard = none) (s x : Operand) (t : TypeId)
  (ho : o.op = .call { callee := .builtin .append, args := #[s, x], argTypes := #[t, t] })
  (e : TypeId) (i : TypeInfo) (bytes : Nat) (ht : P.underlying t = some (.slice e)) (hi : P.info? e = some i) (hz : i.zero = some (.int .i64 0))
  (hsize : i.size = 1) (hby : i.bytes = bytes) (hb8 : bytes ≤ 8)
  (g : Nat) (hs : a.eval s = .slice (some ⟨g, 0, none⟩) 0 0) (A : Option Addr) (m c : Nat) (M : List Int) (hm : M.length = m) (hx : a.eval x = .slice A m c) (hR : IntsAt .i64 w A M)
  (hlen : m ≤ 100000000) (h : ∀ v' w', SlR w' v' M → Below w.heap.size w w' → K (a.put o.dst v') w') : if Region.wanted o (yielded ops tm) = true then Oper.wp P o a w K Q else E := by
 have hw1 : ∀ y, Region.wanted o y = true := fun y => by simp [Region.wanted, hgd]
 suffices h9 : (if Region.wanted o (yielded ops a.tmps) = true then Oper.wp P o a w K Q else E) by
  rw [if_pos (hw1 _)] at h9 ⊢
  exact h9
 subst hm
 rcases Nat.eq_zero_or_pos M.length with h0 | h0
 ·have hM : M = [] := List.eq_nil_of_length_eq_zero h0
  subst hM
  have hw : Region.wanted o (yielded ops a.tmps) = true := by simp [Region.wanted, hgd]
  rw [if_pos hw]
  have hrun : (Builtin.append_ #[t, t] o.type #[.slice (some ⟨g, 0, none⟩) 0 0, .slice A 0 c]).run P w = .ok (.slice (some ⟨g, 0, none⟩) 0 0) w := by
   cases A <;> simp [Builtin.append_, run_underlying ht, sizeOf, typeInfo, hi, Builtin.lenOf, Builtin.firstCells, storeCells, loadCells, loadCellsFrom]
  unfold Oper.wp
  simp only [List.length_nil] at hx
  simp [execOp, ho, resolve, invoke, builtin, hs, hx, hrun, Result.andThen]
  exact h _ w ⟨_, _, rfl, IntsAt.nil⟩ (Below.refl _ _)
 ·obtain ⟨b, off, rfl, hbw, hcs⟩ := hR.at h0
  have hbb := Nat.mul_le_mul_left M.length hb8
  refine step_append_grows hgd s x t ho e i (.int .i64 0) 1 bytes ht hi hz hsize hby rfl (by decide) (some ⟨g, 0, none⟩) 0 0 [] hs (by simp) (by simp) (by simp) ⟨b, off, none⟩ M.length c (M.map fun d => Value.int .i64 d) hx (by simp) ?_ ?_ (by omega) (by unfold maxLen; omega) (by rw [Nat.zero_add]; omega) ?_
  ·intro j u hj
   have hjl : j < M.length := by
    rcases Nat.lt_or_ge j M.length with h1 | h1
    ·exact h1
    ·rw [List.getElem?_eq_none (by simpa using h1)] at hj; cases hj
   have h3 : u = .int .i64 (M.getD j 0) := by
    rw [List.getElem?_map, List.getElem?_eq_getElem hjl] at hj
    simp at hj
    rw [← hj, List.getD_eq_getElem?_getD, List.getElem?_eq_getElem hjl]; rfl
   rw [h3, ← hcs j hjl]
   unfold Addr.add
   split
   ·rename_i h0; subst h0; simp
   ·rfl
  ·intro u hu
   obtain ⟨d, _, rfl⟩ := List.mem_map.1 hu
   rfl
  ·intro v' w' h1 h2
   have h3 : OwnI .i64 e w' w.heap.size v' M := by
    show World.ownsRow _ _ _ _ _ _ _
    simpa using h1
   obtain ⟨A', c', e1, h4⟩ := h3.ints
   exact h v' w' ⟨A', c', e1, h4⟩ ((Below.refl w.heap.size w).grown h2 (Nat.le_refl _) (by simp))
theorem SlR.keep {w w' : World} {v : Value} {L : List Int} (h : SlR w v L) (hk : AS.Keep w w') : SlR w' v L := by
 obtain ⟨A, c, e, h⟩ := h
 refine ⟨A, c, e, fun h0 => ?_⟩
 obtain ⟨b, off, e, hlt, hc⟩ := h h0
 exact ⟨b, off, e, Nat.lt_of_lt_of_le hlt hk.size, fun i hi => (hk.cell hlt (hc i hi)).trans (hc i hi)⟩
def RNo (W : World) : Nat → List Value → World → Prop := fun _ _ w => Below W.heap.size W w
theorem RNo.st (W : World) : ∀ k l w w', Below w.heap.size w w' → RNo W k l w → RNo W k l w' := fun _ _ _ _ hb h => below_more h hb
def ruI (x : Value) : AS.Fact := ⟨fun v _ => v = x, fun _ _ _ _ h => h⟩
def ruB : AS.Fact := ⟨fun v _ => ∃ g, v = .slice (some ⟨g, 0, none⟩) 0 0, fun _ _ _ _ h => h⟩
def ruR (L : List Int) : AS.Fact := ⟨fun v w => SlR w v L, fun _ _ _ hb h => h.keep hb⟩
def ruT (E : Int) (L : List Int) : AS.Fact := ⟨fun v w => ∃ s, v = .tuple #[s, .int .i64 E] ∧ SlR w s L, fun _ _ _ hb ⟨s, e, h⟩ => ⟨s, e, h.keep hb⟩⟩
def ruFL (A : Option Addr) (n c B : Nat) (num den E : Int) (l L : List Int) : List (Nat × AS.Fact) := [(15, ruB), (16, ruI (.slice A n c)), (17, ruR l), (18, ruI (.pointer (some ⟨B, 0, none⟩))), (19, ruI (.int .i64 num)), (20, ruI (.pointer (some ⟨B, 1, none⟩))), (21, ruI (.int .i64 den)), (22, ruT E L), (14, ruT E L), (23, ruR L), (24, ruI (.int .i64 E)), (5, ruR L), (6, ruI (.int .i64 E))]
theorem new_two (w : World) (a b : Int) (t : TypeId) : IB (w.alloc (.cells #[.int .i64 a, .int .i64 b] t)) w.heap.size [a, b] := IB.mk ⟨t, by rw [heap_alloc_new]; rfl⟩
set_option maxRecDepth 20000 in
set_option maxHeartbeats 1600000 in
theorem alrun_short (A : Option Addr) (c : Nat) (l : List Int) (num den : Int) (w : World) (hz : IntsAt .i64 w A l) (hl : l.length ≤ 200) :
  Calls Try.prog 3 #[.slice A l.length c, .agg #[.int .i64 num, .int .i64 den]] w fun e w' => e = .returned (.bool true) ∧ Below w.heap.size w w' := by
 have hr1 := fun A c w h => running_any A c l num den w h (by omega)
 have hr2 := fun w h => rrunning_any A c l num den w h (by omega)
 have hl9 : (runL l num den).length ≤ 9223372036854775807 := by
  unfold runL; split
  ·rw [runD_len]; omega
  ·simp
 have hM := fun A B c d w h1 h2 => rsame_any A B c d (runL l num den) (runL l num den) w h1 h2 hl9
 have e3 : decide (runL l num den = runL l num den) = true := by simp
 rw [e3] at hM
 have hEE : (runE l num den == runE l num den) = true := by simp
 obtain ⟨n, hn⟩ : ∃ n, l.length = n := ⟨_, rfl⟩
 rw [hn] at hl hr1 hr2 ⊢
 obtain ⟨m, hm⟩ : ∃ m, (runL l num den).length = m := ⟨_, rfl⟩
 rw [hm] at hM
 generalize runL l num den = L at *
 generalize runE l num den = E at *
 have h3 : decide ((200 : Int) < (n : Int)) = false := decide_eq_false (by omega)
 have HZ := Lib.hid hz
 have HN := Lib.hid hn
 have HMM := Lib.hid hm
 have HR1 := Lib.hid hr1
 have HR2 := Lib.hid hr2
 have HM := Lib.hid hM
 clear hz hn hr1 hr2 hM e3 hl9 hm
 obtain ⟨i0, hi, hz0, hz1, hz2⟩ := info_parts infoI_int
 go_enter Try.func3, Try.ntmps3
 go_upto_region 5 with (go_at_call 11; refine (alAwake_any _).mono ?_; rintro e w1 ⟨rfl, hb⟩; have hI := Lib.hid ((new_two w num den 24).more hb); have hB9 := ((Below.refl w.heap.size w).alloc (Nat.le_refl _) (Obj.cells #[.int .i64 num, .int .i64 den] 24)).trans (hb.mono (by simp)); clear hb)
 refine AS.region_facts (ruFL A n c w.heap.size num den E l L) (RNo w1) [[], [], [15, 16], [], [18], [], [20], [17, 19, 21], [22], [14], [14], [23], [24]] [] [[]] [0, 0, 0, 0, 0, 0, 0, 0, 0, 0, 0, 0, 0] [] (fun u => by simp only [ruFL, AS.temps, List.map_cons, List.map_nil, fillL, List.setIfInBounds_toArray, List.set_cons_zero, List.set_cons_succ]; rfl) (by kernel_rfl) (by kernel_rfl) (RNo.st w1) (dc_drew (Below.refl _ _)) ?_ ?_
 ·refine AS.sc rfl rfl rfl ?_ ?_
  ·intro k_ u w_ hk_ hJ hF K hK
   clear hF
   go_simp
   exact hK.out _ _ (below_alloc_new _) (⟨_, rfl⟩) trivial
  refine AS.sc rfl rfl rfl ?_ ?_
  ·intro k_ u w_ hk_ hJ hF K hK
   clear hF
   go_simp
   exact hK.out _ _ (Below.refl _ _) (rfl) trivial
  refine AS.sc rfl rfl rfl ?_ ?_
  ·intro k_ u w_ hk_ hJ hF K hK
   have h15 : ∃ g, u 15 = .slice (some ⟨g, 0, none⟩) 0 0 := AS.facts_get hF 15 (by simp)
   have h16 : u 16 = .slice A n c := AS.facts_get hF 16 (by simp)
   have hJ0 : Below w1.heap.size w1 w_ := hJ
   clear hF
   obtain ⟨g, h15⟩ := h15
   simp only [h15, h16] at hK ⊢
   clear h15 h16
   refine step_append_new ?_ (.tmp 15) (.tmp 16) 22 ?_ 3 i0 8 ?_ ?_ ?_ ?_ ?_ ?_ g ?_ A n c l ?_ ?_ ?_ ?_ ?_
   iterate 2 exact rfl
   exact Try.underlying22
   exact hi
   exact hz0
   exact hz1
   exact hz2
   omega
   exact rfl
   exact HN.out
   exact rfl
   exact HZ.out.up (hB9.trans (hJ0.mono hB9.size))
   omega
   intro v w5 h5 hb
   exact hK.out _ _ hb h5 trivial
  refine AS.sc rfl rfl rfl ?_ ?_
  ·intro k_ u w_ hk_ hJ hF K hK
   clear hF
   go_simp
   exact hK.out _ _ (Below.refl _ _) (rfl) trivial
  refine AS.sc rfl rfl rfl ?_ ?_
  ·intro k_ u w_ hk_ hJ hF K hK
   have h18 : u 18 = .pointer (some ⟨w.heap.size, 0, none⟩) := AS.facts_get hF 18 (by simp)
   have hJ0 : Below w1.heap.size w1 w_ := hJ
   clear hF
   simp only [h18] at hK ⊢
   clear h18
   have c0 := (hI.out.more hJ0).cell 0 (by simp)
   go_simp
   exact hK.out _ _ (Below.refl _ _) (rfl) trivial
  refine AS.sc rfl rfl rfl ?_ ?_
  ·intro k_ u w_ hk_ hJ hF K hK
   clear hF
   go_simp
   exact hK.out _ _ (Below.refl _ _) (rfl) trivial
  refine AS.sc rfl rfl rfl ?_ ?_
  ·intro k_ u w_ hk_ hJ hF K hK
   have h20 : u 20 = .pointer (some ⟨w.heap.size, 1, none⟩) := AS.facts_get hF 20 (by simp)
   have hJ0 : Below w1.heap.size w1 w_ := hJ
   clear hF
   simp only [h20] at hK ⊢
   clear h20
   have c1 := (hI.out.more hJ0).cell 1 (by simp)
   go_simp
   exact hK.out _ _ (Below.refl _ _) (rfl) trivial
  refine AS.sc rfl rfl rfl ?_ ?_
  ·intro k_ u w_ hk_ hJ hF K hK
   have h17 : SlR w_ (u 17) l := AS.facts_get hF 17 (by simp)
   have h19 : u 19 = .int .i64 num := AS.facts_get hF 19 (by simp)
   have h21 : u 21 = .int .i64 den := AS.facts_get hF 21 (by simp)
   have hJ0 : Below w1.heap.size w1 w_ := hJ
   clear hF
   obtain ⟨A5, c5, e5, h5⟩ := h17
   rw [HN.out] at e5
   simp only [e5, h19, h21] at hK ⊢
   clear e5 h19 h21
   go_simp
   refine (HR1.out _ _ _ h5).mono ?_
   rintro e w3 ⟨s, rfl, h9, hb⟩
   exact hK.out _ _ hb ⟨s, rfl, h9⟩ trivial
  refine AS.sc rfl rfl rfl ?_ ?_
  ·intro k_ u w_ hk_ hJ hF K hK
   have h22 : ∃ s, u 22 = .tuple #[s, .int .i64 E] ∧ SlR w_ s L := AS.facts_get hF 22 (by simp)
   clear hF
   obtain ⟨s, h22, h9⟩ := h22
   simp only [h22] at hK ⊢
   clear h22
   go_simp
   exact hK.out _ _ (Below.refl _ _) (⟨s, rfl, h9⟩) trivial
  refine AS.sc rfl rfl rfl ?_ ?_
  ·intro k_ u w_ hk_ hJ hF K hK
   have h14 : ∃ s, u 14 = .tuple #[s, .int .i64 E] ∧ SlR w_ s L := AS.facts_get hF 14 (by simp)
   clear hF
   obtain ⟨s, h14, h9⟩ := h14
   simp only [h14] at hK ⊢
   clear h14
   go_simp
   exact hK.out _ _ (Below.refl _ _) (h9) trivial
  refine AS.sc rfl rfl rfl ?_ ?_
  ·intro k_ u w_ hk_ hJ hF K hK
   have h14 : ∃ s, u 14 = .tuple #[s, .int .i64 E] ∧ SlR w_ s L := AS.facts_get hF 14 (by simp)
   clear hF
   obtain ⟨s, h14, h9⟩ := h14
   simp only [h14] at hK ⊢
   clear h14
   go_simp
   exact hK.out _ _ (Below.refl _ _) (rfl) trivial
  refine AS.sc rfl rfl rfl ?_ ?_
  ·intro k_ u w_ hk_ hJ hF K hK
   have h23 : SlR w_ (u 23) L := AS.facts_get hF 23 (by simp)
   clear hF
   obtain ⟨A5, c5, e5, h5⟩ := h23
   obtain ⟨m, hm⟩ : ∃ m, L.length = m := ⟨_, rfl⟩
   rw [hm] at e5
   have hm := Lib.hid hm
   simp only [e5] at hK ⊢
   go_simp
   exact hK.out _ _ (Below.refl _ _) (⟨_, _, congrArg (fun x => Value.slice A5 x c5) hm.out.symm, h5⟩) trivial
  refine AS.sc rfl rfl rfl ?_ ?_
  ·intro k_ u w_ hk_ hJ hF K hK
   have h24 : u 24 = .int .i64 E := AS.facts_get hF 24 (by simp)
   clear hF
   simp only [h24] at hK ⊢
   clear h24
   go_simp
   exact hK.out _ _ (Below.refl _ _) (rfl) trivial
  exact AS.StepsOk.nil
 ·intro u W9 hJ9 hF
  have h5 : SlR W9 (u 5) L := AS.facts_get hF 5 (by simp [ruFL, AS.temps])
  have h6 : u 6 = .int .i64 E := AS.facts_get hF 6 (by simp [ruFL, AS.temps])
  have hB8 : Below w1.heap.size w1 W9 := hJ9
  clear hF hJ9
  obtain ⟨A5, c5, e5, hI5⟩ := h5
  rw [HMM.out] at e5
  have HI5 := Lib.hid hI5
  replace hI := Lib.hid (hI.out.more hB8)
  have c0 := hI.out.cell 0 (by simp)
  have c1 := hI.out.cell 1 (by simp)
  have hB7 := hB9.trans (hB8.mono hB9.size)
  simp only [e5, h6]
  clear e5 h6 hI5 hB8 hB9
  go_wp2_with (first
   | (go_at_call 13; refine (HR2.out _ (HZ.out.up hB7)).mono ?_; rintro e w4 ⟨v4, rfl, ⟨A4, c4, rfl, hI4⟩, hb⟩; rw [HMM.out]; replace HI5 := Lib.hid (HI5.out.up hb); replace hB7 := below_more hB7 hb; clear hb; replace hI4 := Lib.hid hI4)
   | (go_at_call 14; refine (HM.out _ _ _ _ _ HI5.out hI4.out).mono ?_; rintro e w5 ⟨rfl, hb⟩; replace hB7 := below_more hB7 hb; clear hb))
  go_ret
  exact ⟨rfl, hB7⟩
set_option maxRecDepth 20000 in
set_option maxHeartbeats 1600000 in
theorem alrun_long (A : Option Addr) (len c : Nat) (num den : Int) (w : World) (h : 200 < len) (hl2 : len ≤ 9223372036854775807) :
  Calls Try.prog 3 #[.slice A len c, .agg #[.int .i64 num, .int .i64 den]] w fun e w' => e = .returned (.bool true) ∧ Below w.heap.size w w' := by
 have h1 : (200 : Int) < (len : Int) := by omega
 go_enter Try.func3, Try.ntmps3
 go_wp2_with (go_at_call 11; refine (alAwake_any _).mono ?_; rintro e w1 ⟨rfl, hb⟩; have hB9 := ((Below.refl w.heap.size w).alloc (Nat.le_refl _) (Obj.cells #[.int .i64 num, .int .i64 den] 24)).trans (hb.mono (by simp)); clear hb)
 go_ret
 exact ⟨rfl, hB9⟩
theorem law_alrun (A : Option Addr) (len c : Nat) (l : List Int) (num den : Int) (w : World) (hlen : l.length = len) (hmax : len ≤ 9223372036854775807) (hz : IntsAt .i64 w A l) :
  Calls Try.prog 3 #[.slice A len c, .agg #[.int .i64 num, .int .i64 den]] w fun e w' => e = .returned (.bool true) ∧ Below w.heap.size w w' := by
 by_cases h : 200 < len
 ·exact alrun_long A len c num den w h hmax
 ·subst hlen
  exact alrun_short A c l num den w hz (by omega)
open Go.ChangeShapes Go.WideShapes Go.ChangeAt Go.WideMaps Go.WideElems Go.RowKit
theorem open_islice {H : Type} {enc : TypeId × Value → H} {P : Program} {W : World} {b0 : Nat} {T E : TypeId} {k : IntKind} {v : Value} {d : DataW H} {p : List MemPlace} (hT : P.underlying T = some (.slice E)) (hE : P.underlying E = some (.int k)) (hc : P.cellsOf E = 1)
  (hval : Value.okWide P W .any b0 T v) (h : DataW.Trod enc P W 0 (fun _ => true) true T v d p) :
  ∃ A len cap zs, v = .slice A len cap ∧ zs.length = len ∧ len ≤ 9223372036854775807 ∧ IntsAt k W A zs ∧ ∀ x ∈ zs, (Lit.int k x).wf = true := by
 obtain ⟨a0, len, cap, rfl⟩ := okWide_slice hT hval
 obtain ⟨fuel, hf⟩ := h
 rcases open_ints hT hE hc hf with ⟨hcs, hx⟩ | ⟨a, len', cap', zs, hcs, _, hl, hm, hz, hx, hcell, hwz⟩
 ·simp [Value.cells] at hcs
  obtain ⟨rfl, rfl, rfl⟩ := hcs
  exact ⟨none, 0, 0, [], rfl, rfl, by omega, IntsAt.nil, by simp⟩
 ·simp [Value.cells] at hcs
  obtain ⟨rfl, rfl, rfl⟩ := hcs
  simp only [if_true] at hz
  unfold maxLen at hm
  have hle : (zs.take len).length = len := by rw [List.length_take, hz]; omega
  refine ⟨_, len, cap, zs.take len, rfl, hle, by omega, fun h0 => ?_, fun x hx => hwz x (List.mem_of_mem_take hx)⟩
  have hl0 : 0 < len := by omega
  obtain ⟨b, off, spot⟩ := a
  have hspot : spot = none := by simpa [Addr.add] using World.cell?_spot (hcell 0 (by omega))
  subst hspot
  have hlt : b < W.heap.size := by
   have h9 := hcell 0 (by omega)
   rcases Nat.lt_or_ge b W.heap.size with hlt | hge
   ·exact hlt
   ·unfold World.cell? at h9
    rw [show (Addr.add ⟨b, off, none⟩ 0).block = b from by rw [block_add], Array.getElem?_eq_none hge] at h9
    simp at h9
  refine ⟨b, off, rfl, hlt, fun i hi => ?_⟩
  rw [hle] at hi
  have h1 := hcell i (by omega)
  rw [Go.WideShapes.add_plain] at h1
  rw [h1, List.getD_eq_getElem?_getD, List.getD_eq_getElem?_getD, List.getElem?_take, if_pos hi]
end Go.Proofs.Ytocojbkhdijjeaa
