/- Contracts of the functions that the statements reach, part 2: what was proved of each, callees first. -/
import Derived.ChangeSame
import Derived.Deep.Slices
import Derived.Deep.Fields
import Derived.Maps.AppendAt
import Derived.Maps.OwnSet
import Derived.WalkMore
import Derived.Test.YtaeccljkmijpaaaGreatLS1
namespace Go.Proofs.YtaeccljkmijpaaaGreat
open Go.RowKit
abbrev LkL := List (Int × Int)
def AscK (K : LkL) : Prop := K.Pairwise ltK
theorem asck_ext {A B : LkL} (h1 : AscK A) (h2 : AscK B) (h : ∀ q, q ∈ A ↔ q ∈ B) : A = B := by
 have nd : ∀ {K : LkL}, AscK K → K.Nodup := fun {K} h => h.imp fun {a b} hab e => by subst e; exact ltK_irrefl _ hab
 exact List.Perm.eq_of_pairwise (le := fun a b => ltK a b) (fun a b _ _ x y => absurd (ltK_trans x y) (ltK_irrefl _)) h1 h2 ((List.perm_ext_iff_of_nodup (nd h1) (nd h2)).2 h)
def insL (K : LkL) (x : Int × Int) : LkL := K.takeWhile (fun a => decide (ltK a x)) ++ x :: K.dropWhile (fun a => decide (ltK a x))
theorem insL_mem {K : LkL} {x q : Int × Int} : q ∈ insL K x ↔ q = x ∨ q ∈ K := by
 unfold insL
 have h := List.takeWhile_append_dropWhile (p := fun a => decide (ltK a x)) (l := K)
 have e : q ∈ K ↔ q ∈ K.takeWhile (fun a => decide (ltK a x)) ∨ q ∈ K.dropWhile (fun a => decide (ltK a x)) := by rw [← List.mem_append, h]
 rw [e]
 simp only [List.mem_append, List.mem_cons]
 constructor
 ·rintro (h | h | h)
  ·exact .inr (.inl h)
  ·exact .inl h
  ·exact .inr (.inr h)
 ·rintro (h | h | h)
  ·exact .inr (.inl h)
  ·exact .inl h
  ·exact .inr (.inr h)
theorem ins_asc {A B : LkL} {x : Int × Int} (h : AscK (A ++ B)) (hx : x ∉ A ++ B) (h1 : ∀ a ∈ A, ltK a x) (h2 : ∀ b, B.head? = some b → ¬ ltK b x) : AscK (A ++ x :: B) := by
 obtain ⟨hA, hB, hAB⟩ := List.pairwise_append.1 h
 have hxB : ∀ b ∈ B, ltK x b := by
  cases B with
  | nil => intro b hb; cases hb
  | cons c B =>
   have h3 := h2 c rfl
   have hxc : ltK x c := by
    rcases Decidable.em (ltK x c) with h4 | h4
    ·exact h4
    ·exact absurd (ltK_tri h4 h3) (fun e => hx (by rw [e]; simp))
   intro b hb
   rcases List.mem_cons.1 hb with rfl | hb
   ·exact hxc
   ·exact ltK_trans hxc ((List.pairwise_cons.1 hB).1 b hb)
 refine List.pairwise_append.2 ⟨hA, List.pairwise_cons.2 ⟨hxB, hB⟩, fun a ha b hb => ?_⟩
 rcases List.mem_cons.1 hb with rfl | hb
 ·exact h1 a ha
 ·exact hAB a ha b hb
theorem insL_asc {K : LkL} {x : Int × Int} (h : AscK K) (hx : x ∉ K) : AscK (insL K x) := by
 have e := List.takeWhile_append_dropWhile (p := fun a => decide (ltK a x)) (l := K)
 refine ins_asc (by rw [e]; exact h) (by rw [e]; exact hx) (fun a ha => ?_) (fun b hb => ?_)
 ·have : ∀ {L : LkL}, a ∈ L.takeWhile (fun a => decide (ltK a x)) → ltK a x := by
   intro L
   induction L with
   | nil => intro h; cases h
   | cons c L ih =>
    intro h
    rw [List.takeWhile_cons] at h
    by_cases hc : decide (ltK c x) = true
    ·rw [if_pos hc] at h
     rcases List.mem_cons.1 h with rfl | h
     ·exact of_decide_eq_true hc
     ·exact ih h
    ·rw [if_neg hc] at h; cases h
  exact this ha
 ·have : ∀ {L : LkL}, (L.dropWhile (fun a => decide (ltK a x))).head? = some b → ¬ ltK b x := by
   intro L
   induction L with
   | nil => intro h; cases h
   | cons c L ih =>
    intro h
    rw [List.dropWhile_cons] at h
    by_cases hc : decide (ltK c x) = true
    ·rw [if_pos hc] at h; exact ih h
    ·rw [if_neg hc] at h
     simp at h
     subst h
     simpa using hc
  exact this hb
theorem ins_at {K : LkL} {x : Int × Int} (h : AscK K) (hx : x ∉ K) (k : Nat) (h1 : ∀ i, i < k → ∀ a, K[i]? = some a → ltK a x) (h2 : ∀ a, K[k]? = some a → ¬ ltK a x) : K.take k ++ x :: K.drop k = insL K x := by
 refine asck_ext (ins_asc (by rw [List.take_append_drop]; exact h) (by rw [List.take_append_drop]; exact hx) (fun a ha => ?_) (fun b hb => ?_)) (insL_asc h hx) fun q => ?_
 ·obtain ⟨i, hi, rfl⟩ := List.mem_take_iff_getElem.1 ha
  exact h1 i (by omega) _ (List.getElem?_eq_getElem _)
 ·rw [List.head?_drop] at hb
  exact h2 b hb
 ·rw [insL_mem]
  have e : q ∈ K ↔ q ∈ K.take k ∨ q ∈ K.drop k := by rw [← List.mem_append, List.take_append_drop]
  rw [e]
  simp only [List.mem_append, List.mem_cons]
  constructor
  ·rintro (h | h | h)
   ·exact .inr (.inl h)
   ·exact .inl h
   ·exact .inr (.inr h)
  ·rintro (h | h | h)
   ·exact .inr (.inl h)
   ·exact .inl h
   ·exact .inr (.inr h)
def delL (K : LkL) (x : Int × Int) : LkL := K.filter fun a => !decide (a = x)
theorem delL_mem {K : LkL} {x q : Int × Int} : q ∈ delL K x ↔ q ≠ x ∧ q ∈ K := by
 unfold delL
 rw [List.mem_filter]
 simp [and_comm]
theorem delL_asc {K : LkL} {x : Int × Int} (h : AscK K) : AscK (delL K x) := List.Pairwise.filter _ h
theorem del_at {K : LkL} {x : Int × Int} (h : AscK K) (k : Nat) (hk : K[k]? = some x) : K.take k ++ K.drop (k + 1) = delL K x := by
 have hkl : k < K.length := (List.getElem?_eq_some_iff.1 hk).1
 have e : K = K.take k ++ x :: K.drop (k + 1) := by
  have h1 := List.take_append_drop k K
  rw [List.drop_eq_getElem_cons hkl] at h1
  rw [List.getElem?_eq_getElem hkl] at hk
  injection hk with hk
  rw [hk] at h1
  exact h1.symm
 have ha : AscK (K.take k ++ x :: K.drop (k + 1)) := e ▸ h
 obtain ⟨hA, hB, hAB⟩ := List.pairwise_append.1 ha
 obtain ⟨hx, hB⟩ := List.pairwise_cons.1 hB
 refine asck_ext (List.pairwise_append.2 ⟨hA, hB, fun a h1 b h2 => hAB a h1 b (List.mem_cons_of_mem _ h2)⟩) (delL_asc h) fun q => ?_
 rw [delL_mem]
 have e2 : q ∈ K ↔ q ∈ K.take k ∨ q = x ∨ q ∈ K.drop (k + 1) := by
  conv => lhs; rw [e]
  simp
 rw [e2, List.mem_append]
 constructor
 ·rintro (h1 | h1)
  ·exact ⟨fun e => by subst e; exact ltK_irrefl _ (hAB q h1 q (List.mem_cons_self ..)), .inl h1⟩
  ·exact ⟨fun e => by subst e; exact ltK_irrefl _ (hx q h1), .inr (.inr h1)⟩
 ·rintro ⟨h0, h1 | h1 | h1⟩
  ·exact .inl h1
  ·exact absurd h1 h0
  ·exact .inr h1
def inL (n k : Int) (x : Int × Int) : Bool := decide (0 ≤ x.1) && decide (x.1 < n) && (decide (0 ≤ x.2) && decide (x.2 < k))
theorem inL_iff {n k : Int} {x : Int × Int} : inL n k x = true ↔ (0 ≤ x.1 ∧ x.1 < n) ∧ 0 ≤ x.2 ∧ x.2 < k := by unfold inL; simp
def addE (n k : Int) (K : LkL) (x : Int × Int) : Int := if 0 ≤ x.1 ∧ x.1 < n then (if 0 ≤ x.2 ∧ x.2 < k then (if x ∈ K then 9 else 0) else 2) else 1
def addL (n k : Int) (K : LkL) (x : Int × Int) : LkL := if addE n k K x = 0 then insL K x else K
def remE (K : LkL) (x : Int × Int) : Int := if x ∈ K then 0 else 8
def remL (K : LkL) (x : Int × Int) : LkL := if remE K x = 0 then delL K x else K
theorem addE_zero {n k : Int} {K : LkL} {x : Int × Int} : addE n k K x = 0 ↔ inL n k x = true ∧ x ∉ K := by
 rw [inL_iff]
 unfold addE
 constructor
 ·intro h
  split at h
  ·split at h
   ·split at h
    ·cases h
    ·exact ⟨⟨by assumption, by assumption⟩, by assumption⟩
   ·cases h
  ·cases h
 ·rintro ⟨⟨h1, h2⟩, h3⟩
  rw [if_pos h1, if_pos h2, if_neg h3]
theorem remE_zero {K : LkL} {x : Int × Int} : remE K x = 0 ↔ x ∈ K := by
 unfold remE
 split <;> simp_all
structure GoodL (n k : Int) (K : LkL) : Prop where
 asc : AscK K
 inr : ∀ x ∈ K, inL n k x = true
theorem GoodL.nil {n k : Int} : GoodL n k [] := ⟨List.Pairwise.nil, fun x h => by cases h⟩
theorem GoodL.add {n k : Int} {K : LkL} (h : GoodL n k K) (x : Int × Int) : GoodL n k (addL n k K x) := by
 unfold addL
 split
 ·rename_i h1
  obtain ⟨h2, h3⟩ := addE_zero.1 h1
  refine ⟨insL_asc h.asc h3, fun q hq => ?_⟩
  rcases insL_mem.1 hq with rfl | hq
  ·exact h2
  ·exact h.inr q hq
 ·exact h
theorem GoodL.rem {n k : Int} {K : LkL} (h : GoodL n k K) (x : Int × Int) : GoodL n k (remL K x) := by
 unfold remL
 split
 ·exact ⟨delL_asc h.asc, fun q hq => h.inr q (delL_mem.1 hq).2⟩
 ·exact h
def untM : LkL → Int → Int
 | [], _ => -1
 | a :: K, e => max (if a.1 = e then a.2 else -1) (untM K e)
theorem untM_snoc (K : LkL) (a : Int × Int) (e : Int) : untM (K ++ [a]) e = if a.1 = e then max (untM K e) (max a.2 (-1)) else max (untM K e) (-1) := by
 induction K with
 | nil =>
  show max (if a.1 = e then a.2 else -1) (-1) = if a.1 = e then max (-1) (max a.2 (-1)) else max (-1) (-1)
  split <;> omega
 | cons b K ih =>
  show max (if b.1 = e then b.2 else -1) (untM (K ++ [a]) e) = if a.1 = e then max (max (if b.1 = e then b.2 else -1) (untM K e)) (max a.2 (-1)) else max (max (if b.1 = e then b.2 else -1) (untM K e)) (-1)
  rw [ih]
  split <;> split <;> omega
theorem untM_ge (K : LkL) (e : Int) : -1 ≤ untM K e := by
 induction K with
 | nil => exact Int.le_refl _
 | cons b K ih =>
  show -1 ≤ max (if b.1 = e then b.2 else -1) (untM K e)
  omega
theorem untM_spec {K : LkL} (e : Int) (h : ∀ a ∈ K, 0 ≤ a.2) : (untM K e = -1 ∧ ∀ p, (e, p) ∉ K) ∨ (0 ≤ untM K e ∧ (e, untM K e) ∈ K ∧ ∀ p, (e, p) ∈ K → p ≤ untM K e) := by
 induction K with
 | nil => exact .inl ⟨rfl, fun p hp => by cases hp⟩
 | cons b K ih =>
  have ih := ih fun a ha => h a (List.mem_cons_of_mem _ ha)
  have hb := h b (List.mem_cons_self ..)
  obtain ⟨b1, b2⟩ := b
  have hE : untM ((b1, b2) :: K) e = max (if b1 = e then b2 else -1) (untM K e) := rfl
  rw [hE]
  by_cases h1 : b1 = e
  ·subst h1
   rw [if_pos rfl]
   refine .inr ?_
   rcases ih with ⟨h2, h3⟩ | ⟨h2, h3, h4⟩
   ·rw [h2]
    have : max b2 (-1) = b2 := by have : 0 ≤ b2 := hb; omega
    rw [this]
    refine ⟨hb, List.mem_cons_self .., fun p hp => ?_⟩
    rcases List.mem_cons.1 hp with e1 | hp
    ·injection e1 with _ e1; omega
    ·exact absurd hp (h3 p)
   ·rcases Int.le_total b2 (untM K b1) with h5 | h5
    ·rw [Int.max_eq_right h5]
     refine ⟨h2, List.mem_cons_of_mem _ h3, fun p hp => ?_⟩
     rcases List.mem_cons.1 hp with e1 | hp
     ·injection e1 with _ e1; omega
     ·exact h4 p hp
    ·rw [Int.max_eq_left h5]
     refine ⟨hb, List.mem_cons_self .., fun p hp => ?_⟩
     rcases List.mem_cons.1 hp with e1 | hp
     ·injection e1 with _ e1; omega
     ·have := h4 p hp; omega
  ·rw [if_neg h1]
   have : max (-1) (untM K e) = untM K e := by have := untM_ge K e; omega
   rw [this]
   rcases ih with ⟨h2, h3⟩ | ⟨h2, h3, h4⟩
   ·refine .inl ⟨h2, fun p hp => ?_⟩
    rcases List.mem_cons.1 hp with e1 | hp
    ·injection e1 with e1 _; exact h1 e1.symm
    ·exact h3 p hp
   ·refine .inr ⟨h2, List.mem_cons_of_mem _ h3, fun p hp => ?_⟩
    rcases List.mem_cons.1 hp with e1 | hp
    ·injection e1 with e1 _; exact absurd e1.symm h1
    ·exact h4 p hp
theorem untM_is {K : LkL} {e p : Int} (h : ∀ a ∈ K, 0 ≤ a.2) (hp : (e, p) ∈ K) (hm : ∀ q, (e, q) ∈ K → q ≤ p) : untM K e = p := by
 rcases untM_spec e h with ⟨h1, h2⟩ | ⟨h1, h2, h3⟩
 ·exact absurd hp (h2 p)
 ·have := h3 p hp
  have := hm _ h2
  omega
theorem untM_none {K : LkL} {e : Int} (h : ∀ a ∈ K, 0 ≤ a.2) (hp : ∀ p, (e, p) ∉ K) : untM K e = -1 := by
 rcases untM_spec e h with ⟨h1, h2⟩ | ⟨h1, h2, h3⟩
 ·exact h1
 ·exact absurd h2 (hp _)
theorem untM_asc {K : LkL} {a : Int × Int} (h : AscK (K ++ [a])) (h0 : ∀ x ∈ K ++ [a], 0 ≤ x.2) : untM (K ++ [a]) a.1 = a.2 := by
 refine untM_is h0 (by simp) fun q hq => ?_
 rcases List.mem_append.1 hq with h1 | h1
 ·have := (List.pairwise_append.1 h).2.2 _ h1 a (by simp)
  unfold ltK at this
  simp only [Int.lt_irrefl, false_or, true_and] at this
  omega
 ·rw [List.mem_singleton] at h1
  rw [← h1]; exact Int.le_refl _
theorem untM_skip {K : LkL} {a : Int × Int} {e : Int} (h : a.1 ≠ e) : untM (K ++ [a]) e = untM K e := by
 rw [untM_snoc, if_neg h]
 have := untM_ge K e
 omega
theorem GoodL.pos {n k : Int} {K : LkL} (h : GoodL n k K) : ∀ a ∈ K, 0 ≤ a.2 := fun a ha => (inL_iff.1 (h.inr a ha)).2.1
def untD (y m k : Int) (K : LkL) (e : Int) : Int := if 0 ≤ untM K e then pdL y m k (untM K e) else 0
def untB (K : LkL) (e : Int) : Bool := decide (0 ≤ untM K e)
def chkL (n y m k : Int) (K : LkL) (e d : Int) : Int := if 0 ≤ e ∧ e < n then (if untB K e = true ∧ d ≤ untD y m k K e then 12 else 0) else 1
structure Stp where
 e : Int
 p : Int
 u : Bool
def Stp.k (s : Stp) : Int × Int := (s.e, s.p)
def stpE (n k : Int) (K : LkL) (s : Stp) : Int := if s.u = true then remE K s.k else addE n k K s.k
def stpL (n k : Int) (K : LkL) (s : Stp) : LkL := if s.u = true then remL K s.k else addL n k K s.k
def stpsL (n k : Int) (S : List Stp) : LkL := S.foldl (stpL n k) []
theorem stpsL_snoc (n k : Int) (S : List Stp) (s : Stp) : stpsL n k (S ++ [s]) = stpL n k (stpsL n k S) s := by
 unfold stpsL; rw [List.foldl_append]; rfl
theorem GoodL.stp {n k : Int} {K : LkL} (h : GoodL n k K) (s : Stp) : GoodL n k (stpL n k K s) := by
 unfold stpL
 split
 ·exact h.rem _
 ·exact h.add _
theorem stpsL_good (n k : Int) (S : List Stp) : GoodL n k (stpsL n k S) := by
 unfold stpsL
 have : ∀ (S : List Stp) (K : LkL), GoodL n k K → GoodL n k (S.foldl (stpL n k) K) := by
  intro S
  induction S with
  | nil => intro K h; exact h
  | cons s S ih => intro K h; exact ih _ (h.stp s)
 exact this S [] GoodL.nil
open Go.ChangeShapes Go.WideShapes Go.ChangeAt Go.WideMaps Go.WideElems Go.RowKit
theorem post_plain {H : Type} {enc : TypeId × Value → H} {P : Program} {f : Func} {s : ChangeSpec} {ap fr ho ag : Bool} {W W' : World} {args : Array Value} {v : Value} {ds gs : List (DataW H)} {before pa pv : List MemPlace}
  (hW : DataW.Whole enc P f.params.toList s.vars ap W args.toList ds gs before)
  (hres : ∀ (b : Nat) (sp : Nat → Bool) (hd : Bool), DataW.TrodAll enc P W' b sp hd f.resultTypes.toList (v.resultList f.resultTypes.size) (s.fn H (ds ++ gs)).results [])
  (hargs : ∀ sp : Nat → Bool, (∀ p ∈ before, sp p.block = true) → DataW.TrodAll enc P W' 0 sp true f.params.toList args.toList (s.fn H (ds ++ gs)).args pa)
  (hvars : ∀ sp : Nat → Bool, (∀ p ∈ before, sp p.block = true) → DataW.TrodVars enc P W' sp s.vars (s.fn H (ds ++ gs)).vars pv)
  (hps : before = pa ++ pv) (hb : Below W.heap.size W W')
  (hok : ∀ (j : Nat) (t : TypeId) (r : Value), f.resultTypes[j]? = some t → (v.resultList f.resultTypes.size)[j]? = some r → Value.okWide P W' .any 0 t r) : s.post enc P f ap fr ho ag W args v W' := by
 have hlt : ∀ p ∈ before, p.block < W.heap.size := fun p hp => hW.lt p hp
 have hin : ∀ p ∈ before, (fun b => decide (b < W.heap.size)) p.block = true := fun p hp => by simpa using hlt p hp
 refine ⟨ds, gs, before, [], pa, pv, hW, hres _ _ _, hargs _ hin, hvars _ hin, World.keptBut_mono (fun p hp => ⟨hp, .inr (List.mem_append.1 (hps ▸ hp))⟩) (hb.frame (· ∈ before)), fun _ => ?_⟩
 obtain ⟨_, _, _, _, _, hz, hn⟩ := hW
 refine ⟨hok, _, _, ([] ++ pa) ++ pv, ⟨[] ++ pa, pv, trodAll_append (hargs _ (fun _ _ => rfl)) (hres _ _ _), hvars _ (fun _ _ => rfl), rfl, fun b off hp => ?_, fun ha => ?_⟩, ?_⟩
 ·have hbe : MemPlace.cell b off ∈ before := by rw [hps]; simpa using hp
  rw [hb.frozen (hlt _ hbe)]
  exact hz b off hbe
 ·have h9 := hn ha
  rw [hps] at h9
  simpa using h9
 ·intro p hp _
  rw [hps, ← List.nil_append pa]
  exact hp
open Go.ChangeShapes Go.WideShapes Go.ChangeAt Go.WideMaps Go.WideElems Go.RowKit Go.Deep
def cellNum : Option Value → Int
 | some (.int _ z) => z
 | _ => 0
def celL (a : Lnk) : List Value := [.int .i64 a.frm, .int .i64 a.tgt, .int .i64 a.since]
theorem celL_get : ∀ (L : List Lnk) (i : Nat), i < L.length → (L.flatMap celL)[i * 3]? = some (.int .i64 (L.getD i lnk0).frm) ∧ (L.flatMap celL)[i * 3 + 1]? = some (.int .i64 (L.getD i lnk0).tgt) ∧ (L.flatMap celL)[i * 3 + 2]? = some (.int .i64 (L.getD i lnk0).since)
 | [], i, h => by simp at h
 | a :: L, 0, _ => by simp [celL]
 | a :: L, i + 1, h => by
  have := celL_get L i (by simpa using h)
  have e1 : (i + 1) * 3 = i * 3 + 1 + 1 + 1 := by omega
  rw [List.flatMap_cons, e1]
  simpa [celL] using this
def celA (a : Acc) : List Value := [.int .i64 a.code, .int .i64 a.kind, .int .i64 a.basis, .int .i64 a.par]
theorem celA_get : ∀ (L : List Acc) (i : Nat), i < L.length → (L.flatMap celA)[i * 4]? = some (.int .i64 (L.getD i acc0).code) ∧ (L.flatMap celA)[i * 4 + 1]? = some (.int .i64 (L.getD i acc0).kind) ∧ (L.flatMap celA)[i * 4 + 2]? = some (.int .i64 (L.getD i acc0).basis) ∧ (L.flatMap celA)[i * 4 + 3]? = some (.int .i64 (L.getD i acc0).par)
 | [], i, h => by simp at h
 | a :: L, 0, _ => by simp [celA]
 | a :: L, i + 1, h => by
  have := celA_get L i (by simpa using h)
  have e1 : (i + 1) * 4 = i * 4 + 1 + 1 + 1 + 1 := by omega
  rw [List.flatMap_cons, e1]
  simpa [celA] using this
theorem below_new {W w : World} (h : Below W.heap.size W w) (o : Obj) : Below W.heap.size W (w.alloc o) := below_more h (below_alloc_new o)
set_option maxRecDepth 20000 in
set_option maxHeartbeats 1600000 in
theorem hcodes_any (A : Option Addr) (c : Nat) (L : List Acc) (w : World) (hz : AccAt w A L) (hl : L.length ≤ 1000) :
  Calls Tryz.prog 169 #[.slice A L.length c] w fun e w' => e = .returned (.bool (codesB L)) ∧ Below w.heap.size w w' := by
 have hB := Below.refl w.heap.size w
 obtain ⟨n, hn⟩ : ∃ n, L.length = n := ⟨_, rfl⟩
 rw [hn] at hl ⊢
 have HN := Lib.hid hn
 have HZ := Lib.hid hz
 clear hn hz
 go_enter Tryz.func169, Tryz.ntmps169
 go_wp2_with fail
 go_loopg [3, 8] n (fun kx s3 s8 wr => ∃ k : Nat, s3 = .int .i64 (lastC L k) ∧ s8 = .int .i64 k ∧ k ≤ n ∧ n - k ≤ kx ∧ Hid (codesTo L k = true) ∧ Below w.heap.size w wr)
 case atStart => exact ⟨0, rfl, rfl, by omega, by omega, Lib.hid rfl, hB⟩
 case round =>
  clear hB
  obtain ⟨k, rfl, rfl, hk, hkx, HC, hB⟩ := hrel
  by_cases hlt : k < n
  ·have hltz : (k : Int) < (n : Int) := by omega
   obtain ⟨b, off, rfl, hbw, hcs⟩ := HZ.out (by rw [HN.out]; omega)
   obtain ⟨c0, c1, c2, c3⟩ := (hcs k (by rw [HN.out]; exact hlt)).up hB hbw
   obtain ⟨x, hx⟩ : ∃ x, L.getD k acc0 = x := ⟨_, rfl⟩
   rw [hx] at c0 c1 c2 c3
   have HX := Lib.hid hx
   clear hx hcs
   rcases Int.lt_or_le (lastC L k) x.code with h1 | h1
   ·have h2 : decide (x.code ≤ lastC L k) = false := decide_eq_false (by omega)
    have HC2 : Hid (codesTo L (k + 1) = true) := Lib.hid (by rw [codes_succ, HC.out, HX.out, decide_eq_true h1]; rfl)
    have HLa : Hid (x.code = lastC L (k + 1)) := Lib.hid (by rw [lastC_succ, HX.out])
    clear h1
    go_wp2_with fail
    go_roundg (n - (k + 1))
    case measure => omega
    case rel => exact ⟨k + 1, by rw [HLa.out], by go_num, by omega, by omega, HC2, below_new hB _⟩
   ·have hno : Hid (codesB L = false) := Lib.hid (codesB_no (k := k) (by rw [HN.out]; exact hlt) (by rw [HX.out]; exact h1))
    have h2 : decide (x.code ≤ lastC L k) = true := decide_eq_true h1
    go_wp2_with fail
    go_ret
    exact ⟨by rw [hno.out]; rfl, below_new hB _⟩
  ·obtain rfl : k = n := by omega
   have hltz : ¬ (k : Int) < (k : Int) := by omega
   have hend : Hid (codesB L = decide (lastC L k ≤ 99999)) := Lib.hid (by rw [codesB_end (by rw [HN.out]; exact HC.out), HN.out])
   generalize lastC L k = z at *
   go_wp2_with fail
   go_ret
   exact ⟨by rw [hend.out]; rfl, hB⟩
set_option maxRecDepth 20000 in
set_option maxHeartbeats 1600000 in
theorem hkinds_any (A : Option Addr) (c : Nat) (L : List Acc) (g : Bool) (w : World) (hz : AccAt w A L) (hl : L.length ≤ 1000) :
    Calls Tryz.prog 170 #[.slice A L.length c, .bool g] w fun e w' => e = .returned (.bool (kindsB L g)) ∧ Below w.heap.size w w' := by
  have hB := Below.refl w.heap.size w
  obtain ⟨n, hn⟩ : ∃ n, L.length = n := ⟨_, rfl⟩
  rw [hn] at hl ⊢
  have HN := Lib.hid hn
  have HZ := Lib.hid hz
  have hlo : loB g = if g then 1 else 0 := rfl
  have hhi : hiB g = if g then 3 else 0 := rfl
  obtain ⟨P, hP⟩ : ∃ P, kinB g = P := ⟨_, rfl⟩
  have hpy : ∀ x, P x = true → 1 ≤ x.kind ∧ x.kind ≤ 5 ∧ loB g ≤ x.basis ∧ x.basis ≤ hiB g := fun x h => kinB_is (by rw [hP]; exact h)
  have hpn : ∀ x, P x = false → x.kind < 1 ∨ (1 ≤ x.kind ∧ 5 < x.kind) ∨ (1 ≤ x.kind ∧ x.kind ≤ 5 ∧ x.basis < loB g) ∨ (1 ≤ x.kind ∧ x.kind ≤ 5 ∧ loB g ≤ x.basis ∧ hiB g < x.basis) := fun x h => kinB_no (by rw [hP]; exact h)
  have hpk : kindsB L g = L.all P := by unfold kindsB; rw [hP]
  rw [hpk]
  have HPY := Lib.hid hpy
  have HPN := Lib.hid hpn
  clear hn hz hP hpy hpn hpk
  cases g
  all_goals
    simp only [Bool.false_eq_true, if_false, if_true] at hlo hhi
    have HLo := Lib.hid hlo
    have HHi := Lib.hid hhi
    clear hlo hhi
    go_enter Tryz.func170, Tryz.ntmps170
    go_wp2_with fail
    go_loopg [12] n (fun kx s12 wr => ∃ k : Nat, s12 = .int .i64 k ∧ k ≤ n ∧ n - k ≤ kx ∧ Hid ((L.take k).all P = true) ∧ Below w.heap.size w wr)
    case atStart => exact ⟨0, rfl, by omega, by omega, Lib.hid rfl, hB⟩
    case round =>
      clear hB
      obtain ⟨k, rfl, hk, hkx, HC, hB⟩ := hrel
      by_cases hlt : k < n
      · have hltz : (k : Int) < (n : Int) := by omega
        obtain ⟨b, off, rfl, hbw, hcs⟩ := HZ.out (by rw [HN.out]; omega)
        obtain ⟨c0, c1, c2, c3⟩ := (hcs k (by rw [HN.out]; exact hlt)).up hB hbw
        obtain ⟨x, hx⟩ : ∃ x, L.getD k acc0 = x := ⟨_, rfl⟩
        rw [hx] at c0 c1 c2 c3
        have HX := Lib.hid hx
        have h9 := take_all_getD (d := acc0) (p := P) L k (by rw [HN.out]; exact hlt)
        rw [hx] at h9
        have H9 := Lib.hid h9
        clear hx hcs h9
        cases hkb : P x
        · have hno : Hid (L.all P = false) := Lib.hid (all_false_getD (d := acc0) (k := k) (by rw [HN.out]; exact hlt) (by rw [HX.out]; exact hkb))
          have h0 := HPN.out _ hkb
          rw [HLo.out, HHi.out] at h0
          clear hkb
          rcases h0 with h1 | ⟨h1, h2⟩ | ⟨h1, h2, h3⟩ | ⟨h1, h2, h3, h4⟩
          · have e1 : decide (x.kind < 1) = true := decide_eq_true h1
            go_wp2_with fail
            go_ret
            exact ⟨by rw [hno.out]; rfl, below_new hB _⟩
          · have e1 : decide (x.kind < 1) = false := decide_eq_false (by omega)
            have e2 : decide (5 < x.kind) = true := decide_eq_true h2
            go_wp2_with fail
            go_ret
            exact ⟨by rw [hno.out]; rfl, below_new hB _⟩
          · have e1 : decide (x.kind < 1) = false := decide_eq_false (by omega)
            have e2 : decide (5 < x.kind) = false := decide_eq_false (by omega)
            first | have e3 : decide (x.basis < 0) = true := decide_eq_true h3 | have e3 : decide (x.basis < 1) = true := decide_eq_true h3
            go_wp2_with fail
            go_ret
            exact ⟨by rw [hno.out]; rfl, below_new hB _⟩
          · have e1 : decide (x.kind < 1) = false := decide_eq_false (by omega)
            have e2 : decide (5 < x.kind) = false := decide_eq_false (by omega)
            first
              | (have e3 : decide (x.basis < 0) = false := decide_eq_false (by omega)
                 have e4 : decide (0 < x.basis) = true := decide_eq_true h4
                 go_wp2_with fail
                 go_ret
                 exact ⟨by rw [hno.out]; rfl, below_new hB _⟩)
              | (have e3 : decide (x.basis < 1) = false := decide_eq_false (by omega)
                 have e4 : decide (3 < x.basis) = true := decide_eq_true h4
                 go_wp2_with fail
                 go_ret
                 exact ⟨by rw [hno.out]; rfl, below_new hB _⟩)
        · have h0 := HPY.out _ hkb
          rw [HLo.out, HHi.out] at h0
          obtain ⟨h1, h2, h3, h4⟩ := h0
          have HC2 : Hid ((L.take (k + 1)).all P = true) := Lib.hid (by rw [H9.out, HC.out, hkb]; rfl)
          have e1 : decide (x.kind < 1) = false := decide_eq_false (by omega)
          have e2 : decide (5 < x.kind) = false := decide_eq_false (by omega)
          have e3 : decide (x.basis < 0) = false := decide_eq_false (by omega)
          have e4 : decide (3 < x.basis) = false := decide_eq_false (by omega)
          first
            | (have e5 : decide (0 < x.basis) = false := decide_eq_false (by omega)
               clear hkb h1 h2 h3 h4
               go_wp2_with fail
               go_roundg (n - (k + 1))
               case measure => omega
               case rel => exact ⟨k + 1, by go_num, by omega, by omega, HC2, below_new hB _⟩)
            | (have e5 : decide (x.basis < 1) = false := decide_eq_false (by omega)
               clear hkb h1 h2 h3 h4
               go_wp2_with fail
               go_roundg (n - (k + 1))
               case measure => omega
               case rel => exact ⟨k + 1, by go_num, by omega, by omega, HC2, below_new hB _⟩)
      · obtain rfl : k = n := by omega
        have hltz : ¬ (k : Int) < (k : Int) := by omega
        have hyes : Hid (L.all P = true) := Lib.hid (by have := HC.out; rwa [List.take_of_length_le (by rw [HN.out]; omega)] at this)
        go_wp2_with fail
        go_ret
        exact ⟨by rw [hyes.out]; rfl, hB⟩
theorem ccmp_any (x y : Int) (w : World) : Calls Tryz.prog 119 #[.int .i64 x, .int .i64 y] w fun e w' => e = .returned (.int .i64 (cmI x y)) ∧ w = w' := by
 have hn : ∀ (x : Int) (w : World), Calls Tryz.prog 158 #[.int .i64 x] w fun e w' => e = .returned (.bool false) ∧ w = w' := by
  intro x w
  have h : (x != x) = false := by simp
  go_enter Tryz.func158, Tryz.ntmps158
  go_wp2_with fail
  go_ret
  exact ⟨rfl, rfl⟩
 have HN := Lib.hid hn
 clear hn
 unfold cmI
 rcases Int.lt_trichotomy x y with h | h | h
 ·rw [if_pos h]
  go_enter Tryz.func119, Tryz.ntmps119
  go_wp2_with (go_at_call 158; refine (HN.out _ _).mono ?_; rintro e w' ⟨rfl, rfl⟩)
  go_ret
  exact ⟨rfl, rfl⟩
 ·subst h
  rw [if_neg (Int.lt_irrefl _), if_neg (Int.lt_irrefl _)]
  have h1 : decide (x < x) = false := decide_eq_false (Int.lt_irrefl _)
  go_enter Tryz.func119, Tryz.ntmps119
  go_wp2_with (go_at_call 158; refine (HN.out _ _).mono ?_; rintro e w' ⟨rfl, rfl⟩)
  go_ret
  exact ⟨rfl, rfl⟩
 ·have h2 : ¬ x < y := by omega
  rw [if_neg h2, if_pos h]
  have h1 : decide (x < y) = false := decide_eq_false (by omega)
  go_enter Tryz.func119, Tryz.ntmps119
  go_wp2_with (go_at_call 158; refine (HN.out _ _).mono ?_; rintro e w' ⟨rfl, rfl⟩)
  go_ret
  exact ⟨rfl, rfl⟩
theorem cidx1_any (a : Acc) (c : Int) (w : World) : Calls Tryz.prog 202 #[accV a, .int .i64 c] w fun e w' => e = .returned (.int .i64 (cmI a.code c)) ∧ Below w.heap.size w w' := by
 have hn := ab_new w 151 a
 obtain ⟨⟨c0, c1, c2, c3⟩, lt, -⟩ := hn
 have hB := below_alloc_new (w := w) (.cells #[.int .i64 a.code, .int .i64 a.kind, .int .i64 a.basis, .int .i64 a.par] 151)
 go_enter Tryz.func202, Tryz.ntmps202
 go_wp2_with (go_at_call 119; refine (ccmp_any _ _ _).mono ?_; rintro e w' ⟨rfl, rfl⟩)
 go_ret
 exact ⟨rfl, hB⟩
theorem cmI_lt {x y : Int} (h : x < y) : cmI x y = -1 := by unfold cmI; rw [if_pos h]
theorem cmI_ge {x y : Int} (h : y ≤ x) : 0 ≤ cmI x y := by
 unfold cmI; rw [if_neg (by omega)]; split <;> omega
theorem cmI_eq {x : Int} : cmI x x = 0 := by unfold cmI; rw [if_neg (by omega), if_neg (by omega)]
theorem cmI_gt {x y : Int} (h : y < x) : cmI x y = 1 := by unfold cmI; rw [if_neg (by omega), if_pos h]
def FoundAt (L : List Acc) (c : Int) (i : Nat) : Prop := ∀ a, fnd L c = some a → i < L.length ∧ L.getD i acc0 = a
set_option maxRecDepth 20000 in
set_option maxHeartbeats 1600000 in
theorem cbin_any (A : Option Addr) (cp : Nat) (L : List Acc) (c : Int) (w : World) (hz : AccAt w A L) (hl : L.length ≤ 1000) (hs : Srt L) :
  Calls Tryz.prog 201 #[.slice A L.length cp, .int .i64 c, .func (.func 202) #[] #[]] w fun e w' => ∃ i : Nat, e = .returned (.tuple #[.int .i64 i, .bool (fnd L c).isSome]) ∧ FoundAt L c i ∧ Below w.heap.size w w' := by
 have hB := Below.refl w.heap.size w
 obtain ⟨n, hn⟩ : ∃ n, L.length = n := ⟨_, rfl⟩
 rw [hn] at hl ⊢
 have HN := Lib.hid hn
 have HZ := Lib.hid hz
 have HS := Lib.hid hs
 clear hn hz hs
 go_enter Tryz.func201, Tryz.ntmps201
 go_wp2_with fail
 go_loopg [9, 10] n (fun kx s9 s10 wr => ∃ lo hi : Nat, s9 = .int .i64 lo ∧ s10 = .int .i64 hi ∧ lo ≤ hi ∧ hi ≤ n ∧ hi - lo ≤ kx ∧ Hid (∀ t, t < lo → (L.getD t acc0).code < c) ∧ Hid (∀ t, hi ≤ t → t < n → c ≤ (L.getD t acc0).code) ∧ Below w.heap.size w wr)
 case atStart => exact ⟨0, n, rfl, rfl, Nat.zero_le _, Nat.le_refl _, by omega, Lib.hid (fun t ht => absurd ht (Nat.not_lt_zero _)), Lib.hid (fun t h1 h2 => by omega), hB⟩
 case round =>
  clear hB
  obtain ⟨lo, hi, rfl, rfl, hlh, hin, hg, HA, HC, hB⟩ := hrel
  by_cases hlt : lo < hi
  ·have hltz : (lo : Int) < (hi : Int) := by omega
   obtain ⟨m, hm⟩ : ∃ m : Nat, ((lo : Int) + (hi : Int)) / 2 = (m : Int) := ⟨(lo + hi) / 2, by omega⟩
   have hm1 : lo ≤ m := by omega
   have hm2 : m < hi := by omega
   have hmn : m < n := by omega
   have hmz : (m : Int) < (n : Int) := by omega
   obtain ⟨b, off, rfl, hbw, hcs⟩ := HZ.out (by rw [HN.out]; omega)
   obtain ⟨c0, c1, c2, c3⟩ := (hcs m (by rw [HN.out]; omega)).up hB hbw
   obtain ⟨x, hx⟩ : ∃ x, L.getD m acc0 = x := ⟨_, rfl⟩
   rw [hx] at c0 c1 c2 c3
   have HX := Lib.hid hx
   have hcm := fun w => cidx1_any x c w
   clear hx hcs
   rcases Int.lt_or_le x.code c with h1 | h1
   ·rw [cmI_lt h1] at hcm
    have HA2 : Hid (∀ t, t < m + 1 → (L.getD t acc0).code < c) := Lib.hid (fun t ht => by
     rcases Nat.lt_or_ge t m with h2 | h2
     ·have h3 := HS.out.mono t m h2 (by rw [HN.out]; omega)
      rw [HX.out] at h3; omega
     ·obtain rfl : t = m := by omega
      rw [HX.out]; exact h1)
    have HCM := Lib.hid hcm
    clear hcm h1
    go_wp2_with fail
    refine (HCM.out _).mono ?_
    rintro e w' ⟨rfl, hb⟩
    replace hB := below_more hB hb
    clear hb
    go_wp2_with fail
    go_roundg (hi - (m + 1))
    case measure => omega
    case rel => exact ⟨m + 1, hi, by go_num, rfl, by omega, hin, Nat.le_refl _, HA2, HC, hB⟩
   ·have h0 := cmI_ge h1
    generalize cmI x.code c = r at hcm h0
    have h2 : decide (r < 0) = false := decide_eq_false (by omega)
    have HC2 : Hid (∀ t, m ≤ t → t < n → c ≤ (L.getD t acc0).code) := Lib.hid (fun t ht hn => by
     rcases Nat.lt_or_ge m t with h2 | h2
     ·have h3 := HS.out.mono m t h2 (by rw [HN.out]; omega)
      rw [HX.out] at h3; omega
     ·obtain rfl : t = m := by omega
      rw [HX.out]; exact h1)
    have HCM := Lib.hid hcm
    clear hcm h1
    go_wp2_with fail
    refine (HCM.out _).mono ?_
    rintro e w' ⟨rfl, hb⟩
    replace hB := below_more hB hb
    clear hb
    go_wp2_with fail
    go_roundg (m - lo)
    case measure => omega
    case rel => exact ⟨lo, m, rfl, rfl, by omega, by omega, Nat.le_refl _, HA, HC2, hB⟩
  ·obtain rfl : lo = hi := by omega
   have hltz : ¬ (lo : Int) < (lo : Int) := by omega
   have hcut := HS.out.cut (c := c) (m := lo) (by rw [HN.out]; exact hin) HA.out (by rw [HN.out]; exact HC.out)
   rw [HN.out] at hcut
   clear HA HC
   rcases hcut with ⟨h1, h2, h3⟩ | ⟨h1 | ⟨h1, h2⟩, h3⟩
   ·obtain ⟨b, off, rfl, hbw, hcs⟩ := HZ.out (by rw [HN.out]; omega)
    obtain ⟨c0, c1, c2, c3⟩ := (hcs lo (by rw [HN.out]; exact h1)).up hB hbw
    obtain ⟨x, hx⟩ : ∃ x, L.getD lo acc0 = x := ⟨_, rfl⟩
    rw [hx] at c0 c1 c2 c3 h2 h3
    have HX := Lib.hid hx
    have H3 := Lib.hid h3
    have hcm := fun w => cidx1_any x c w
    rw [h2, cmI_eq] at hcm
    have HCM := Lib.hid hcm
    have h1z : (lo : Int) < (n : Int) := by omega
    have h1d : decide (lo < n) = true := decide_eq_true h1
    clear hx hcs h2 h3 hcm
    go_wp2_with fail
    refine (HCM.out _).mono ?_
    rintro e w' ⟨rfl, hb⟩
    replace hB := below_more hB hb
    clear hb
    go_wp2_with fail
    go_ret2
    exact ⟨lo, by rw [H3.out]; rfl, fun a ha => ⟨by rw [HN.out]; exact h1, by rw [H3.out] at ha; rw [HX.out]; injection ha⟩, hB⟩
   ·subst h1
    have H3 := Lib.hid h3
    have h1d : decide (lo < lo) = false := decide_eq_false (by omega)
    clear h3
    go_wp2_with fail
    go_ret2
    exact ⟨lo, by rw [H3.out]; rfl, fun a ha => (by rw [H3.out] at ha; cases ha), hB⟩
   ·obtain ⟨b, off, rfl, hbw, hcs⟩ := HZ.out (by rw [HN.out]; omega)
    obtain ⟨c0, c1, c2, c3⟩ := (hcs lo (by rw [HN.out]; exact h1)).up hB hbw
    obtain ⟨x, hx⟩ : ∃ x, L.getD lo acc0 = x := ⟨_, rfl⟩
    rw [hx] at c0 c1 c2 c3 h2
    have H3 := Lib.hid h3
    have hcm := fun w => cidx1_any x c w
    rw [cmI_gt h2] at hcm
    have HCM := Lib.hid hcm
    have h1z : (lo : Int) < (n : Int) := by omega
    have h1d : decide (lo < n) = true := decide_eq_true h1
    clear hx hcs h2 h3 hcm
    go_wp2_with fail
    refine (HCM.out _).mono ?_
    rintro e w' ⟨rfl, hb⟩
    replace hB := below_more hB hb
    clear hb
    go_wp2_with fail
    go_ret2
    exact ⟨lo, by rw [H3.out]; rfl, fun a ha => (by rw [H3.out] at ha; cases ha), hB⟩
theorem cidx_any (A : Option Addr) (cp : Nat) (L : List Acc) (c : Int) (w : World) (hz : AccAt w A L) (hl : L.length ≤ 1000) (hs : Srt L) :
  Calls Tryz.prog 188 #[.slice A L.length cp, .int .i64 c] w fun e w' => ∃ i : Nat, e = .returned (.tuple #[.int .i64 i, .bool (fnd L c).isSome]) ∧ FoundAt L c i ∧ Below w.heap.size w w' := by
 have h1 := cbin_any A cp L c w hz hl hs
 generalize (fnd L c).isSome = q at *
 have H1 := Lib.hid h1
 clear h1 hz hs
 go_enter Tryz.func188, Tryz.ntmps188
 go_wp2_with (go_at_call 201; refine H1.out.mono ?_; rintro e w' ⟨i, rfl, hf, hb⟩; replace hf := Lib.hid hf)
 go_ret2
 exact ⟨i, rfl, hf.out, hb⟩
theorem parB_zero {L : List Acc} {a : Acc} (h : a.par = 0) : parB L a = true := parB_is.2 (.inl h)
theorem parB_none {L : List Acc} {a : Acc} (h : a.par ≠ 0) (hf : fnd L a.par = none) : parB L a = false := by unfold parB; rw [decide_eq_false h, hf]; rfl
theorem parB_some {L : List Acc} {a p : Acc} (h : a.par ≠ 0) (hf : fnd L a.par = some p) : parB L a = decide (p.kind = a.kind) := by unfold parB; rw [decide_eq_false h, hf]; rfl
set_option maxRecDepth 20000 in
set_option maxHeartbeats 3200000 in
theorem hpar_any (A : Option Addr) (c : Nat) (L : List Acc) (w : World) (hz : AccAt w A L) (hl : L.length ≤ 1000) (hs : Srt L) :
    Calls Tryz.prog 171 #[.slice A L.length c] w fun e w' => e = .returned (.bool (parentsB L)) ∧ Below w.heap.size w w' := by
  have hB := Below.refl w.heap.size w
  have hI := fun y w h => cidx_any A c L y w h hl hs
  obtain ⟨n, hn⟩ : ∃ n, L.length = n := ⟨_, rfl⟩
  rw [hn] at hl hI ⊢
  have HN := Lib.hid hn
  have HZ := Lib.hid hz
  have HI := Lib.hid hI
  clear hn hz hI hs
  go_enter Tryz.func171, Tryz.ntmps171
  go_wp2_with fail
  go_loopg [9] n (fun kx s9 wr => ∃ k : Nat, s9 = .int .i64 k ∧ k ≤ n ∧ n - k ≤ kx ∧ Hid ((L.take k).all (parB L) = true) ∧ Below w.heap.size w wr)
  case atStart => exact ⟨0, rfl, by omega, by omega, Lib.hid rfl, hB⟩
  case round =>
    clear hB
    obtain ⟨k, rfl, hk, hkx, HC, hB⟩ := hrel
    by_cases hlt : k < n
    · have hltz : (k : Int) < (n : Int) := by omega
      have HZW := Lib.hid (HZ.out.up hB)
      obtain ⟨b, off, rfl, hbw, hcs⟩ := HZW.out (by rw [HN.out]; omega)
      obtain ⟨c0, c1, c2, c3⟩ := hcs k (by rw [HN.out]; exact hlt)
      obtain ⟨x, hx⟩ : ∃ x, L.getD k acc0 = x := ⟨_, rfl⟩
      rw [hx] at c0 c1 c2 c3
      have HX := Lib.hid hx
      have h9 := take_all_getD (d := acc0) (p := parB L) L k (by rw [HN.out]; exact hlt)
      rw [hx] at h9
      have H9 := Lib.hid h9
      have hno := fun h => all_false_getD (d := acc0) (p := parB L) (L := L) (k := k) (by rw [HN.out]; exact hlt) (by rw [hx]; exact h)
      have HNo := Lib.hid hno
      have HCS := Lib.hid hcs
      clear hx hcs h9 hno
      by_cases h0 : x.par = 0
      · have e0 : (x.par == 0) = true := by simp [h0]
        have HC2 : Hid ((L.take (k + 1)).all (parB L) = true) := Lib.hid (by rw [H9.out, HC.out, parB_zero h0]; rfl)
        clear h0
        go_wp2_with fail
        go_roundg (n - (k + 1))
        case measure => omega
        case rel => exact ⟨k + 1, by go_num, by omega, by omega, HC2, below_new hB _⟩
      · have e0 : (x.par == 0) = false := by simp [h0]
        have hB1 : Below w.heap.size w (wr.alloc (.cells #[.int .i64 x.code, .int .i64 x.kind, .int .i64 x.basis, .int .i64 x.par] 151)) := below_new hB _
        have HB1 := Lib.hid hB1
        have HAB := Lib.hid (ab_new wr 151 x)
        have hi := HI.out x.par (wr.alloc (.cells #[.int .i64 x.code, .int .i64 x.kind, .int .i64 x.basis, .int .i64 x.par] 151)) (HZ.out.up hB1)
        cases hf : fnd L x.par with
        | none =>
          have E : Hid (parentsB L = false) := Lib.hid (HNo.out (parB_none h0 hf))
          rw [hf] at hi
          have HI1 := Lib.hid hi
          clear hi hf h0 hB1
          go_wp2_with (go_at_call 188; refine HI1.out.mono ?_; rintro e w1 ⟨i, rfl, -, hb⟩; replace hB := below_more HB1.out hb; clear hb)
          go_quiet (fail)
          replace hB := below_drewN hB nq
          generalize World.drewN _ nq = W1 at *
          go_wp2_with fail
          go_ret
          exact ⟨by rw [E.out]; rfl, hB⟩
        | some p =>
          have E0 := parB_some h0 hf
          rw [hf] at hi
          have HFS := Lib.hid hf
          have HI1 := Lib.hid hi
          clear hi hf h0 hB1
          have e9 : (p.kind != x.kind) = !decide (p.kind = x.kind) := by rw [Bool.eq_iff_iff]; simp
          cases hq : decide (p.kind = x.kind)
          all_goals
            rw [hq] at E0 e9
            have EP := Lib.hid E0
            clear hq E0
            go_wp2_with (go_at_call 188; refine HI1.out.mono ?_; rintro e w1 ⟨i, rfl, hfa, hb⟩; obtain ⟨hil, hie⟩ := hfa _ HFS.out; have d4 := (HCS.out i hil).up (below_more (below_alloc_new _) hb) hbw; rw [hie] at d4; obtain ⟨d0, d1, d2, d3⟩ := d4; obtain ⟨⟨a0, a1, a2, a3⟩, alt, -⟩ := HAB.out.up hb; have hiz : (i : Int) < (n : Int) := (by rw [HN.out] at hil; omega); replace hB := below_more HB1.out hb; clear hb hfa hil hie)
            go_quiet (fail)
            replace hB := below_drewN hB nq
            generalize World.drewN _ nq = W1 at *
            go_wp2_with fail
            first
              | (have E : Hid (parentsB L = false) := Lib.hid (HNo.out EP.out)
                 go_ret
                 exact ⟨by rw [E.out]; rfl, hB⟩)
              | (have HC2 : Hid ((L.take (k + 1)).all (parB L) = true) := Lib.hid (by rw [H9.out, HC.out, EP.out]; rfl)
                 go_roundg (n - (k + 1))
                 case measure => omega
                 case rel => exact ⟨k + 1, by go_num, by omega, by omega, HC2, hB⟩)
    · obtain rfl : k = n := by omega
      have hltz : ¬ (k : Int) < (k : Int) := by omega
      have E : Hid (parentsB L = true) := Lib.hid (by have := HC.out; rwa [List.take_of_length_le (by rw [HN.out]; omega)] at this)
      go_wp2_with fail
      go_ret
      exact ⟨by rw [E.out]; rfl, hB⟩
open Go.RowKit Go.Maps
structure TO (L : List Acc) (s : Nat) (f : Int → Option Nat) (ks : List Int) : Prop where
 seen : ∀ c v, f c = some v → v < s ∧ Ends L c
 done : ∀ i, i < s → Ends L (L.getD i acc0).code
 keys : ∀ c, (f c).isSome = decide (c ∈ ks)
 nodup : ks.Nodup
 sub : ∀ c ∈ ks, c ∈ L.map Acc.code
structure TI (L : List Acc) (s : Nat) (a : Acc) (f : Int → Option Nat) (ks : List Int) : Prop where
 seen : ∀ c v, f c = some v → v ≤ s ∧ (v < s → Ends L c) ∧ (v = s → ∃ k, stepN L (k + 1) c = some a.code)
 done : ∀ i, i < s → Ends L (L.getD i acc0).code
 way : ∃ k, stepN L k (L.getD s acc0).code = some a.code
 mem : a ∈ L
 keys : ∀ c, (f c).isSome = decide (c ∈ ks)
 nodup : ks.Nodup
 sub : ∀ c ∈ ks, c ∈ L.map Acc.code
theorem TO.start {L : List Acc} : TO L 0 (fun _ => none) [] := ⟨fun c v h => (by cases h), fun i hi => (by omega), fun c => (by simp), List.nodup_nil, fun c h => (by cases h)⟩
theorem TO.enter {L : List Acc} {s : Nat} {f : Int → Option Nat} {ks : List Int} (h : TO L s f ks) (hs : s < L.length) : TI L s (L.getD s acc0) f ks :=
 ⟨fun c v hv => by obtain ⟨h1, h2⟩ := h.seen c v hv; exact ⟨by omega, fun _ => h2, fun e => by omega⟩, h.done, ⟨0, rfl⟩, getD_mem_acc hs, h.keys, h.nodup, h.sub⟩
theorem TI.ended {L : List Acc} {s : Nat} {a : Acc} {f : Int → Option Nat} {ks : List Int} (h : TI L s a f ks) (he : Ends L a.code) : TO L (s + 1) f ks := by
 refine ⟨fun c v hv => ?_, fun i hi => ?_, h.keys, h.nodup, h.sub⟩
 ·obtain ⟨h1, h2, h3⟩ := h.seen c v hv
  refine ⟨by omega, ?_⟩
  rcases Nat.lt_or_ge v s with h4 | h4
  ·exact h2 h4
  ·obtain ⟨k, hk⟩ := h3 (by omega)
   exact step_ends hk he
 ·rcases Nat.lt_or_ge i s with h4 | h4
  ·exact h.done i h4
  ·obtain rfl : i = s := by omega
   obtain ⟨k, hk⟩ := h.way
   exact step_ends hk he
theorem TI.top {L : List Acc} {s : Nat} {a : Acc} {f : Int → Option Nat} {ks : List Int} (h : TI L s a f ks) (hS : Srt L) (h0 : a.par = 0) : TO L (s + 1) f ks :=
 h.ended (ends_up (hS.fnd_mem h.mem) (by rw [h0]; exact ends_out hS.fnd_zero))
theorem TI.loop {L : List Acc} {s : Nat} {a : Acc} {f : Int → Option Nat} {ks : List Int} (h : TI L s a f ks) (hv : f a.code = some s) : topsB L = false := by
 obtain ⟨_, _, h3⟩ := h.seen _ _ hv
 obtain ⟨k, hk⟩ := h3 rfl
 unfold topsB
 rw [List.all_eq_false]
 refine ⟨a, h.mem, ?_⟩
 rw [topB_is]
 exact loop_no_end hk
theorem TI.old {L : List Acc} {s v : Nat} {a : Acc} {f : Int → Option Nat} {ks : List Int} (h : TI L s a f ks) (hv : f a.code = some v) (hne : v ≠ s) : TO L (s + 1) f ks := by
 obtain ⟨h1, h2, _⟩ := h.seen _ _ hv
 exact h.ended (h2 (by omega))
theorem TI.step {L : List Acc} {s : Nat} {a p : Acc} {f : Int → Option Nat} {ks : List Int} (h : TI L s a f ks) (hS : Srt L) (hv : f a.code = none) (hp : fnd L a.par = some p) :
  TI L s p (fun c => if c = a.code then some s else f c) (a.code :: ks) ∧ (a.code :: ks).length ≤ L.length := by
 obtain ⟨hpm, hpc⟩ := fnd_some hp
 have hfa := hS.fnd_mem h.mem
 have hn : a.code ∉ ks := fun hm => by have := h.keys a.code; rw [hv, decide_eq_true hm] at this; cases this
 have hnd : (a.code :: ks).Nodup := List.nodup_cons.2 ⟨hn, h.nodup⟩
 have hsub : ∀ c ∈ a.code :: ks, c ∈ L.map Acc.code := fun c hc => by
  rcases List.mem_cons.1 hc with rfl | hc
  ·exact List.mem_map.2 ⟨a, h.mem, rfl⟩
  ·exact h.sub c hc
 refine ⟨⟨fun c v hcv => ?_, h.done, ?_, hpm, fun c => ?_, hnd, hsub⟩, by simpa using nodup_subset_len hnd hsub⟩
 ·split at hcv
  ·rename_i hc
   injection hcv with hcv
   subst hcv
   refine ⟨Nat.le_refl _, fun h1 => by omega, fun _ => ⟨0, ?_⟩⟩
   rw [hc]; simp only [stepN, hfa]; rw [hpc]
  ·obtain ⟨h1, h2, h3⟩ := h.seen c v hcv
   refine ⟨h1, h2, fun e => ?_⟩
   obtain ⟨k, hk⟩ := h3 e
   exact ⟨k + 1, by rw [stepN_snoc hk hfa, hpc]⟩
 ·obtain ⟨k, hk⟩ := h.way
  exact ⟨k + 1, by rw [stepN_snoc hk hfa, hpc]⟩
 ·have := h.keys c
  split
  ·rename_i hc; simp [hc]
  ·rename_i hc; rw [this]; simp [hc]
theorem TO.all {L : List Acc} {f : Int → Option Nat} {ks : List Int} (h : TO L L.length f ks) : topsB L = true := by
 unfold topsB
 rw [all_getD (d := acc0)]
 intro i hi
 rw [topB_is]
 exact h.done i hi
theorem ti_keyed : Keyed Tryz.prog 3 := int_keyed Tryz.underlying3
theorem ti_zero (w : World) : (zeroValue 3).run Tryz.prog w = .ok (.int .i64 0) w := by kernel_rfl
def SeenM (w : World) (b n : Nat) (f : Int → Option Nat) : Prop := ∃ D : DataW Unit, w.ownsMap Tryz.prog 3 (plainElem Tryz.prog 3) b n D ∧ IsMap D ∧ ∀ c, Maps.has D (.int .i64 c) = (f c).isSome ∧ ∀ s : Nat, f c = some s → D.atKey (.int .i64 c) (.lit (.int .i64 0)) = .lit (.int .i64 (s : Int))
theorem SeenM.blk {w w' : World} {b n : Nat} {f : Int → Option Nat} (h : SeenM w b n f) (hk : w'.heap[b]? = w.heap[b]?) : SeenM w' b n f := by
 obtain ⟨D, ⟨es, clock, hb, rest⟩, h2⟩ := h
 exact ⟨D, ⟨es, clock, hk.trans hb, rest⟩, h2⟩
theorem SeenM.lt {w : World} {b n : Nat} {f : Int → Option Nat} (h : SeenM w b n f) : b < w.heap.size := by
 obtain ⟨D, h1, _⟩ := h
 exact h1.lt
theorem SeenM.up {w w' : World} {b n : Nat} {f : Int → Option Nat} (h : SeenM w b n f) (hb : Below w.heap.size w w') : SeenM w' b n f := h.blk (hb.block b h.lt)
theorem SeenM.made (w : World) : SeenM (w.alloc (.map #[] 0)) w.heap.size 0 (fun _ => none) :=
 ⟨.map [], World.ownsMap_made _ _ _ _, isMap_empty, fun c => ⟨rfl, fun s h => by cases h⟩⟩
theorem wpList_seen_look {w : World} {ops : Array Oper} {rest : List Oper} {o : Oper} {a : Act} {Q : Exit → Act → World → Prop} (hg : o.guard = none) (m x : Operand) (hop : o.op = Op.lookup 106 m x true)
  (b n : Nat) (f : Int → Option Nat) (hm : a.eval m = .map (some b)) (hs : SeenM w b n f) (c : Int) (hx : a.eval x = .int .i64 c) (hw : (Lit.int .i64 c).wf = true)
  (hK : ∀ v : Int, Hid (∀ s : Nat, f c = some s → v = (s : Int)) → wpList Tryz.prog ops Q rest (a.put o.dst (.tuple #[.int .i64 v, .bool (f c).isSome])) w) : wpList Tryz.prog ops Q (o :: rest) a w := by
 obtain ⟨D, h1, _, h3⟩ := hs
 refine wpList_lookup_own_ok_int w hg m x 106 hop 3 3 .i64 ti_keyed Tryz.underlying106 Tryz.underlying3 (ti_zero _) b n D hm h1 _ _ hx (keyOf_int_mk Tryz.underlying3 hw) ?_
 intro v hat _
 rw [(h3 c).1]
 refine hK v (Lib.hid fun s hs => ?_)
 have := (h3 c).2 s hs
 rw [hat] at this
 injection this with this
 injection this
theorem wpList_seen_put {w : World} {ops : Array Oper} {rest : List Oper} {o : Oper} {a : Act} {Q : Exit → Act → World → Prop} (hg : o.guard = none) (m x y : Operand) (hop : o.op = Op.mapUpdate 106 m x y)
  (b n : Nat) (f : Int → Option Nat) (hm : a.eval m = .map (some b)) (hs : SeenM w b n f) (c : Int) (s : Nat) (hx : a.eval x = .int .i64 c) (hy : a.eval y = .int .i64 (s : Int)) (hw : (Lit.int .i64 c).wf = true) (hw2 : (Lit.int .i64 (s : Int)).wf = true) (hn : n ≤ 1000000)
  (hK : ∀ w', Hid (SeenM w' b (n + 1) (fun x => if x = c then some s else f x)) → Hid (w.grownBy w' (some b)) → wpList Tryz.prog ops Q rest (a.put o.dst undef) w') : wpList Tryz.prog ops Q (o :: rest) a w := by
 obtain ⟨D, h1, h2, h3⟩ := hs
 refine wpList_mapUpdate_own w hg m x y 106 hop 3 3 ti_keyed Tryz.underlying106 (plainElem Tryz.prog 3) b n D hm h1 (by unfold maxLen; omega) _ _ _ hx hy (keyOf_int_mk Tryz.underlying3 hw) _ [] (plainElem_int Tryz.underlying3 hw2) ?_
 intro w' h4 h5
 refine hK w' (Lib.hid ⟨_, h4, h2.put _ _, fun x => ?_⟩) (Lib.hid h5)
 dsimp only
 have hkl : ∀ z : Int, WideAt.IsKeyLit (Lit.int .i64 z) := fun z => by simp [WideAt.IsKeyLit]
 by_cases hxc : x = c
 ·subst hxc
  rw [if_pos rfl]
  refine ⟨by rw [has_put_same h2 (hkl _)]; rfl, fun s' hs' => ?_⟩
  injection hs' with hs'
  subst hs'
  exact atKey_put_same h2 (hkl _) _ _
 ·rw [if_neg hxc]
  have hne : Lit.int .i64 x ≠ Lit.int .i64 c := fun e => hxc (by injection e)
  refine ⟨by rw [has_put_other hne]; exact (h3 x).1, fun s' hs' => ?_⟩
  rw [atKey_put_other hne]
  exact (h3 x).2 s' hs'
theorem wf64 {z : Int} (h1 : -9223372036854775808 ≤ z) (h2 : z ≤ 9223372036854775807) : (Lit.int .i64 z).wf = true := WalkArith.wf_i64 ⟨h1, h2⟩
theorem ab_set4 {w : World} {g : Nat} {a : Acc} (h : AB w g a) (p : Acc) : AB ((((w.setCell ⟨g, 0, none⟩ (.int .i64 p.code)).setCell ⟨g, 1, none⟩ (.int .i64 p.kind)).setCell ⟨g, 2, none⟩ (.int .i64 p.basis)).setCell ⟨g, 3, none⟩ (.int .i64 p.par)) g p := by
 have hc : ∀ (w : World) (i j : Nat) (v u : Value), w.cell? ⟨g, i, none⟩ = some u → (w.setCell ⟨g, j, none⟩ v).cell? ⟨g, i, none⟩ = if i = j then some v else some u := by
  intro w i j v u hu
  split
  ·rename_i e; subst e; exact World.cell?_setCell_same w _ v hu
  ·rename_i e; rw [World.cell?_setCell_other w _ _ v (fun h => e (by injection h with _ h2; exact h2.symm))]; exact hu
 have z0 := h.cells.c0
 have z1 := h.cells.c1
 have z2 := h.cells.c2
 have z3 := h.cells.c3
 simp only [Nat.zero_add] at z1 z2 z3
 have hf : ∀ (w : World) (p : Addr) (v : Value) (i : Nat), (w.setCell p v).frozen? ⟨g, i, none⟩ = w.frozen? ⟨g, i, none⟩ := fun w p v i => World.frozen?_setCell w p _ v
 refine ⟨⟨?_, ?_, ?_, ?_⟩, by simpa [World.setCell] using h.lt, fun i => by rw [hf, hf, hf, hf]; exact h.fz i⟩
 ·rw [hc _ 0 3 _ _ (hc _ 0 2 _ _ (hc _ 0 1 _ _ (hc _ 0 0 _ _ z0)))]; rfl
 ·rw [Nat.zero_add, hc _ 1 3 _ _ (hc _ 1 2 _ _ (hc _ 1 1 _ _ (hc _ 1 0 _ _ z1)))]; rfl
 ·rw [Nat.zero_add, hc _ 2 3 _ _ (hc _ 2 2 _ _ (hc _ 2 1 _ _ (hc _ 2 0 _ _ z2)))]; rfl
 ·rw [Nat.zero_add, hc _ 3 3 _ _ (hc _ 3 2 _ _ (hc _ 3 1 _ _ (hc _ 3 0 _ _ z3)))]; rfl
theorem bset4 {B : Nat} {w0 w1 : World} {g : Nat} (h : Below B w0 w1) (hg : B ≤ g) (a b c d : Value) : Below B w0 ((((w1.setCell ⟨g, 0, none⟩ a).setCell ⟨g, 1, none⟩ b).setCell ⟨g, 2, none⟩ c).setCell ⟨g, 3, none⟩ d) :=
 Below.setCell (p := ⟨g, 3, none⟩) (Below.setCell (p := ⟨g, 2, none⟩) (Below.setCell (p := ⟨g, 1, none⟩) (Below.setCell (p := ⟨g, 0, none⟩) h hg a) hg b) hg c) hg d
set_option maxRecDepth 20000 in
set_option maxHeartbeats 1600000 in
theorem cfind_any (A : Option Addr) (cp : Nat) (L : List Acc) (c : Int) (w : World) (hz : AccAt w A L) (hl : L.length ≤ 1000) :
  Calls Tryz.prog 173 #[.slice A L.length cp, .int .i64 c] w fun e w' => e = .returned (.tuple #[accV (fndA L c), .bool (fnd L c).isSome]) ∧ Below w.heap.size w w' := by
 have hB := below_alloc_new (w := w) (.cells #[.int .i64 acc0.code, .int .i64 acc0.kind, .int .i64 acc0.basis, .int .i64 acc0.par] 151)
 have hA4 := ab_new w 151 acc0
 obtain ⟨n, hn⟩ : ∃ n, L.length = n := ⟨_, rfl⟩
 obtain ⟨s0, hs0⟩ : ∃ s0, w.heap.size = s0 := ⟨_, rfl⟩
 rw [hn] at hl ⊢
 rw [hs0] at hB hA4 ⊢
 have HN := Lib.hid hn
 have HZ := Lib.hid hz
 have HS0 := Lib.hid hs0
 have HA := Lib.hid hA4
 clear hn hz hA4
 go_enter Tryz.func173, Tryz.ntmps173
 go_wp2_with fail
 go_loopg [10] n (fun kx s10 wr => ∃ k : Nat, s10 = .int .i64 k ∧ k ≤ n ∧ n - k ≤ kx ∧ Hid (fnd (L.take k) c = none) ∧ Hid (AB wr s0 acc0) ∧ Below s0 w wr)
 case atStart => exact ⟨0, rfl, by omega, by omega, Lib.hid (by rw [List.take_zero]; rfl), HA, hB⟩
 case round =>
  clear hB HA
  obtain ⟨k, rfl, hk, hkx, HF, HA, hB⟩ := hrel
  by_cases hlt : k < n
  ·have hltz : (k : Int) < (n : Int) := by omega
   obtain ⟨b, off, rfl, hbw, hcs⟩ := HZ.out (by rw [HN.out]; omega)
   obtain ⟨c0, c1, c2, c3⟩ := (hcs k (by rw [HN.out]; exact hlt)).up hB (by have := HS0.out; omega)
   obtain ⟨x, hx⟩ : ∃ x, L.getD k acc0 = x := ⟨_, rfl⟩
   rw [hx] at c0 c1 c2 c3
   have HX := Lib.hid hx
   have hf := fnd_take_succ (L := L) (c := c) (k := k) (by rw [HN.out]; exact hlt) HF.out
   rw [hx] at hf
   have HA1 := Lib.hid (HA.out.up (below_alloc_new (.cells #[.int .i64 x.code, .int .i64 x.kind, .int .i64 x.basis, .int .i64 x.par] 151)))
   clear hx hcs
   by_cases he : x.code = c
   ·rw [if_pos he] at hf
    have hf2 := fnd_take hf
    have e1 : Hid (fndA L c = x) := Lib.hid (by unfold fndA; rw [hf2]; rfl)
    have e2 : Hid ((fnd L c).isSome = true) := Lib.hid (by rw [hf2]; rfl)
    have e3 : (x.code == c) = true := by simp [he]
    obtain ⟨⟨z0, z1, z2, z3⟩, zlt, zf⟩ := HA.out
    have zf0 := zf 0
    have zf1 := zf 1
    have zf2 := zf 2
    have zf3 := zf 3
    simp only [Nat.zero_add] at z1 z2 z3
    clear zf
    clear hf hf2 he
    go_wp2_with fail
    rw [e1.out, e2.out]
    exact bodyPost_ret (v := .tuple #[accV x, .bool true]) (by simp [results, Tryz.results173, go_sem, z0, z1, z2, z3, zlt]) rfl ⟨rfl, (bset4 hB (Nat.le_refl _) _ _ _ _).alloc (by have := hB.size; have := HS0.out; simp; omega) _⟩
   ·rw [if_neg he] at hf
    have HF2 := Lib.hid hf
    have e3 : (x.code == c) = false := by simp [he]
    clear hf he
    go_wp2_with fail
    go_roundg (n - (k + 1))
    case measure => omega
    case rel => exact ⟨k + 1, by go_num, by omega, by omega, HF2, HA1, hB.trans ((below_alloc_new _).mono (by have := hB.size; have := HS0.out; omega))⟩
  ·obtain rfl : k = n := by omega
   have hltz : ¬ (k : Int) < (k : Int) := by omega
   have hf := HF.out
   rw [List.take_of_length_le (by rw [HN.out]; omega)] at hf
   have e1 : Hid (fndA L c = acc0) := Lib.hid (by unfold fndA; rw [hf]; rfl)
   have e2 : Hid ((fnd L c).isSome = false) := Lib.hid (by rw [hf]; rfl)
   obtain ⟨⟨z0, z1, z2, z3⟩, zlt, zf⟩ := HA.out
   have zf0 := zf 0
   have zf1 := zf 1
   have zf2 := zf 2
   have zf3 := zf 3
   simp only [Nat.zero_add] at z1 z2 z3
   clear zf
   clear hf
   go_wp2_with fail
   rw [e1.out, e2.out]
   exact bodyPost_ret (v := .tuple #[accV acc0, .bool false]) (by simp [results, Tryz.results173, go_sem, z0, z1, z2, z3]) rfl ⟨rfl, bset4 hB (Nat.le_refl _) _ _ _ _⟩
theorem codesB_wf {L : List Acc} (h : codesB L = true) {a : Acc} (ha : a ∈ L) : 1 ≤ a.code ∧ a.code ≤ 99999 := by
 have hs := codesB_srt h
 obtain ⟨i, hi, rfl⟩ := mem_getD_acc (d := acc0) ha
 refine ⟨hs.pos i hi, ?_⟩
 unfold codesB at h
 rw [Bool.and_eq_true, decide_eq_true_eq] at h
 obtain ⟨n, hn⟩ : ∃ n, L.length = n + 1 := ⟨L.length - 1, by omega⟩
 have h2 := h.2
 rw [hn, lastC_succ] at h2
 rcases Nat.lt_or_ge i n with h3 | h3
 ·have := hs.mono i n h3 (by omega); omega
 ·obtain rfl : i = n := by omega
  exact h2
theorem parentsB_fnd {L : List Acc} (h : parentsB L = true) {a : Acc} (ha : a ∈ L) (h0 : a.par ≠ 0) : ∃ p, fnd L a.par = some p := by
 unfold parentsB at h
 rw [List.all_eq_true] at h
 rcases parB_is.1 (h a ha) with h1 | ⟨p, h1, _⟩
 ·exact absurd h1 h0
 ·exact ⟨p, h1⟩
structure TW (w W : World) (s0 g mb n : Nat) (a : Acc) (f : Int → Option Nat) (m : Nat) : Prop where
 box : AB W g a
 map : SeenM W mb m f
 below : Below s0 w W
 gs : s0 ≤ g
 ms : s0 ≤ mb
 ne : g ≠ mb
 m1 : m ≤ 1000
set_option maxRecDepth 20000 in
set_option maxHeartbeats 3200000 in
theorem htops_any (A : Option Addr) (cp : Nat) (L : List Acc) (w : World) (hz : AccAt w A L) (hl : L.length ≤ 1000) (hc : codesB L = true) (hp : parentsB L = true) :
  Calls Tryz.prog 172 #[.slice A L.length cp] w fun e w' => e = .returned (.bool (topsB L)) ∧ Below w.heap.size w w' := by
 have hS := codesB_srt hc
 have hI := fun y w h => cidx_any A cp L y w h hl hS
 have hB := below_alloc_new (w := w) (.map #[] 0)
 have hM := SeenM.made w
 obtain ⟨n, hn⟩ : ∃ n, L.length = n := ⟨_, rfl⟩
 obtain ⟨s0, hs0⟩ : ∃ s0, w.heap.size = s0 := ⟨_, rfl⟩
 rw [hn] at hl hI ⊢
 rw [hs0] at hB hM ⊢
 have HN := Lib.hid hn
 have HZ := Lib.hid hz
 have HI := Lib.hid hI
 have HS := Lib.hid hS
 have HC := Lib.hid hc
 have HP := Lib.hid hp
 have HS0 := Lib.hid hs0
 have HM := Lib.hid hM
 have hmm := @run_makeMap Tryz.prog
 clear hn hz hI hS hc hp hM
 go_enter Tryz.func172, Tryz.ntmps172
 go_wp2_with fail
 go_step3
 go_wp2_with fail
 go_step3
 go_wp2_with fail
 clear hs0
 go_loopg [13] n (fun kx s13 wr => ∃ (s m : Nat) (f : Int → Option Nat) (ks : List Int), s13 = .int .i64 s ∧ s ≤ n ∧ n - s ≤ kx ∧ Hid (TO L s f ks) ∧ Hid (SeenM wr s0 m f) ∧ Hid (m = ks.length) ∧ Below s0 w wr)
 case atStart => exact ⟨0, 0, _, [], rfl, by omega, by omega, Lib.hid TO.start, HM, Lib.hid rfl, hB⟩
 case round =>
  clear hB HM
  obtain ⟨s, m, f, ks, rfl, hs, hkx, HT, HM, HMK, hB⟩ := hrel
  by_cases hlt : s < n
  ·have hltz : (s : Int) < (n : Int) := by omega
   have hsz : s0 ≤ wr.heap.size := by have := hB.size; have := HS0.out; omega
   obtain ⟨b, off, rfl, hbw, hcs⟩ := HZ.out (by rw [HN.out]; omega)
   have hbs : b < s0 := by have := HS0.out; omega
   obtain ⟨c0, c1, c2, c3⟩ := (hcs s (by rw [HN.out]; exact hlt)).up hB hbs
   obtain ⟨x, hx⟩ : ∃ x, L.getD s acc0 = x := ⟨_, rfl⟩
   have hti := HT.out.enter (by rw [HN.out]; exact hlt)
   rw [hx] at c0 c1 c2 c3 hti
   have HTI := Lib.hid hti
   have HCS := Lib.hid hcs
   have hm1 : m ≤ 1000 := by
    have := nodup_subset_len HT.out.nodup HT.out.sub
    rw [List.length_map, HN.out] at this
    rw [HMK.out]; omega
   have HW : Hid (TW w (wr.alloc (.cells #[.int .i64 x.code, .int .i64 x.kind, .int .i64 x.basis, .int .i64 x.par] 151)) s0 wr.heap.size s0 n x f m) :=
    Lib.hid ⟨ab_new wr 151 x, HM.out.up (below_alloc_new _), hB.alloc hsz _, hsz, Nat.le_refl _, by have := HM.out.lt; omega, hm1⟩
   obtain ⟨g, hg⟩ : ∃ g, wr.heap.size = g := ⟨_, rfl⟩
   rw [hg] at HW
   have HG := Lib.hid hg
   clear hx hcs hti HM hB hg
   go_wp2_with fail
   rw [HG.out]
   go_loopg [6] (n - ks.length) (fun kx s6 W => ∃ (a : Acc) (m2 : Nat) (f2 : Int → Option Nat) (ks2 : List Int), n - ks2.length ≤ kx ∧ Hid (TI L s a f2 ks2) ∧ Hid (TW w W s0 g s0 n a f2 m2) ∧ Hid (m2 = ks2.length))
   case atStart => exact ⟨x, m, f, ks, by omega, HTI, HW, HMK⟩
   case round =>
    clear HW HTI HT HMK c0 c1 c2 c3
    obtain ⟨a, m2, f2, ks2, hkx2, HTI, HW, HMK⟩ := hrel
    obtain ⟨⟨z0, z1, z2, z3⟩, zlt, zf⟩ := HW.out.box
    simp only [Nat.zero_add] at z1 z2 z3
    have zf0 := zf 0
    have zf1 := zf 1
    have zf2 := zf 2
    have zf3 := zf 3
    clear zf
    have HWF : Hid ((Lit.int .i64 a.code).wf = true) := Lib.hid (by have := codesB_wf HC.out HTI.out.mem; exact wf64 (by omega) (by omega))
    by_cases h0 : a.par = 0
    ·have e0 : (a.par != 0) = false := by simp [h0]
     have HTO := Lib.hid (HTI.out.top HS.out h0)
     clear h0
     go_wp2_with fail
     go_roundg (n - (s + 1))
     case measure => omega
     case rel => exact ⟨s + 1, m2, f2, ks2, by go_num, by omega, by omega, HTO, Lib.hid HW.out.map, HMK, HW.out.below⟩
    ·have e0 : (a.par != 0) = true := by simp [h0]
     cases hf : f2 a.code with
     | some v =>
      have HFV := Lib.hid hf
      have hsm : Hid ((f2 a.code).isSome = true) := Lib.hid (by rw [hf]; rfl)
      by_cases hvs : v = s
      ·have E : Hid (topsB L = false) := Lib.hid (HTI.out.loop (by rw [hf, hvs]))
       have HVS := Lib.hid hvs
       clear h0 hf hvs
       go_wp2_with (at_lookup; refine wpList_seen_look rfl _ _ rfl s0 m2 f2 rfl HW.out.map a.code rfl HWF.out ?_; intro v1 hv1; have hve : v1 = (s : Int) := (by rw [hv1.out v HFV.out, HVS.out]); subst hve; rw [hsm.out]; have hss : ((s : Int) == (s : Int)) = true := (by simp); clear hv1)
       try rw [Exit.noGoto_ret]
       go_ret
       exact ⟨by rw [E.out]; rfl, HW.out.below⟩
      ·have HTO := Lib.hid (HTI.out.old hf hvs)
       have hvz : ((v : Int) == (s : Int)) = false := by simp; omega
       clear h0 hf hvs
       go_wp2_with (at_lookup; refine wpList_seen_look rfl _ _ rfl s0 m2 f2 rfl HW.out.map a.code rfl HWF.out ?_; intro v1 hv1; have hve : v1 = (v : Int) := (by rw [hv1.out v HFV.out]); subst hve; rw [hsm.out]; clear hv1)
       go_roundg (n - (s + 1))
       case measure => omega
       case rel => exact ⟨s + 1, m2, f2, ks2, by go_num, by omega, by omega, HTO, Lib.hid HW.out.map, HMK, HW.out.below⟩
     | none =>
      obtain ⟨p, hp⟩ := parentsB_fnd HP.out HTI.out.mem h0
      obtain ⟨hti2, hlen2⟩ := HTI.out.step HS.out hf hp
      have hsm : Hid ((f2 a.code).isSome = false) := Lib.hid (by rw [hf]; rfl)
      have HTI2 := Lib.hid hti2
      have HFP := Lib.hid hp
      have hl2 : ks2.length + 1 ≤ n := by rw [HN.out] at hlen2; simpa using hlen2
      have HMK2 : Hid (m2 + 1 = (a.code :: ks2).length) := Lib.hid (by rw [HMK.out]; simp)
      have HWS : Hid ((Lit.int .i64 (s : Int)).wf = true) := Lib.hid (wf64 (by omega) (by omega))
      have hgk2 : n - (a.code :: ks2).length < n - ks2.length := by simp; omega
      have hix := fun W h => HI.out a.par W h
      rw [hp] at hix
      have HIX := Lib.hid hix
      clear h0 hf hp hti2 hlen2 hix
      go_wp2_with (first
       | (at_lookup; refine wpList_seen_look rfl _ _ rfl s0 m2 f2 rfl HW.out.map a.code rfl HWF.out ?_; intro v1 hv1; rw [hsm.out]; clear hv1)
       | (at_mapUpdate; refine wpList_seen_put rfl _ _ _ rfl s0 m2 f2 rfl HW.out.map a.code s rfl rfl HWF.out HWS.out (by have := HW.out.m1; omega) ?_; intro w2 hm2 hg2; have hb2 := grown_below HW.out.below hg2.out (Nat.le_refl _) (Nat.le_of_lt HW.out.map.lt); have HAB := Lib.hid (HW.out.box.blk (hg2.out.block g zlt (by (intro e9; injection e9 with e9; exact HW.out.ne e9)))); clear z0 z1 z2 z3 zlt zf0 zf1 zf2 zf3; obtain ⟨⟨z0, z1, z2, z3⟩, zlt, -⟩ := HAB.out; simp only [Nat.zero_add] at z1 z2 z3)
       | (go_at_call 188; refine (HIX.out _ (HZ.out.up (by (rw [HS0.out]; exact hb2)))).mono ?_; rintro e w3 ⟨i, rfl, hfa, hb⟩; obtain ⟨hil, hie⟩ := hfa _ HFP.out; replace HAB := Lib.hid (HAB.out.up hb); replace hm2 := Lib.hid (hm2.out.up hb); replace hb2 := hb2.trans (hb.mono (by (have := hb2.size; have := HS0.out; omega))); have d4 := (HCS.out i hil).up hb2 hbs; rw [hie] at d4; obtain ⟨d0, d1, d2, d3⟩ := d4; have hiz : (i : Int) < (n : Int) := (by rw [HN.out] at hil; omega); clear z0 z1 z2 z3 zlt hb hfa hil hie hg2; obtain ⟨⟨z0, z1, z2, z3⟩, zlt, zf⟩ := HAB.out; simp only [Nat.zero_add] at z1 z2 z3; have zf0 := zf 0; have zf1 := zf 1; have zf2 := zf 2; have zf3 := zf 3; clear zf))
      have HW2 : Hid (TW w _ s0 g s0 n p _ (m2 + 1)) := Lib.hid ⟨ab_set4 HAB.out p, hm2.out.blk (by rw [Below.heap_setCell _ _ _ _ (Ne.symm HW.out.ne), Below.heap_setCell _ _ _ _ (Ne.symm HW.out.ne), Below.heap_setCell _ _ _ _ (Ne.symm HW.out.ne), Below.heap_setCell _ _ _ _ (Ne.symm HW.out.ne)]), bset4 hb2 HW.out.gs _ _ _ _, HW.out.gs, HW.out.ms, HW.out.ne, by have := HMK.out; omega⟩
      go_roundg (n - (a.code :: ks2).length)
      case measure => simp only [List.length_cons]; omega
      case rel => exact ⟨p, m2 + 1, _, a.code :: ks2, Nat.le_refl _, HTI2, HW2, HMK2⟩
  ·obtain rfl : s = n := by omega
   have hltz : ¬ (s : Int) < (s : Int) := by omega
   have E : Hid (topsB L = true) := Lib.hid (by have := HT.out; rw [← HN.out] at this; exact this.all)
   go_wp2_with fail
   go_ret
   exact ⟨by rw [E.out]; rfl, hB⟩
set_option maxRecDepth 20000 in
set_option maxHeartbeats 1600000 in
theorem cvalid8_any (A : Option Addr) (cp : Nat) (L : List Acc) (g : Bool) (w : World) (hz : AccAt w A L) (hl : L.length ≤ 1000) :
  Calls Tryz.prog 143 #[.slice A L.length cp, .bool g] w fun e w' => e = .returned (.bool (vB L g)) ∧ Below w.heap.size w w' := by
 have hB := Below.refl w.heap.size w
 have h1 := fun w h => hcodes_any A cp L w h hl
 have h2 := fun w h => hkinds_any A cp L g w h hl
 have h3 := fun hc w h => hpar_any A cp L w h hl (codesB_srt hc)
 have h4 := fun hc hp w h => htops_any A cp L w h hl hc hp
 have hv : vB L g = (decide (L.length ≤ 200) && codesB L && kindsB L g && parentsB L && topsB L) := rfl
 obtain ⟨n, hn⟩ : ∃ n, L.length = n := ⟨_, rfl⟩
 rw [hn] at hl hv h1 h2 h3 h4 ⊢
 have HZ := Lib.hid hz
 clear hn hz
 by_cases hbig : 200 < n
 ·have E : Hid (vB L g = false) := Lib.hid (by rw [hv, decide_eq_false (show ¬ n ≤ 200 by omega)]; rfl)
  have e1 : decide (n ≤ 200) = false := decide_eq_false (by omega)
  have e2 : decide ((n : Int) ≤ 200) = false := decide_eq_false (by omega)
  clear h1 h2 h3 h4 hv
  go_enter Tryz.func143, Tryz.ntmps143
  go_wp2_with fail
  go_ret
  exact ⟨by rw [E.out]; rfl, hB⟩
 have e2 : decide ((n : Int) ≤ 200) = true := decide_eq_true (by omega)
 rw [decide_eq_true (show n ≤ 200 by omega), Bool.true_and] at hv
 cases hc : codesB L
 ·rw [hc] at h1 hv
  have E := Lib.hid (show vB L g = false from hv)
  have H1 := Lib.hid h1
  clear h1 h2 h3 h4 hv hc
  go_enter Tryz.func143, Tryz.ntmps143
  go_wp2_with (go_at_call 169; refine (H1.out _ (HZ.out.up hB)).mono ?_; rintro e w1 ⟨rfl, hb⟩; replace hB := below_more hB hb; clear hb)
  go_ret
  exact ⟨by rw [E.out]; rfl, hB⟩
 replace h3 := h3 hc
 replace h4 := h4 hc
 rw [hc] at h1 hv
 have H1 := Lib.hid h1
 clear h1 hc
 cases hk : kindsB L g
 ·rw [hk] at h2 hv
  have E := Lib.hid (show vB L g = false from hv)
  have H2 := Lib.hid h2
  clear h2 h3 h4 hv hk
  go_enter Tryz.func143, Tryz.ntmps143
  go_wp2_with (first | (go_at_call 169; refine (H1.out _ (HZ.out.up hB)).mono ?_; rintro e w1 ⟨rfl, hb⟩; replace hB := below_more hB hb; clear hb) | (go_at_call 170; refine (H2.out _ (HZ.out.up hB)).mono ?_; rintro e w1 ⟨rfl, hb⟩; replace hB := below_more hB hb; clear hb))
  go_ret
  exact ⟨by rw [E.out]; rfl, hB⟩
 rw [hk] at h2 hv
 have H2 := Lib.hid h2
 clear h2 hk
 cases hp : parentsB L
 ·rw [hp] at h3 hv
  have E := Lib.hid (show vB L g = false from hv)
  have H3 := Lib.hid h3
  clear h3 h4 hv hp
  go_enter Tryz.func143, Tryz.ntmps143
  go_wp2_with (first | (go_at_call 169; refine (H1.out _ (HZ.out.up hB)).mono ?_; rintro e w1 ⟨rfl, hb⟩; replace hB := below_more hB hb; clear hb) | (go_at_call 170; refine (H2.out _ (HZ.out.up hB)).mono ?_; rintro e w1 ⟨rfl, hb⟩; replace hB := below_more hB hb; clear hb) | (go_at_call 171; refine (H3.out _ (HZ.out.up hB)).mono ?_; rintro e w1 ⟨rfl, hb⟩; replace hB := below_more hB hb; clear hb))
  go_ret
  exact ⟨by rw [E.out]; rfl, hB⟩
 replace h4 := h4 hp
 rw [hp] at h3 hv
 have E := Lib.hid (show vB L g = topsB L from hv)
 have H3 := Lib.hid h3
 have H4 := Lib.hid h4
 clear h3 h4 hv hp
 go_enter Tryz.func143, Tryz.ntmps143
 go_wp2_with (first | (go_at_call 169; refine (H1.out _ (HZ.out.up hB)).mono ?_; rintro e w1 ⟨rfl, hb⟩; replace hB := below_more hB hb; clear hb) | (go_at_call 170; refine (H2.out _ (HZ.out.up hB)).mono ?_; rintro e w1 ⟨rfl, hb⟩; replace hB := below_more hB hb; clear hb) | (go_at_call 171; refine (H3.out _ (HZ.out.up hB)).mono ?_; rintro e w1 ⟨rfl, hb⟩; replace hB := below_more hB hb; clear hb) | (go_at_call 172; refine (H4.out _ (HZ.out.up hB)).mono ?_; rintro e w1 ⟨rfl, hb⟩; replace hB := below_more hB hb; clear hb))
 go_ret
 exact ⟨by rw [E.out]; rfl, hB⟩
set_option maxRecDepth 20000 in
set_option maxHeartbeats 1600000 in
theorem rfind_any (A : Option Addr) (cp : Nat) (L : List Acc) (c : Int) (w : World) (hz : AccAt w A L) (hl : L.length ≤ 1000) :
  Calls Tryz.prog 105 #[.slice A L.length cp, .int .i64 c] w fun e w' => e = .returned (.tuple #[accV (fndA L c), .bool (fnd L c).isSome]) ∧ Below w.heap.size w w' := by
 have hB := below_alloc_new (w := w) (.cells #[.int .i64 acc0.code, .int .i64 acc0.kind, .int .i64 acc0.basis, .int .i64 acc0.par] 151)
 have hA4 := ab_new w 151 acc0
 obtain ⟨n, hn⟩ : ∃ n, L.length = n := ⟨_, rfl⟩
 obtain ⟨s0, hs0⟩ : ∃ s0, w.heap.size = s0 := ⟨_, rfl⟩
 rw [hn] at hl ⊢
 rw [hs0] at hB hA4 ⊢
 have HN := Lib.hid hn
 have HZ := Lib.hid hz
 have HS0 := Lib.hid hs0
 have HA := Lib.hid hA4
 clear hn hz hA4
 go_enter Tryz.func105, Tryz.ntmps105
 go_wp2_with fail
 go_loopg [6] n (fun kx s6 wr => ∃ k : Nat, s6 = .int .i64 k ∧ k ≤ n ∧ n - k ≤ kx ∧ Hid (fnd (L.take k) c = none) ∧ Hid (AB wr s0 acc0) ∧ Below s0 w wr)
 case atStart => exact ⟨0, rfl, by omega, by omega, Lib.hid (by rw [List.take_zero]; rfl), HA, hB⟩
 case round =>
  clear hB HA
  obtain ⟨k, rfl, hk, hkx, HF, HA, hB⟩ := hrel
  by_cases hlt : k < n
  ·have hltz : (k : Int) < (n : Int) := by omega
   obtain ⟨b, off, rfl, hbw, hcs⟩ := HZ.out (by rw [HN.out]; omega)
   have hbs : b < s0 := by have := HS0.out; omega
   have hbn : b ≠ s0 := by omega
   obtain ⟨c0, c1, c2, c3⟩ := (hcs k (by rw [HN.out]; exact hlt)).up hB hbs
   obtain ⟨x, hx⟩ : ∃ x, L.getD k acc0 = x := ⟨_, rfl⟩
   rw [hx] at c0 c1 c2 c3
   have HX := Lib.hid hx
   have hf := fnd_take_succ (L := L) (c := c) (k := k) (by rw [HN.out]; exact hlt) HF.out
   rw [hx] at hf
   clear hx hcs
   by_cases he : x.code = c
   ·rw [if_pos he] at hf
    have hf2 := fnd_take hf
    have e1 : Hid (fndA L c = x) := Lib.hid (by unfold fndA; rw [hf2]; rfl)
    have e2 : Hid ((fnd L c).isSome = true) := Lib.hid (by rw [hf2]; rfl)
    have e3 : (x.code == c) = true := by simp [he]
    obtain ⟨⟨z0, z1, z2, z3⟩, zlt, zf⟩ := HA.out
    have zf0 := zf 0
    have zf1 := zf 1
    have zf2 := zf 2
    have zf3 := zf 3
    simp only [Nat.zero_add] at z1 z2 z3
    clear zf hf hf2 he
    go_wp2_with fail
    rw [e1.out, e2.out]
    exact bodyPost_ret (v := .tuple #[accV x, .bool true]) (by simp [results, Tryz.results105, go_sem, z0, z1, z2, z3]) rfl ⟨rfl, bset4 hB (Nat.le_refl _) _ _ _ _⟩
   ·rw [if_neg he] at hf
    have HF2 := Lib.hid hf
    have e3 : (x.code == c) = false := by simp [he]
    clear hf he
    go_wp2_with fail
    go_roundg (n - (k + 1))
    case measure => omega
    case rel => exact ⟨k + 1, by go_num, by omega, by omega, HF2, HA, hB⟩
  ·obtain rfl : k = n := by omega
   have hltz : ¬ (k : Int) < (k : Int) := by omega
   have hf := HF.out
   rw [List.take_of_length_le (by rw [HN.out]; omega)] at hf
   have e1 : Hid (fndA L c = acc0) := Lib.hid (by unfold fndA; rw [hf]; rfl)
   have e2 : Hid ((fnd L c).isSome = false) := Lib.hid (by rw [hf]; rfl)
   obtain ⟨⟨z0, z1, z2, z3⟩, zlt, zf⟩ := HA.out
   have zf0 := zf 0
   have zf1 := zf 1
   have zf2 := zf 2
   have zf3 := zf 3
   simp only [Nat.zero_add] at z1 z2 z3
   clear zf hf
   go_wp2_with fail
   rw [e1.out, e2.out]
   exact bodyPost_ret (v := .tuple #[accV acc0, .bool false]) (by simp [results, Tryz.results105, go_sem, z0, z1, z2, z3]) rfl ⟨rfl, bset4 hB (Nat.le_refl _) _ _ _ _⟩
theorem climb_le {L : List Acc} {c : Int} : (climb L c).length ≤ L.length + 1 := climbN_le
set_option maxRecDepth 20000 in
set_option maxHeartbeats 1600000 in
theorem rclimb_any (A : Option Addr) (cp : Nat) (L : List Acc) (c : Int) (w : World) (hz : AccAt w A L) (hl : L.length ≤ 1000) :
  Calls Tryz.prog 160 #[.slice A L.length cp, .int .i64 c] w fun e w' => ∃ v, e = .returned v ∧ SlI w' v (climb L c) ∧ Below w.heap.size w w' := by
 have hB := Below.refl w.heap.size w
 have hfl : (climb L c).length ≤ L.length + 1 := climb_le
 have hf0 : climbN L (L.length + 1 - 0) c = (climb L c).drop 0 := rfl
 obtain ⟨full, hfull⟩ : ∃ full, climb L c = full := ⟨_, rfl⟩
 rw [hfull] at hfl hf0 ⊢
 have hFd := fun w y h => rfind_any A cp L y w h hl
 obtain ⟨n, hn⟩ : ∃ n, L.length = n := ⟨_, rfl⟩
 obtain ⟨s0, hs0⟩ : ∃ s0, w.heap.size = s0 := ⟨_, rfl⟩
 rw [hn] at hl hfl hf0 hFd ⊢
 rw [hs0] at hB ⊢
 have HN := Lib.hid hn
 have HZ := Lib.hid hz
 have HS0 := Lib.hid hs0
 have HFd := Lib.hid hFd
 have HF0 := Lib.hid hf0
 obtain ⟨i0, hi, hz0, hz1, hz2⟩ := info_parts infoI_int
 clear hn hz hs0 hfull hFd hf0
 go_enter Tryz.func160, Tryz.ntmps160
 go_wp2_with fail
 have hO : Hid (OwnI .i64 3 w s0 (.slice none 0 0) (full.take 0)) := Lib.hid OwnI.nil
 go_loopg [1, 5, 6] (n + 1) (fun kx s1 s5 s6 wr => ∃ (k : Nat) (y : Int), s1 = .int .i64 y ∧ s6 = .int .i64 k ∧ k ≤ full.length ∧ n + 1 - k ≤ kx ∧ Hid (climbN L (n + 1 - k) y = full.drop k) ∧ Hid (OwnI .i64 3 wr s0 s5 (full.take k)) ∧ Below s0 w wr)
 case atStart => exact ⟨0, c, rfl, rfl, by omega, by omega, HF0, hO, hB⟩
 case round =>
  clear hB hO HF0
  obtain ⟨k, y, rfl, rfl, hk, hkx, HD, hO, hB⟩ := hrel
  have hsz : s0 ≤ wr.heap.size := by have := hB.size; have := HS0.out; omega
  by_cases hlt : k ≤ n
  ·have hltz : (k : Int) ≤ (n : Int) := by omega
   have hz2' := HZ.out.up (w' := wr) (by rw [HS0.out]; exact hB)
   have hfd := HFd.out wr y hz2'
   cases hc : fnd L y with
   | none =>
    have e1 : fndA L y = acc0 := by unfold fndA; rw [hc]; rfl
    rw [e1, hc] at hfd
    have hdr : full.drop k = [] := by rw [← HD.out, climbN_none hc]
    have htk : full.take k = full := List.take_of_length_le (by have := congrArg List.length hdr; rw [List.length_drop] at this; simp at this; omega)
    have ho := hO.out
    rw [htk] at ho
    have HO := Lib.hid ho
    have HFD := Lib.hid hfd
    clear hfd hdr htk ho hc e1 hO
    go_wp2_with (go_at_call 105; refine HFD.out.mono ?_; rintro e w1 ⟨rfl, hb⟩; replace HO := Lib.hid ((HO.out.up hb).alloc (.cells #[.int .i64 0, .int .i64 0, .int .i64 0, .int .i64 0] 151)).sli; replace hB := (hB.trans (hb.mono hsz)).alloc (Nat.le_trans hsz hb.size) (.cells #[.int .i64 0, .int .i64 0, .int .i64 0, .int .i64 0] 151); clear hb)
    go_ret
    exact ⟨_, rfl, HO.out, hB⟩
   | some a =>
    have e1 : fndA L y = a := by unfold fndA; rw [hc]; rfl
    rw [e1, hc] at hfd
    have hst : climbN L (n + 1 - k) y = y :: climbN L (n - k) a.par := by
     rw [show n + 1 - k = (n - k) + 1 by omega, climbN_some hc]
    have hd1 : full.drop k = y :: climbN L (n - k) a.par := by rw [← HD.out, hst]
    have hkl : k < full.length := by have := congrArg List.length hd1; rw [List.length_drop] at this; simp at this; omega
    have hd2 := drop_getD (d := (0 : Int)) hkl
    rw [hd1] at hd2
    injection hd2 with hy hd3
    have htk : full.take (k + 1) = full.take k ++ [y] := by rw [take_succ_getD (d := (0 : Int)) hkl, ← hy]
    have HD2 : Hid (climbN L (n + 1 - (k + 1)) a.par = full.drop (k + 1)) := Lib.hid (by rw [← hd3]; congr 1; omega)
    have hln : Hid ((full.take k).length ≤ 100000000) := Lib.hid (by rw [List.length_take]; omega)
    have HTK := Lib.hid htk
    have HFD := Lib.hid hfd
    clear hfd hst hd1 hd3 hy htk hc e1
    go_wp2_with (first
     | (go_at_call 105; refine HFD.out.mono ?_; rintro e w1 ⟨rfl, hb⟩; have hsz1 := Nat.le_trans hsz hb.size; replace hO := Lib.hid (hO.out.up hb); have hne := Lib.hid (hO.out.ne_new (Nat.le_refl _)); have hA1 := Lib.hid (ab_new w1 151 a); replace hB := (hB.trans (hb.mono hsz)).alloc hsz1 (.cells #[.int .i64 a.code, .int .i64 a.kind, .int .i64 a.basis, .int .i64 a.par] 151); clear hb)
     | (at_builtin; refine wpList_append_ik (w1.alloc (.cells #[.int .i64 a.code, .int .i64 a.kind, .int .i64 a.basis, .int .i64 a.par] 151)) rfl (.tmp 23) (.tmp 25) 176 rfl .i64 s0 3 i0 8 Tryz.underlying176 hi hz0 hz1 hz2 (by omega) u5 _ (by rfl) (hO.out.alloc _) y _ 1 (by first | rfl | simp) rfl hln.out (by simp; omega) ?_; intro v2 w2 ho2 hb2 hk2; have hA2 := hA1.out.blk (hk2.out _ (by simp) hne.out); obtain ⟨⟨d0, d1, d2, d3⟩, dlt, -⟩ := hA2; replace ho2 := ho2.out; rw [← HTK.out] at ho2; replace ho2 := Lib.hid ho2; replace hB := hB.trans hb2; clear hb2))
    go_roundg (n + 1 - (k + 1))
    case measure => omega
    case rel => exact ⟨k + 1, a.par, rfl, by go_num, by omega, by omega, HD2, ho2, hB⟩
  ·obtain rfl : k = n + 1 := by omega
   have hltz : decide (((n + 1 : Nat) : Int) ≤ (n : Int)) = false := decide_eq_false (by omega)
   have ho := hO.out.sli
   rw [List.take_of_length_le (by omega)] at ho
   have HO := Lib.hid ho
   clear ho
   go_wp2_with fail
   go_ret
   exact ⟨_, rfl, HO.out, hB⟩
theorem prop_code1 {L : List Acc} {g : Bool} {a : Acc} (h : a.code < 1) : properB L g a = false := by unfold properB; rw [decide_eq_false (show ¬ 1 ≤ a.code by omega)]; rfl
theorem prop_code2 {L : List Acc} {g : Bool} {a : Acc} (h : 99999 < a.code) : properB L g a = false := by unfold properB; rw [decide_eq_false (show ¬ a.code ≤ 99999 by omega), Bool.and_false]; rfl
theorem prop_kin {L : List Acc} {g : Bool} {a : Acc} (h : kinB g a = false) : properB L g a = false := by unfold properB; rw [h, Bool.and_false]; rfl
theorem prop_rest {L : List Acc} {g : Bool} {a : Acc} (h1 : 1 ≤ a.code) (h2 : a.code ≤ 99999) (h : kinB g a = true) : properB L g a = prB L a := by unfold properB; rw [h, decide_eq_true h1, decide_eq_true h2]; rfl
set_option maxRecDepth 20000 in
set_option maxHeartbeats 3200000 in
theorem rproper_any (A : Option Addr) (cp : Nat) (L : List Acc) (a : Acc) (g : Bool) (w : World) (hz : AccAt w A L) (hl : L.length ≤ 1000) :
  Calls Tryz.prog 159 #[.slice A L.length cp, accV a, .bool g] w fun e w' => e = .returned (.bool (properB L g a)) ∧ Below w.heap.size w w' := by
 have hB := below_alloc_new (w := w) (.cells #[.int .i64 a.code, .int .i64 a.kind, .int .i64 a.basis, .int .i64 a.par] 151)
 have hA := ab_new w 151 a
 have HAB := Lib.hid hA
 have hz2 := hz.up hB
 have hFd := rfind_any A cp L a.par (w.alloc (.cells #[.int .i64 a.code, .int .i64 a.kind, .int .i64 a.basis, .int .i64 a.par] 151)) hz2 hl
 obtain ⟨⟨c0, c1, c2, c3⟩, lt, -⟩ := hA
 generalize L.length = n at *
 clear hl hz hz2
 rcases Int.lt_or_le a.code 1 with h1 | h1
 ·have E := Lib.hid (prop_code1 (L := L) (g := g) h1)
  have e1 : decide (a.code < 1) = true := decide_eq_true h1
  clear hFd h1
  go_enter Tryz.func159, Tryz.ntmps159
  go_wp2_with fail
  go_ret
  exact ⟨by rw [E.out]; rfl, hB⟩
 have e1 : decide (a.code < 1) = false := decide_eq_false (by omega)
 rcases Int.lt_or_le 99999 a.code with h2 | h2
 ·have E := Lib.hid (prop_code2 (L := L) (g := g) h2)
  have e2 : decide (99999 < a.code) = true := decide_eq_true h2
  clear hFd h1 h2
  go_enter Tryz.func159, Tryz.ntmps159
  go_wp2_with fail
  go_ret
  exact ⟨by rw [E.out]; rfl, hB⟩
 have e2 : decide (99999 < a.code) = false := decide_eq_false (by omega)
 cases hk : kinB g a
 ·have E := Lib.hid (prop_kin (L := L) hk)
  have h0 := kinB_no hk
  clear hk hFd h1 h2
  rcases h0 with h3 | ⟨h3, h4⟩ | ⟨h3, h4, h5⟩ | ⟨h3, h4, h5, h6⟩
  ·have e3 : decide (a.kind < 1) = true := decide_eq_true h3
   go_enter Tryz.func159, Tryz.ntmps159
   go_wp2_with fail
   go_ret
   exact ⟨by rw [E.out]; rfl, hB⟩
  ·have e3 : decide (a.kind < 1) = false := decide_eq_false (by omega)
   have e4 : decide (5 < a.kind) = true := decide_eq_true h4
   go_enter Tryz.func159, Tryz.ntmps159
   go_wp2_with fail
   go_ret
   exact ⟨by rw [E.out]; rfl, hB⟩
  ·have e3 : decide (a.kind < 1) = false := decide_eq_false (by omega)
   have e4 : decide (5 < a.kind) = false := decide_eq_false (by omega)
   cases g
   ·have h5' : a.basis < 0 := h5
    have e5 : (a.basis != 0) = true := by simp; omega
    clear h5 h5' h3 h4
    go_enter Tryz.func159, Tryz.ntmps159
    go_wp2_with fail
    go_ret
    exact ⟨by rw [E.out]; rfl, hB⟩
   ·have h5' : a.basis < 1 := h5
    have e5 : decide (a.basis < 1) = true := decide_eq_true h5'
    clear h5 h5' h3 h4
    go_enter Tryz.func159, Tryz.ntmps159
    go_wp2_with fail
    go_ret
    exact ⟨by rw [E.out]; rfl, hB⟩
  ·have e3 : decide (a.kind < 1) = false := decide_eq_false (by omega)
   have e4 : decide (5 < a.kind) = false := decide_eq_false (by omega)
   cases g
   ·have h6' : 0 < a.basis := h6
    have e5 : (a.basis != 0) = true := by simp; omega
    clear h5 h6 h6' h3 h4
    go_enter Tryz.func159, Tryz.ntmps159
    go_wp2_with fail
    go_ret
    exact ⟨by rw [E.out]; rfl, hB⟩
   ·have h5' : 1 ≤ a.basis := h5
    have h6' : 3 < a.basis := h6
    have e5 : decide (a.basis < 1) = false := decide_eq_false (by omega)
    have e6 : decide (3 < a.basis) = true := decide_eq_true h6'
    clear h5 h6 h5' h6' h3 h4
    go_enter Tryz.func159, Tryz.ntmps159
    go_wp2_with fail
    go_ret
    exact ⟨by rw [E.out]; rfl, hB⟩
 ·have E0 := prop_rest (L := L) h1 h2 hk
  obtain ⟨h3, h4, h5, h6⟩ := kinB_is hk
  have e3 : decide (a.kind < 1) = false := decide_eq_false (by omega)
  have e4 : decide (5 < a.kind) = false := decide_eq_false (by omega)
  clear hk h1 h2 h3 h4
  by_cases h7 : a.par = 0
  ·have E := Lib.hid (E0.trans (prB_is.2 (.inl h7)))
   have e7 : (a.par == 0) = true := by simp [h7]
   clear E0 h7 hFd
   cases g
   ·have h5' : 0 ≤ a.basis := h5
    have h6' : a.basis ≤ 0 := h6
    have e5 : (a.basis != 0) = false := by simp; omega
    clear h5 h6 h5' h6'
    go_enter Tryz.func159, Tryz.ntmps159
    go_wp2_with fail
    go_ret
    exact ⟨by rw [E.out]; rfl, hB⟩
   ·have h5' : 1 ≤ a.basis := h5
    have h6' : a.basis ≤ 3 := h6
    have e5 : decide (a.basis < 1) = false := decide_eq_false (by omega)
    have e6 : decide (3 < a.basis) = false := decide_eq_false (by omega)
    clear h5 h6 h5' h6'
    go_enter Tryz.func159, Tryz.ntmps159
    go_wp2_with fail
    go_ret
    exact ⟨by rw [E.out]; rfl, hB⟩
  ·have e7 : (a.par == 0) = false := by simp [h7]
   have E1 : prB L a = match fnd L a.par with
    | none => false
    | some p => decide (p.code ≠ a.code) && decide (p.kind = a.kind) := by unfold prB; rw [decide_eq_false h7]; rfl
   rw [E1] at E0
   clear E1 h7
   have hbas : (g = false ∧ (a.basis != 0) = false) ∨ (g = true ∧ decide (a.basis < 1) = false ∧ decide (3 < a.basis) = false) := by
    cases g
    ·have h5' : 0 ≤ a.basis := h5
     have h6' : a.basis ≤ 0 := h6
     exact .inl ⟨rfl, by simp; omega⟩
    ·have h5' : 1 ≤ a.basis := h5
     have h6' : a.basis ≤ 3 := h6
     exact .inr ⟨rfl, decide_eq_false (by omega), decide_eq_false (by omega)⟩
   clear h5 h6
   cases hf : fnd L a.par with
   | none =>
    have e8 : fndA L a.par = acc0 := by unfold fndA; rw [hf]; rfl
    rw [e8, hf] at hFd
    rw [hf] at E0
    have E := Lib.hid E0
    have HFD := Lib.hid hFd
    clear e8 hf hFd E0
    rcases hbas with ⟨rfl, e5⟩ | ⟨rfl, e5, e6⟩
    all_goals
     go_enter Tryz.func159, Tryz.ntmps159
     go_wp2_with (go_at_call 105; refine HFD.out.mono ?_; rintro e w1 ⟨rfl, hb⟩; replace HAB := Lib.hid (HAB.out.up hb); clear c0 c1 c2 c3 lt; obtain ⟨⟨c0, c1, c2, c3⟩, lt, -⟩ := HAB.out; replace hB := below_more hB hb; clear hb)
     go_ret
     exact ⟨by rw [E.out]; rfl, below_new hB _⟩
   | some p =>
    have e8 : fndA L a.par = p := by unfold fndA; rw [hf]; rfl
    rw [e8, hf] at hFd
    rw [hf] at E0
    simp only at E0
    have HFD := Lib.hid hFd
    clear e8 hf hFd
    by_cases h8 : p.code = a.code
    ·have e8 : (p.code != a.code) = false := by simp [h8]
     rw [decide_eq_false (fun h => h h8), Bool.false_and] at E0
     have E := Lib.hid E0
     clear E0 h8
     rcases hbas with ⟨rfl, e5⟩ | ⟨rfl, e5, e6⟩
     all_goals
      go_enter Tryz.func159, Tryz.ntmps159
      go_wp2_with (go_at_call 105; refine HFD.out.mono ?_; rintro e w1 ⟨rfl, hb⟩; replace HAB := Lib.hid (HAB.out.up hb); clear c0 c1 c2 c3 lt; obtain ⟨⟨c0, c1, c2, c3⟩, lt, -⟩ := HAB.out; replace hB := below_more hB hb; clear hb)
      go_ret
      exact ⟨by rw [E.out]; rfl, below_new hB _⟩
    ·have e8 : (p.code != a.code) = true := by simp [h8]
     rw [decide_eq_true h8, Bool.true_and] at E0
     clear h8
     have e9 : (p.kind == a.kind) = decide (p.kind = a.kind) := by rw [Bool.eq_iff_iff]; simp
     generalize decide (p.kind = a.kind) = q at *
     have E := Lib.hid E0
     clear E0
     rcases hbas with ⟨rfl, e5⟩ | ⟨rfl, e5, e6⟩
     all_goals
      go_enter Tryz.func159, Tryz.ntmps159
      go_wp2_with (go_at_call 105; refine HFD.out.mono ?_; rintro e w1 ⟨rfl, hb⟩; replace HAB := Lib.hid (HAB.out.up hb); clear c0 c1 c2 c3 lt; obtain ⟨⟨c0, c1, c2, c3⟩, lt, -⟩ := HAB.out; replace hB := below_more hB hb; clear hb)
      go_ret
      exact ⟨by rw [E.out]; rfl, below_new hB _⟩
theorem SlI.keep {w w' : World} {v : Value} {L : List Int} (h : SlI w v L) (hk : AS.Keep w w') : SlI w' v L := by
 obtain ⟨A, c, e, h⟩ := h
 refine ⟨A, c, e, fun h0 => ?_⟩
 obtain ⟨b, off, e, hlt, hc⟩ := h h0
 exact ⟨b, off, e, Nat.lt_of_lt_of_le hlt hk.size, fun i hi => (hk.cell hlt (hc i hi)).trans (hc i hi)⟩
def HSl (L : List Int) : AS.Fact := ⟨fun v w => SlI w v L, fun _ _ _ hb h => h.keep hb⟩
def HNo (W : World) : Nat → List Value → World → Prop := fun _ _ w => Below W.heap.size W w
theorem HNo.st (W : World) : ∀ k l w w', Below w.heap.size w w' → HNo W k l w → HNo W k l w' := fun _ _ _ _ hb h => below_more h hb
end Go.Proofs.YtaeccljkmijpaaaGreat
