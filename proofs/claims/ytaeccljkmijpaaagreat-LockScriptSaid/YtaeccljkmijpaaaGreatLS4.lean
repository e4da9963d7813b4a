/- Contracts of the functions that the statements reach, part 4: what was proved of each, callees first. -/
import Derived.Test.YtaeccljkmijpaaaGreatLS3
namespace Go.Proofs.YtaeccljkmijpaaaGreat
open Go.RowKit
def rlN (i : Nat) : ByteArray := ([⟨#[105, 110, 118, 101, 115, 116, 109, 101, 110, 116]⟩, ⟨#[103, 111, 111, 100, 119, 105, 108, 108]⟩, ⟨#[97, 115, 115, 111, 99, 105, 97, 116, 101, 115]⟩, ⟨#[105, 110, 118, 101, 110, 116, 111, 114, 121]⟩, ⟨#[114, 101, 115, 101, 114, 118, 101]⟩, ⟨#[109, 105, 110, 111, 114, 105, 116, 121]⟩, ⟨#[114, 101, 116, 97, 105, 110, 101, 100]⟩, ⟨#[97, 99, 113, 117, 105, 114, 101, 100]⟩, ⟨#[111, 119, 110, 101, 114, 115]⟩, ⟨#[100, 105, 115, 112, 111, 115, 97, 108]⟩, ⟨#[97, 115, 115, 111, 99, 105, 97, 116, 101, 80, 114, 111, 102, 105, 116]⟩, ⟨#[100, 105, 118, 105, 100, 101, 110, 100, 115]⟩, ⟨#[109, 105, 110, 111, 114, 105, 116, 121, 80, 114, 111, 102, 105, 116]⟩, ⟨#[100, 105, 102, 102, 101, 114, 101, 110, 99, 101]⟩, ⟨#[109, 97, 114, 103, 105, 110]⟩] : List ByteArray).getD i ⟨#[]⟩
abbrev rpC (g : Grp) : Array Value := #[.string ⟨#[105, 110, 118, 101, 115, 116, 109, 101, 110, 116]⟩, .int .i64 g.r0, .int .i64 1, .int .i64 3, .string ⟨#[103, 111, 111, 100, 119, 105, 108, 108]⟩, .int .i64 g.r1, .int .i64 1, .int .i64 3, .string ⟨#[97, 115, 115, 111, 99, 105, 97, 116, 101, 115]⟩, .int .i64 g.r2, .int .i64 1, .int .i64 3, .string ⟨#[105, 110, 118, 101, 110, 116, 111, 114, 121]⟩, .int .i64 g.r3, .int .i64 1, .int .i64 1, .string ⟨#[114, 101, 115, 101, 114, 118, 101]⟩, .int .i64 g.r4, .int .i64 3, .int .i64 3, .string ⟨#[109, 105, 110, 111, 114, 105, 116, 121]⟩, .int .i64 g.r5, .int .i64 3, .int .i64 3, .string ⟨#[114, 101, 116, 97, 105, 110, 101, 100]⟩, .int .i64 g.r6, .int .i64 3, .int .i64 3, .string ⟨#[97, 99, 113, 117, 105, 114, 101, 100]⟩, .int .i64 g.r7, .int .i64 3, .int .i64 3, .string ⟨#[111, 119, 110, 101, 114, 115]⟩, .int .i64 g.r8, .int .i64 3, .int .i64 3, .string ⟨#[100, 105, 115, 112, 111, 115, 97, 108]⟩, .int .i64 g.r9, .int .i64 4, .int .i64 2, .string ⟨#[97, 115, 115, 111, 99, 105, 97, 116, 101, 80, 114, 111, 102, 105, 116]⟩, .int .i64 g.r10, .int .i64 4, .int .i64 2, .string ⟨#[100, 105, 118, 105, 100, 101, 110, 100, 115]⟩, .int .i64 g.r11, .int .i64 4, .int .i64 2, .string ⟨#[109, 105, 110, 111, 114, 105, 116, 121, 80, 114, 111, 102, 105, 116]⟩, .int .i64 g.r12, .int .i64 5, .int .i64 2, .string ⟨#[100, 105, 102, 102, 101, 114, 101, 110, 99, 101]⟩, .int .i64 g.r13, .int .i64 5, .int .i64 2, .string ⟨#[109, 97, 114, 103, 105, 110]⟩, .int .i64 g.r14, .int .i64 5, .int .i64 2]
abbrev rrC (g : Grp) : Array Value := #[.string ⟨#[105, 110, 118, 101, 115, 116, 109, 101, 110, 116]⟩, .int .i64 g.r0, .int .i64 1, .int .i64 3, .bool true, .string ⟨#[103, 111, 111, 100, 119, 105, 108, 108]⟩, .int .i64 g.r1, .int .i64 1, .int .i64 3, .bool false, .string ⟨#[97, 115, 115, 111, 99, 105, 97, 116, 101, 115]⟩, .int .i64 g.r2, .int .i64 1, .int .i64 3, .bool false, .string ⟨#[105, 110, 118, 101, 110, 116, 111, 114, 121]⟩, .int .i64 g.r3, .int .i64 1, .int .i64 1, .bool true, .string ⟨#[114, 101, 115, 101, 114, 118, 101]⟩, .int .i64 g.r4, .int .i64 3, .int .i64 3, .bool false, .string ⟨#[109, 105, 110, 111, 114, 105, 116, 121]⟩, .int .i64 g.r5, .int .i64 3, .int .i64 3, .bool false, .string ⟨#[114, 101, 116, 97, 105, 110, 101, 100]⟩, .int .i64 g.r6, .int .i64 3, .int .i64 3, .bool true, .string ⟨#[97, 99, 113, 117, 105, 114, 101, 100]⟩, .int .i64 g.r7, .int .i64 3, .int .i64 3, .bool false, .string ⟨#[111, 119, 110, 101, 114, 115]⟩, .int .i64 g.r8, .int .i64 3, .int .i64 3, .bool false, .string ⟨#[100, 105, 115, 112, 111, 115, 97, 108]⟩, .int .i64 g.r9, .int .i64 4, .int .i64 2, .bool false, .string ⟨#[97, 115, 115, 111, 99, 105, 97, 116, 101, 80, 114, 111, 102, 105, 116]⟩, .int .i64 g.r10, .int .i64 4, .int .i64 2, .bool false, .string ⟨#[100, 105, 118, 105, 100, 101, 110, 100, 115]⟩, .int .i64 g.r11, .int .i64 4, .int .i64 2, .bool true, .string ⟨#[109, 105, 110, 111, 114, 105, 116, 121, 80, 114, 111, 102, 105, 116]⟩, .int .i64 g.r12, .int .i64 5, .int .i64 2, .bool false, .string ⟨#[100, 105, 102, 102, 101, 114, 101, 110, 99, 101]⟩, .int .i64 g.r13, .int .i64 5, .int .i64 2, .bool false, .string ⟨#[109, 97, 114, 103, 105, 110]⟩, .int .i64 g.r14, .int .i64 5, .int .i64 2, .bool false]
theorem rp_get (g : Grp) : ∀ i, i < 15 → (rpC g).toList.extract (i * 4) (i * 4 + 4) = [.string (rlN i), .int .i64 (g.R.getD i 0), .int .i64 (rlK i), .int .i64 (rlB i)] := by
 intro i hi
 match i, hi with
 | 0, _ | 1, _ | 2, _ | 3, _ | 4, _ | 5, _ | 6, _ | 7, _ | 8, _ | 9, _ | 10, _ | 11, _ | 12, _ | 13, _ | 14, _ => rfl
structure RB (w : World) (b : Nat) (g : Grp) : Prop where
 c0 : w.cell? ⟨b, 0, none⟩ = some (.int .i64 g.r0)
 c1 : w.cell? ⟨b, 1, none⟩ = some (.int .i64 g.r1)
 c2 : w.cell? ⟨b, 2, none⟩ = some (.int .i64 g.r2)
 c3 : w.cell? ⟨b, 3, none⟩ = some (.int .i64 g.r3)
 c4 : w.cell? ⟨b, 4, none⟩ = some (.int .i64 g.r4)
 c5 : w.cell? ⟨b, 5, none⟩ = some (.int .i64 g.r5)
 c6 : w.cell? ⟨b, 6, none⟩ = some (.int .i64 g.r6)
 c7 : w.cell? ⟨b, 7, none⟩ = some (.int .i64 g.r7)
 c8 : w.cell? ⟨b, 8, none⟩ = some (.int .i64 g.r8)
 c9 : w.cell? ⟨b, 9, none⟩ = some (.int .i64 g.r9)
 c10 : w.cell? ⟨b, 10, none⟩ = some (.int .i64 g.r10)
 c11 : w.cell? ⟨b, 11, none⟩ = some (.int .i64 g.r11)
 c12 : w.cell? ⟨b, 12, none⟩ = some (.int .i64 g.r12)
 c13 : w.cell? ⟨b, 13, none⟩ = some (.int .i64 g.r13)
 c14 : w.cell? ⟨b, 14, none⟩ = some (.int .i64 g.r14)
 lt : b < w.heap.size
theorem rb_new (w : World) (t : TypeId) (g : Grp) : RB (w.alloc (.cells #[.int .i64 g.r0, .int .i64 g.r1, .int .i64 g.r2, .int .i64 g.r3, .int .i64 g.r4, .int .i64 g.r5, .int .i64 g.r6, .int .i64 g.r7, .int .i64 g.r8, .int .i64 g.r9, .int .i64 g.r10, .int .i64 g.r11, .int .i64 g.r12, .int .i64 g.r13, .int .i64 g.r14] t)) w.heap.size g := by
 constructor
 case lt => simp
 all_goals (simp only [World.cell?]; rw [heap_alloc_new]; rfl)
theorem RB.up {w w' : World} {b : Nat} {g : Grp} (h : RB w b g) (hb : Below w.heap.size w w') : RB w' b g :=
 ⟨(hb.cell (p := ⟨b, 0, none⟩) h.lt).trans h.c0, (hb.cell (p := ⟨b, 1, none⟩) h.lt).trans h.c1, (hb.cell (p := ⟨b, 2, none⟩) h.lt).trans h.c2, (hb.cell (p := ⟨b, 3, none⟩) h.lt).trans h.c3, (hb.cell (p := ⟨b, 4, none⟩) h.lt).trans h.c4, (hb.cell (p := ⟨b, 5, none⟩) h.lt).trans h.c5, (hb.cell (p := ⟨b, 6, none⟩) h.lt).trans h.c6, (hb.cell (p := ⟨b, 7, none⟩) h.lt).trans h.c7, (hb.cell (p := ⟨b, 8, none⟩) h.lt).trans h.c8, (hb.cell (p := ⟨b, 9, none⟩) h.lt).trans h.c9, (hb.cell (p := ⟨b, 10, none⟩) h.lt).trans h.c10, (hb.cell (p := ⟨b, 11, none⟩) h.lt).trans h.c11, (hb.cell (p := ⟨b, 12, none⟩) h.lt).trans h.c12, (hb.cell (p := ⟨b, 13, none⟩) h.lt).trans h.c13, (hb.cell (p := ⟨b, 14, none⟩) h.lt).trans h.c14, Nat.lt_of_lt_of_le h.lt hb.size⟩
theorem there_new (w : World) (C : Array Value) (t : TypeId) : (w.alloc (.cells C t)).there w.heap.size 0 C.size := fun j hj => by
 rw [Nat.zero_add]
 constructor
 ·simp only [World.cell?]; rw [heap_alloc_new]; simp; exact hj
 ·simp only [World.frozen?]; rw [heap_alloc_new]; simp
theorem below_setCells {B : Nat} {w0 : World} {b : Nat} (hb : B ≤ b) : ∀ (vs : List Value) (o : Nat) {w : World}, Below B w0 w → Below B w0 (w.setCells b o vs)
 | [], _, _, h => h
 | v :: r, o, _, h => by
  rw [World.setCells]
  exact below_setCells hb r (o + 1) (Below.setCell (p := ⟨b, o, none⟩) h hb v)
theorem results_cell_mid {P : Program} {fn : Func} {p : Tmp} {ty : TypeId} (h : fn.results = #[.cell p ty]) (tmps : Array Value) (w : World) (b : Nat) (cs : List Value) (d : TypeDesc)
  (hp : tmps.getD p undef = .pointer (some ⟨b, 0, none⟩)) (hc : w.rangeAt b 0 cs) (hu : P.underlying ty = some d) (hd : d.isRow = true) (hi : (P.info? ty).map (·.size) = some cs.length) :
  (results fn tmps).run P w = .ok (.agg cs.toArray) w := by
 have hp' : tmps[p]?.getD undef = .pointer (some ⟨b, 0, none⟩) := by simpa using hp
 simp [results, h, hp', asAddr, run_loadVar_mid w b 0 ty cs d hc hu hd hi]
set_option maxRecDepth 20000 in
set_option maxHeartbeats 1600000 in
theorem rolesof_any (g : Grp) (w : World) : Calls Tryz.prog 145 #[rolV g] w fun e w' => e = .returned (.agg (rpC g)) ∧ Below w.heap.size w w' := by
 have hB1 := below_alloc_new (w := w) (.cells #[.int .i64 g.r0, .int .i64 g.r1, .int .i64 g.r2, .int .i64 g.r3, .int .i64 g.r4, .int .i64 g.r5, .int .i64 g.r6, .int .i64 g.r7, .int .i64 g.r8, .int .i64 g.r9, .int .i64 g.r10, .int .i64 g.r11, .int .i64 g.r12, .int .i64 g.r13, .int .i64 g.r14] 26)
 have hB := below_new hB1 (.cells #[.string ⟨#[]⟩, .int .i64 0, .int .i64 0, .int .i64 0, .string ⟨#[]⟩, .int .i64 0, .int .i64 0, .int .i64 0, .string ⟨#[]⟩, .int .i64 0, .int .i64 0, .int .i64 0, .string ⟨#[]⟩, .int .i64 0, .int .i64 0, .int .i64 0, .string ⟨#[]⟩, .int .i64 0, .int .i64 0, .int .i64 0, .string ⟨#[]⟩, .int .i64 0, .int .i64 0, .int .i64 0, .string ⟨#[]⟩, .int .i64 0, .int .i64 0, .int .i64 0, .string ⟨#[]⟩, .int .i64 0, .int .i64 0, .int .i64 0, .string ⟨#[]⟩, .int .i64 0, .int .i64 0, .int .i64 0, .string ⟨#[]⟩, .int .i64 0, .int .i64 0, .int .i64 0, .string ⟨#[]⟩, .int .i64 0, .int .i64 0, .int .i64 0, .string ⟨#[]⟩, .int .i64 0, .int .i64 0, .int .i64 0, .string ⟨#[]⟩, .int .i64 0, .int .i64 0, .int .i64 0, .string ⟨#[]⟩, .int .i64 0, .int .i64 0, .int .i64 0, .string ⟨#[]⟩, .int .i64 0, .int .i64 0, .int .i64 0] 189)
 have hR := (rb_new w 26 g).up (below_alloc_new (.cells #[.string ⟨#[]⟩, .int .i64 0, .int .i64 0, .int .i64 0, .string ⟨#[]⟩, .int .i64 0, .int .i64 0, .int .i64 0, .string ⟨#[]⟩, .int .i64 0, .int .i64 0, .int .i64 0, .string ⟨#[]⟩, .int .i64 0, .int .i64 0, .int .i64 0, .string ⟨#[]⟩, .int .i64 0, .int .i64 0, .int .i64 0, .string ⟨#[]⟩, .int .i64 0, .int .i64 0, .int .i64 0, .string ⟨#[]⟩, .int .i64 0, .int .i64 0, .int .i64 0, .string ⟨#[]⟩, .int .i64 0, .int .i64 0, .int .i64 0, .string ⟨#[]⟩, .int .i64 0, .int .i64 0, .int .i64 0, .string ⟨#[]⟩, .int .i64 0, .int .i64 0, .int .i64 0, .string ⟨#[]⟩, .int .i64 0, .int .i64 0, .int .i64 0, .string ⟨#[]⟩, .int .i64 0, .int .i64 0, .int .i64 0, .string ⟨#[]⟩, .int .i64 0, .int .i64 0, .int .i64 0, .string ⟨#[]⟩, .int .i64 0, .int .i64 0, .int .i64 0, .string ⟨#[]⟩, .int .i64 0, .int .i64 0, .int .i64 0] 189))
 have hT := there_new (w.alloc (.cells #[.int .i64 g.r0, .int .i64 g.r1, .int .i64 g.r2, .int .i64 g.r3, .int .i64 g.r4, .int .i64 g.r5, .int .i64 g.r6, .int .i64 g.r7, .int .i64 g.r8, .int .i64 g.r9, .int .i64 g.r10, .int .i64 g.r11, .int .i64 g.r12, .int .i64 g.r13, .int .i64 g.r14] 26)) #[.string ⟨#[]⟩, .int .i64 0, .int .i64 0, .int .i64 0, .string ⟨#[]⟩, .int .i64 0, .int .i64 0, .int .i64 0, .string ⟨#[]⟩, .int .i64 0, .int .i64 0, .int .i64 0, .string ⟨#[]⟩, .int .i64 0, .int .i64 0, .int .i64 0, .string ⟨#[]⟩, .int .i64 0, .int .i64 0, .int .i64 0, .string ⟨#[]⟩, .int .i64 0, .int .i64 0, .int .i64 0, .string ⟨#[]⟩, .int .i64 0, .int .i64 0, .int .i64 0, .string ⟨#[]⟩, .int .i64 0, .int .i64 0, .int .i64 0, .string ⟨#[]⟩, .int .i64 0, .int .i64 0, .int .i64 0, .string ⟨#[]⟩, .int .i64 0, .int .i64 0, .int .i64 0, .string ⟨#[]⟩, .int .i64 0, .int .i64 0, .int .i64 0, .string ⟨#[]⟩, .int .i64 0, .int .i64 0, .int .i64 0, .string ⟨#[]⟩, .int .i64 0, .int .i64 0, .int .i64 0, .string ⟨#[]⟩, .int .i64 0, .int .i64 0, .int .i64 0, .string ⟨#[]⟩, .int .i64 0, .int .i64 0, .int .i64 0] 189
 have e1 : (w.alloc (.cells #[.int .i64 g.r0, .int .i64 g.r1, .int .i64 g.r2, .int .i64 g.r3, .int .i64 g.r4, .int .i64 g.r5, .int .i64 g.r6, .int .i64 g.r7, .int .i64 g.r8, .int .i64 g.r9, .int .i64 g.r10, .int .i64 g.r11, .int .i64 g.r12, .int .i64 g.r13, .int .i64 g.r14] 26)).heap.size = w.heap.size + 1 := by simp
 rw [e1] at hT
 obtain ⟨s0, hs0⟩ : ∃ s0, w.heap.size = s0 := ⟨_, rfl⟩
 rw [hs0] at hB hR hT ⊢
 have hT60 : ((w.alloc (.cells #[.int .i64 g.r0, .int .i64 g.r1, .int .i64 g.r2, .int .i64 g.r3, .int .i64 g.r4, .int .i64 g.r5, .int .i64 g.r6, .int .i64 g.r7, .int .i64 g.r8, .int .i64 g.r9, .int .i64 g.r10, .int .i64 g.r11, .int .i64 g.r12, .int .i64 g.r13, .int .i64 g.r14] 26)).alloc (.cells #[.string ⟨#[]⟩, .int .i64 0, .int .i64 0, .int .i64 0, .string ⟨#[]⟩, .int .i64 0, .int .i64 0, .int .i64 0, .string ⟨#[]⟩, .int .i64 0, .int .i64 0, .int .i64 0, .string ⟨#[]⟩, .int .i64 0, .int .i64 0, .int .i64 0, .string ⟨#[]⟩, .int .i64 0, .int .i64 0, .int .i64 0, .string ⟨#[]⟩, .int .i64 0, .int .i64 0, .int .i64 0, .string ⟨#[]⟩, .int .i64 0, .int .i64 0, .int .i64 0, .string ⟨#[]⟩, .int .i64 0, .int .i64 0, .int .i64 0, .string ⟨#[]⟩, .int .i64 0, .int .i64 0, .int .i64 0, .string ⟨#[]⟩, .int .i64 0, .int .i64 0, .int .i64 0, .string ⟨#[]⟩, .int .i64 0, .int .i64 0, .int .i64 0, .string ⟨#[]⟩, .int .i64 0, .int .i64 0, .int .i64 0, .string ⟨#[]⟩, .int .i64 0, .int .i64 0, .int .i64 0, .string ⟨#[]⟩, .int .i64 0, .int .i64 0, .int .i64 0, .string ⟨#[]⟩, .int .i64 0, .int .i64 0, .int .i64 0] 189)).there (s0 + 1) 0 (rpC g).size := hT
 have HT := Lib.hid hT60
 obtain ⟨c0, c1, c2, c3, c4, c5, c6, c7, c8, c9, c10, c11, c12, c13, c14, rlt⟩ := hR
 clear hB1 e1 hT hT60
 go_enter Tryz.func145, Tryz.ntmps145
 go_wp2_with (refine wpList_store_mid rfl 189 _ _ rfl (s0 + 1) 0 (rpC g) rfl rfl HT.out (by kernel_rfl) (by kernel_rfl) ?_)
 exact bodyPost_ret (v := .agg (rpC g)) (results_cell_mid Tryz.results145 _ _ (s0 + 1) (rpC g).toList _ rfl (World.rangeAt_setCells_same _ _ _ _ HT.out) Tryz.underlying189 rfl (by kernel_rfl)) rfl ⟨rfl, below_setCells (by omega) _ _ hB⟩
def RolAt (w : World) (t : Nat) (g : Grp) : Prop := t < w.heap.size ∧ w.rangeAt t 0 (rrC g).toList
theorem RolAt.up {w w' : World} {t : Nat} {g : Grp} (h : RolAt w t g) (hb : Below w.heap.size w w') : RolAt w' t g :=
 ⟨Nat.lt_of_lt_of_le h.1 hb.size, fun j v hv => (hb.cell (p := ⟨t, 0 + j, none⟩) h.1).trans (h.2 j v hv)⟩
theorem rol_new (w : World) (t : TypeId) (g : Grp) : RolAt (w.alloc (.cells (rrC g) t)) w.heap.size g :=
 ⟨by simp, fun j v hv => by simp only [World.cell?]; rw [heap_alloc_new, Nat.zero_add]; simpa using hv⟩
theorem RolAt.row {w : World} {t : Nat} {g : Grp} (h : RolAt w t g) {i : Nat} (hi : i < 15) :
  w.cell? ⟨t, 0 + i * 5, none⟩ = some (.string (rlN i)) ∧ w.cell? ⟨t, 0 + i * 5 + 1, none⟩ = some (.int .i64 (g.R.getD i 0)) ∧ w.cell? ⟨t, 0 + i * 5 + 2, none⟩ = some (.int .i64 (rlK i)) ∧ w.cell? ⟨t, 0 + i * 5 + 3, none⟩ = some (.int .i64 (rlB i)) ∧ w.cell? ⟨t, 0 + i * 5 + 4, none⟩ = some (.bool (rlM i)) := by
 have key : ∀ j v, (rrC g).toList[j]? = some v → w.cell? ⟨t, j, none⟩ = some v := fun j v hv => by have := h.2 j v hv; rwa [Nat.zero_add] at this
 match i, hi with
 | 0, _ | 1, _ | 2, _ | 3, _ | 4, _ | 5, _ | 6, _ | 7, _ | 8, _ | 9, _ | 10, _ | 11, _ | 12, _ | 13, _ | 14, _ => exact ⟨key _ _ rfl, key _ _ rfl, key _ _ rfl, key _ _ rfl, key _ _ rfl⟩
set_option maxRecDepth 20000 in
set_option maxHeartbeats 1600000 in
theorem rroles_any (g : Grp) (w : World) : Calls Tryz.prog 124 #[rolV g] w fun e w' => (∃ t, e = .returned (.slice (some ⟨t, 0, none⟩) 15 15) ∧ RolAt w' t g) ∧ Below w.heap.size w w' := by
 have hB1 := below_alloc_new (w := w) (.cells #[.int .i64 g.r0, .int .i64 g.r1, .int .i64 g.r2, .int .i64 g.r3, .int .i64 g.r4, .int .i64 g.r5, .int .i64 g.r6, .int .i64 g.r7, .int .i64 g.r8, .int .i64 g.r9, .int .i64 g.r10, .int .i64 g.r11, .int .i64 g.r12, .int .i64 g.r13, .int .i64 g.r14] 26)
 have hB := below_new hB1 (.cells (rrC g) 170)
 have hR := rb_new w 26 g
 have hT := rol_new (w.alloc (.cells #[.int .i64 g.r0, .int .i64 g.r1, .int .i64 g.r2, .int .i64 g.r3, .int .i64 g.r4, .int .i64 g.r5, .int .i64 g.r6, .int .i64 g.r7, .int .i64 g.r8, .int .i64 g.r9, .int .i64 g.r10, .int .i64 g.r11, .int .i64 g.r12, .int .i64 g.r13, .int .i64 g.r14] 26)) 170 g
 have e1 : (w.alloc (.cells #[.int .i64 g.r0, .int .i64 g.r1, .int .i64 g.r2, .int .i64 g.r3, .int .i64 g.r4, .int .i64 g.r5, .int .i64 g.r6, .int .i64 g.r7, .int .i64 g.r8, .int .i64 g.r9, .int .i64 g.r10, .int .i64 g.r11, .int .i64 g.r12, .int .i64 g.r13, .int .i64 g.r14] 26)).heap.size = w.heap.size + 1 := by simp
 rw [e1] at hT
 obtain ⟨s0, hs0⟩ : ∃ s0, w.heap.size = s0 := ⟨_, rfl⟩
 rw [hs0] at hB hR hT ⊢
 have HT := Lib.hid hT
 have HB := Lib.hid hB
 obtain ⟨c0, c1, c2, c3, c4, c5, c6, c7, c8, c9, c10, c11, c12, c13, c14, rlt⟩ := hR
 clear hB1 e1 hT hB
 go_enter Tryz.func124, Tryz.ntmps124
 go_wp2_with fail
 go_ret
 exact ⟨⟨_, rfl, HT.out⟩, HB.out⟩
end Go.Proofs.YtaeccljkmijpaaaGreat
namespace Go.Proofs.YtaeccljkmijpaaaGreat.AK
open Go Go.RowKit
open Go.Proofs.YtaeccljkmijpaaaGreat.AS (edgesOk needsOk onceOk waits2 limOk allWritten allocsOk aOk Apart Written Written.more getD_flag)
variable {Rp Kp : World → World → Prop}
def storesOk (ops : Array Oper) (pt : List (List Nat)) (st : List Nat) (js : List (List Nat)) : Bool :=
 (List.range st.length).all fun m => decide (st.getD m 0 < ops.size) &&
  (Nat.beq m 0 || Region.waitsFor .any ops (st.getD m 0) (st.getD (m - 1) 0)) && (js.getD (m + 1) []).all fun d => (pt.getD (st.getD m 0) []).contains d || (js.getD m []).contains d || (match ops[st.getD m 0]? with | some o => o.dst == some d | none => false)
def lowOk (ops : Array Oper) (st ln : List Nat) : Bool :=
 (List.range ops.size).all fun i => Nat.beq (ln.getD i 0) 0 || (decide (ln.getD i 0 ≤ st.length) && waits2 ops i (st.getD (ln.getD i 0 - 1) 0))
def chk (al : List Nat) (ops : Array Oper) (pt : List (List Nat)) (ds st : List Nat) (js : List (List Nat)) (lm ln : List Nat) : Bool :=
 lowOk ops st ln && (allocsOk ops al st && al.all ds.contains && edgesOk ops && needsOk ops pt ds && onceOk ops && storesOk ops pt st js && limOk ops st lm && allWritten ops ds && (js.getD 0 []).isEmpty)
structure Chk (al : List Nat) (ops : Array Oper) (pt : List (List Nat)) (ds st : List Nat) (js : List (List Nat)) (lm ln : List Nat) : Prop where
 low : ∀ i, i < ops.size → ln.getD i 0 = 0 ∨ (ln.getD i 0 ≤ st.length ∧ waits2 ops i (st.getD (ln.getD i 0 - 1) 0) = true)
 edge : ∀ (i : Nat) (o : Oper), ops[i]? = some o → ∀ e ∈ o.after, Region.binds .any e = true → e.on < i
 dst : ∀ (i : Nat) (o : Oper), ops[i]? = some o → ∀ d, o.dst = some d → d ∈ ds
 need : ∀ (i : Nat) (o : Oper), ops[i]? = some o → ∀ d ∈ pt.getD i [], ∃ e ∈ o.after, Region.binds .any e = true ∧ ((∃ o' : Oper, ops[e.on]? = some o' ∧ o'.dst = some d) ∨ d ∈ pt.getD e.on [])
 once : ∀ (i j : Nat) (o o' : Oper) (d : Nat), ops[i]? = some o → ops[j]? = some o' → o.dst = some d → o'.dst = some d → i = j
 slt : ∀ m, m < st.length → st.getD m 0 < ops.size
 schain : ∀ m, 0 < m → m < st.length → Region.waitsFor .any ops (st.getD m 0) (st.getD (m - 1) 0) = true
 sjs : ∀ m, m < st.length → ∀ d ∈ js.getD (m + 1) [], d ∈ pt.getD (st.getD m 0) [] ∨ d ∈ js.getD m [] ∨ ∃ o : Oper, ops[st.getD m 0]? = some o ∧ o.dst = some d
 lim : ∀ i, i < ops.size → lm.getD i st.length = st.length ∨ waits2 ops (st.getD (lm.getD i st.length) ops.size) i = true
 wr : ∀ d ∈ ds, ∃ (i : Nat) (o : Oper), ops[i]? = some o ∧ o.dst = some d
 js0 : js.getD 0 [] = []
 alw : ∀ d ∈ al, ∀ m, m < st.length → ∃ (i : Nat) (o : Oper), ops[i]? = some o ∧ o.dst = some d ∧ waits2 ops (st.getD m 0) i = true
 ald : ∀ d ∈ al, d ∈ ds
section
variable {ops : Array Oper} {ds st lm ln al : List Nat} {js pt : List (List Nat)}
theorem chk_spec (h : chk al ops pt ds st js lm ln = true) : Chk al ops pt ds st js lm ln := by
 unfold chk at h
 simp only [Bool.and_eq_true] at h
 obtain ⟨h10, ⟨⟨⟨⟨⟨⟨⟨h8, h9⟩, h1⟩, h2⟩, h3⟩, h4⟩, h5⟩, h6⟩, h7⟩ := h
 have lt : ∀ (i : Nat) (o : Oper), ops[i]? = some o → i ∈ List.range ops.size := fun i o ho => List.mem_range.2 (Array.getElem?_eq_some_iff.1 ho).1
 constructor
 ·intro i hi
  have h := List.all_eq_true.1 h10 i (List.mem_range.2 hi)
  simp only [Bool.or_eq_true, Nat.beq_eq, Bool.and_eq_true, decide_eq_true_eq] at h
  exact h
 ·intro i o ho e he hb
  have h := List.all_eq_true.1 h1 i (lt i o ho)
  rw [ho] at h
  dsimp only at h
  rw [Array.all_eq_true_iff_forall_mem] at h
  have h := h e he
  rw [hb] at h
  simpa using h
 ·intro i o ho d hd
  have h := List.all_eq_true.1 h2 i (lt i o ho)
  rw [ho] at h
  dsimp only at h
  rw [hd] at h
  simp only [Bool.and_eq_true] at h
  simpa using h.1
 ·intro i o ho d hd
  have h := List.all_eq_true.1 h2 i (lt i o ho)
  rw [ho] at h
  simp only [Bool.and_eq_true] at h
  have h := List.all_eq_true.1 h.2 d hd
  rw [Array.any_eq_true] at h
  obtain ⟨k, hk, h⟩ := h
  rw [Bool.and_eq_true, Bool.or_eq_true] at h
  refine ⟨o.after[k], Array.getElem_mem _, h.1, ?_⟩
  rcases h.2 with h4 | h4
  ·left
   cases h5 : ops[(o.after[k]).on]? with
   | none => rw [h5] at h4; cases h4
   | some o' => rw [h5] at h4; exact ⟨o', rfl, by simpa using h4⟩
  ·right; simpa using h4
 ·intro i j o o' d ho ho' hd hd'
  have h := List.all_eq_true.1 (List.all_eq_true.1 h3 i (lt i o ho)) j (lt j o' ho')
  rw [ho, ho'] at h
  dsimp only at h
  rw [hd, hd'] at h
  simpa using h
 ·intro m hm
  have h := List.all_eq_true.1 h4 m (List.mem_range.2 hm)
  simp only [Bool.and_eq_true, decide_eq_true_eq] at h
  exact h.1.1
 ·intro m h0 hm
  have h := List.all_eq_true.1 h4 m (List.mem_range.2 hm)
  simp only [Bool.and_eq_true, decide_eq_true_eq, Bool.or_eq_true, Nat.beq_eq] at h
  rcases h.1.2 with h | h
  ·omega
  ·exact h
 ·intro m hm d hd
  have h := List.all_eq_true.1 h4 m (List.mem_range.2 hm)
  simp only [Bool.and_eq_true] at h
  have h := List.all_eq_true.1 h.2 d hd
  simp only [Bool.or_eq_true] at h
  rcases h with (h | h) | h
  ·exact .inl (by simpa using h)
  ·exact .inr (.inl (by simpa using h))
  ·cases ho : ops[st.getD m 0]? with
   | none => rw [ho] at h; cases h
   | some o => rw [ho] at h; exact .inr (.inr ⟨o, rfl, by simpa using h⟩)
 ·intro i hi
  have h := List.all_eq_true.1 h5 i (List.mem_range.2 hi)
  simp only [Bool.or_eq_true, Nat.beq_eq] at h
  exact h
 ·intro d hd
  have h := List.all_eq_true.1 h6 d hd
  rw [Array.any_eq_true] at h
  obtain ⟨k, hk, h⟩ := h
  exact ⟨k, ops[k], by simp [hk], by simpa using h⟩
 ·simpa using h7
 ·intro d hd m hm
  have h := List.all_eq_true.1 (List.all_eq_true.1 h8 d hd) (st.getD m 0) (by simp [hm])
  obtain ⟨i, hi, h⟩ := List.any_eq_true.1 h
  rw [Bool.and_eq_true] at h
  cases ho : ops[i]? with
  | none => rw [ho] at h; cases h.1
  | some o => rw [ho] at h; exact ⟨i, o, ho, by simpa using h.1, h.2⟩
 ·intro d hd
  have h := List.all_eq_true.1 h9 d hd
  simpa using h
end
open Go.Proofs.YtaeccljkmijpaaaGreat (fillL upd fillL_size fillL_get fillL_upd fillL_self filter_less none_listed put_fill)
structure Fact (Kp : World → World → Prop) where
 p : Value → World → Prop
 st : ∀ v w w', Kp w w' → p v w → p v w'
def Fact.triv : Fact Kp := ⟨fun _ _ => True, fun _ _ _ _ _ => trivial⟩
def Fact.is (x : Value) : Fact Kp := ⟨fun v _ => v = x, fun _ _ _ _ h => h⟩
def look : List (Nat × Fact Kp) → Nat → Fact Kp
 | [], _ => Fact.triv
 | (k, f) :: rest, d => bif Nat.beq k d then f else look rest d
def temps (FL : List (Nat × Fact Kp)) : List Nat := FL.map (·.1)
def factOf (FL : List (Nat × Fact Kp)) (dst : Option Nat) (v : Value) (w : World) : Prop := match dst with
 | none => True
 | some d => (look FL d).p v w
def Facts (FL : List (Nat × Fact Kp)) (u : Nat → Value) (w : World) : List Nat → Prop
 | [] => True
 | d :: ds => (look FL d).p (u d) w ∧ Facts FL u w ds
theorem facts_mk {FL : List (Nat × Fact Kp)} {u : Nat → Value} {w : World} {ds : List Nat} (h : ∀ d ∈ ds, (look FL d).p (u d) w) : Facts FL u w ds := by
 induction ds with
 | nil => trivial
 | cons d ds ih => exact ⟨h d (List.mem_cons_self ..), ih fun e he => h e (List.mem_cons_of_mem _ he)⟩
theorem facts_get {FL : List (Nat × Fact Kp)} {u : Nat → Value} {w : World} {ds : List Nat} (h : Facts FL u w ds) (d : Nat) (hd : d ∈ ds) : (look FL d).p (u d) w := by
 induction ds with
 | nil => cases hd
 | cons e ds ih =>
  rcases List.mem_cons.1 hd with rfl | hd
  ·exact h.1
  ·exact ih h.2 hd
section
variable {P : Program} {ops : Array Oper} {Q : Exit → Act → World → Prop} {FL : List (Nat × Fact Kp)} {J : Nat → List Value → World → Prop} {t0 : Array Value} {df : List Deferred} {ds : List Nat}
 {st lm ln al : List Nat} {js : List (List Nat)} {pt : List (List Nat)}
def StepOk (Rp : World → World → Prop) (al : List Nat) (P : Program) (ops : Array Oper) (Q : Exit → Act → World → Prop) (FL : List (Nat × Fact Kp)) (J : Nat → List Value → World → Prop) (js : List (List Nat)) (fr : (Nat → Value) → Array Value) (df : List Deferred) (o : Oper) (need : List Nat) (lim lo : Nat) : Prop :=
 ∀ (k : Nat) (u : Nat → Value) (w : World), k ≤ lim → lo ≤ k → J k ((js.getD k []).map u) w → Facts FL u w need → ∀ K : Act → World → Prop, Shut (∀ v w', Rp w w' → factOf FL o.dst v w' → aOk al o.dst v w w' → K ((⟨fr u, df⟩ : Act).put o.dst v) w') →
  if Region.wanted o (yielded ops (fr u)) = true then Oper.wp P o ⟨fr u, df⟩ w K Q else K ((⟨fr u, df⟩ : Act).put o.dst undef) w
def StoreOk (al : List Nat) (P : Program) (ops : Array Oper) (Q : Exit → Act → World → Prop) (FL : List (Nat × Fact Kp)) (J : Nat → List Value → World → Prop) (js : List (List Nat)) (fr : (Nat → Value) → Array Value) (df : List Deferred) (o : Oper) (need : List Nat) (k : Nat) : Prop :=
 ∀ (u : Nat → Value) (w : World), J k ((js.getD k []).map u) w → Apart al u → Facts FL u w need → ∀ K : Act → World → Prop, Shut (∀ v w', J (k + 1) ((js.getD (k + 1) []).map (upd u o.dst v)) w' → Kp w w' → factOf FL o.dst v w' → K ((⟨fr u, df⟩ : Act).put o.dst v) w') →
  if Region.wanted o (yielded ops (fr u)) = true then Oper.wp P o ⟨fr u, df⟩ w K Q else K ((⟨fr u, df⟩ : Act).put o.dst undef) w
def StepsOk (Rp : World → World → Prop) (al : List Nat) (P : Program) (ops : Array Oper) (Q : Exit → Act → World → Prop) (FL : List (Nat × Fact Kp)) (J : Nat → List Value → World → Prop) (js : List (List Nat)) (fr : (Nat → Value) → Array Value) (df : List Deferred) (pt : List (List Nat)) (st lm ln : List Nat) : List Oper → Nat → Prop
 | [], _ => True
 | o :: rest, i => (match st.idxOf? i with
   | some k => StoreOk al P ops Q FL J js fr df o (pt.getD i []) k
   | none => StepOk Rp al P ops Q FL J js fr df o (pt.getD i []) (lm.getD i st.length) (ln.getD i 0)) ∧ StepsOk Rp al P ops Q FL J js fr df pt st lm ln rest (i + 1)
theorem StepsOk.nil {fr : (Nat → Value) → Array Value} {i : Nat} : StepsOk Rp al P ops Q FL J js fr df pt st lm ln [] i := trivial
theorem sc {fr : (Nat → Value) → Array Value} {o : Oper} {rest : List Oper} {i : Nat} {need : List Nat} {lim lo : Nat} (h0 : st.idxOf? i = none) (h1 : pt.getD i [] = need) (h2 : lm.getD i st.length = lim) (h3 : ln.getD i 0 = lo)
  (h : StepOk Rp al P ops Q FL J js fr df o need lim lo) (hs : StepsOk Rp al P ops Q FL J js fr df pt st lm ln rest (i + 1)) : StepsOk Rp al P ops Q FL J js fr df pt st lm ln (o :: rest) i := ⟨by rw [h0, h1, h2, h3]; exact h, hs⟩
theorem ss {fr : (Nat → Value) → Array Value} {o : Oper} {rest : List Oper} {i k : Nat} {need : List Nat} (h0 : st.idxOf? i = some k) (h1 : pt.getD i [] = need)
  (h : StoreOk al P ops Q FL J js fr df o need k) (hs : StepsOk Rp al P ops Q FL J js fr df pt st lm ln rest (i + 1)) : StepsOk Rp al P ops Q FL J js fr df pt st lm ln (o :: rest) i := ⟨by rw [h0, h1]; exact h, hs⟩
theorem steps_at {fr : (Nat → Value) → Array Value} : ∀ (l : List Oper) (i0 : Nat), StepsOk Rp al P ops Q FL J js fr df pt st lm ln l i0 → ∀ i o, l[i]? = some o → (match st.idxOf? (i0 + i) with
      | some k => StoreOk al P ops Q FL J js fr df o (pt.getD (i0 + i) []) k
      | none => StepOk Rp al P ops Q FL J js fr df o (pt.getD (i0 + i) []) (lm.getD (i0 + i) st.length) (ln.getD (i0 + i) 0)) := by
  intro l
  induction l with
  | nil => intro i0 _ i o h; simp at h
  | cons x l ih =>
    intro i0 hs i o h
    cases i with
    | zero => simp at h; subst h; exact hs.1
    | succ i =>
      have := ih (i0 + 1) hs.2 i o (by simpa using h)
      rwa [show i0 + 1 + i = i0 + (i + 1) by omega] at this
structure Inv (al : List Nat) (ops : Array Oper) (FL : List (Nat × Fact Kp)) (J : Nat → List Value → World → Prop) (js : List (List Nat)) (t0 : Array Value) (df : List Deferred) (ds : List Nat) (pt : List (List Nat)) (st : List Nat) (listed : Array Bool) (a : Act) (w : World) : Prop where
 fr : ∃ k u, a = ⟨fillL u ds t0, df⟩ ∧ (∀ d, Written ops listed d → (look FL d).p (u d) w) ∧ J k ((js.getD k []).map u) w ∧ k ≤ st.length ∧ (∀ m, m < k → listed.getD (st.getD m 0) false = true) ∧
  (∀ m, k ≤ m → m < st.length → listed.getD (st.getD m 0) false = false) ∧ (∀ d ∈ js.getD k [], Written ops listed d) ∧ (∀ d ∈ al, Written ops listed d → ∃ g, u d = .pointer (some ⟨g, 0, none⟩) ∧ g < w.heap.size) ∧
  (∀ d ∈ al, ∀ d' ∈ al, d ≠ d' → Written ops listed d → Written ops listed d' → u d ≠ u d')
 cl : ∀ i, listed.getD i false = true → ∀ d ∈ pt.getD i [], Written ops listed d
 cs : ∀ j oj, ops[j]? = some oj → listed.getD j false = true → ∀ e ∈ oj.after, Region.binds .any e = true → listed.getD e.on false = true
 sz : listed.size = ops.size
theorem inv_step (hc : Chk al ops pt ds st js lm ln) (hsz : ∀ w w' : World, Kp w w' → w.heap.size ≤ w'.heap.size) (hrk : ∀ w w' : World, Rp w w' → Kp w w') (hst : ∀ k l w w', Rp w w' → J k l w → J k l w') (hs : StepsOk Rp al P ops Q FL J js (fun u => fillL u ds t0) df pt st lm ln ops.toList 0) {listed : Array Bool} {a : Act} {w : World}
    (hI : Inv al ops FL J js t0 df ds pt st listed a w) {i : Nat} (hi : i ∈ Region.ready .any ops listed) :
    wpOp P ops Q i (Inv al ops FL J js t0 df ds pt st (listed.setIfInBounds i true)) a w := by
  obtain ⟨h0, o, ho, hall⟩ := mem_ready.1 hi
  have hlt : i < ops.size := (Array.getElem?_eq_some_iff.1 ho).1
  have hil : i < listed.size := by rw [hI.sz]; exact hlt
  have hun : listed.getD i false = false := by rw [← getD_flag hil]; exact h0
  obtain ⟨k, u, rfl, hfac, hJ, hk, hk1, hk2, hk3, hk4, hk5⟩ := hI.fr
  have hneed : ∀ d ∈ pt.getD i [], Written ops listed d := by
    intro d hd
    obtain ⟨e, he, hb, h1⟩ := hc.need i o ho d hd
    have h2 := hall e he hb
    rcases h1 with ⟨o', h3, h4⟩ | h3
    · exact ⟨e.on, o', h2, h3, h4⟩
    · exact hI.cl e.on h2 d h3
  have hstep := steps_at _ _ hs i o (by simpa using ho)
  rw [Nat.zero_add] at hstep
  have hcs : ∀ j oj, ops[j]? = some oj → (listed.setIfInBounds i true).getD j false = true → ∀ e ∈ oj.after, Region.binds .any e = true → (listed.setIfInBounds i true).getD e.on false = true := by
    intro j oj hj hl e he hb
    by_cases hij : i = j
    · subst hij
      have : oj = o := Option.some.inj (hj.symm.trans ho)
      subst this
      exact getD_set_true (hall e he hb)
    · rw [getD_set_ne false hij] at hl
      exact getD_set_true (hI.cs j oj hj hl e he hb)
  have hcl : ∀ j, (listed.setIfInBounds i true).getD j false = true → ∀ d ∈ pt.getD j [], Written ops (listed.setIfInBounds i true) d := by
    intro j hj d hd
    by_cases hij : i = j
    · subst hij; exact (hneed d hd).more
    · rw [getD_set_ne false hij] at hj
      exact (hI.cl j hj d hd).more
  have hwait : ∀ m, m < k → ∀ j, Region.waitsFor .any ops (st.getD m 0) j = true → listed.getD j false = true := by
    intro m hm j hw
    obtain ⟨oj, hoj, e, he, hb, hon⟩ := Region.waitsFor_spec hw
    rw [← hon]
    exact hI.cs _ oj hoj (hk1 m hm) e he hb
  have hwait2 : ∀ m, m < k → ∀ j, waits2 ops (st.getD m 0) j = true → listed.getD j false = true := by
    intro m hm j hw
    unfold waits2 at hw
    rw [Bool.or_eq_true] at hw
    rcases hw with hw | hw
    · exact hwait m hm j hw
    · obtain ⟨x, -, hx⟩ := List.any_eq_true.1 hw
      rw [Bool.and_eq_true] at hx
      obtain ⟨oj, hoj, e, he, hb, hon⟩ := Region.waitsFor_spec hx.2
      rw [← hon]
      exact hI.cs _ oj hoj (hwait m hm x hx.1) e he hb
  cases hsi : st.idxOf? i with
  | none =>
    rw [hsi] at hstep
    have hns : ∀ m, m < st.length → st.getD m 0 ≠ i := by
      intro m hm e
      have h1 : i ∈ st := by rw [← e]; simp [hm]
      have h2 := List.idxOf?_eq_none_iff.1 hsi
      exact h2 h1
    have hlim : k ≤ lm.getD i st.length := by
      rcases hc.lim i hlt with h1 | h1
      · omega
      · rcases Nat.lt_or_ge (lm.getD i st.length) k with h2 | h2
        · exfalso
          have h3 := hwait2 _ h2 i (by
            have e : st.getD (lm.getD i st.length) ops.size = st.getD (lm.getD i st.length) 0 := by
              have : lm.getD i st.length < st.length := by omega
              generalize lm.getD i st.length = z at *
              simp [this]
            rw [← e]; exact h1)
          rw [hun] at h3; cases h3
        · exact h2
    have hlow : ln.getD i 0 ≤ k := by
      rcases hc.low i hlt with h1 | ⟨h0, h1⟩
      · omega
      · rcases Nat.lt_or_ge k (ln.getD i 0) with h2 | h2
        · exfalso
          have h3 : listed.getD (st.getD (ln.getD i 0 - 1) 0) false = true := by
            unfold waits2 at h1
            rw [Bool.or_eq_true] at h1
            rcases h1 with h1 | h1
            · obtain ⟨oj, hoj, e, he, hb, hon⟩ := Region.waitsFor_spec h1
              have : oj = o := Option.some.inj (hoj.symm.trans ho)
              subst this
              rw [← hon]; exact hall e he hb
            · obtain ⟨x, -, hx⟩ := List.any_eq_true.1 h1
              rw [Bool.and_eq_true] at hx
              obtain ⟨oj, hoj, e, he, hb, hon⟩ := Region.waitsFor_spec hx.1
              have : oj = o := Option.some.inj (hoj.symm.trans ho)
              subst this
              have h4 := hall e he hb
              rw [hon] at h4
              obtain ⟨oj2, hoj2, e2, he2, hb2, hon2⟩ := Region.waitsFor_spec hx.2
              rw [← hon2]
              exact hI.cs _ oj2 hoj2 h4 e2 he2 hb2
          rw [hk2 (ln.getD i 0 - 1) (by omega) (by omega)] at h3
          cases h3
        · exact h2
    refine wpOp_step ho (fun K' hK => hstep k u w hlim hlow hJ (facts_mk fun d hd => hfac d (hneed d hd)) K' ?_)
    intro v w' hb hf hao
    have hwi : ∀ d, Written ops (listed.setIfInBounds i true) d → o.dst = some d ∨ Written ops listed d := by
      rintro d ⟨j, o', h1, h2, h3⟩
      by_cases hij : i = j
      · subst hij
        rw [ho] at h2
        injection h2 with h2
        subst h2
        exact .inl h3
      · rw [getD_set_ne false hij] at h1
        exact .inr ⟨j, o', h1, h2, h3⟩
    have hnw : ∀ d, o.dst = some d → ¬ Written ops listed d := by
      rintro d hd ⟨j, o', h1, h2, h3⟩
      have := hc.once i j o o' d ho h2 hd h3
      subst this
      rw [hun] at h1; cases h1
    have hne : ∀ d, o.dst ≠ some d → upd u o.dst v d = u d := by
      intro d hd
      cases h : o.dst with
      | none => rfl
      | some d' => rw [h] at hd; simp only [upd]; rw [if_neg (fun h => hd (by rw [h]))]
    have hal : ∀ d ∈ al, o.dst = some d → v = .pointer (some ⟨w.heap.size, 0, none⟩) ∧ w.heap.size < w'.heap.size := by
      intro d hd h
      unfold aOk at hao
      rw [h] at hao
      dsimp only at hao
      rw [show al.contains d = true by simpa using hd] at hao
      exact hao
    refine hK _ _ ⟨⟨k, upd u o.dst v, put_fill u o v (hc.dst i o ho), ?_, ?_, hk, fun m hm => getD_set_true (hk1 m hm), fun m hm hm' => ?_, fun d hd => (hk3 d hd).more, fun d hd hw => ?_, fun d hd d' hd' hdd hw hw' => ?_⟩, hcl, hcs, by simpa using hI.sz⟩
    · rintro d ⟨j, o', h1, h2, h3⟩
      by_cases hd : o.dst = some d
      · rw [hd] at hf ⊢
        have e : upd u (some d) v d = v := by simp [upd]
        rw [e]; exact hf
      · have hw : Written ops listed d := by
          by_cases hij : i = j
          · subst hij
            rw [ho] at h2
            injection h2 with h2
            subst h2
            exact absurd h3 hd
          · rw [getD_set_ne false hij] at h1
            exact ⟨j, o', h1, h2, h3⟩
        have e : upd u o.dst v d = u d := by
          cases h : o.dst with
          | none => rfl
          | some d' => rw [h] at hd; simp only [upd]; rw [if_neg (fun h => hd (by rw [h]))]
        rw [e]
        exact (look FL d).st _ _ _ (hrk _ _ hb) (hfac d hw)
    · have e : (js.getD k []).map (upd u o.dst v) = (js.getD k []).map u := by
        apply List.map_congr_left
        intro d hd
        cases h : o.dst with
        | none => rfl
        | some d' =>
          simp only [upd]
          rw [if_neg]
          rintro rfl
          obtain ⟨j, o', h1, h2, h3⟩ := hk3 d hd
          have := hc.once i j o o' d ho h2 h h3
          subst this
          rw [hun] at h1; cases h1
      rw [e]
      exact hst _ _ _ _ hb hJ
    · rw [getD_set_ne false (Ne.symm (hns m hm'))]; exact hk2 m hm hm'
    · by_cases h : o.dst = some d
      · obtain ⟨h1, h2⟩ := hal d hd h
        exact ⟨w.heap.size, by rw [h]; simp [upd, h1], h2⟩
      · rcases hwi d hw with h1 | h1
        · exact absurd h1 h
        · obtain ⟨g, h2, h3⟩ := hk4 d hd h1
          exact ⟨g, by rw [hne d h]; exact h2, Nat.lt_of_lt_of_le h3 (hsz _ _ (hrk _ _ hb))⟩
    · by_cases h : o.dst = some d
      · have h' : o.dst ≠ some d' := fun h2 => hdd (by rw [h] at h2; injection h2)
        rcases hwi d' hw' with h1 | h1
        · exact absurd h1 h'
        · obtain ⟨g, h2, h3⟩ := hk4 d' hd' h1
          rw [hne d' h', h2, h]
          simp only [upd, if_pos]
          rw [(hal d hd h).1]
          intro he
          simp at he <;> omega
      · rcases hwi d hw with h1 | h1
        · exact absurd h1 h
        · by_cases h' : o.dst = some d'
          · obtain ⟨g, h2, h3⟩ := hk4 d hd h1
            rw [hne d h, h2, h']
            simp only [upd, if_pos]
            rw [(hal d' hd' h').1]
            intro he
            simp at he <;> omega
          · rcases hwi d' hw' with h2 | h2
            · exact absurd h2 h'
            · rw [hne d h, hne d' h']; exact hk5 d hd d' hd' hdd h1 h2
  | some m =>
    rw [hsi] at hstep
    obtain ⟨hm, hmi, -⟩ := List.idxOf?_eq_some_iff.1 hsi
    have hmi' : st.getD m 0 = i := by simp [hm]; exact hmi
    have hmk : m = k := by
      rcases Nat.lt_trichotomy m k with h1 | h1 | h1
      · have := hk1 m h1; rw [hmi', hun] at this; cases this
      · exact h1
      · exfalso
        have h2 := hc.schain m (by omega) hm
        rw [hmi'] at h2
        obtain ⟨oj, hoj, e, he, hb, hon⟩ := Region.waitsFor_spec h2
        have : oj = o := Option.some.inj (hoj.symm.trans ho)
        subst this
        have h3 := hall e he hb
        rw [hon, hk2 (m - 1) (by omega) (by omega)] at h3
        cases h3
    subst hmk
    have hwal : ∀ d ∈ al, Written ops listed d := by
      intro d hd
      obtain ⟨j, o', h1, h2, h3⟩ := hc.alw d hd m hm
      rw [hmi'] at h3
      refine ⟨j, o', ?_, h1, h2⟩
      unfold waits2 at h3
      rw [Bool.or_eq_true] at h3
      rcases h3 with h3 | h3
      · obtain ⟨oj, hoj, e, he, hb, hon⟩ := Region.waitsFor_spec h3
        have : oj = o := Option.some.inj (hoj.symm.trans ho)
        subst this
        rw [← hon]; exact hall e he hb
      · obtain ⟨x, -, hx⟩ := List.any_eq_true.1 h3
        rw [Bool.and_eq_true] at hx
        obtain ⟨oj, hoj, e, he, hb, hon⟩ := Region.waitsFor_spec hx.1
        have : oj = o := Option.some.inj (hoj.symm.trans ho)
        subst this
        have h4 := hall e he hb
        rw [hon] at h4
        obtain ⟨oj2, hoj2, e2, he2, hb2, hon2⟩ := Region.waitsFor_spec hx.2
        rw [← hon2]
        exact hI.cs _ oj2 hoj2 h4 e2 he2 hb2
    refine wpOp_step ho (fun K' hK => hstep u w hJ (fun d hd d' hd' hdd => hk5 d hd d' hd' hdd (hwal d hd) (hwal d' hd')) (facts_mk fun d hd => hfac d (hneed d hd)) K' ?_)
    intro v w' hJ' hb hf
    have hnw : ∀ d, o.dst = some d → ¬ Written ops listed d := by
      rintro d hd ⟨j, o', h1, h2, h3⟩
      have := hc.once i j o o' d ho h2 hd h3
      subst this
      rw [hun] at h1; cases h1
    have hne : ∀ d, o.dst ≠ some d → upd u o.dst v d = u d := by
      intro d hd
      cases h : o.dst with
      | none => rfl
      | some d' => rw [h] at hd; simp only [upd]; rw [if_neg (fun h => hd (by rw [h]))]
    have hnl : ∀ d ∈ al, o.dst ≠ some d := fun d hd h => hnw d h (hwal d hd)
    refine hK _ _ ⟨⟨m + 1, upd u o.dst v, put_fill u o v (hc.dst i o ho), ?_, hJ', hm, fun j hj => ?_, fun j hj hj' => ?_, fun d hd => ?_, fun d hd hw => ?_, fun d hd d' hd' hdd hw hw' => by rw [hne d (hnl d hd), hne d' (hnl d' hd')]; exact hk5 d hd d' hd' hdd (hwal d hd) (hwal d' hd')⟩, hcl, hcs, by simpa using hI.sz⟩
    · rintro d ⟨j, o', h1, h2, h3⟩
      by_cases hd : o.dst = some d
      · rw [hd] at hf ⊢
        have e : upd u (some d) v d = v := by simp [upd]
        rw [e]; exact hf
      · have hw : Written ops listed d := by
          by_cases hij : i = j
          · subst hij
            rw [ho] at h2
            injection h2 with h2
            subst h2
            exact absurd h3 hd
          · rw [getD_set_ne false hij] at h1
            exact ⟨j, o', h1, h2, h3⟩
        rw [hne d hd]
        exact (look FL d).st _ _ _ hb (hfac d hw)
    · by_cases h1 : j = m
      · subst h1; rw [hmi']; simp [hil]
      · exact getD_set_true (hk1 j (by omega))
    · have h1 := hk2 j (by omega) hj'
      by_cases h2 : st.getD j 0 = i
      · exfalso
        have h3 : ∀ n, m ≤ n → n < st.length → i ≤ st.getD n 0 ∧ (m < n → i < st.getD n 0) := by
          intro n
          induction n with
          | zero => intro h4 h5; exact ⟨by have : m = 0 := by omega
                                           subst this; rw [hmi']; exact Nat.le_refl _, fun h => by omega⟩
          | succ n ih =>
            intro h4 h5
            by_cases h6 : m = n + 1
            · subst h6; exact ⟨by rw [hmi']; exact Nat.le_refl _, fun h => by omega⟩
            · have h7 := ih (by omega) (by omega)
              have h8 := hc.schain (n + 1) (by omega) h5
              obtain ⟨oj, hoj, e, he, hb', hon⟩ := Region.waitsFor_spec h8
              have h9 := hc.edge _ oj hoj e he hb'
              rw [hon, Nat.add_sub_cancel] at h9
              exact ⟨by omega, fun _ => by omega⟩
        have := (h3 j (by omega) hj').2 (by omega)
        omega
      · rw [getD_set_ne false (Ne.symm h2)]; exact h1
    · rcases hc.sjs m hm d hd with h1 | h1
      · rw [hmi'] at h1; exact (hneed d h1).more
      · rcases h1 with h1 | ⟨o2, h1, h2⟩
        · exact (hk3 d h1).more
        · rw [hmi'] at h1
          exact ⟨i, o2, by simp [hil], h1, h2⟩
    · obtain ⟨g, h1, h2⟩ := hk4 d hd (hwal d hd)
      exact ⟨g, by rw [hne d (hnl d hd)]; exact h1, Nat.lt_of_lt_of_le h2 (hsz _ _ hb)⟩
theorem ready_nil_all (hc : Chk al ops pt ds st js lm ln) {listed : Array Bool} (hsz : listed.size = ops.size) (hr : Region.ready .any ops listed = []) : ∀ n i, i < n → i < ops.size → listed.getD i false = true := by
 intro n
 induction n with
 | zero => intro i h; omega
 | succ n ih =>
  intro i hin hi
  have hil : i < listed.size := by omega
  cases hv : listed.getD i false with
  | true => rfl
  | false =>
   exfalso
   have ho : ops[i]? = some ops[i] := by simp [hi]
   have : i ∈ Region.ready .any ops listed := by
    rw [mem_ready]
    refine ⟨by simp [hil] at hv ⊢; exact hv, _, ho, fun e he hb => ?_⟩
    have h1 := hc.edge i _ ho e he hb
    exact ih e.on (by omega) (by omega)
   rw [hr] at this
   cases this
theorem wpAny_inv (hc : Chk al ops pt ds st js lm ln) (hsz : ∀ w w' : World, Kp w w' → w.heap.size ≤ w'.heap.size) (hrk : ∀ w w' : World, Rp w w' → Kp w w') (hst : ∀ k l w w', Rp w w' → J k l w → J k l w') (hs : StepsOk Rp al P ops Q FL J js (fun u => fillL u ds t0) df pt st lm ln ops.toList 0)
  (hend : ∀ u w, J st.length ((js.getD st.length []).map u) w → Facts FL u w ds → Q .normal ⟨fillL u ds t0, df⟩ w) :
  ∀ (fuel : Nat) (listed : Array Bool) (a : Act) (w : World), ((List.range ops.size).filter fun j => !listed.getD j true).length ≤ fuel → Inv al ops FL J js t0 df ds pt st listed a w → wpAny P .any ops Q fuel listed a w := by
 have hfin : ∀ (listed : Array Bool) (a : Act) (w : World), Inv al ops FL J js t0 df ds pt st listed a w → Region.ready .any ops listed = [] → Q .normal a w := by
  intro listed a w hI hr
  obtain ⟨k, u, rfl, hfac, hJ, hk, hk1, hk2, hk3, hk4, hk5⟩ := hI.fr
  have hall := Go.Proofs.YtaeccljkmijpaaaGreat.AK.ready_nil_all hc hI.sz hr
  have hkl : k = st.length := by
   rcases Nat.lt_or_ge k st.length with h | h
   ·have h1 := hk2 k (Nat.le_refl _) h
    rw [hall (st.getD k 0 + 1) _ (by omega) (hc.slt k h)] at h1
    cases h1
   ·omega
  subst hkl
  refine hend u w hJ (facts_mk fun d hd => hfac d ?_)
  obtain ⟨i, o, h1, h2⟩ := hc.wr d hd
  exact ⟨i, o, hall (i + 1) i (by omega) (Array.getElem?_eq_some_iff.1 h1).1, h1, h2⟩
 intro fuel
 induction fuel with
 | zero =>
  intro listed a w hcnt hI
  have hr : Region.ready .any ops listed = [] := by
   rw [List.eq_nil_iff_forall_not_mem]
   intro j hj
   obtain ⟨h0, o, ho, -⟩ := mem_ready.1 hj
   have hlt : j < ops.size := (Array.getElem?_eq_some_iff.1 ho).1
   have hm : j ∈ (List.range ops.size).filter fun j => !listed.getD j true := by
    rw [List.mem_filter]
    exact ⟨List.mem_range.2 hlt, by rw [h0]; rfl⟩
   have := List.length_pos_of_mem hm
   omega
  exact ⟨hr, hfin _ _ _ hI hr⟩
 | succ fuel ih =>
  intro listed a w hcnt hI
  refine ⟨fun hr => hfin _ _ _ hI hr, fun i hi => ?_⟩
  obtain ⟨h0, o, ho, -⟩ := mem_ready.1 hi
  have hlt : i < ops.size := (Array.getElem?_eq_some_iff.1 ho).1
  refine wpOp_mono (fun a' w' hI' => ih _ a' w' ?_ hI') (inv_step hc hsz hrk hst hs hI hi)
  have := filter_less (p := fun j => !listed.getD j true) (q := fun j => !(listed.setIfInBounds i true).getD j true) (i := i) (by simp only [h0]; rfl) (by
   have hil : i < listed.size := by rw [hI.sz]; exact hlt
   simp [hil]) (fun j hj => by
   by_cases hij : i = j
   ·subst hij
    exfalso
    have hil : i < listed.size := by rw [hI.sz]; exact hlt
    simp [hil] at hj
   ·rw [getD_set_ne true hij] at hj; exact hj) (List.range ops.size) (List.mem_range.2 hlt)
  omega
theorem region_facts {id : Nat} {w : World} {opl : List Oper} (FL : List (Nat × Fact Kp)) (J : Nat → List Value → World → Prop) (pt : List (List Nat)) (st : List Nat) (js : List (List Nat)) (lm ln : List Nat) (al : List Nat) {fr : (Nat → Value) → Array Value} (hfr : ∀ u, fillL u (temps FL) t0 = fr u)
  (hm : P.follows .mixedOrders = true) (hchk : chk al opl.toArray pt (temps FL) st js lm ln = true) (hsz : ∀ w w' : World, Kp w w' → w.heap.size ≤ w'.heap.size) (hrk : ∀ w w' : World, Rp w w' → Kp w w') (hst : ∀ k l w w', Rp w w' → J k l w → J k l w') (hJ : J 0 [] w.drew)
  (hs : StepsOk Rp al P opl.toArray Q FL J js fr df pt st lm ln opl 0)
  (hend : ∀ u w, J st.length ((js.getD st.length []).map u) w → Facts FL u w (temps FL) → Q .normal ⟨fr u, df⟩ w) : (Code.region id opl.toArray true).wp P Q ⟨t0, df⟩ w := by
 obtain rfl : (fun u => fillL u (temps FL) t0) = fr := funext hfr
 have hc := chk_spec hchk
 refine wp_region_any hm (wpAny_inv (t0 := t0) hc hsz hrk hst hs hend opl.toArray.size _ _ _ ?_ ⟨⟨0, fun d => t0.getD d undef, by rw [fillL_self], ?_, by rw [hc.js0]; exact hJ, Nat.zero_le _, fun m h => by omega, fun m _ _ => none_listed _ _, fun d hd => (by rw [hc.js0] at hd; cases hd), fun d _ hw => (by obtain ⟨j, o', h1, _, _⟩ := hw; rw [none_listed] at h1; cases h1), fun d _ d' _ _ hw => by obtain ⟨j, o', h1, _, _⟩ := hw; rw [none_listed] at h1; cases h1⟩, ?_, ?_, by simp⟩)
 ·exact Nat.le_trans (List.length_filter_le _ _) (by simp)
 ·rintro d ⟨j, o', h1, -, -⟩
  rw [none_listed] at h1; cases h1
 ·intro i hi
  rw [none_listed] at hi; cases hi
 ·intro j oj _ hl
  rw [none_listed] at hl; cases hl
end
end Go.Proofs.YtaeccljkmijpaaaGreat.AK
namespace Go.Proofs.YtaeccljkmijpaaaGreat
open Go.RowKit
abbrev Below0 (w w' : World) : Prop := Below w.heap.size w w'
structure Only (S : Nat → Prop) (w w' : World) : Prop where
 os : w'.os = w.os
 tape : w'.tape = w.tape
 output : w'.output = w.output
 size : w.heap.size ≤ w'.heap.size
 blk : ∀ k, k < w.heap.size → ¬ S k → w'.heap[k]? = w.heap[k]?
section
variable {S T : Nat → Prop} {w w' w2 : World} {B b : Nat}
theorem Only.refl (w : World) : Only S w w := ⟨rfl, rfl, rfl, Nat.le_refl _, fun _ _ _ => rfl⟩
theorem Only.trans (h : Only S w w') (k : Only S w' w2) : Only S w w2 :=
 ⟨k.os.trans h.os, k.tape.trans h.tape, k.output.trans h.output, Nat.le_trans h.size k.size, fun i hi hs => (k.blk i (Nat.lt_of_lt_of_le hi h.size) hs).trans (h.blk i hi hs)⟩
theorem Only.of (h : Below w.heap.size w w') : Only S w w' := ⟨h.os, h.tape, h.output, h.size, fun k hk _ => h.block k hk⟩
theorem Only.setCell (w : World) {a : Addr} (ha : S a.block) (v : Value) : Only S w (w.setCell a v) :=
 ⟨rfl, rfl, rfl, by simp [World.setCell], fun k _ hs => Below.heap_setCell _ _ _ _ (fun e => hs (e ▸ ha))⟩
theorem Only.setCells {b : Nat} (hb : S b) : ∀ (vs : List Value) (o : Nat) (w : World), Only S w (w.setCells b o vs)
 | [], _, w => Only.refl w
 | v :: r, o, w => by
  rw [World.setCells]
  exact (Only.setCell w (a := ⟨b, o, none⟩) hb v).trans (Only.setCells hb r (o + 1) _)
theorem Only.grown {row : Option Nat} (h : w.grownBy w' row) (hr : ∀ k, row = some k → S k) : Only S w w' :=
 ⟨h.os, h.tape, h.output, h.size, fun k hk hs => h.block k hk (fun e => hs (hr k e.symm))⟩
theorem Only.below (h : Only S w w') (hS : ∀ k, S k → B ≤ k) (hB : B ≤ w.heap.size) : Below B w w' :=
 ⟨h.os, h.tape, h.output, h.size, fun k hk => h.blk k (by omega) (fun hs => by have := hS k hs; omega)⟩
end
structure Wh (t : TypeId) (w : World) (b : Nat) (cs : List Value) : Prop where
 blk : w.heap[b]? = some (.cells cs.toArray t (0, 0))
section
variable {t : TypeId} {w w' : World} {b : Nat} {cs : List Value}
theorem Wh.lt (h : Wh t w b cs) : b < w.heap.size := by
 rcases Nat.lt_or_ge b w.heap.size with hlt | hge
 ·exact hlt
 ·have := h.blk; rw [Array.getElem?_eq_none hge] at this; cases this
theorem Wh.cell (h : Wh t w b cs) (i : Nat) : w.cell? ⟨b, i, none⟩ = cs[i]? := by simp [World.cell?, h.blk]
theorem Wh.at (h : Wh t w b cs) (i : Nat) (v : Value) (hv : cs[i]? = some v) : w.cell? ⟨b, i, none⟩ = some v := (h.cell i).trans hv
theorem Wh.frozen (h : Wh t w b cs) (i : Nat) : w.frozen? ⟨b, i, none⟩ = false := by simp [World.frozen?, h.blk]
theorem Wh.rg (h : Wh t w b cs) : Rg w b cs := ⟨fun j v hj => h.at j v hj, h.lt⟩
theorem Wh.range (h : Wh t w b cs) : w.rangeAt b 0 cs := fun j v hv => by rw [Nat.zero_add]; exact h.at j v hv
theorem Wh.there (h : Wh t w b cs) {o n : Nat} (hn : o + n ≤ cs.length) : w.there b o n := fun j hj => by
 constructor
 ·rw [h.cell, List.getElem?_eq_getElem (by omega)]; rfl
 ·exact h.frozen _
theorem Wh.same (h : Wh t w b cs) (hk : w'.heap[b]? = w.heap[b]?) : Wh t w' b cs := ⟨hk.trans h.blk⟩
theorem Wh.up (h : Wh t w b cs) (hb : Below w.heap.size w w') : Wh t w' b cs := h.same (hb.block b h.lt)
theorem Wh.only {S : Nat → Prop} (h : Wh t w b cs) (hb : Only S w w') (hs : ¬ S b) : Wh t w' b cs := h.same (hb.blk b h.lt hs)
theorem Wh.new (w : World) (t : TypeId) (cs : List Value) : Wh t (w.alloc (.cells cs.toArray t)) w.heap.size cs := ⟨heap_alloc_new w _⟩
theorem Wh.set (h : Wh t w b cs) (i : Nat) (v : Value) : Wh t (w.setCell ⟨b, i, none⟩ v) b (cs.set i v) := by
 refine ⟨?_⟩
 simp [World.setCell, Array.getElem?_modify, h.blk]
theorem Wh.sets : ∀ (vs : List Value) {w : World} {xs ys zs : List Value}, Wh t w b (xs ++ ys ++ zs) → vs.length = ys.length → Wh t (w.setCells b xs.length vs) b (xs ++ vs ++ zs)
 | [], w, xs, ys, zs, h, hl => by
  obtain rfl : ys = [] := List.eq_nil_of_length_eq_zero hl.symm
  exact h
 | v :: vs, w, xs, [], zs, h, hl => by simp at hl
 | v :: vs, w, xs, y :: ys, zs, h, hl => by
  rw [World.setCells]
  have h1 := h.set xs.length v
  have e1 : (xs ++ (y :: ys) ++ zs).set xs.length v = (xs ++ [v]) ++ ys ++ zs := by simp
  rw [e1] at h1
  have h2 := Wh.sets vs h1 (by simpa using hl)
  have e2 : (xs ++ [v]).length = xs.length + 1 := by simp
  rw [e2] at h2
  simpa using h2
theorem Wh.put (h : Wh t w b cs) (vs : List Value) (hl : vs.length = cs.length) : Wh t (w.setCells b 0 vs) b vs := by
 have h1 := Wh.sets (xs := []) (ys := cs) (zs := []) vs (by simpa using h) hl
 simpa using h1
end
theorem wpList_store_wh {P : Program} {ops : Array Oper} {rest : List Oper} {o : Oper} {a : Act} {w : World} {Q : Exit → Act → World → Prop} (hg : o.guard = none) (ty : TypeId) (x y : Operand) (hop : o.op = .store ty x y)
  (b : Nat) (hx : a.eval x = .pointer (some ⟨b, 0, none⟩)) (t : TypeId) (cs vs : List Value) (hy : a.eval y = .agg vs.toArray) (hw : Wh t w b cs) (hl : vs.length = cs.length)
  (hi : (P.info? ty).map (·.size) = some vs.toArray.size) (h1 : vs.toArray.all (·.oneCell') = true)
  (h : ∀ W, Hid (Wh t W b vs) → Hid (Only (fun k => k = b) w W) → W.heap.size = w.heap.size → wpList P ops Q rest (a.put o.dst undef) W) : wpList P ops Q (o :: rest) a w :=
 wpList_store_mid hg ty x y hop b 0 vs.toArray hx hy (hw.there (by simp [hl])) hi h1 (h _ (Lib.hid (hw.put vs hl)) (Lib.hid (Only.setCells (S := fun k => k = b) rfl vs 0 w)) (by
  have : ∀ (vs : List Value) (o : Nat) (w : World), (w.setCells b o vs).heap.size = w.heap.size := by
   intro vs
   induction vs with
   | nil => intro o w; rfl
   | cons v r ih => intro o w; rw [World.setCells, ih]; exact World.size_setCell _ _ _
  exact this _ _ _))
theorem only_new {w W : World} {o : Obj} (h : Only (fun k => k = w.heap.size) (w.alloc o) W) : Below w.heap.size w W :=
 (below_alloc_new o).trans (h.below (B := w.heap.size) (fun k hk => Nat.le_of_eq hk.symm) (by simp))
open Go.RowKit Go.Maps
set_option maxRecDepth 100000 in
theorem lk_keyed : Keyed Tryz.prog 89 := Keyed.of_law (deep_law_gate laid_out (by decide +kernel) (by decide +kernel) (by kernel_rfl) (by kernel_rfl))
set_option maxRecDepth 100000 in
theorem lk_lits (n : Nat) (cs : List Value) : Tryz.prog.keyLits (n + 1) 89 cs = if cs.length = 2 then (do let a ← Tryz.prog.keyLits n 3 ((cs.drop 0).take 1); let b ← Tryz.prog.keyLits n 3 ((cs.drop 1).take 1); some (a ++ b)) else none := by
 have hc : Tryz.prog.cellsOf 89 = 2 := by kernel_rfl
 have hc3 : Tryz.prog.cellsOf 3 = 1 := by kernel_rfl
 conv => lhs; unfold Program.keyLits
 rw [Tryz.underlying89]
 simp [hc, hc3]
 split
 ·cases Tryz.prog.keyLits n 3 (List.take 1 cs) <;> cases Tryz.prog.keyLits n 3 (List.take 1 cs.tail) <;> simp
 ·rfl
set_option maxRecDepth 100000 in
theorem lk_int {n : Nat} {a : Int} (h : (Lit.int .i64 a).wf = true) : Tryz.prog.keyLits (n + 1) 3 [.int .i64 a] = some [.int .i64 a] := by
 unfold Program.keyLits
 rw [Tryz.underlying3]
 simp [h]
set_option maxRecDepth 100000 in
theorem lk_key {k : Int × Int} (h : okK k) : keyOf Tryz.prog 89 (pairV k) = some (klit k) := by
 have hf : Value.formed Tryz.prog 89 (pairV k) = true := by
  have hc : Tryz.prog.cellsOf 89 = 2 := by kernel_rfl
  simp [Value.formed, Tryz.underlying89, hc]
 have hk : Tryz.prog.keyType 89 = true := by kernel_rfl
 have h1 : 1 ≤ Tryz.prog.types.size := by decide +kernel
 obtain ⟨n, hn⟩ : ∃ n, Tryz.prog.types.size + 1 = n + 2 := ⟨Tryz.prog.types.size - 1, by omega⟩
 unfold keyOf
 rw [Tryz.underlying89]
 simp only [hk, hf, Bool.and_self, if_true]
 rw [hn]
 show Option.map _ (Tryz.prog.keyLits (n + 2) 89 [.int .i64 k.1, .int .i64 k.2]) = _
 rw [lk_lits]
 simp [lk_int h.1, lk_int h.2]
 rfl
set_option maxRecDepth 100000 in
theorem lk_of_key {v : Value} {l : Lit} (h : keyOf Tryz.prog 89 v = some l) : ∃ k, v = pairV k ∧ l = klit k ∧ okK k := by
 obtain ⟨xs, L, rfl, hl, rfl⟩ := keyOf_top (by rw [Tryz.underlying89]) h
 have h1 : 1 ≤ Tryz.prog.types.size := by decide +kernel
 obtain ⟨n, hn⟩ : ∃ n, Tryz.prog.types.size + 1 = n + 2 := ⟨Tryz.prog.types.size - 1, by omega⟩
 rw [hn, lk_lits] at hl
 obtain ⟨cs⟩ := xs
 have hcs : cs.length = 2 := by
  split at hl
  ·assumption
  ·cases hl
 match cs, hcs with
 | [x, y], _ =>
  rw [if_pos (by rfl)] at hl
  simp only [Option.bind_eq_bind, Option.bind_eq_some_iff] at hl
  obtain ⟨a, ha, b, hb, e⟩ := hl
  injection e with e
  subst e
  obtain ⟨a, rfl, rfl, wa⟩ := keyLits_int ha
  obtain ⟨b, rfl, rfl, wb⟩ := keyLits_int hb
  exact ⟨(_, _), rfl, rfl, wa, wb⟩
theorem lk_inj {a b : Int × Int} (ha : okK a) (hb : okK b) (h : klit a = klit b) : a = b := by
 have h1 := lk_key ha
 rw [h] at h1
 have h2 := lk_keyed.inj h1 (lk_key hb)
 simp at h2
 exact Prod.ext h2.1 h2.2
def MapS (w : World) (b n : Nat) (S : Int × Int → Bool) : Prop := ∃ D : DataW Value, w.ownsMap Tryz.prog 89 heldP b n D ∧ (∀ k, okK k → Maps.has D (klit k) = S k ∧ ∀ z, D.atKey (klit k) z = if S k = true then .held (.bool true) else z) ∧ ∀ k, S k = true → okK k
section
variable {w w' : World} {b n m : Nat} {S : Int × Int → Bool}
theorem MapS.blk (h : MapS w b n S) (hk : w'.heap[b]? = w.heap[b]?) : MapS w' b n S := by
 obtain ⟨D, ⟨es, clock, hb, rest⟩, h2⟩ := h
 exact ⟨D, ⟨es, clock, hk.trans hb, rest⟩, h2⟩
theorem MapS.lt (h : MapS w b n S) : b < w.heap.size := by
 obtain ⟨D, h1, _⟩ := h
 exact h1.lt
theorem MapS.isMap (h : MapS w b n S) : ∃ es k, w.heap[b]? = some (.map es k) := by
 obtain ⟨D, ⟨es, clock, hb, _⟩, _⟩ := h
 exact ⟨es, clock, hb⟩
theorem MapS.up (h : MapS w b n S) (hb : Below w.heap.size w w') : MapS w' b n S := h.blk (hb.block b h.lt)
theorem MapS.only {M : Nat → Prop} (h : MapS w b n S) (hb : Only M w w') (hs : ¬ M b) : MapS w' b n S := h.blk (hb.blk b h.lt hs)
theorem MapS.mono (h : MapS w b n S) (hm : n ≤ m) : MapS w b m S := by
 obtain ⟨D, h1, h2⟩ := h
 exact ⟨D, h1.mono hm, h2⟩
theorem MapS.made (w : World) : MapS (w.alloc (.map #[] 0)) w.heap.size 0 (fun _ => false) :=
 ⟨.map [], World.ownsMap_made _ _ _ _, fun _ _ => ⟨rfl, fun _ => rfl⟩, fun _ h => by cases h⟩
theorem MapS.ext {T : Int × Int → Bool} (h : MapS w b n S) (hg : ∀ c, T c = S c) : MapS w b n T := by
 obtain rfl : T = S := funext hg
 exact h
set_option maxRecDepth 100000 in
theorem MapS.look (h : MapS w b n S) {k : Int × Int} (hk : okK k) : (Instr.lookup 120 (.map (some b)) (pairV k) false).run Tryz.prog w = .ok (.bool (S k)) w := by
 obtain ⟨D, h1, h3, _⟩ := h
 obtain ⟨v, ps, hrun, hv⟩ := h1.lookup lk_keyed Tryz.underlying120 (z := .bool false) (Tryz.zeroValue4 w) (zd := .held (.bool false)) (zp := []) rfl (lk_key hk)
 have he : v = .bool (S k) := by
  rw [(h3 k hk).2] at hv
  simp only [heldP, Option.some.injEq, Prod.mk.injEq] at hv
  have h4 := hv.1
  cases hf : S k with
  | false => rw [hf] at h4; simpa using h4
  | true => rw [hf] at h4; simpa using h4
 rw [hrun, he]
set_option maxRecDepth 100000 in
theorem MapS.put (h : MapS w b n S) {k : Int × Int} (hk : okK k) (hn : n ≤ 1000000) : ∃ W, (Instr.mapUpdate 120 (.map (some b)) (pairV k) (.bool true)).run Tryz.prog w = .ok () W ∧ MapS W b (n + 1) (fun q => decide (q = k) || S q) ∧ Only (fun j => j = b) w W := by
 obtain ⟨D, h1, h3, h4⟩ := h
 have h2 := h1.isMap
 obtain ⟨W, hrun, o2, g2⟩ := h1.store (R := heldP) (val := .bool true) (d := .held (.bool true)) (ps := []) lk_keyed Tryz.underlying120 (by unfold maxLen; omega) (lk_key hk) rfl
 refine ⟨W, hrun, ⟨_, o2, fun q hq => ?_, fun q hq => ?_⟩, Only.grown g2.grown (fun j e => by cases e; rfl)⟩
 ·by_cases hqk : q = k
  ·subst hqk
   rw [has_put_same h2 (lk_keyed.key (lk_key hk))]
   exact ⟨by simp, fun z => by rw [atKey_put_same h2 (lk_keyed.key (lk_key hk))]; simp⟩
  ·have hne : klit q ≠ klit k := fun e => hqk (lk_inj hq hk e)
   rw [has_put_other hne]
   exact ⟨by simp [hqk, (h3 q hq).1], fun z => by rw [atKey_put_other hne]; simp [hqk, (h3 q hq).2]⟩
 ·by_cases hqk : q = k
  ·subst hqk; exact hk
  ·simp [hqk] at hq
   exact h4 q hq
set_option maxRecDepth 100000 in
theorem wpList_maps_put {ops : Array Oper} {rest : List Oper} {o : Oper} {a : Act} {Q : Exit → Act → World → Prop} (hg : o.guard = none) (m x y : Operand) (hop : o.op = Op.mapUpdate 120 m x y)
  (hm : a.eval m = .map (some b)) (hs : MapS w b n S) {k : Int × Int} (hx : a.eval x = pairV k) (hy : a.eval y = .bool true) (hk : okK k) (hn : n ≤ 1000000)
  (hK : ∀ W, Hid (MapS W b (n + 1) (fun q => decide (q = k) || S q)) → Hid (Only (fun j => j = b) w W) → wpList Tryz.prog ops Q rest (a.put o.dst undef) W) : wpList Tryz.prog ops Q (o :: rest) a w := by
 refine wpList_plain hg fun K' hK' => ?_
 obtain ⟨W, hrun, r1, r2⟩ := hs.put hk hn
 unfold Oper.wp
 simp [execOp, hop, hm, hx, hy, hrun, Result.andThen]
 exact hK' _ _ (hK W (Lib.hid r1) (Lib.hid r2))
set_option maxRecDepth 100000 in
theorem wpList_maps_del {ops : Array Oper} {rest : List Oper} {o : Oper} {a : Act} {Q : Exit → Act → World → Prop} (hg : o.guard = none) (m x : Operand) (hop : o.op = Op.call { callee := Callee.builtin Builtin.delete, args := #[m, x], argTypes := #[120, 89] })
  (hm : a.eval m = .map (some b)) (hs : MapS w b n S) {k : Int × Int} (hx : a.eval x = pairV k) (hk : okK k)
  (hK : ∀ W, Hid (MapS W b n (fun q => !decide (q = k) && S q)) → Hid (Only (fun j => j = b) w W) → wpList Tryz.prog ops Q rest (a.put o.dst (.tuple #[])) W) : wpList Tryz.prog ops Q (o :: rest) a w := by
 obtain ⟨D, h1, h3, h4⟩ := hs
 refine wpList_delete_own w hg m x _ _ hop 4 lk_keyed Tryz.underlying120 heldP b n D hm h1 _ _ hx (lk_key hk) ?_
 intro W o2 g2
 refine hK W (Lib.hid ⟨_, o2, fun q hq => ?_, fun q hq => ?_⟩) (Lib.hid (Only.grown g2.grown (fun j e => by cases e; rfl)))
 ·by_cases hqk : q = k
  ·subst hqk
   rw [has_del_same]
   exact ⟨by simp, fun z => by rw [atKey_del_same]; simp⟩
  ·have hne : klit q ≠ klit k := fun e => hqk (lk_inj hq hk e)
   rw [has_del_other hne]
   exact ⟨by simp [hqk, (h3 q hq).1], fun z => by rw [atKey_del_other hne]; simp [hqk, (h3 q hq).2]⟩
 ·by_cases hqk : q = k
  ·subst hqk; exact hk
  ·simp [hqk] at hq
   exact h4 q hq
end
open Go.RowKit
structure Tri (w : World) (g : Nat) (y m k : Int) : Prop where
 c0 : w.cell? ⟨g, 0, none⟩ = some (.int .i64 y)
 c1 : w.cell? ⟨g, 1, none⟩ = some (.int .i64 m)
 c2 : w.cell? ⟨g, 2, none⟩ = some (.int .i64 k)
 lt : g < w.heap.size
theorem Tri.up {w w' : World} {g : Nat} {y m k : Int} (h : Tri w g y m k) (hb : Below w.heap.size w w') : Tri w' g y m k :=
 ⟨(hb.cell (p := ⟨g, 0, none⟩) h.lt).trans h.c0, (hb.cell (p := ⟨g, 1, none⟩) h.lt).trans h.c1, (hb.cell (p := ⟨g, 2, none⟩) h.lt).trans h.c2, Nat.lt_of_lt_of_le h.lt hb.size⟩
theorem tri_new (w : World) (t : TypeId) (y m k : Int) : Tri (w.alloc (.cells #[.int .i64 y, .int .i64 m, .int .i64 k] t)) w.heap.size y m k ∧ Below w.heap.size w (w.alloc (.cells #[.int .i64 y, .int .i64 m, .int .i64 k] t)) := by
 refine ⟨⟨?_, ?_, ?_, by simp⟩, below_alloc_new _⟩ <;> (simp only [World.cell?]; rw [heap_alloc_new]; rfl)
abbrev calV (y m k : Int) : Value := .agg #[.int .i64 y, .int .i64 m, .int .i64 k]
theorem fiE_b (y m p : Int) : (fiE y m p == 0) = fiB y m p := by
 unfold fiE
 cases fiB y m p <;> rfl
theorem pd_in {y m k p : Int} (h : clV y m k = true) (hp : 0 ≤ p ∧ p < k) : clE y m k p = 0 ∧ pdF y m k p = mfst (mno y m + p) ∧ pdL y m k p = mfst (mno y m + p + 1) - 1 ∧ pdY y m k p = p / 12 ∧ pdB y m k p = mfst (mno y m + p - p % 12) := by
 unfold pdF pdL pdY pdB
 rw [clE_in h hp]
 exact ⟨rfl, rfl, rfl, rfl, rfl⟩
theorem pd_out {y m k p : Int} (h : clE y m k p ≠ 0) : pdF y m k p = 0 ∧ pdL y m k p = 0 ∧ pdY y m k p = 0 ∧ pdB y m k p = 0 ∧ pdP y m k p = 0 ∧ pdPE y m k p = clE y m k p ∧ pdT y m k p = ⟨#[]⟩ := by
 unfold pdF pdL pdY pdB pdP pdPE pdT
 simp [h]
theorem clE_yes {y m k p : Int} (he : clE y m k p = 0) : clV y m k = true ∧ (0 ≤ p ∧ p < k) := by
 rcases clE_three y m k p with ⟨hv, h⟩ | ⟨hv, hp, h⟩ | ⟨hv, hp, h⟩
 ·rw [he] at h; exact absurd h (by decide)
 ·rw [he] at h; exact absurd h (by decide)
 ·exact ⟨hv, hp⟩
theorem cl_k {y m k : Int} (h : clV y m k = true) : 1 ≤ k ∧ k ≤ 120 := (clV_iff.1 h).1
theorem rfi_any (y m k p : Int) (w : World) : Calls Tryz.prog 95 #[calV y m k, .int .i64 p] w fun e w' => e = .returned (.tuple #[.int .i64 (fiN y m p), .int .i64 (fiE y m p)]) ∧ Below w.heap.size w w' := by
 obtain ⟨tn, bn⟩ := tri_new w 23 y m k
 have HT := Lib.hid tn
 obtain ⟨c0, c1, c2, lt⟩ := tn
 cases hi : inYM y m
 ·obtain ⟨e1, e2, e3, e4⟩ := fi_none p hi
  rw [e3, e4]
  have h1 := fun w => dtrof_any y m 1 w
  rw [e1, e2] at h1
  have H1 := Lib.hid h1
  clear h1 hi e1 e2 e3 e4
  go_enter Tryz.func95, Tryz.ntmps95
  go_wp2_with (go_at_call 134; refine (H1.out _).mono ?_; rintro e w' ⟨rfl, rfl⟩)
  go_ret2
  exact ⟨rfl, bn⟩
 ·obtain ⟨e1, e2, e3, e4⟩ := fi_some p hi
  have h1 := fun w => dtrof_any y m 1 w
  rw [e1, e2] at h1
  have h2 := fun w => dtradd_any (mfst (mno y m)) p w
  rw [e3, e4] at h2
  have H1 := Lib.hid h1
  have H2 := Lib.hid h2
  clear h1 h2 hi e1 e2 e3 e4
  go_enter Tryz.func95, Tryz.ntmps95
  go_wp2_with (first | (go_at_call 134; refine (H1.out _).mono ?_; rintro e w' ⟨rfl, rfl⟩) | (go_at_call 135; refine (H2.out _).mono ?_; rintro e w' ⟨rfl, rfl⟩))
  go_ret2
  exact ⟨rfl, bn⟩
theorem rvalid7_any (y m k : Int) (w : World) : Calls Tryz.prog 121 #[calV y m k] w fun e w' => e = .returned (.bool (clV y m k)) ∧ Below w.heap.size w w' := by
 obtain ⟨tn, bn⟩ := tri_new w 23 y m k
 have HT := Lib.hid tn
 obtain ⟨c0, c1, c2, lt⟩ := tn
 unfold clV
 by_cases h1 : 1 ≤ k
 ·by_cases h2 : k ≤ 120
  ·have h3 := fun w => rfi_any y m k (k - 1) w
   rw [decide_eq_true h1, decide_eq_true h2, ← fiE_b]
   have h1' : decide (k < 1) = false := decide_eq_false (by omega)
   have h2' : decide (120 < k) = false := decide_eq_false (by omega)
   generalize fiN y m (k - 1) = a at *
   generalize fiE y m (k - 1) = b at *
   have H3 := Lib.hid h3
   clear h3
   go_enter Tryz.func121, Tryz.ntmps121
   go_wp2_with (go_at_call 95; refine (H3.out _).mono ?_; rintro e w' ⟨rfl, hb⟩; replace bn := below_more bn hb; replace HT := Lib.hid (HT.out.up hb); clear c0 c1 c2 lt hb; obtain ⟨c0, c1, c2, lt⟩ := HT.out)
   go_ret
   exact ⟨dret_bool (by simp), bn⟩
  ·rw [decide_eq_true h1, decide_eq_false h2]
   have h1' : decide (k < 1) = false := decide_eq_false (by omega)
   have h2' : 120 < k := by omega
   clear h2
   go_enter Tryz.func121, Tryz.ntmps121
   go_wp2_with fail
   go_ret
   exact ⟨rfl, bn⟩
 ·rw [decide_eq_false h1]
  have h1' : k < 1 := by omega
  clear h1
  go_enter Tryz.func121, Tryz.ntmps121
  go_wp2_with fail
  go_ret
  exact ⟨rfl, bn⟩
theorem rcheck7_any (y m k p : Int) (w : World) : Calls Tryz.prog 94 #[calV y m k, .int .i64 p] w fun e w' => e = .returned (.int .i64 (clE y m k p)) ∧ Below w.heap.size w w' := by
 obtain ⟨tn, bn⟩ := tri_new w 23 y m k
 have HT := Lib.hid tn
 obtain ⟨c0, c1, c2, lt⟩ := tn
 have h1 := fun w => rvalid7_any y m k w
 rcases clE_three y m k p with ⟨hv, he⟩ | ⟨hv, hp, he⟩ | ⟨hv, hp, he⟩
 ·rw [he]
  rw [hv] at h1
  have H1 := Lib.hid h1
  clear h1 hv he
  go_enter Tryz.func94, Tryz.ntmps94
  go_wp2_with (go_at_call 121; refine (H1.out _).mono ?_; rintro e w' ⟨rfl, hb⟩; replace bn := below_more bn hb; replace HT := Lib.hid (HT.out.up hb); clear c0 c1 c2 lt hb; obtain ⟨c0, c1, c2, lt⟩ := HT.out)
  go_ret
  exact ⟨rfl, bn⟩
 ·rw [he]
  rw [hv] at h1
  have H1 := Lib.hid h1
  clear h1 hv he
  by_cases h0 : p < 0
  ·skip
   go_enter Tryz.func94, Tryz.ntmps94
   go_wp2_with (go_at_call 121; refine (H1.out _).mono ?_; rintro e w' ⟨rfl, hb⟩; replace bn := below_more bn hb; replace HT := Lib.hid (HT.out.up hb); clear c0 c1 c2 lt hb; obtain ⟨c0, c1, c2, lt⟩ := HT.out)
   go_ret
   exact ⟨rfl, bn⟩
  ·have h0' : decide (p < 0) = false := decide_eq_false h0
   have h0'' : k ≤ p := by omega
   clear h0 hp
   go_enter Tryz.func94, Tryz.ntmps94
   go_wp2_with (go_at_call 121; refine (H1.out _).mono ?_; rintro e w' ⟨rfl, hb⟩; replace bn := below_more bn hb; replace HT := Lib.hid (HT.out.up hb); clear c0 c1 c2 lt hb; obtain ⟨c0, c1, c2, lt⟩ := HT.out)
   go_ret
   exact ⟨rfl, bn⟩
 ·rw [he]
  rw [hv] at h1
  have H1 := Lib.hid h1
  obtain ⟨p0, p1⟩ := hp
  have h0' : decide (p < 0) = false := decide_eq_false (by omega)
  have h0'' : decide (k ≤ p) = false := decide_eq_false (by omega)
  clear h1 hv he
  go_enter Tryz.func94, Tryz.ntmps94
  go_wp2_with (go_at_call 121; refine (H1.out _).mono ?_; rintro e w' ⟨rfl, hb⟩; replace bn := below_more bn hb; replace HT := Lib.hid (HT.out.up hb); clear c0 c1 c2 lt hb; obtain ⟨c0, c1, c2, lt⟩ := HT.out)
  go_ret
  exact ⟨rfl, bn⟩
theorem rfirst7_any (y m k p : Int) (w : World) : Calls Tryz.prog 60 #[calV y m k, .int .i64 p] w fun e w' => e = .returned (.tuple #[.int .i64 (pdF y m k p), .int .i64 (clE y m k p)]) ∧ Below w.heap.size w w' := by
 obtain ⟨tn, bn⟩ := tri_new w 23 y m k
 have HT := Lib.hid tn
 obtain ⟨c0, c1, c2, lt⟩ := tn
 have h1 := fun w => rcheck7_any y m k p w
 by_cases he : clE y m k p = 0
 ·obtain ⟨hv, hp⟩ := clE_yes he
  obtain ⟨-, e1, -⟩ := pd_in hv hp
  obtain ⟨a0, a1, a2⟩ := cl_month hv hp
  have h2 := fun w => rfi_any y m k p w
  unfold fiN fiE at h2
  rw [a2, if_pos rfl, if_pos rfl] at h2
  rw [e1, he]
  have H2 := Lib.hid h2
  clear h2 e1 a2
  rw [he] at h1
  have H1 := Lib.hid h1
  obtain ⟨p0, p1⟩ := hp
  obtain ⟨k0, k1⟩ := cl_k hv
  clear h1 he hv
  go_enter Tryz.func60, Tryz.ntmps60
  go_wp2_with (first | (go_at_call 94; refine (H1.out _).mono ?_; rintro e w' ⟨rfl, hb⟩; replace bn := below_more bn hb; replace HT := Lib.hid (HT.out.up hb); clear c0 c1 c2 lt hb; obtain ⟨c0, c1, c2, lt⟩ := HT.out) | (go_at_call 95; refine (H2.out _).mono ?_; rintro e w' ⟨rfl, hb⟩; replace bn := below_more bn hb; replace HT := Lib.hid (HT.out.up hb); clear c0 c1 c2 lt hb; obtain ⟨c0, c1, c2, lt⟩ := HT.out))
  go_ret2
  exact ⟨rfl, bn⟩
 ·obtain ⟨z1, z2, z3, z4, z5, z6, z7⟩ := pd_out he
  rw [z1]
  have hne : (clE y m k p != 0) = true := by simpa using he
  generalize clE y m k p = er at *
  have H1 := Lib.hid h1
  clear h1 he z1 z2 z3 z4 z5 z6 z7
  go_enter Tryz.func60, Tryz.ntmps60
  go_wp2_with (go_at_call 94; refine (H1.out _).mono ?_; rintro e w' ⟨rfl, hb⟩; replace bn := below_more bn hb; replace HT := Lib.hid (HT.out.up hb); clear c0 c1 c2 lt hb; obtain ⟨c0, c1, c2, lt⟩ := HT.out)
  go_ret2
  exact ⟨rfl, bn⟩
theorem rlast7_any (y m k p : Int) (w : World) : Calls Tryz.prog 61 #[calV y m k, .int .i64 p] w fun e w' => e = .returned (.tuple #[.int .i64 (pdL y m k p), .int .i64 (clE y m k p)]) ∧ Below w.heap.size w w' := by
 obtain ⟨tn, bn⟩ := tri_new w 23 y m k
 have HT := Lib.hid tn
 obtain ⟨c0, c1, c2, lt⟩ := tn
 have h1 := fun w => rfirst7_any y m k p w
 by_cases he : clE y m k p = 0
 ·obtain ⟨hv, hp⟩ := clE_yes he
  obtain ⟨-, e1, e2, -⟩ := pd_in hv hp
  obtain ⟨a0, a1, -⟩ := cl_month hv hp
  have hc := mfst_one a0 a1
  have h2 := fun w => rciv_yes _ _ _ _ w hc
  have h3 := fun w => rdays_any ((mno y m + p) / 12) ((mno y m + p) % 12 + 1) w
  rw [dys_in (inYM_iff.2 ⟨hc.y0, hc.y1, hc.m0, hc.m1⟩), show mdy ((mno y m + p) / 12) ((mno y m + p) % 12 + 1) = mln (mno y m + p) from rfl] at h3
  have b0 := mfst_bd (T := mno y m + p) a0 (by omega)
  have b1 := mln_bd (mno y m + p)
  rw [e2, he, mfst_succ _ a0]
  rw [e1, he] at h1
  have H1 := Lib.hid h1
  have H2 := Lib.hid h2
  have H3 := Lib.hid h3
  clear h1 h2 h3 he e1 e2 hc hv
  go_enter Tryz.func61, Tryz.ntmps61
  go_wp2_with (first | (go_at_call 60; refine (H1.out _).mono ?_; rintro e w' ⟨rfl, hb⟩; replace bn := below_more bn hb; replace HT := Lib.hid (HT.out.up hb); clear c0 c1 c2 lt hb; obtain ⟨c0, c1, c2, lt⟩ := HT.out) | (go_at_call 96; refine (H2.out _).mono ?_; rintro e w' ⟨rfl, rfl⟩) | (go_at_call 97; refine (H3.out _).mono ?_; rintro e w' ⟨rfl, rfl⟩))
  go_ret2
  exact ⟨rfl, bn⟩
 ·obtain ⟨z1, z2, -⟩ := pd_out he
  rw [z2]
  have hne : (clE y m k p != 0) = true := by simpa using he
  generalize clE y m k p = er at *
  have H1 := Lib.hid h1
  clear h1 he z1 z2
  go_enter Tryz.func61, Tryz.ntmps61
  go_wp2_with (go_at_call 60; refine (H1.out _).mono ?_; rintro e w' ⟨rfl, hb⟩; replace bn := below_more bn hb; replace HT := Lib.hid (HT.out.up hb); clear c0 c1 c2 lt hb; obtain ⟨c0, c1, c2, lt⟩ := HT.out)
  go_ret2
  exact ⟨rfl, bn⟩
theorem cnum7_any (y m : Int) (w : World) (hy : 1900 ≤ y ∧ y ≤ 2199 ∧ 1 ≤ m ∧ m ≤ 12) : Calls Tryz.prog 129 #[.int .i64 y, .int .i64 m] w fun e w' => e = .returned (.int .i64 (mno y m)) ∧ w = w' := by
 obtain ⟨y0, y1, m0, m1⟩ := hy
 unfold mno
 go_enter Tryz.func129, Tryz.ntmps129
 go_wp2_with fail
 go_ret
 exact ⟨rfl, rfl⟩
theorem cciv7_any (T : Int) (w : World) (h : 0 ≤ T ∧ T ≤ 100000) : Calls Tryz.prog 83 #[.int .i64 T] w fun e w' => e = .returned (.tuple #[.int .i64 (T / 12), .int .i64 (T % 12 + 1)]) ∧ w = w' := by
 obtain ⟨h0, h1⟩ := h
 go_enter Tryz.func83, Tryz.ntmps83
 go_wp2_with fail
 go_ret2
 exact ⟨rfl, rfl⟩
theorem cmon7_any (y m k p : Int) (w : World) (hy : 1900 ≤ y ∧ y ≤ 2199 ∧ 1 ≤ m ∧ m ≤ 12) (hp : -1000 ≤ p ∧ p ≤ 1000) : Calls Tryz.prog 84 #[calV y m k, .int .i64 p] w fun e w' => e = .returned (.int .i64 (mno y m + p)) ∧ Below w.heap.size w w' := by
 obtain ⟨tn, bn⟩ := tri_new w 23 y m k
 have HT := Lib.hid tn
 obtain ⟨c0, c1, c2, lt⟩ := tn
 have h1 := fun w => cnum7_any y m w hy
 have hb : 22800 ≤ mno y m ∧ mno y m ≤ 26399 := by unfold mno; omega
 have H1 := Lib.hid h1
 generalize mno y m = N at *
 obtain ⟨b0, b1⟩ := hb
 obtain ⟨p0, p1⟩ := hp
 clear h1 hy
 go_enter Tryz.func84, Tryz.ntmps84
 go_wp2_with (go_at_call 129; refine (H1.out _).mono ?_; rintro e w' ⟨rfl, rfl⟩)
 go_ret
 exact ⟨rfl, bn⟩
theorem cisp7_any (y m k p : Int) (w : World) : Calls Tryz.prog 128 #[calV y m k, .int .i64 p] w fun e w' => e = .returned (.bool (decide (0 ≤ p) && decide (p < k))) ∧ Below w.heap.size w w' := by
 obtain ⟨tn, bn⟩ := tri_new w 23 y m k
 have HT := Lib.hid tn
 obtain ⟨c0, c1, c2, lt⟩ := tn
 by_cases h0 : 0 ≤ p
 ·rw [decide_eq_true h0]
  go_enter Tryz.func128, Tryz.ntmps128
  go_wp2_with fail
  go_ret
  exact ⟨rfl, bn⟩
 ·rw [decide_eq_false h0]
  have h0' : p < 0 := by omega
  clear h0
  go_enter Tryz.func128, Tryz.ntmps128
  go_wp2_with fail
  go_ret
  exact ⟨rfl, bn⟩
theorem cvalid7_any (y m k : Int) (w : World) : Calls Tryz.prog 110 #[calV y m k] w fun e w' => e = .returned (.bool (clV y m k)) ∧ Below w.heap.size w w' := by
 obtain ⟨tn, bn⟩ := tri_new w 23 y m k
 have HT := Lib.hid tn
 obtain ⟨c0, c1, c2, lt⟩ := tn
 have h1 := fun w => days_any y m w
 unfold clV fiB
 cases hi : inYM y m
 ·rw [dys_out hi] at h1
  rw [Bool.false_and, Bool.and_false, Bool.and_false]
  have H1 := Lib.hid h1
  clear h1 hi
  go_enter Tryz.func110, Tryz.ntmps110
  go_wp2_with (go_at_call 86; refine (H1.out _).mono ?_; rintro e w' ⟨rfl, hb⟩; replace bn := below_more bn hb; replace HT := Lib.hid (HT.out.up hb); clear c0 c1 c2 lt hb; obtain ⟨c0, c1, c2, lt⟩ := HT.out)
  go_ret
  exact ⟨rfl, bn⟩
 ·obtain ⟨y0, y1, m0, m1⟩ := inYM_iff.1 hi
  have hd := mdy_bd y m
  rw [dys_in hi] at h1
  have hne : (mdy y m == 0) = false := by rw [beq_eq_false_iff_ne]; omega
  generalize mdy y m = dd at *
  have H1 := Lib.hid h1
  clear h1
  by_cases k0 : 1 ≤ k
  ·by_cases k1 : k ≤ 120
   ·have h2 := fun w => cmon7_any y m k (k - 1) w ⟨y0, y1, m0, m1⟩ (by omega)
    have e0 : mno y m = 12 * y + m - 1 := rfl
    have h3 := fun w => cciv7_any (mno y m + (k - 1)) w (by omega)
    have h4 := fun w => days_any ((mno y m + (k - 1)) / 12) ((mno y m + (k - 1)) % 12 + 1) w
    rw [decide_eq_true k0, decide_eq_true k1, Bool.true_and, Bool.true_and, Bool.true_and, decide_eq_true (show 22800 ≤ mno y m + (k - 1) by omega), Bool.true_and]
    have k0' : decide (k < 1) = false := decide_eq_false (by omega)
    have k1' : decide (120 < k) = false := decide_eq_false (by omega)
    have ht : decide (0 < dys ((mno y m + (k - 1)) / 12) ((mno y m + (k - 1)) % 12 + 1)) = decide (mno y m + (k - 1) ≤ 26399) := by
     cases hj : inYM ((mno y m + (k - 1)) / 12) ((mno y m + (k - 1)) % 12 + 1)
     ·rw [dys_out hj]
      have : ¬ (mno y m + (k - 1) ≤ 26399) := fun hc => by rw [inYM_iff.2 ⟨by omega, by omega, by omega, by omega⟩] at hj; cases hj
      rw [decide_eq_false this]; rfl
     ·have h5 := inYM_iff.1 hj
      have h6 := mdy_bd ((mno y m + (k - 1)) / 12) ((mno y m + (k - 1)) % 12 + 1)
      rw [dys_in hj, decide_eq_true (show mno y m + (k - 1) ≤ 26399 by omega), decide_eq_true (by omega)]
    rw [← ht]
    clear ht e0
    generalize dys ((mno y m + (k - 1)) / 12) ((mno y m + (k - 1)) % 12 + 1) = d2 at *
    generalize mno y m + (k - 1) = T at *
    have H2 := Lib.hid h2
    have H3 := Lib.hid h3
    have H4 := Lib.hid h4
    generalize T % 12 + 1 = b2 at *
    generalize T / 12 = a2 at *
    clear h2 h3 h4 hi y0 y1 m0 m1
    go_enter Tryz.func110, Tryz.ntmps110
    go_wp2_with (first | (go_at_call 86; first | (with_reducible refine (H1.out _).mono ?_; rintro e w' ⟨rfl, hb⟩; replace bn := below_more bn hb; replace HT := Lib.hid (HT.out.up hb); clear c0 c1 c2 lt hb; obtain ⟨c0, c1, c2, lt⟩ := HT.out) | (with_reducible refine (H4.out _).mono ?_; rintro e w' ⟨rfl, hb⟩; replace bn := below_more bn hb; replace HT := Lib.hid (HT.out.up hb); clear c0 c1 c2 lt hb; obtain ⟨c0, c1, c2, lt⟩ := HT.out)) | (go_at_call 84; refine (H2.out _).mono ?_; rintro e w' ⟨rfl, hb⟩; replace bn := below_more bn hb; replace HT := Lib.hid (HT.out.up hb); clear c0 c1 c2 lt hb; obtain ⟨c0, c1, c2, lt⟩ := HT.out) | (go_at_call 83; refine (H3.out _).mono ?_; rintro e w' ⟨rfl, rfl⟩))
    go_ret
    exact ⟨rfl, bn⟩
   ·rw [decide_eq_true k0, decide_eq_false k1]
    have k0' : decide (k < 1) = false := decide_eq_false (by omega)
    have k1' : 120 < k := by omega
    clear k1 hi y0 y1 m0 m1
    go_enter Tryz.func110, Tryz.ntmps110
    go_wp2_with (go_at_call 86; refine (H1.out _).mono ?_; rintro e w' ⟨rfl, hb⟩; replace bn := below_more bn hb; replace HT := Lib.hid (HT.out.up hb); clear c0 c1 c2 lt hb; obtain ⟨c0, c1, c2, lt⟩ := HT.out)
    go_ret
    exact ⟨rfl, bn⟩
  ·rw [decide_eq_false k0]
   have k0' : k < 1 := by omega
   clear k0 hi y0 y1 m0 m1
   go_enter Tryz.func110, Tryz.ntmps110
   go_wp2_with (go_at_call 86; refine (H1.out _).mono ?_; rintro e w' ⟨rfl, hb⟩; replace bn := below_more bn hb; replace HT := Lib.hid (HT.out.up hb); clear c0 c1 c2 lt hb; obtain ⟨c0, c1, c2, lt⟩ := HT.out)
   go_ret
   exact ⟨rfl, bn⟩
theorem ccheck7_any (y m k p : Int) (w : World) : Calls Tryz.prog 82 #[calV y m k, .int .i64 p] w fun e w' => e = .returned (.int .i64 (clE y m k p)) ∧ Below w.heap.size w w' := by
 obtain ⟨tn, bn⟩ := tri_new w 23 y m k
 have HT := Lib.hid tn
 obtain ⟨c0, c1, c2, lt⟩ := tn
 have h1 := fun w => cvalid7_any y m k w
 have h2 := fun w => cisp7_any y m k p w
 rcases clE_three y m k p with ⟨hv, he⟩ | ⟨hv, hp, he⟩ | ⟨hv, hp, he⟩
 ·rw [he]
  rw [hv] at h1
  have H1 := Lib.hid h1
  clear h1 h2 hv he
  go_enter Tryz.func82, Tryz.ntmps82
  go_wp2_with (go_at_call 110; refine (H1.out _).mono ?_; rintro e w' ⟨rfl, hb⟩; replace bn := below_more bn hb; replace HT := Lib.hid (HT.out.up hb); clear c0 c1 c2 lt hb; obtain ⟨c0, c1, c2, lt⟩ := HT.out)
  go_ret
  exact ⟨rfl, bn⟩
 ·rw [he]
  rw [hv] at h1
  rw [show (decide (0 ≤ p) && decide (p < k)) = false by rw [Bool.and_eq_false_iff, decide_eq_false_iff_not, decide_eq_false_iff_not]; omega] at h2
  have H1 := Lib.hid h1
  have H2 := Lib.hid h2
  clear h1 h2 hv he
  go_enter Tryz.func82, Tryz.ntmps82
  go_wp2_with (first | (go_at_call 110; refine (H1.out _).mono ?_; rintro e w' ⟨rfl, hb⟩; replace bn := below_more bn hb; replace HT := Lib.hid (HT.out.up hb); clear c0 c1 c2 lt hb; obtain ⟨c0, c1, c2, lt⟩ := HT.out) | (go_at_call 128; refine (H2.out _).mono ?_; rintro e w' ⟨rfl, hb⟩; replace bn := below_more bn hb; replace HT := Lib.hid (HT.out.up hb); clear c0 c1 c2 lt hb; obtain ⟨c0, c1, c2, lt⟩ := HT.out))
  go_ret
  exact ⟨rfl, bn⟩
 ·rw [he]
  rw [hv] at h1
  rw [show (decide (0 ≤ p) && decide (p < k)) = true by rw [Bool.and_eq_true, decide_eq_true_eq, decide_eq_true_eq]; exact hp] at h2
  have H1 := Lib.hid h1
  have H2 := Lib.hid h2
  clear h1 h2 hv he
  go_enter Tryz.func82, Tryz.ntmps82
  go_wp2_with (first | (go_at_call 110; refine (H1.out _).mono ?_; rintro e w' ⟨rfl, hb⟩; replace bn := below_more bn hb; replace HT := Lib.hid (HT.out.up hb); clear c0 c1 c2 lt hb; obtain ⟨c0, c1, c2, lt⟩ := HT.out) | (go_at_call 128; refine (H2.out _).mono ?_; rintro e w' ⟨rfl, hb⟩; replace bn := below_more bn hb; replace HT := Lib.hid (HT.out.up hb); clear c0 c1 c2 lt hb; obtain ⟨c0, c1, c2, lt⟩ := HT.out))
  go_ret
  exact ⟨rfl, bn⟩
theorem clast7_any (y m k p : Int) (w : World) : Calls Tryz.prog 47 #[calV y m k, .int .i64 p] w fun e w' => e = .returned (.tuple #[.int .i64 (pdL y m k p), .int .i64 (clE y m k p)]) ∧ Below w.heap.size w w' := by
 obtain ⟨tn, bn⟩ := tri_new w 23 y m k
 have HT := Lib.hid tn
 obtain ⟨c0, c1, c2, lt⟩ := tn
 have h1 := fun w => ccheck7_any y m k p w
 by_cases he : clE y m k p = 0
 ·obtain ⟨hv, hp⟩ := clE_yes he
  obtain ⟨-, -, e2, -⟩ := pd_in hv hp
  obtain ⟨a0, a1, a2⟩ := cl_month hv hp
  obtain ⟨ym, -⟩ := (clV_iff.1 hv).2
  obtain ⟨k0, k1⟩ := cl_k hv
  have h2 := fun w => cmon7_any y m k p w ym (by omega)
  have h3 := fun w => cciv7_any (mno y m + p) w (by omega)
  have hm := mln_bd (mno y m + p)
  obtain ⟨o1, o2⟩ := of_civ (mfst_civ (d := mln (mno y m + p)) a0 a1 (by omega) (Int.le_refl _))
  have h4 := fun w => dtof_any ((mno y m + p) / 12) ((mno y m + p) % 12 + 1) (mln (mno y m + p)) w
  have h5 := fun w => days_any ((mno y m + p) / 12) ((mno y m + p) % 12 + 1) w
  have hc := mfst_one a0 a1
  rw [dys_in (inYM_iff.2 ⟨hc.y0, hc.y1, hc.m0, hc.m1⟩), show mdy ((mno y m + p) / 12) ((mno y m + p) % 12 + 1) = mln (mno y m + p) from rfl] at h5
  rw [o1, o2] at h4
  rw [e2, he, mfst_succ _ a0]
  rw [he] at h1
  have H1 := Lib.hid h1
  have H2 := Lib.hid h2
  have H3 := Lib.hid h3
  have H4 := Lib.hid h4
  have H5 := Lib.hid h5
  clear h1 h2 h3 h4 h5 e2 a0 a1 a2 ym o1 o2 he hv hp hc hm
  generalize mfst (mno y m + p) + mln (mno y m + p) - 1 = F at *
  generalize mln (mno y m + p) = M at *
  generalize mno y m + p = T at *
  generalize T % 12 + 1 = b2 at *
  generalize T / 12 = a2 at *
  go_enter Tryz.func47, Tryz.ntmps47
  go_wp2_with (first | (go_at_call 82; refine (H1.out _).mono ?_; rintro e w' ⟨rfl, hb⟩; replace bn := below_more bn hb; replace HT := Lib.hid (HT.out.up hb); clear c0 c1 c2 lt hb; obtain ⟨c0, c1, c2, lt⟩ := HT.out) | (go_at_call 84; refine (H2.out _).mono ?_; rintro e w' ⟨rfl, hb⟩; replace bn := below_more bn hb; replace HT := Lib.hid (HT.out.up hb); clear c0 c1 c2 lt hb; obtain ⟨c0, c1, c2, lt⟩ := HT.out) | (go_at_call 83; refine (H3.out _).mono ?_; rintro e w' ⟨rfl, rfl⟩) | (go_at_call 86; refine (H5.out _).mono ?_; rintro e w' ⟨rfl, hb⟩; replace bn := below_more bn hb; replace HT := Lib.hid (HT.out.up hb); clear c0 c1 c2 lt hb; obtain ⟨c0, c1, c2, lt⟩ := HT.out) | (go_at_call 85; refine (H4.out _).mono ?_; rintro e w' ⟨rfl, hb⟩; replace bn := below_more bn hb; replace HT := Lib.hid (HT.out.up hb); clear c0 c1 c2 lt hb; obtain ⟨c0, c1, c2, lt⟩ := HT.out))
  go_ret2
  exact ⟨rfl, bn⟩
 ·obtain ⟨z1, z2, z3, z4, z5, z6, z7⟩ := pd_out he
  rw [z2]
  have hne : (clE y m k p != 0) = true := by simpa using he
  generalize clE y m k p = er at *
  have H1 := Lib.hid h1
  clear h1 he z1 z2 z3 z4 z5 z6 z7
  go_enter Tryz.func47, Tryz.ntmps47
  go_wp2_with (go_at_call 82; refine (H1.out _).mono ?_; rintro e w' ⟨rfl, hb⟩; replace bn := below_more bn hb; replace HT := Lib.hid (HT.out.up hb); clear c0 c1 c2 lt hb; obtain ⟨c0, c1, c2, lt⟩ := HT.out)
  go_ret2
  exact ⟨rfl, bn⟩
open Go.RowKit Go.Maps
structure LD where
 b : Nat
 n : Int
 y : Int
 m : Int
 k : Int
 bm : Nat
def LC (j : LD) : List Value := [.int .i64 j.n, .int .i64 j.y, .int .i64 j.m, .int .i64 j.k, .map (some j.bm)]
abbrev LD.p (j : LD) : Value := .pointer (some ⟨j.b, 0, none⟩)
structure LK (w : World) (j : LD) (z : Nat) (K : LkL) : Prop where
 box : Wh 122 w j.b (LC j)
 mp : MapS w j.bm z fun q => decide (q ∈ K)
 good : GoodL j.n j.k K
 cal : clV j.y j.m j.k = true
section
variable {w w' : World} {j : LD} {z : Nat} {K : LkL}
theorem LK.ne (h : LK w j z K) : j.b ≠ j.bm := fun e => by
 obtain ⟨es, k, h1⟩ := h.mp.isMap
 have h2 := h.box.blk
 rw [e, h1] at h2
 cases h2
theorem LK.up (h : LK w j z K) (hb : Below w.heap.size w w') : LK w' j z K := ⟨h.box.up hb, h.mp.up hb, h.good, h.cal⟩
theorem LK.mono {z' : Nat} (h : LK w j z K) (hz : z ≤ z') : LK w j z' K := ⟨h.box, h.mp.mono hz, h.good, h.cal⟩
theorem LK.only {S : Nat → Prop} (h : LK w j z K) (hb : Only S w w') (h1 : ¬ S j.b) (h2 : ¬ S j.bm) : LK w' j z K := ⟨h.box.only hb h1, h.mp.only hb h2, h.good, h.cal⟩
set_option maxRecDepth 100000 in
theorem lise_any (e : Int) (h : LK w j z K) : Calls Tryz.prog 73 #[j.p, .int .i64 e] w fun r w' => r = .returned (.bool (decide (0 ≤ e ∧ e < j.n))) ∧ w = w' := by
 have c0 := h.box.at 0 _ rfl
 clear h
 by_cases h1 : 0 ≤ e
 ·by_cases h2 : e < j.n
  ·have e3 : decide (0 ≤ e ∧ e < j.n) = true := by simp [h1, h2]
   rw [e3]
   go_enter Tryz.func73, Tryz.ntmps73
   go_wp2_with fail
   go_ret
   exact ⟨by first | rfl | simp, rfl⟩
  ·have e3 : decide (0 ≤ e ∧ e < j.n) = false := by simp [h2]
   rw [e3]
   go_enter Tryz.func73, Tryz.ntmps73
   go_wp2_with fail
   go_ret
   exact ⟨by first | rfl | simp, rfl⟩
 ·have e3 : decide (0 ≤ e ∧ e < j.n) = false := by simp [h1]
  rw [e3]
  go_enter Tryz.func73, Tryz.ntmps73
  go_wp2_with fail
  go_ret
  exact ⟨by first | rfl | simp, rfl⟩
theorem clE_ok {y m k p : Int} (h : clV y m k = true) : (clE y m k p == 0) = decide (0 ≤ p ∧ p < k) := by
 by_cases hp : 0 ≤ p ∧ p < k
 ·rw [clE_in h hp, decide_eq_true hp]; rfl
 ·rw [clE_out h hp, decide_eq_false hp]; rfl
set_option maxRecDepth 100000 in
theorem lisp_any (p : Int) (h : LK w j z K) : Calls Tryz.prog 81 #[j.p, .int .i64 p] w fun r w' => r = .returned (.bool (decide (0 ≤ p ∧ p < j.k))) ∧ Below w.heap.size w w' := by
 have c1 := h.box.at 1 _ rfl
 have c2 := h.box.at 2 _ rfl
 have c3 := h.box.at 3 _ rfl
 rw [← clE_ok h.cal]
 clear h
 go_enter Tryz.func81, Tryz.ntmps81
 go_wp2_with (go_at_call 47; refine (clast7_any j.y j.m j.k p _).mono ?_; rintro r w3 ⟨rfl, hb⟩; have HB3 := Lib.hid hb; clear hb)
 go_ret
 exact ⟨rfl, HB3.out⟩
set_option maxRecDepth 100000 in
theorem llkd_any (e p : Int) (h : LK w j z K) (ho : okK (e, p)) : Calls Tryz.prog 34 #[j.p, .int .i64 e, .int .i64 p] w fun r w' => r = .returned (.bool (decide ((e, p) ∈ K))) ∧ w = w' := by
 have c4 := h.box.at 4 _ rfl
 have hlk := h.mp.look ho
 clear h
 go_enter Tryz.func34, Tryz.ntmps34
 go_wp2_with fail
 go_ret
 exact ⟨rfl, rfl⟩
end
open Go.RowKit Go.Maps
section
variable {w w' : World} {j : LD} {z : Nat} {K : LkL}
set_option maxRecDepth 100000 in
set_option maxHeartbeats 1600000 in
theorem lock_any (e p : Int) (h : LK w j z K) (ho : okK (e, p)) (hz : z ≤ 1000) : Calls Tryz.prog 45 #[j.p, .int .i64 e, .int .i64 p] w fun r w' => r = .returned (.int .i64 (addE j.n j.k K (e, p))) ∧ LK w' j (z + 1) (addL j.n j.k K (e, p)) ∧ Only (fun i => i = j.bm) w w' := by
 have HE := Lib.hid (lise_any e h)
 have HP := Lib.hid (lisp_any p h)
 have HLK := Lib.hid h
 have HO := Lib.hid ho
 by_cases h1 : 0 ≤ e ∧ e < j.n
 ·rw [decide_eq_true h1] at HE
  by_cases h2 : 0 ≤ p ∧ p < j.k
  ·rw [decide_eq_true h2] at HP
   by_cases h3 : (e, p) ∈ K
   ·have hA : addE j.n j.k K (e, p) = 9 := by unfold addE; rw [if_pos h1, if_pos h2, if_pos h3]
    have hL : addL j.n j.k K (e, p) = K := by unfold addL; rw [hA]; rfl
    rw [hA, hL]
    have HD := Lib.hid (decide_eq_true h3)
    clear h ho h1 h2 h3 hA hL
    go_enter Tryz.func45, Tryz.ntmps45
    go_wp2_with (first
     | (go_at_call 73; refine HE.out.mono ?_; rintro r w3 ⟨rfl, rfl⟩)
     | (go_at_call 81; refine HP.out.mono ?_; rintro r w4 ⟨rfl, hb⟩; have HB4 := Lib.hid hb; clear hb)
     | (go_at_call 34; refine (llkd_any e p (HLK.out.up HB4.out) HO.out).mono ?_; rw [HD.out]; rintro r w5 ⟨rfl, rfl⟩))
    go_ret
    exact ⟨rfl, (HLK.out.up HB4.out).mono (Nat.le_succ _), Only.of HB4.out⟩
   ·have hA : addE j.n j.k K (e, p) = 0 := by unfold addE; rw [if_pos h1, if_pos h2, if_neg h3]
    have hL : addL j.n j.k K (e, p) = insL K (e, p) := by unfold addL; rw [hA]; rfl
    have HG := Lib.hid (h.good.add (e, p))
    rw [hL] at HG
    rw [hA, hL]
    have HD := Lib.hid (decide_eq_false h3)
    have HZ : Hid (z ≤ 1000000) := Lib.hid (by omega)
    clear h ho h1 h2 h3 hA hL
    go_enter Tryz.func45, Tryz.ntmps45
    go_wp2_with (first
     | (go_at_call 73; refine HE.out.mono ?_; rintro r w3 ⟨rfl, rfl⟩)
     | (go_at_call 81; refine HP.out.mono ?_; rintro r w4 ⟨rfl, hb⟩; have HB4 := Lib.hid hb; clear hb; have c4 := (HLK.out.up HB4.out).box.at 4 _ rfl)
     | (go_at_call 34; refine (llkd_any e p (HLK.out.up HB4.out) HO.out).mono ?_; rw [HD.out]; rintro r w5 ⟨rfl, rfl⟩)
     | (refine wpList_maps_put rfl _ _ _ rfl rfl (HLK.out.up HB4.out).mp (k := (e, p)) rfl rfl HO.out HZ.out ?_; intro w6 hm6 ho6))
    go_ret
    have h4 := HLK.out.up HB4.out
    refine ⟨rfl, ⟨h4.box.only ho6.out h4.ne, hm6.out.ext fun c => ?_, HG.out, h4.cal⟩, (Only.of HB4.out).trans ho6.out⟩
    rw [← Bool.decide_or, decide_eq_decide]
    exact insL_mem
  ·rw [decide_eq_false h2] at HP
   have hA : addE j.n j.k K (e, p) = 2 := by unfold addE; rw [if_pos h1, if_neg h2]
   have hL : addL j.n j.k K (e, p) = K := by unfold addL; rw [hA]; rfl
   rw [hA, hL]
   clear h ho h1 h2 hA hL
   go_enter Tryz.func45, Tryz.ntmps45
   go_wp2_with (first
    | (go_at_call 73; refine HE.out.mono ?_; rintro r w3 ⟨rfl, rfl⟩)
    | (go_at_call 81; refine HP.out.mono ?_; rintro r w4 ⟨rfl, hb⟩; have HB4 := Lib.hid hb; clear hb))
   go_ret
   exact ⟨rfl, (HLK.out.up HB4.out).mono (Nat.le_succ _), Only.of HB4.out⟩
 ·rw [decide_eq_false h1] at HE
  have hA : addE j.n j.k K (e, p) = 1 := by unfold addE; rw [if_neg h1]
  have hL : addL j.n j.k K (e, p) = K := by unfold addL; rw [hA]; rfl
  rw [hA, hL]
  clear h ho h1 hA hL
  go_enter Tryz.func45, Tryz.ntmps45
  go_wp2_with (go_at_call 73; refine HE.out.mono ?_; rintro r w3 ⟨rfl, rfl⟩)
  go_ret
  exact ⟨rfl, HLK.out.mono (Nat.le_succ _), Only.refl _⟩
set_option maxRecDepth 100000 in
set_option maxHeartbeats 1600000 in
theorem unlock_any (e p : Int) (h : LK w j z K) (ho : okK (e, p)) : Calls Tryz.prog 46 #[j.p, .int .i64 e, .int .i64 p] w fun r w' => r = .returned (.int .i64 (remE K (e, p))) ∧ LK w' j z (remL K (e, p)) ∧ Only (fun i => i = j.bm) w w' := by
 have HLK := Lib.hid h
 have HO := Lib.hid ho
 have c4 := h.box.at 4 _ rfl
 by_cases h3 : (e, p) ∈ K
 ·have hA : remE K (e, p) = 0 := remE_zero.2 h3
  have hL : remL K (e, p) = delL K (e, p) := by unfold remL; rw [hA]; rfl
  have HG := Lib.hid (h.good.rem (e, p))
  rw [hL] at HG
  rw [hA, hL]
  have HD := Lib.hid (decide_eq_true h3)
  clear h ho h3 hA hL
  go_enter Tryz.func46, Tryz.ntmps46
  go_wp2_with (first
   | (go_at_call 34; refine (llkd_any e p HLK.out HO.out).mono ?_; rw [HD.out]; rintro r w5 ⟨rfl, rfl⟩)
   | (at_delete; refine wpList_maps_del rfl _ _ rfl rfl HLK.out.mp (k := (e, p)) rfl HO.out ?_; intro w6 hm6 ho6))
  go_ret
  have h4 := HLK.out
  refine ⟨rfl, ⟨h4.box.only ho6.out h4.ne, hm6.out.ext fun c => ?_, HG.out, h4.cal⟩, ho6.out⟩
  rw [Bool.eq_iff_iff]
  simp [delL_mem]
 ·have hA : remE K (e, p) = 8 := by unfold remE; rw [if_neg h3]
  have hL : remL K (e, p) = K := by unfold remL; rw [hA]; rfl
  rw [hA, hL]
  have HD := Lib.hid (decide_eq_false h3)
  clear h ho h3 hA hL
  go_enter Tryz.func46, Tryz.ntmps46
  go_wp2_with (go_at_call 34; refine (llkd_any e p HLK.out HO.out).mono ?_; rw [HD.out]; rintro r w5 ⟨rfl, rfl⟩)
  go_ret
  exact ⟨rfl, HLK.out, Only.refl _⟩
theorem unt_none {n k : Int} (hg : GoodL n k K) {e : Int} (h : ∀ q, 0 ≤ q → q < k → (e, q) ∉ K) : untM K e = -1 :=
 untM_none hg.pos fun p hp => by
  have h9 := inL_iff.1 (hg.inr _ hp)
  exact h p h9.2.1 h9.2.2 hp
theorem unt_at {n k : Int} (hg : GoodL n k K) {e p : Int} (hp : (e, p) ∈ K) (h : ∀ q, p < q → q < k → (e, q) ∉ K) : untM K e = p :=
 untM_is hg.pos hp fun q hq => by
  have h9 := inL_iff.1 (hg.inr _ hq)
  rcases Int.lt_or_le p q with h1 | h1
  ·exact absurd hq (h q h1 h9.2.2)
  ·exact h1
set_option maxRecDepth 100000 in
set_option maxHeartbeats 1600000 in
theorem until_any (e : Int) (h : LK w j z K) (he : (Lit.int .i64 e).wf = true) : Calls Tryz.prog 36 #[j.p, .int .i64 e] w fun r w' => r = .returned (.tuple #[.int .i64 (untD j.y j.m j.k K e), .bool (untB K e)]) ∧ Below w.heap.size w w' := by
 have HLK := Lib.hid h
 have HG := Lib.hid h.good
 have HC := Lib.hid h.cal
 have c3 := h.box.at 3 _ rfl
 obtain ⟨k, hk⟩ : ∃ k : Nat, (k : Int) = j.k := ⟨j.k.toNat, by have := (clV_iff.1 h.cal).1; omega⟩
 have hkb : 1 ≤ k ∧ k ≤ 120 := by have := (clV_iff.1 h.cal).1; omega
 have hk1 : IntKind.i64.wrap (j.k - 1) = j.k - 1 := by rw [IntKind.wrap_i64]; have := (clV_iff.1 h.cal).1; omega
 have HKJ := Lib.hid hk
 have HKB := Lib.hid hkb
 have HEW := Lib.hid he
 clear h hk hkb he
 go_enter Tryz.func36, Tryz.ntmps36
 go_wp2_with fail
 go_loopg [6] k (fun kx s6 wr => ∃ p : Int, s6 = .int .i64 p ∧ -1 ≤ p ∧ p < j.k ∧ p + 1 ≤ kx ∧ Hid (∀ q, p < q → q < j.k → (e, q) ∉ K) ∧ wr = w)
 case atStart => exact ⟨j.k - 1, rfl, by have := HKJ.out; have := HKB.out; omega, by omega, by have := HKJ.out; omega, Lib.hid (fun q h1 h2 => by omega), rfl⟩
 case round =>
  obtain ⟨p, rfl, hp1, hpk, hpx, HN, hW⟩ := hrel
  have hW2 := hW.symm
  subst hW2
  by_cases h0 : 0 ≤ p
  ·have hd : decide (0 ≤ p) = true := decide_eq_true h0
   have hge : decide (p ≥ 0) = true := decide_eq_true h0
   have hok : okK (e, p) := ⟨HEW.out, WalkArith.wf_i64 ⟨by have := HKJ.out; have := HKB.out; omega, by have := HKJ.out; have := HKB.out; omega⟩⟩
   have HL := Lib.hid (llkd_any e p HLK.out hok)
   by_cases h3 : (e, p) ∈ K
   ·rw [decide_eq_true h3] at HL
    have hM : untM K e = p := unt_at HG.out h3 HN.out
    have HU : Hid (untD j.y j.m j.k K e = pdL j.y j.m j.k p ∧ untB K e = true) := Lib.hid (by unfold untD untB; rw [hM]; exact ⟨if_pos h0, decide_eq_true h0⟩)
    have c1 := HLK.out.box.at 1 _ rfl
    have c2 := HLK.out.box.at 2 _ rfl
    have HCE : Hid (clE j.y j.m j.k p = 0) := Lib.hid (clE_in HC.out ⟨h0, hpk⟩)
    clear h3 hM hok hp1 hpk hpx
    go_wp2_with (first
     | (go_at_call 34; refine HL.out.mono ?_; rintro r w5 ⟨rfl, rfl⟩)
     | (go_at_call 47; refine (clast7_any j.y j.m j.k p _).mono ?_; rw [HCE.out]; rintro r w3 ⟨rfl, hb⟩; have HB3 := Lib.hid hb; clear hb))
    go_ret2
    exact ⟨by rw [HU.out.1, HU.out.2]; rfl, HB3.out⟩
   ·rw [decide_eq_false h3] at HL
    have HN2 : Hid (∀ q, p - 1 < q → q < j.k → (e, q) ∉ K) := Lib.hid (fun q h1 h2 => by
     rcases Int.lt_or_le p q with h4 | h4
     ·exact HN.out q h4 h2
     ·obtain rfl : q = p := by omega
      exact h3)
    have hp2 : IntKind.i64.wrap (p - 1) = p - 1 := by rw [IntKind.wrap_i64]; have := HKJ.out; have := HKB.out; omega
    obtain ⟨P2, hP2⟩ : ∃ P2, p - 1 = P2 := ⟨_, rfl⟩
    rw [hP2] at hp2 HN2
    have HP2 := Lib.hid hP2
    have h2a : -1 ≤ P2 := by omega
    have h2b : P2 < j.k := by omega
    have h2c : P2 + 1 ≤ p := by omega
    clear h3 hok hP2
    go_wp2_with (go_at_call 34; refine HL.out.mono ?_; rintro r w5 ⟨rfl, rfl⟩)
    go_roundg (p.toNat)
    case measure => omega
    case rel => exact ⟨P2, by first | rfl | (refine congrArg (Value.int .i64) ?_; rw [HP2.out]; unfold wrap64; have := HKJ.out; have := HKB.out; omega), h2a, h2b, by omega, HN2, rfl⟩
  ·obtain rfl : p = -1 := by omega
   have HU : Hid (untD j.y j.m j.k K e = 0 ∧ untB K e = false) := Lib.hid (by
    have hM := unt_none HG.out (e := e) fun q h1 h2 => HN.out q (by omega) h2
    unfold untD untB; rw [hM]; exact ⟨rfl, rfl⟩)
   clear hp1 hpk hpx h0
   go_wp2_with fail
   go_ret2
   exact ⟨by rw [HU.out.1, HU.out.2]; rfl, Below.refl _ _⟩
set_option maxRecDepth 100000 in
set_option maxHeartbeats 1600000 in
theorem check_any (x : Ety) (h : LK w j z K) (he : (Lit.int .i64 x.ent).wf = true) : Calls Tryz.prog 38 #[j.p, etyV x] w fun r w' => r = .returned (.int .i64 (chkL j.n j.y j.m j.k K x.ent x.day)) ∧ Below w.heap.size w w' := by
 obtain ⟨xs, hxs⟩ : ∃ xs, (etyC x).toArray = xs := ⟨_, rfl⟩
 have hxV : etyV x = .agg xs := by rw [etyV_is, hxs]
 rw [hxV]
 obtain ⟨s0, hs0⟩ : ∃ s0, w.heap.size = s0 := ⟨_, rfl⟩
 obtain ⟨w2, hw2⟩ : ∃ w2, w.alloc (.cells xs 46) = w2 := ⟨_, rfl⟩
 have HXB : Wh 46 w2 s0 (etyC x) := by rw [← hw2, ← hs0, ← hxs]; exact Wh.new w _ _
 have HB2 : Hid (Below w.heap.size w w2) := Lib.hid (by rw [← hw2]; exact below_alloc_new _)
 have HJ2 := Lib.hid (h.up HB2.out)
 have HS0 := Lib.hid hs0
 have p1 := HXB.at 1 _ rfl
 have HX2 := Lib.hid HXB
 have HI := Lib.hid (lise_any x.ent HJ2.out)
 have HU := Lib.hid (until_any x.ent HJ2.out he)
 clear h hxV hxs he HXB
 by_cases h1 : 0 ≤ x.ent ∧ x.ent < j.n
 ·rw [decide_eq_true h1] at HI
  have hE : chkL j.n j.y j.m j.k K x.ent x.day = if untB K x.ent = true ∧ x.day ≤ untD j.y j.m j.k K x.ent then 12 else 0 := by unfold chkL; rw [if_pos h1]
  rw [hE]
  clear h1 hE
  generalize untD j.y j.m j.k K x.ent = D at *
  generalize untB K x.ent = b at *
  cases b
  ·rw [show (if (false = true ∧ x.day ≤ D) then (12 : Int) else 0) = 0 from if_neg (fun h => by cases h.1)]
   go_enter Tryz.func38, Tryz.ntmps38
   go_wp2_with (first
    | (go_at_call 73; refine HI.out.mono ?_; rintro r w3 ⟨rfl, rfl⟩)
    | (go_at_call 36; refine HU.out.mono ?_; rintro r w4 ⟨rfl, hb⟩; have HB4 := Lib.hid hb; have p2 := (HX2.out.up hb).at 2 _ rfl; clear hb))
   go_ret
   exact ⟨rfl, by have h9 := HB2.out.trans (HB4.out.mono HB2.out.size); first | exact h9 | (rw [← HS0.out]; exact h9)⟩
  ·by_cases h2 : x.day ≤ D
   ·have hd2 : decide (x.day ≤ D) = true := decide_eq_true h2
    rw [if_pos ⟨rfl, h2⟩]
    go_enter Tryz.func38, Tryz.ntmps38
    go_wp2_with (first
     | (go_at_call 73; refine HI.out.mono ?_; rintro r w3 ⟨rfl, rfl⟩)
     | (go_at_call 36; refine HU.out.mono ?_; rintro r w4 ⟨rfl, hb⟩; have HB4 := Lib.hid hb; have p2 := (HX2.out.up hb).at 2 _ rfl; clear hb))
    go_ret
    exact ⟨rfl, by have h9 := HB2.out.trans (HB4.out.mono HB2.out.size); first | exact h9 | (rw [← HS0.out]; exact h9)⟩
   ·have hd2 : decide (x.day ≤ D) = false := decide_eq_false h2
    rw [if_neg (fun h => h2 h.2)]
    go_enter Tryz.func38, Tryz.ntmps38
    go_wp2_with (first
     | (go_at_call 73; refine HI.out.mono ?_; rintro r w3 ⟨rfl, rfl⟩)
     | (go_at_call 36; refine HU.out.mono ?_; rintro r w4 ⟨rfl, hb⟩; have HB4 := Lib.hid hb; have p2 := (HX2.out.up hb).at 2 _ rfl; clear hb))
    go_ret
    exact ⟨rfl, by have h9 := HB2.out.trans (HB4.out.mono HB2.out.size); first | exact h9 | (rw [← HS0.out]; exact h9)⟩
 ·rw [decide_eq_false h1] at HI
  have hE : chkL j.n j.y j.m j.k K x.ent x.day = 1 := by unfold chkL; rw [if_neg h1]
  rw [hE]
  clear h1 hE HU
  go_enter Tryz.func38, Tryz.ntmps38
  go_wp2_with (go_at_call 73; refine HI.out.mono ?_; rintro r w3 ⟨rfl, rfl⟩)
  go_ret
  exact ⟨rfl, by have h9 := HB2.out; first | exact h9 | (rw [← HS0.out]; exact h9)⟩
end
open Go.RowKit
theorem wpList_index_is {P : Program} {w : World} {ops : Array Oper} {rest : List Oper} {o : Oper} {a : Act} {Q : Exit → Act → World → Prop} (hg : o.guard = none) (ty : TypeId) (x y : Operand) (hop : o.op = .index ty x y) (p q : Value) (hx : a.eval x = p) (hy : a.eval y = q) (V : Value)
  (hl : (Instr.index ty p q).run P w = .ok V w) (h : wpList P ops Q rest (a.put o.dst V) w) : wpList P ops Q (o :: rest) a w := by
 refine wpList_plain hg fun K hK => ?_
 unfold Oper.wp execOp
 simp only [hop, hx, hy, Sem.run_bind, hl, Sem.run_pure, Result.andThen_ok]
 exact hK _ _ h
abbrev rowV (g : Grp) (i : Nat) : Value := .agg #[.string (rlN i), .int .i64 (g.R.getD i 0), .int .i64 (rlK i), .int .i64 (rlB i)]
set_option maxRecDepth 20000 in
theorem rol_index (g : Grp) (i : Nat) (hi : i < 15) (W : World) : (Instr.index 189 (.agg (rpC g)) (.int .i64 (i : Int))).run Tryz.prog W = .ok (rowV g i) W := by
 rcases (show i = 0 ∨ i = 1 ∨ i = 2 ∨ i = 3 ∨ i = 4 ∨ i = 5 ∨ i = 6 ∨ i = 7 ∨ i = 8 ∨ i = 9 ∨ i = 10 ∨ i = 11 ∨ i = 12 ∨ i = 13 ∨ i = 14 from by omega) with rfl | rfl | rfl | rfl | rfl | rfl | rfl | rfl | rfl | rfl | rfl | rfl | rfl | rfl | rfl
 all_goals kernel_rfl
def roN (R : List Int) (c : Int) : ByteArray := if c ∈ R then rlN (R.idxOf c) else ⟨#[]⟩
theorem ro_at {R : List Int} {c : Int} {k : Nat} (hk : k < R.length) (h0 : ∀ j, j < k → R.getD j 0 ≠ c) (h : R.getD k 0 = c) : roN R c = rlN k ∧ decide (c ∈ R) = true := by
 have hm : c ∈ R := by rw [← h]; exact getD_mem_acc hk
 have hx : R.idxOf c = k := by
  show R.findIdx (· == c) = k
  rw [List.findIdx_eq hk]
  rw [List.getD_eq_getElem?_getD, List.getElem?_eq_getElem hk] at h
  refine ⟨by simpa using h, fun j hj => ?_⟩
  have := h0 j hj
  rw [List.getD_eq_getElem?_getD, List.getElem?_eq_getElem (by omega)] at this
  simpa using this
 unfold roN
 rw [if_pos hm, hx]
 exact ⟨rfl, decide_eq_true hm⟩
theorem ro_no {R : List Int} {c : Int} (h0 : ∀ j, j < R.length → R.getD j 0 ≠ c) : roN R c = ⟨#[]⟩ ∧ decide (c ∈ R) = false := by
 have hm : c ∉ R := fun h => by
  obtain ⟨i, hi, e⟩ := mem_getD_acc (d := (0 : Int)) h
  exact h0 i hi e
 unfold roN
 rw [if_neg hm]
 exact ⟨rfl, decide_eq_false hm⟩
structure WB (w : World) (b : Nat) (g : Grp) (i : Nat) : Prop where
 c0 : w.cell? ⟨b, 0, none⟩ = some (.string (rlN i))
 c1 : w.cell? ⟨b, 1, none⟩ = some (.int .i64 (g.R.getD i 0))
 c2 : w.cell? ⟨b, 2, none⟩ = some (.int .i64 (rlK i))
 c3 : w.cell? ⟨b, 3, none⟩ = some (.int .i64 (rlB i))
 lt : b < w.heap.size
theorem wb_new (w : World) (t : TypeId) (g : Grp) (i : Nat) : WB (w.alloc (.cells #[.string (rlN i), .int .i64 (g.R.getD i 0), .int .i64 (rlK i), .int .i64 (rlB i)] t)) w.heap.size g i := by
 constructor
 case lt => simp
 all_goals (simp only [World.cell?]; rw [heap_alloc_new]; rfl)
set_option maxRecDepth 20000 in
set_option maxHeartbeats 1600000 in
theorem grole_any (g : Grp) (c : Int) (w : World) : Calls Tryz.prog 193 #[grpV g, .int .i64 c] w fun e w' => e = .returned (.tuple #[.string (roN g.R c), .bool (decide (c ∈ g.R))]) ∧ Below w.heap.size w w' := by
 have hB := below_alloc_new (w := w) (.cells #[.string g.cur, .int .i64 g.cy, .int .i64 g.cm, .int .i64 g.cp, .slice g.A g.n g.c, .int .i64 g.r0, .int .i64 g.r1, .int .i64 g.r2, .int .i64 g.r3, .int .i64 g.r4, .int .i64 g.r5, .int .i64 g.r6, .int .i64 g.r7, .int .i64 g.r8, .int .i64 g.r9, .int .i64 g.r10, .int .i64 g.r11, .int .i64 g.r12, .int .i64 g.r13, .int .i64 g.r14, .slice g.E g.m g.d] 29)
 have hG := gb_new w 29 g
 have hat := fun k (hk : k < 15) => ro_at (R := g.R) (c := c) (k := k) hk
 have hno := fun (h : ∀ j, j < 15 → g.R.getD j 0 ≠ c) => ro_no (R := g.R) (c := c) h
 have hix := fun i hi W => rol_index g i hi W
 have h1 := fun w => rolesof_any g w
 generalize roN g.R c = nm at *
 generalize decide (c ∈ g.R) = q at *
 obtain ⟨V, hV⟩ : ∃ V : Value, .agg (rpC g) = V := ⟨_, rfl⟩
 rw [hV] at hix h1
 obtain ⟨U, hU⟩ : ∃ U : Value, rolV g = U := ⟨_, rfl⟩
 rw [hU] at h1
 have hR := gb_roles hG
 rw [hU] at hR
 obtain ⟨s0, hs0⟩ : ∃ s0, w.heap.size = s0 := ⟨_, rfl⟩
 rw [hs0] at hB hR ⊢
 have HS0 := Lib.hid hs0
 have HAt := Lib.hid hat
 have HNo := Lib.hid hno
 have HIx := Lib.hid hix
 have HR := Lib.hid hR
 have H1 := Lib.hid h1
 clear hG hat hno hix h1 hV hU hR
 have hs1 : s0 ≤ (w.alloc (.cells #[.string g.cur, .int .i64 g.cy, .int .i64 g.cm, .int .i64 g.cp, .slice g.A g.n g.c, .int .i64 g.r0, .int .i64 g.r1, .int .i64 g.r2, .int .i64 g.r3, .int .i64 g.r4, .int .i64 g.r5, .int .i64 g.r6, .int .i64 g.r7, .int .i64 g.r8, .int .i64 g.r9, .int .i64 g.r10, .int .i64 g.r11, .int .i64 g.r12, .int .i64 g.r13, .int .i64 g.r14, .slice g.E g.m g.d] 29)).heap.size := by simp; omega
 have HS1 := Lib.hid hs1
 clear hs1
 go_enter Tryz.func193, Tryz.ntmps193
 go_wp2_with (first
  | (refine wpList_load_is rfl 26 _ rfl (.pointer (some ⟨s0, 5, none⟩)) rfl U HR.out ?_)
  | (go_at_call 145; refine (H1.out _).mono ?_; rintro e w1 ⟨rfl, hb⟩; have hB2 := hB.trans (hb.mono HS1.out); clear hb hB HR))
 clear hs0
 go_loopg [11] 15 (fun kx s11 wr => ∃ k : Nat, s11 = .int .i64 k ∧ k ≤ 15 ∧ 15 - k ≤ kx ∧ Hid (∀ j, j < k → g.R.getD j 0 ≠ c) ∧ Below s0 w wr)
 case atStart => exact ⟨0, rfl, by omega, by omega, Lib.hid (fun j h => absurd h (by omega)), hB2⟩
 case round =>
  clear hB2
  obtain ⟨k, rfl, hk, hkx, HN, hB⟩ := hrel
  by_cases hlt : k < 15
  ·have hltz : (k : Int) < 15 := by omega
   have hsz : s0 ≤ wr.heap.size := by have := hB.size; have := HS0.out; omega
   have hix := HIx.out k hlt
   have ha := HAt.out k hlt HN.out
   obtain ⟨z0, z1, z2, z3, zlt⟩ := wb_new wr 188 g k
   have hnx : g.R.getD k 0 ≠ c → Hid (∀ j, j < k + 1 → g.R.getD j 0 ≠ c) := fun h => Lib.hid fun j hj => by
    rcases Nat.lt_or_ge j k with h1 | h1
    ·exact HN.out j h1
    ·obtain rfl : j = k := by omega
     exact h
   have hB1 : Below s0 w (wr.alloc (.cells #[.string (rlN k), .int .i64 (g.R.getD k 0), .int .i64 (rlK k), .int .i64 (rlB k)] 188)) := hB.alloc hsz _
   unfold rowV at hix
   generalize g.R.getD k 0 = x at *
   generalize rlN k = y at *
   generalize rlK k = y2 at *
   generalize rlB k = y3 at *
   obtain ⟨T, hT⟩ : ∃ T, (.agg #[.string y, .int .i64 x, .int .i64 y2, .int .i64 y3] : Value) = T := ⟨_, rfl⟩
   have HIx2 := Lib.hid hix
   clear HN hix hT
   by_cases hq : x = c
   ·have e3 : (x == c) = true := by simp [hq]
    have HR := Lib.hid (ha hq)
    clear ha hnx hq
    go_wp2_with (refine wpList_index_is rfl 189 _ _ rfl V (.int .i64 (k : Int)) rfl rfl _ (HIx2.out _) ?_)
    go_ret2
    exact ⟨by rw [HR.out.1, HR.out.2]; rfl, hB1⟩
   ·have e3 : (x == c) = false := by simp [hq]
    have HN2 := hnx hq
    clear ha hnx hq
    go_wp2_with (refine wpList_index_is rfl 189 _ _ rfl V (.int .i64 (k : Int)) rfl rfl _ (HIx2.out _) ?_)
    go_roundg (15 - (k + 1))
    case measure => omega
    case rel => exact ⟨k + 1, by go_num, by omega, by omega, HN2, hB1⟩
  ·obtain rfl : k = 15 := by omega
   have HR := Lib.hid (HNo.out HN.out)
   go_wp2_with fail
   go_ret2
   exact ⟨by rw [HR.out.1, HR.out.2]; rfl, hB⟩
set_option maxRecDepth 20000 in
set_option maxHeartbeats 1600000 in
theorem gopen_any (g : Grp) (c : Int) (w : World) : Calls Tryz.prog 176 #[grpV g, .int .i64 c] w fun e w' => e = .returned (.bool (opnP g.R c)) ∧ Below w.heap.size w w' := by
 have hB := below_alloc_new (w := w) (.cells #[.string g.cur, .int .i64 g.cy, .int .i64 g.cm, .int .i64 g.cp, .slice g.A g.n g.c, .int .i64 g.r0, .int .i64 g.r1, .int .i64 g.r2, .int .i64 g.r3, .int .i64 g.r4, .int .i64 g.r5, .int .i64 g.r6, .int .i64 g.r7, .int .i64 g.r8, .int .i64 g.r9, .int .i64 g.r10, .int .i64 g.r11, .int .i64 g.r12, .int .i64 g.r13, .int .i64 g.r14, .slice g.E g.m g.d] 29)
 have hG := gb_new w 29 g
 have hv : opnP g.R c = (decide (c = g.r0) || (decide (c = g.r3) || (decide (c = g.r6) || (decide (c = g.r11) || !decide (c ∈ g.R))))) := rfl
 have h1 := fun w => grole_any g c w
 obtain ⟨V, hV⟩ : ∃ V, V = grpV g := ⟨_, rfl⟩
 rw [← hV] at h1
 generalize roN g.R c = nm at *
 generalize decide (c ∈ g.R) = q at *
 generalize opnP g.R c = r at *
 obtain ⟨s0, hs0⟩ : ∃ s0, w.heap.size = s0 := ⟨_, rfl⟩
 rw [hs0] at hB hG ⊢
 have HV := Lib.hid hV
 have HG := Lib.hid hG
 have H1 := Lib.hid h1
 have HX := Lib.hid hv
 obtain ⟨-, -, -, -, -, c5, -, -, c8, -, -, c11, -, -, -, -, c16, -, -, -, -, -⟩ := hG
 clear hV h1 hv
 have hs1 : s0 ≤ (w.alloc (.cells #[.string g.cur, .int .i64 g.cy, .int .i64 g.cm, .int .i64 g.cp, .slice g.A g.n g.c, .int .i64 g.r0, .int .i64 g.r1, .int .i64 g.r2, .int .i64 g.r3, .int .i64 g.r4, .int .i64 g.r5, .int .i64 g.r6, .int .i64 g.r7, .int .i64 g.r8, .int .i64 g.r9, .int .i64 g.r10, .int .i64 g.r11, .int .i64 g.r12, .int .i64 g.r13, .int .i64 g.r14, .slice g.E g.m g.d] 29)).heap.size := by simp; omega
 have HS1 := Lib.hid hs1
 clear hs1
 by_cases k0 : c = g.r0
 ·have e0 : (c == g.r0) = true := by simp [k0]
  have HR : Hid (r = true) := Lib.hid (by rw [HX.out, decide_eq_true k0]; rfl)
  clear k0 HX
  go_enter Tryz.func176, Tryz.ntmps176
  go_wp2_with fail
  go_ret
  exact ⟨by rw [HR.out]; rfl, hB⟩
 have e0 : (c == g.r0) = false := by simp [k0]
 have f0 := decide_eq_false k0
 by_cases k3 : c = g.r3
 ·have e3 : (c == g.r3) = true := by simp [k3]
  have HR : Hid (r = true) := Lib.hid (by rw [HX.out, decide_eq_true k3]; simp)
  clear k0 k3 HX f0
  go_enter Tryz.func176, Tryz.ntmps176
  go_wp2_with fail
  go_ret
  exact ⟨by rw [HR.out]; rfl, hB⟩
 have e3 : (c == g.r3) = false := by simp [k3]
 have f3 := decide_eq_false k3
 by_cases k6 : c = g.r6
 ·have e6 : (c == g.r6) = true := by simp [k6]
  have HR : Hid (r = true) := Lib.hid (by rw [HX.out, decide_eq_true k6]; simp)
  clear k0 k3 k6 HX f0 f3
  go_enter Tryz.func176, Tryz.ntmps176
  go_wp2_with fail
  go_ret
  exact ⟨by rw [HR.out]; rfl, hB⟩
 have e6 : (c == g.r6) = false := by simp [k6]
 have f6 := decide_eq_false k6
 by_cases k11 : c = g.r11
 ·have e11 : (c == g.r11) = true := by simp [k11]
  have HR : Hid (r = true) := Lib.hid (by rw [HX.out, decide_eq_true k11]; simp)
  clear k0 k3 k6 k11 HX f0 f3 f6
  go_enter Tryz.func176, Tryz.ntmps176
  go_wp2_with fail
  go_ret
  exact ⟨by rw [HR.out]; rfl, hB⟩
 have e11 : (c == g.r11) = false := by simp [k11]
 have HR : Hid (r = !q) := Lib.hid (by rw [HX.out, f0, f3, f6, decide_eq_false k11]; simp)
 clear k0 k3 k6 k11 HX f0 f3 f6
 go_enter Tryz.func176, Tryz.ntmps176
 go_wp2_with (first
  | (refine wpList_load_is rfl 29 _ rfl (.pointer (some ⟨s0, 0, none⟩)) rfl V (gb_lV HG.out HV.out) ?_)
  | (go_at_call 193; refine (H1.out _).mono ?_; rintro e w1 ⟨rfl, hb⟩; have hB2 := hB.trans (hb.mono HS1.out); clear hb hB HG))
 go_ret
 exact ⟨by rw [HR.out]; rfl, hB2⟩
open Go.RowKit Go.Maps
def SetI (w : World) (b m : Nat) (S : Int → Bool) : Prop := ∃ D : DataW Value, w.ownsMap Tryz.prog 3 heldE b m D ∧ Maps.size D = m ∧ ∀ x, Maps.has D (.int .i64 x) = S x
theorem SetI.lt {w : World} {b m : Nat} {S : Int → Bool} (h : SetI w b m S) : b < w.heap.size := by
 obtain ⟨D, h1, _⟩ := h
 exact h1.lt
theorem SetI.blk {w w' : World} {b m : Nat} {S : Int → Bool} (h : SetI w b m S) (hk : w'.heap[b]? = w.heap[b]?) : SetI w' b m S := by
 obtain ⟨D, ⟨es, clock, hb, rest⟩, h2⟩ := h
 exact ⟨D, ⟨es, clock, hk.trans hb, rest⟩, h2⟩
theorem SetI.up {w w' : World} {b m : Nat} {S : Int → Bool} (h : SetI w b m S) (hb : Below w.heap.size w w') : SetI w' b m S := h.blk (hb.block b h.lt)
theorem SetI.made (w : World) : SetI (w.alloc (.map #[] 0)) w.heap.size 0 (fun _ => false) :=
 ⟨.map [], World.ownsMap_made _ _ _ _, rfl, fun _ => rfl⟩
theorem wpList_seti_put {w : World} {ops : Array Oper} {rest : List Oper} {o : Oper} {a : Act} {Q : Exit → Act → World → Prop} (hg : o.guard = none) (m x y : Operand) (t e : TypeId) (hop : o.op = Op.mapUpdate t m x y)
  (ht : Tryz.prog.underlying t = some (.map 3 e))
  (b n : Nat) (S : Int → Bool) (hm : a.eval m = .map (some b)) (hs : SetI w b n S) (c : Int) (hx : a.eval x = .int .i64 c) (v : Value) (hy : a.eval y = v) (hw : (Lit.int .i64 c).wf = true) (hn : n ≤ 1000000)
  (hK : ∀ w', Hid (SetI w' b (if S c = true then n else n + 1) (fun x => decide (x = c) || S x)) → Hid (w.grownBy w' (some b)) → wpList Tryz.prog ops Q rest (a.put o.dst undef) w') : wpList Tryz.prog ops Q (o :: rest) a w := by
 obtain ⟨D, h1, hsz, h3⟩ := hs
 have h2 := h1.isMap
 have ht2 := h1.tidy ti_keyed
 refine wpList_mapUpdate_own w hg m x y t hop 3 e ti_keyed ht heldE b n D hm h1 (by unfold maxLen; omega) _ _ _ hx hy (keyOf_int_mk Tryz.underlying3 hw) (.held v) [] rfl ?_
 intro w' h4 h5
 have hsz2 : Maps.size (D.put (.int .i64 c) (.held v)) = if S c = true then n else n + 1 := by
  rw [size_put ht2, h3 c, hsz]
 have hkl : ∀ z : Int, WideAt.IsKeyLit (Lit.int .i64 z) := fun z => by simp [WideAt.IsKeyLit]
 refine hK w' (Lib.hid ⟨_, ?_, hsz2, fun x => ?_⟩) (Lib.hid h5)
 ·obtain ⟨es, clock, hb, F, hes, hD⟩ := h4
  refine ⟨es, clock, hb, F, ?_, hD⟩
  have : es.size = Maps.size (D.put (.int .i64 c) (.held v)) := by rw [hD, size_eq, length_sorted]; simp
  omega
 ·by_cases hxc : x = c
  ·subst hxc
   rw [has_put_same h2 (hkl _)]
   simp
  ·have hne : Lit.int .i64 x ≠ Lit.int .i64 c := fun e => hxc (by injection e)
   rw [has_put_other hne, h3 x]
   show S x = (decide (x = c) || S x)
   rw [decide_eq_false hxc]; rfl
theorem wpList_seti_len {w : World} {ops : Array Oper} {rest : List Oper} {o : Oper} {a : Act} {Q : Exit → Act → World → Prop} (hg : o.guard = none) (m : Operand) (t e : TypeId) (hop : o.op = Op.call { callee := Callee.builtin Builtin.len, args := #[m], argTypes := #[t] })
  (ht : Tryz.prog.underlying t = some (.map 3 e)) (b n : Nat) (S : Int → Bool) (hm : a.eval m = .map (some b)) (hs : SetI w b n S)
  (hK : wpList Tryz.prog ops Q rest (a.put o.dst (.int .i64 (n : Int))) w) : wpList Tryz.prog ops Q (o :: rest) a w := by
 obtain ⟨D, h1, hsz, h3⟩ := hs
 refine wpList_len_own w hg m t hop 3 e ht heldE b n D hm h1 ?_
 rw [hsz]; exact hK
abbrev zC : Array Value := #[.string ⟨#[]⟩, .int .i64 0, .int .i64 0, .int .i64 0, .string ⟨#[]⟩, .int .i64 0, .int .i64 0, .int .i64 0, .string ⟨#[]⟩, .int .i64 0, .int .i64 0, .int .i64 0, .string ⟨#[]⟩, .int .i64 0, .int .i64 0, .int .i64 0, .string ⟨#[]⟩, .int .i64 0, .int .i64 0, .int .i64 0, .string ⟨#[]⟩, .int .i64 0, .int .i64 0, .int .i64 0, .string ⟨#[]⟩, .int .i64 0, .int .i64 0, .int .i64 0, .string ⟨#[]⟩, .int .i64 0, .int .i64 0, .int .i64 0, .string ⟨#[]⟩, .int .i64 0, .int .i64 0, .int .i64 0, .string ⟨#[]⟩, .int .i64 0, .int .i64 0, .int .i64 0, .string ⟨#[]⟩, .int .i64 0, .int .i64 0, .int .i64 0, .string ⟨#[]⟩, .int .i64 0, .int .i64 0, .int .i64 0, .string ⟨#[]⟩, .int .i64 0, .int .i64 0, .int .i64 0, .string ⟨#[]⟩, .int .i64 0, .int .i64 0, .int .i64 0, .string ⟨#[]⟩, .int .i64 0, .int .i64 0, .int .i64 0]
abbrev w66 (w1 : World) (g : Grp) : World := ((w1.alloc (.map #[] 0)).alloc (.cells zC 189)).setCells (w1.heap.size + 1) 0 (rpC g).toList
theorem w66_there (w1 : World) (g : Grp) : ((w1.alloc (.map #[] 0)).alloc (.cells zC 189)).there (w1.heap.size + 1) 0 (rpC g).size := by
 have h := there_new (w1.alloc (.map #[] 0)) zC 189
 have e1 : (w1.alloc (.map #[] 0)).heap.size = w1.heap.size + 1 := by simp
 rw [e1] at h
 exact h
theorem w66_is (w1 : World) (g : Grp) : Below w1.heap.size w1 (w66 w1 g) ∧ SetI (w66 w1 g) w1.heap.size 0 (fun _ => false) ∧ (Instr.loadAt 189 (.pointer (some ⟨w1.heap.size + 1, 0, none⟩))).run Tryz.prog (w66 w1 g) = .ok (.agg (rpC g)) (w66 w1 g) := by
 have e1 : (w1.alloc (.map #[] 0)).heap.size = w1.heap.size + 1 := by simp
 refine ⟨below_setCells (by omega) _ _ (below_new (below_alloc_new _) _), (SetI.made w1).up ?_, ?_⟩
 ·rw [e1]
  refine below_setCells (Nat.le_refl _) _ _ ?_
  have := below_alloc_new (w := w1.alloc (.map #[] 0)) (.cells zC 189)
  rwa [e1] at this
 ·exact run_loadAt_mid _ (w1.heap.size + 1) 0 189 (rpC g).toList _ (World.rangeAt_setCells_same _ _ _ _ (w66_there w1 g)) Tryz.underlying189 rfl (by kernel_rfl)
theorem rls_no {L : List Acc} {R : List Int} {k : Nat} (hk : k < 15) (h : chkR L R k = false) : rlsB L R = false := by
 unfold rlsB
 rw [allTo_no hk h]; rfl
theorem rls_end {L : List Acc} {R : List Int} {m : Nat} {S : Int → Bool} (h : allTo (chkR L R) 15 = true) (hr : RI R 15 m S) : rlsB L R = ((m : Int) == 15) := by
 unfold rlsB
 rw [h, Bool.true_and]
 have := hr.iff
 by_cases hm : m = 15
 ·rw [this.1 hm, hm]; rfl
 ·have h2 : allTo (dsR R) 15 = false := by
   cases hd : allTo (dsR R) 15
   ·rfl
   ·exact absurd (this.2 hd) hm
  rw [h2]; symm; exact beq_eq_false_iff_ne.2 (by omega)
theorem wpList_store66 {ops : Array Oper} {rest : List Oper} {o : Oper} {a : Act} {Q : Exit → Act → World → Prop} (hg : o.guard = none) (x y : Operand) (ho : o.op = .store 189 x y) (w1 : World) (g : Grp) (V : Value) (hx : a.eval x = .pointer (some ⟨w1.heap.size + 1, 0, none⟩)) (hy : a.eval y = V) (hV : V = .agg (rpC g))
  (h : ∀ W2, Hid (Below w1.heap.size w1 W2) → Hid (SetI W2 w1.heap.size 0 (fun _ => false)) → Hid ((Instr.loadAt 189 (.pointer (some ⟨w1.heap.size + 1, 0, none⟩))).run Tryz.prog W2 = .ok V W2) → wpList Tryz.prog ops Q rest (a.put o.dst undef) W2) :
  wpList Tryz.prog ops Q (o :: rest) a ((w1.alloc (.map #[] 0)).alloc (.cells zC 189)) := by
 obtain ⟨h1, h2, h3⟩ := w66_is w1 g
 subst hV
 exact wpList_store_mid hg 189 x y ho (w1.heap.size + 1) 0 (rpC g) hx hy (w66_there w1 g) (by kernel_rfl) (by kernel_rfl) (h _ (Lib.hid h1) (Lib.hid h2) (Lib.hid h3))
structure WX (w : World) (b : Nat) (y1 : ByteArray) (x y2 y3 : Int) : Prop where
 c0 : w.cell? ⟨b, 0, none⟩ = some (.string y1)
 c1 : w.cell? ⟨b, 1, none⟩ = some (.int .i64 x)
 c2 : w.cell? ⟨b, 2, none⟩ = some (.int .i64 y2)
 c3 : w.cell? ⟨b, 3, none⟩ = some (.int .i64 y3)
 lt : b < w.heap.size
theorem wx_new (w : World) (t : TypeId) (y1 : ByteArray) (x y2 y3 : Int) : WX (w.alloc (.cells #[.string y1, .int .i64 x, .int .i64 y2, .int .i64 y3] t)) w.heap.size y1 x y2 y3 := by
 constructor
 case lt => simp
 all_goals (simp only [World.cell?]; rw [heap_alloc_new]; rfl)
theorem WX.up {w w' : World} {b : Nat} {y1 : ByteArray} {x y2 y3 : Int} (h : WX w b y1 x y2 y3) (hb : Below w.heap.size w w') : WX w' b y1 x y2 y3 :=
 ⟨(hb.cell (p := ⟨b, 0, none⟩) h.lt).trans h.c0, (hb.cell (p := ⟨b, 1, none⟩) h.lt).trans h.c1, (hb.cell (p := ⟨b, 2, none⟩) h.lt).trans h.c2, (hb.cell (p := ⟨b, 3, none⟩) h.lt).trans h.c3, Nat.lt_of_lt_of_le h.lt hb.size⟩
set_option maxRecDepth 20000 in
set_option maxHeartbeats 3200000 in
theorem groles_any (g : Grp) (L : List Acc) (w : World) (hz : AccAt w g.A L) (ln : L.length = g.n) (hl : g.n ≤ 1000) (hw : ∀ x ∈ g.R, (Lit.int .i64 x).wf = true) :
    Calls Tryz.prog 112 #[grpV g] w fun e w' => e = .returned (.bool (rlsB L g.R)) ∧ Below w.heap.size w w' := by
  have hB := below_alloc_new (w := w) (.cells #[.string g.cur, .int .i64 g.cy, .int .i64 g.cm, .int .i64 g.cp, .slice g.A g.n g.c, .int .i64 g.r0, .int .i64 g.r1, .int .i64 g.r2, .int .i64 g.r3, .int .i64 g.r4, .int .i64 g.r5, .int .i64 g.r6, .int .i64 g.r7, .int .i64 g.r8, .int .i64 g.r9, .int .i64 g.r10, .int .i64 g.r11, .int .i64 g.r12, .int .i64 g.r13, .int .i64 g.r14, .slice g.E g.m g.d] 29)
  have hG := gb_new w 29 g
  have hwk : ∀ k, k < 15 → (Lit.int .i64 (g.R.getD k 0)).wf = true := fun k hk => hw _ (getD_mem_acc hk)
  have hno := fun k => rls_no (L := L) (R := g.R) (k := k)
  have hend := fun m S => rls_end (L := L) (R := g.R) (m := m) (S := S)
  have hix := fun i hi W => rol_index g i hi W
  have h1 := fun w => rolesof_any g w
  have h2 := fun x w h => gacct_any g L x w h ln hl
  obtain ⟨V, hV⟩ : ∃ V : Value, V = .agg (rpC g) := ⟨_, rfl⟩
  rw [← hV] at h1
  have hix2 : ∀ i : Nat, i < 15 → ∀ W, (Instr.index 189 V (.int .i64 (i : Int))).run Tryz.prog W = .ok (rowV g i) W := fun i hi W => by rw [hV]; exact hix i hi W
  obtain ⟨U, hU⟩ : ∃ U : Value, rolV g = U := ⟨_, rfl⟩
  rw [hU] at h1
  have hR := gb_roles hG
  rw [hU] at hR
  obtain ⟨X, hX⟩ : ∃ X : Value, X = grpV g := ⟨_, rfl⟩
  rw [← hX] at h2
  have hck : ∀ k, chkR L g.R k = ((fnd L (g.R.getD k 0)).isSome && (decide ((fndA L (g.R.getD k 0)).kind = rlK k) && decide ((fndA L (g.R.getD k 0)).basis = rlB k))) := fun _ => rfl
  generalize rlsB L g.R = r at *
  obtain ⟨P, hP⟩ : ∃ P : Nat → Bool, chkR L g.R = P := ⟨_, rfl⟩
  rw [hP] at hend hck
  simp only [hP] at hno
  obtain ⟨s0, hs0⟩ : ∃ s0, w.heap.size = s0 := ⟨_, rfl⟩
  have hs1 : s0 ≤ (w.alloc (.cells #[.string g.cur, .int .i64 g.cy, .int .i64 g.cm, .int .i64 g.cp, .slice g.A g.n g.c, .int .i64 g.r0, .int .i64 g.r1, .int .i64 g.r2, .int .i64 g.r3, .int .i64 g.r4, .int .i64 g.r5, .int .i64 g.r6, .int .i64 g.r7, .int .i64 g.r8, .int .i64 g.r9, .int .i64 g.r10, .int .i64 g.r11, .int .i64 g.r12, .int .i64 g.r13, .int .i64 g.r14, .slice g.E g.m g.d] 29)).heap.size := by simp; omega
  rw [hs0] at hB hR hG ⊢
  have HS0 := Lib.hid hs0
  have HZ := Lib.hid hz
  have HG := Lib.hid hG
  have HV := Lib.hid hV
  have HX := Lib.hid hX
  have HWK := Lib.hid hwk
  have HNo := Lib.hid hno
  have HE := Lib.hid hend
  have HIx := Lib.hid hix2
  have HR := Lib.hid hR
  have HCK := Lib.hid hck
  have H1 := Lib.hid h1
  have H2 := Lib.hid h2
  have HS1 := Lib.hid hs1
  have hmm := @run_makeMap Tryz.prog
  clear hz ln hl hG hno hend hix hix2 h1 h2 hV hU hR hX hck hP hs1 hwk hw
  go_enter Tryz.func112, Tryz.ntmps112
  go_wp2_with (first
    | (refine wpList_load_is rfl 26 _ rfl (.pointer (some ⟨s0, 5, none⟩)) rfl U HR.out ?_)
    | (go_at_call 145; refine (H1.out _).mono ?_; rintro e w1 ⟨rfl, hb⟩; have hB1 := hB.trans (hb.mono HS1.out); have HG1 := Lib.hid (HG.out.up hb); have hsz1 : s0 ≤ w1.heap.size := Nat.le_trans HS1.out hb.size; clear hb hB HG)
    | (refine wpList_store66 rfl _ _ rfl w1 g V rfl rfl HV.out ?_
       intro W2 hb2 HM HLD
       have hB2 := hB1.trans (hb2.out.mono hsz1)
       have HG2 := Lib.hid (HG1.out.up hb2.out)
       have HMS : Hid (s0 < w1.heap.size) := Lib.hid HG1.out.lt
       clear hB1 HG1 hsz1 hb2 H1)
    | (refine wpList_load_is rfl 189 _ rfl (.pointer (some ⟨w1.heap.size + 1, 0, none⟩)) rfl V HLD.out ?_))
  obtain ⟨mb, hmb⟩ : ∃ mb, w1.heap.size = mb := ⟨_, rfl⟩
  rw [hmb] at HM HMS ⊢
  clear hmb HLD hs0 HR HS1
  go_loopg [14] 15 (fun kx s14 wr => ∃ (k m : Nat) (S : Int → Bool), s14 = .int .i64 k ∧ k ≤ 15 ∧ 15 - k ≤ kx ∧ Hid (allTo P k = true) ∧ Hid (RI g.R k m S) ∧ Hid (SetI wr mb m S) ∧ Hid (GB wr s0 g) ∧ Below s0 w wr)
  case atStart => exact ⟨0, 0, _, rfl, by omega, by omega, Lib.hid rfl, Lib.hid RI.start, HM, HG2, hB2⟩
  case round =>
    clear hB2 HM HG2
    obtain ⟨k, m, S, rfl, hk, hkx, HA, HRI, HM, HG, hB⟩ := hrel
    by_cases hlt : k < 15
    · have hltz : (k : Int) < 15 := by omega
      have hsz : s0 ≤ wr.heap.size := by have := HG.out.lt; omega
      have hix := HIx.out k hlt
      have hno := HNo.out k hlt
      have hck := HCK.out k
      have hwx := HWK.out k hlt
      have hrs := HRI.out.step (x := g.R.getD k 0) rfl
      have hm1 : m ≤ 15 := by have := HRI.out.le; omega
      have hnx : P k = true → Hid (allTo P (k + 1) = true) := fun h => Lib.hid (by show (allTo P k && P k) = true; rw [HA.out, h]; rfl)
      unfold rowV at hix
      generalize g.R.getD k 0 = x at *
      generalize rlN k = y1 at *
      generalize rlK k = y2 at *
      generalize rlB k = y3 at *
      have h2x := fun w h => H2.out x w h
      have hwb := wx_new wr 188 y1 x y2 y3
      have HB1 : Hid (Below s0 w (wr.alloc (.cells #[.string y1, .int .i64 x, .int .i64 y2, .int .i64 y3] 188))) := Lib.hid (hB.alloc hsz _)
      have HSZ1 : Hid (s0 ≤ (wr.alloc (.cells #[.string y1, .int .i64 x, .int .i64 y2, .int .i64 y3] 188)).heap.size) := Lib.hid (by simp; omega)
      have HG1 := Lib.hid (HG.out.up (below_alloc_new (.cells #[.string y1, .int .i64 x, .int .i64 y2, .int .i64 y3] 188)))
      have HM1 := Lib.hid (HM.out.up (below_alloc_new (.cells #[.string y1, .int .i64 x, .int .i64 y2, .int .i64 y3] 188)))
      have HZ1 : Hid (AccAt (wr.alloc (.cells #[.string y1, .int .i64 x, .int .i64 y2, .int .i64 y3] 188)) g.A L) := Lib.hid (HZ.out.up (by rw [HS0.out]; exact HB1.out))
      have HW1 := Lib.hid hwb
      obtain ⟨y0', y1', y2', y3', ylt⟩ := hwb
      generalize (fnd L x).isSome = q1 at *
      generalize fndA L x = fa at *
      have e2 : (fa.kind != y2) = !decide (fa.kind = y2) := by by_cases h : fa.kind = y2 <;> simp [h]
      have e3 : (fa.basis != y3) = !decide (fa.basis = y3) := by by_cases h : fa.basis = y3 <;> simp [h]
      generalize decide (fa.kind = y2) = q2 at *
      generalize decide (fa.basis = y3) = q3 at *
      have HIx2 := Lib.hid hix
      have H2x := Lib.hid h2x
      have HWx := Lib.hid hwx
      have HRS := Lib.hid hrs
      clear hix h2x hwx hrs HA HG HM hB
      rcases (show q1 = false ∨ (q1 = true ∧ q2 = false) ∨ (q1 = true ∧ q2 = true ∧ q3 = false) ∨ (q1 = true ∧ q2 = true ∧ q3 = true) from by cases q1 <;> cases q2 <;> cases q3 <;> simp) with rfl | ⟨rfl, rfl⟩ | ⟨rfl, rfl, rfl⟩ | ⟨rfl, rfl, rfl⟩
      · have HR := Lib.hid (hno (by rw [hck]; rfl))
        clear hno hck hnx HRS
        go_wp2_with (first
          | (refine wpList_index_is rfl 189 _ _ rfl V (.int .i64 (k : Int)) rfl rfl _ (HIx2.out _) ?_)
          | (refine wpList_load_is rfl 29 _ rfl (.pointer (some ⟨s0, 0, none⟩)) rfl X (gb_lV HG1.out HX.out) ?_)
          | (go_at_call 146; (with_reducible refine (H2x.out _ HZ1.out).mono ?_); rintro e w3 ⟨rfl, hb⟩; have HG3 := Lib.hid ((HG1.out.up hb).up (below_alloc_new (.cells #[.int .i64 fa.code, .int .i64 fa.kind, .int .i64 fa.basis, .int .i64 fa.par] 151))); have HM3 := Lib.hid ((HM1.out.up hb).up (below_alloc_new (.cells #[.int .i64 fa.code, .int .i64 fa.kind, .int .i64 fa.basis, .int .i64 fa.par] 151))); have hsz3 : s0 ≤ (w3.alloc (.cells #[.int .i64 fa.code, .int .i64 fa.kind, .int .i64 fa.basis, .int .i64 fa.par] 151)).heap.size := Nat.le_trans (Nat.le_trans HSZ1.out hb.size) (by simp); have hB3 := (HB1.out.trans (hb.mono HSZ1.out)).alloc (Nat.le_trans HSZ1.out hb.size) (.cells #[.int .i64 fa.code, .int .i64 fa.kind, .int .i64 fa.basis, .int .i64 fa.par] 151); obtain ⟨z0, z1, z2, z3, zlt⟩ := (HW1.out.up hb).up (below_alloc_new (.cells #[.int .i64 fa.code, .int .i64 fa.kind, .int .i64 fa.basis, .int .i64 fa.par] 151)); obtain ⟨⟨v0, v1, v2, v3⟩, vlt, -⟩ := ab_new w3 151 fa; simp only [Nat.zero_add] at v1 v2 v3; clear hb y0' y1' y2' y3' ylt HG1 HZ1 HM1 HSZ1 HB1 HW1))
        go_ret
        exact ⟨by rw [HR.out]; rfl, hB3⟩
      · have HR := Lib.hid (hno (by rw [hck]; rfl))
        clear hno hck hnx HRS
        go_wp2_with (first
          | (refine wpList_index_is rfl 189 _ _ rfl V (.int .i64 (k : Int)) rfl rfl _ (HIx2.out _) ?_)
          | (refine wpList_load_is rfl 29 _ rfl (.pointer (some ⟨s0, 0, none⟩)) rfl X (gb_lV HG1.out HX.out) ?_)
          | (go_at_call 146; (with_reducible refine (H2x.out _ HZ1.out).mono ?_); rintro e w3 ⟨rfl, hb⟩; have HG3 := Lib.hid ((HG1.out.up hb).up (below_alloc_new (.cells #[.int .i64 fa.code, .int .i64 fa.kind, .int .i64 fa.basis, .int .i64 fa.par] 151))); have HM3 := Lib.hid ((HM1.out.up hb).up (below_alloc_new (.cells #[.int .i64 fa.code, .int .i64 fa.kind, .int .i64 fa.basis, .int .i64 fa.par] 151))); have hsz3 : s0 ≤ (w3.alloc (.cells #[.int .i64 fa.code, .int .i64 fa.kind, .int .i64 fa.basis, .int .i64 fa.par] 151)).heap.size := Nat.le_trans (Nat.le_trans HSZ1.out hb.size) (by simp); have hB3 := (HB1.out.trans (hb.mono HSZ1.out)).alloc (Nat.le_trans HSZ1.out hb.size) (.cells #[.int .i64 fa.code, .int .i64 fa.kind, .int .i64 fa.basis, .int .i64 fa.par] 151); obtain ⟨z0, z1, z2, z3, zlt⟩ := (HW1.out.up hb).up (below_alloc_new (.cells #[.int .i64 fa.code, .int .i64 fa.kind, .int .i64 fa.basis, .int .i64 fa.par] 151)); obtain ⟨⟨v0, v1, v2, v3⟩, vlt, -⟩ := ab_new w3 151 fa; simp only [Nat.zero_add] at v1 v2 v3; clear hb y0' y1' y2' y3' ylt HG1 HZ1 HM1 HSZ1 HB1 HW1))
        go_ret
        exact ⟨by rw [HR.out]; rfl, hB3⟩
      · have HR := Lib.hid (hno (by rw [hck]; rfl))
        clear hno hck hnx HRS
        go_wp2_with (first
          | (refine wpList_index_is rfl 189 _ _ rfl V (.int .i64 (k : Int)) rfl rfl _ (HIx2.out _) ?_)
          | (refine wpList_load_is rfl 29 _ rfl (.pointer (some ⟨s0, 0, none⟩)) rfl X (gb_lV HG1.out HX.out) ?_)
          | (go_at_call 146; (with_reducible refine (H2x.out _ HZ1.out).mono ?_); rintro e w3 ⟨rfl, hb⟩; have HG3 := Lib.hid ((HG1.out.up hb).up (below_alloc_new (.cells #[.int .i64 fa.code, .int .i64 fa.kind, .int .i64 fa.basis, .int .i64 fa.par] 151))); have HM3 := Lib.hid ((HM1.out.up hb).up (below_alloc_new (.cells #[.int .i64 fa.code, .int .i64 fa.kind, .int .i64 fa.basis, .int .i64 fa.par] 151))); have hsz3 : s0 ≤ (w3.alloc (.cells #[.int .i64 fa.code, .int .i64 fa.kind, .int .i64 fa.basis, .int .i64 fa.par] 151)).heap.size := Nat.le_trans (Nat.le_trans HSZ1.out hb.size) (by simp); have hB3 := (HB1.out.trans (hb.mono HSZ1.out)).alloc (Nat.le_trans HSZ1.out hb.size) (.cells #[.int .i64 fa.code, .int .i64 fa.kind, .int .i64 fa.basis, .int .i64 fa.par] 151); obtain ⟨z0, z1, z2, z3, zlt⟩ := (HW1.out.up hb).up (below_alloc_new (.cells #[.int .i64 fa.code, .int .i64 fa.kind, .int .i64 fa.basis, .int .i64 fa.par] 151)); obtain ⟨⟨v0, v1, v2, v3⟩, vlt, -⟩ := ab_new w3 151 fa; simp only [Nat.zero_add] at v1 v2 v3; clear hb y0' y1' y2' y3' ylt HG1 HZ1 HM1 HSZ1 HB1 HW1))
        go_ret
        exact ⟨by rw [HR.out]; rfl, hB3⟩
      · have HA2 := hnx (by rw [hck]; rfl)
        clear hno hck hnx
        go_wp2_with (first
          | (refine wpList_index_is rfl 189 _ _ rfl V (.int .i64 (k : Int)) rfl rfl _ (HIx2.out _) ?_)
          | (refine wpList_load_is rfl 29 _ rfl (.pointer (some ⟨s0, 0, none⟩)) rfl X (gb_lV HG1.out HX.out) ?_)
          | (go_at_call 146; (with_reducible refine (H2x.out _ HZ1.out).mono ?_); rintro e w3 ⟨rfl, hb⟩; have HG3 := Lib.hid ((HG1.out.up hb).up (below_alloc_new (.cells #[.int .i64 fa.code, .int .i64 fa.kind, .int .i64 fa.basis, .int .i64 fa.par] 151))); have HM3 := Lib.hid ((HM1.out.up hb).up (below_alloc_new (.cells #[.int .i64 fa.code, .int .i64 fa.kind, .int .i64 fa.basis, .int .i64 fa.par] 151))); have hsz3 : s0 ≤ (w3.alloc (.cells #[.int .i64 fa.code, .int .i64 fa.kind, .int .i64 fa.basis, .int .i64 fa.par] 151)).heap.size := Nat.le_trans (Nat.le_trans HSZ1.out hb.size) (by simp); have hB3 := (HB1.out.trans (hb.mono HSZ1.out)).alloc (Nat.le_trans HSZ1.out hb.size) (.cells #[.int .i64 fa.code, .int .i64 fa.kind, .int .i64 fa.basis, .int .i64 fa.par] 151); obtain ⟨z0, z1, z2, z3, zlt⟩ := (HW1.out.up hb).up (below_alloc_new (.cells #[.int .i64 fa.code, .int .i64 fa.kind, .int .i64 fa.basis, .int .i64 fa.par] 151)); obtain ⟨⟨v0, v1, v2, v3⟩, vlt, -⟩ := ab_new w3 151 fa; simp only [Nat.zero_add] at v1 v2 v3; clear hb y0' y1' y2' y3' ylt HG1 HZ1 HM1 HSZ1 HB1 HW1)
          | (at_mapUpdate; refine wpList_seti_put rfl _ _ _ _ 4 rfl Tryz.underlying191 mb m S rfl HM3.out x rfl _ rfl HWx.out (by omega) ?_; intro w4 hm4 hg4; have hb4 := grown_below hB3 hg4.out (Nat.le_of_lt HMS.out) hsz3; have HG4 := Lib.hid (HG3.out.blk (hg4.out.block s0 HG3.out.lt (by intro e; injection e with e; have := HMS.out; omega))); clear hg4))
        go_roundg (15 - (k + 1))
        case measure => omega
        case rel => exact ⟨k + 1, _, _, by go_num, by omega, by omega, HA2, HRS, hm4, HG4, hb4⟩
    · obtain rfl : k = 15 := by omega
      have HR := Lib.hid (HE.out m S HA.out HRI.out)
      go_wp2_with (at_len; refine wpList_seti_len rfl _ _ 4 rfl Tryz.underlying191 mb m S rfl HM.out ?_)
      go_ret
      exact ⟨by rw [HR.out]; rfl, hB⟩
end Go.Proofs.YtaeccljkmijpaaaGreat
