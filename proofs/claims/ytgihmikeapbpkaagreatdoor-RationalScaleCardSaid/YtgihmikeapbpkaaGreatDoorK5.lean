/- Contracts of the functions that the statements reach, part 5: what was proved of each, callees first. -/
import Derived.Deep.CutRange
import Derived.BigFrame
import Derived.BigGuard
import Derived.Laws.BitsLemmas
import Derived.Laws.Bits64b
import Derived.Lib.EndianBits
import Derived.Lib.ItoaNum
import Derived.Lib.BitFns
import Derived.Shelf.Spec.BitsCarry
import Derived.Deep.RegionHeld3
import Derived.Laws.AppendOwnNone
import Derived.OwnWalk
import Derived.Test.YtgihmikeapbpkaaGreatDoorK4
namespace Go.Proofs.YtgihmikeapbpkaaGreatDoor
open Go.RowKit
set_option maxHeartbeats 3200000
set_option maxRecDepth 100000
structure D64 (hi lo y s Z U T T1 q1 P1 V q0 : Nat) : Prop where
 zz : y * 2 ^ s = Z * 4294967296
 z1 : 0 < Z
 z2 : Z < 4294967296
 uu : U = hi * 2 ^ s + lo / 2 ^ (64 - s)
 u1 : hi * 2 ^ s < 18446744073709551616
 u2 : lo / 2 ^ (64 - s) < 2 ^ s
 u3 : U < Z * 4294967296
 tt : T = lo * 2 ^ s % 18446744073709551616
 t1 : T1 = T / 4294967296
 qq : q1 = U / Z
 q9 : q1 < 4294967296
 pp : P1 = q1 * Z
 p1 : P1 ≤ U
 p2 : U - P1 < Z
 vv : V = (U - P1) * 4294967296 + T1
 v2 : V < Z * 4294967296
 rr : q0 = V / Z
 r9 : q0 < 4294967296
 res : (hi * 18446744073709551616 + lo) / y = q1 * 4294967296 + q0
theorem d64_ok {hi lo y s : Nat} (h2 : hi < y) (h4 : lo < 18446744073709551616) (hs1 : 32 ≤ s) (hs2 : s ≤ 63) (hy : y < 2 ^ (64 - s)) (hy0 : 0 < y) :
  ∃ Z U T T1 q1 P1 V q0, D64 hi lo y s Z U T T1 q1 P1 V q0 := by
 have e32 : (2 : Nat) ^ s = 2 ^ (s - 32) * 4294967296 := by
  have : (4294967296 : Nat) = 2 ^ 32 := by decide
  rw [this, ← Nat.pow_add]; congr 1; omega
 have e64 : (2 : Nat) ^ (64 - s) * 2 ^ s = 18446744073709551616 := by
  have : (18446744073709551616 : Nat) = 2 ^ 64 := by decide
  rw [this, ← Nat.pow_add]; congr 1; omega
 have ez : (2 : Nat) ^ (64 - s) * 2 ^ (s - 32) = 4294967296 := by
  have : (4294967296 : Nat) = 2 ^ 32 := by decide
  rw [this, ← Nat.pow_add]; congr 1; omega
 have hp : 0 < (2 : Nat) ^ s := Nat.pow_pos (by omega)
 have hp2 : 0 < (2 : Nat) ^ (s - 32) := Nat.pow_pos (by omega)
 have hp3 : 0 < (2 : Nat) ^ (64 - s) := Nat.pow_pos (by omega)
 have zz : y * 2 ^ s = y * 2 ^ (s - 32) * 4294967296 := by rw [e32, Nat.mul_assoc]
 have z1 : 0 < y * 2 ^ (s - 32) := Nat.mul_pos hy0 hp2
 have z2 : y * 2 ^ (s - 32) < 4294967296 := by rw [← ez]; exact Nat.mul_lt_mul_of_pos_right hy hp2
 have u2 : lo / 2 ^ (64 - s) < 2 ^ s := by rw [Nat.div_lt_iff_lt_mul hp3, Nat.mul_comm, e64]; exact h4
 have hhi : (hi + 1) * 2 ^ s ≤ y * 2 ^ s := Nat.mul_le_mul_right _ h2
 rw [Nat.add_mul, Nat.one_mul] at hhi
 have u3 : hi * 2 ^ s + lo / 2 ^ (64 - s) < y * 2 ^ (s - 32) * 4294967296 := by rw [← zz]; omega
 have u1 : hi * 2 ^ s < 18446744073709551616 := by omega
 have hN : (hi * 18446744073709551616 + lo) * 2 ^ s = (hi * 2 ^ s + lo / 2 ^ (64 - s)) * 18446744073709551616 + lo * 2 ^ s % 18446744073709551616 := by
  have h1 : lo * 2 ^ s / 18446744073709551616 = lo / 2 ^ (64 - s) := by rw [← e64, Nat.mul_div_mul_right _ _ hp]
  have h2 := Nat.div_add_mod (lo * 2 ^ s) 18446744073709551616
  rw [h1] at h2
  rw [Nat.add_mul, Nat.add_mul, Nat.mul_right_comm hi]
  omega
 have hres : (hi * 18446744073709551616 + lo) / y = ((hi * 2 ^ s + lo / 2 ^ (64 - s)) * 4294967296 + lo * 2 ^ s % 18446744073709551616 / 4294967296) / (y * 2 ^ (s - 32)) := by
  rw [← Nat.mul_div_mul_right (hi * 18446744073709551616 + lo) y hp, hN, zz, Nat.mul_comm (y * 2 ^ (s - 32)), ← Nat.div_div_eq_div_mul]
  congr 1
  omega
 obtain ⟨Z, hZ⟩ : ∃ Z, y * 2 ^ (s - 32) = Z := ⟨_, rfl⟩
 obtain ⟨U, hU⟩ : ∃ U, hi * 2 ^ s + lo / 2 ^ (64 - s) = U := ⟨_, rfl⟩
 obtain ⟨T, hT⟩ : ∃ T, lo * 2 ^ s % 18446744073709551616 = T := ⟨_, rfl⟩
 rw [hZ] at zz z1 z2 u3 hres
 rw [hU] at u3 hres
 rw [hT] at hres
 have p1 : U / Z * Z ≤ U := Nat.div_mul_le_self _ _
 have p2 : U - U / Z * Z < Z := by have h := Nat.mod_lt U z1; rw [Nat.mod_def, Nat.mul_comm] at h; exact h
 have q9 : U / Z < 4294967296 := by rw [Nat.div_lt_iff_lt_mul z1, Nat.mul_comm]; exact u3
 have hTl : T < 18446744073709551616 := by rw [← hT]; exact Nat.mod_lt _ (by omega)
 have v2 : (U - U / Z * Z) * 4294967296 + T / 4294967296 < Z * 4294967296 := by omega
 have r9 : ((U - U / Z * Z) * 4294967296 + T / 4294967296) / Z < 4294967296 := by rw [Nat.div_lt_iff_lt_mul z1, Nat.mul_comm 4294967296]; exact v2
 refine ⟨Z, U, T, T / 4294967296, U / Z, U / Z * Z, _, _, zz, z1, z2, hU.symm, u1, u2, u3, hT.symm, rfl, rfl, q9, rfl, p1, p2, rfl, v2, rfl, r9, ?_⟩
 rw [hres]
 have e1 : U * 4294967296 + T / 4294967296 = ((U - U / Z * Z) * 4294967296 + T / 4294967296) + U / Z * 4294967296 * Z := by
  have e2 : U / Z * 4294967296 * Z = U / Z * Z * 4294967296 := by rw [Nat.mul_right_comm]
  rw [e2]
  omega
 rw [e1, Nat.add_mul_div_right _ _ z1]
 omega
theorem lz_ok {y : Nat} (h0 : 0 < y) (h3 : y < 4294967296) : ∃ s : Nat, 64 - (Lib.bitLen (y : Int).toNat : Int) = (s : Int) ∧ 32 ≤ s ∧ s ≤ 63 ∧ y < 2 ^ (64 - s) := by
 have e : (y : Int).toNat = y := by simp
 rw [e]
 have h1 := Lib.bitLenAux_bounds 64 y (by omega) (by omega)
 have h2 := Lib.bitLen_le y 32 (by omega) (by omega)
 unfold Lib.bitLen at *
 refine ⟨64 - Lib.bitLenAux 64 y, by omega, by omega, by omega, ?_⟩
 rw [show 64 - (64 - Lib.bitLenAux 64 y) = Lib.bitLenAux 64 y by omega]
 exact h1.2.2
theorem wrap3 {A T1 P V : Int} (h : A + T1 - P = V) (h0 : 0 ≤ V) (h1 : V < 18446744073709551616) :
  IntKind.u64.wrap (IntKind.u64.wrap (IntKind.u64.wrap A + T1) - IntKind.u64.wrap P) = V := by
 simp only [IntKind.wrap_u64]
 obtain ⟨M, hM⟩ : ∃ M : Int, 18446744073709551616 = M := ⟨_, rfl⟩
 rw [hM] at h1 ⊢
 rw [Int.emod_add_emod, Int.emod_sub_emod, Int.sub_emod_emod, h]
 exact Int.emod_eq_of_lt h0 h1
structure K64 (hi lo y s Z U T T1 q1 P1 V q0 rh : Nat) (Ym : Int) : Prop where
 d : D64 hi lo y s Z U T T1 q1 P1 V q0
 h1 : 0 < hi
 h2 : hi < y
 h3 : y < 4294967296
 h4 : lo < 18446744073709551616
 ym : ((Z * 4294967296 : Nat) : Int) = Ym
 rh : U - P1 = rh
theorem div64_pos (hi lo y : Nat) (w : World) (h1 : 0 < hi) (h2 : hi < y) (h3 : y < 4294967296) (h4 : lo < 18446744073709551616) :
  Calls Tryz.prog 217 #[.int .u64 (hi : Int), .int .u64 (lo : Int), .int .u64 (y : Int)] w fun e w' => ∃ r : Int, e = .returned (.tuple #[.int .u64 (((hi * 18446744073709551616 + lo) / y : Nat) : Int), .int .u64 r]) ∧ w = w' := by
 have hy0 : ((y : Int) == 0) = false := by rw [beq_eq_false_iff_ne]; omega
 have hh0 : ((hi : Int) == 0) = false := by rw [beq_eq_false_iff_ne]; omega
 have hyl : decide ((y : Int) ≤ (hi : Int)) = false := by simp; omega
 have hlz := Tryz.bits_LeadingZeros64 (y : Int) w (by omega) (by omega)
 have HLZ := Lib.hid hlz
 clear hlz
 go_enter Tryz.func217, Tryz.ntmps217
 go_wp2_with fail
 refine HLZ.out.mono ?_
 rintro e w1 ⟨rfl, rfl⟩
 obtain ⟨s, hs, hs1, hs2, hs3⟩ := lz_ok (show 0 < y by omega) h3
 rw [hs]
 obtain ⟨Z, U, T, T1, q1, P1, V, q0, D⟩ := d64_ok h2 h4 hs1 hs2 hs3 (by omega)
 clear hs
 have HR := Lib.hid D.res
 have d1 := D.z1
 have d2 := D.z2
 have d3 := D.u3
 have d4 := D.q9
 have d5 := D.p1
 have d6 := D.p2
 have d7 := D.v2
 have d8 := D.r9
 have HD := Lib.hid D
 clear D
 have hT1 : T1 < 4294967296 := by
  rw [HD.out.t1, HD.out.tt]
  have := Nat.mod_lt (lo * 2 ^ s) (show 18446744073709551616 > 0 by omega)
  omega
 have c2 : ((2 : Int) ^ s) = ((2 ^ s : Nat) : Int) := by simp
 have c3 : ((2 : Int) ^ (64 - s)) = ((2 ^ (64 - s) : Nat) : Int) := by simp
 have E1 : IntKind.u64.wrap ((y : Int) * 2 ^ s) = ((Z * 4294967296 : Nat) : Int) := by
  rw [c2, ← Int.natCast_mul, HD.out.zz]
  exact u64_wrap_id _ (by omega) (by omega)
 have E2 : bits BinOp.or IntKind.u64 (IntKind.u64.wrap ((hi : Int) * 2 ^ s)) ((lo : Int) / 2 ^ (64 - s)) = (U : Int) := by
  have u1 := HD.out.u1
  have u2 := HD.out.u2
  have e1 : IntKind.u64.wrap ((hi : Int) * 2 ^ s) = ((hi * 2 ^ s : Nat) : Int) := by
   rw [c2, ← Int.natCast_mul]
   exact u64_wrap_id _ (by omega) (by omega)
  have e2 : (lo : Int) / 2 ^ (64 - s) = ((lo / 2 ^ (64 - s) : Nat) : Int) := by rw [c3]; simp
  rw [e1, e2, HD.out.uu]
  have hu2 : ((lo / 2 ^ (64 - s) : Nat) : Int) < 2 ^ s := by rw [c2]; exact Int.ofNat_lt.2 u2
  have h64 : ((2 : Int) ^ 64) = 18446744073709551616 := by decide
  have hs64 : (2 : Nat) ^ s ≤ 18446744073709551616 := by
   have : (2 : Nat) ^ s ≤ 2 ^ 64 := Nat.pow_le_pow_right (by omega) (by omega)
   exact this
  have hmd : ((hi * 2 ^ s : Nat) : Int) % 2 ^ s = 0 := by rw [c2, ← Int.natCast_emod]; simp
  have hA : ((hi * 2 ^ s : Nat) : Int) < 2 ^ 64 := by rw [h64]; omega
  have hB : ((lo / 2 ^ (64 - s) : Nat) : Int) < 2 ^ 64 := by rw [h64]; omega
  rw [bits_join .u64 64 (by decide) (fun n a b => u64_wrap_id n a (by rw [h64] at b; exact b)) s _ _ (Int.natCast_nonneg _) hmd hA (Int.natCast_nonneg _) hu2 hB]
  simp
 have E3 : IntKind.u64.wrap ((lo : Int) * 2 ^ s) = (T : Int) := by
  rw [c2, ← Int.natCast_mul, IntKind.wrap_u64, HD.out.tt]
  omega
 have HE1 := Lib.hid E1
 have HE2 := Lib.hid E2
 have HE3 := Lib.hid E3
 clear c2 c3 E1 E2 E3
 go_upto_region 15 with (fail)
 rw [HE1.out, HE2.out, HE3.out]
 have F1 : ((Z * 4294967296 : Nat) : Int) / 4294967296 = (Z : Int) := by omega
 have F2 : bits BinOp.and IntKind.u64 ((Z * 4294967296 : Nat) : Int) 4294967295 = 0 := by
  have h := bits_and_u64_nat (Z * 4294967296) 4294967295 (by omega) (by omega)
  have h2 : (Z * 4294967296) &&& 4294967295 = 0 := by
   have : (4294967295 : Nat) = 2 ^ 32 - 1 := by decide
   rw [this, Nat.and_two_pow_sub_one_eq_mod]
   have : (2 : Nat) ^ 32 = 4294967296 := by decide
   omega
  rw [h2] at h
  exact h
 have F3 : (T : Int) / 4294967296 = (T1 : Int) := by have := HD.out.t1; omega
 rw [F1, F2, F3]
 have dB : (U : Int) < 18446744073709551616 := by omega
 have F4 : (U : Int) / (Z : Int) = (q1 : Int) := by rw [HD.out.qq]; simp
 have F5 : (q1 : Int) * (Z : Int) = (P1 : Int) := by rw [HD.out.pp]; simp
 have F6 : (q1 : Int) * ((Z * 4294967296 : Nat) : Int) = ((P1 * 4294967296 : Nat) : Int) := by rw [HD.out.pp, ← Int.natCast_mul, Nat.mul_assoc]
 obtain ⟨Ym, hYm⟩ : ∃ Ym : Int, ((Z * 4294967296 : Nat) : Int) = Ym := ⟨_, rfl⟩
 rw [hYm] at F6 ⊢
 have HYM := Lib.hid hYm
 have HF6 := Lib.hid F6
 generalize bits BinOp.and IntKind.u64 (T : Int) 4294967295 = t0 at *
 clear F1 F2 F3 F6 hYm
 obtain ⟨rh, hrh⟩ : ∃ rh : Nat, U - P1 = rh := ⟨_, rfl⟩
 have F7 : (U : Int) - (P1 : Int) = (rh : Int) := by omega
 have d9 : rh ≤ 4294967295 := by omega
 have HRH := Lib.hid hrh
 clear hrh d3 d6 d7 d8
 have dC : ((Z : Int) == 0) = false := by rw [beq_eq_false_iff_ne]; omega
 have dD : (0 : Int) < (Z : Int) := by omega
 have dE : decide ((4294967296 : Int) ≤ (q1 : Int)) = false := by simp; omega
 have K : K64 hi lo y s Z U T T1 q1 P1 V q0 rh Ym := ⟨HD.out, h1, h2, h3, h4, HYM.out, HRH.out⟩
 clear HR HD HE1 HE2 HE3 HYM HF6 HRH h1 h2 h3 h4 hs1 hs2 hs3 hy0 hh0 hyl d5
 go_wp2
 clear F4 F5 F7 d1
 go_loop [15, 16] (fun qv rv => qv = .int .u64 (q1 : Int) ∧ rv = .int .u64 (rh : Int)) (fun _ _ => 0)
 case atStart => exact ⟨rfl, rfl⟩
 case round =>
  obtain ⟨rfl, rfl⟩ := hrel
  generalize IntKind.u64.wrap ((hi : Int) * 2 ^ s) = e1
  generalize (lo : Int) / 2 ^ (64 - s) = e2
  have hw : decide (IntKind.u64.wrap (IntKind.u64.wrap (4294967296 * (rh : Int)) + (T1 : Int)) < 0) = false := by
   rw [decide_eq_false_iff_not, IntKind.wrap_u64]; omega
  clear hT1 dB d2 d4 d9
  go_upto_region 21 with (fail)
  have HW := Lib.hid hw
  clear hw dE
  have G1 : IntKind.u64.wrap (IntKind.u64.wrap (IntKind.u64.wrap ((U : Int) * 4294967296) + (T1 : Int)) - IntKind.u64.wrap ((q1 : Int) * Ym)) = (V : Int) := by
   have e1 : (q1 : Int) * Ym = ((P1 * 4294967296 : Nat) : Int) := by rw [K.d.pp, ← K.ym, ← Int.natCast_mul, Nat.mul_assoc]
   have e2 := K.d.vv
   have e3 := K.d.v2
   have e4 := K.d.z2
   have e5 := K.d.p1
   rw [e1]
   exact wrap3 (by omega) (by omega) (by omega)
  have HG1 := Lib.hid G1
  clear G1
  go_upto_region 22 with (fail)
  rw [HG1.out]
  clear HG1
  go_upto_region 23 with (fail)
  have G2 : IntKind.u64.wrap ((V : Int) / (Z : Int)) = (q0 : Int) := by
   have e1 := K.d.rr
   have e2 := K.d.r9
   have e3 : (V : Int) / (Z : Int) = (q0 : Int) := by rw [e1]; simp
   rw [e3]
   exact u64_wrap_id _ (by omega) (by omega)
  rw [G2]
  clear G2
  obtain ⟨rl, hrl⟩ : ∃ rl : Nat, V - q0 * Z = rl := ⟨_, rfl⟩
  have G3 : IntKind.u64.wrap ((V : Int) - IntKind.u64.wrap ((q0 : Int) * (Z : Int))) = (rl : Int) := by
   have e1 := K.d.rr
   have e2 : q0 * Z ≤ V := by rw [e1]; exact Nat.div_mul_le_self _ _
   have e3 := K.d.v2
   have e4 := K.d.z2
   rw [← Int.natCast_mul, u64_wrap_id ((q0 * Z : Nat) : Int) (by omega) (by omega), u64_wrap_id _ (by omega) (by omega)]
   omega
  have hrl2 : rl < 4294967296 := by
   have e1 := K.d.rr
   have e4 := K.d.z2
   have e2 : V - V / Z * Z < Z := by have h := Nat.mod_lt V K.d.z1; rw [Nat.mod_def, Nat.mul_comm] at h; exact h
   rw [← e1] at e2
   omega
  have HG3 := Lib.hid G3
  have HRL := Lib.hid hrl2
  clear G3 hrl hrl2
  have dE : decide ((4294967296 : Int) ≤ (q0 : Int)) = false := by
   have := K.d.r9
   simp; omega
  go_wp2
  go_loop [16, 18] (fun rv qv => qv = .int .u64 (q0 : Int) ∧ rv = .int .u64 (rl : Int)) (fun _ _ => 0)
  case atStart => exact ⟨rfl, by rw [HG3.out]⟩
  case round =>
   obtain ⟨rfl, rfl⟩ := hrel
   have hw : decide (IntKind.u64.wrap (IntKind.u64.wrap (4294967296 * (rl : Int)) + t0) < 0) = false := by
    rw [decide_eq_false_iff_not, IntKind.wrap_u64]; omega
   go_upto_region 28 with (fail)
   have HW2 := Lib.hid hw
   clear hw dE
   have G4 : IntKind.u64.wrap (IntKind.u64.wrap ((q1 : Int) * 4294967296) + (q0 : Int)) = (((hi * 18446744073709551616 + lo) / y : Nat) : Int) := by
    have e1 := K.d.res
    have e2 := K.d.r9
    have e3 := K.d.q9
    rw [e1, u64_wrap_id ((q1 : Int) * 4294967296) (by omega) (by omega), u64_wrap_id _ (by omega) (by omega)]
    omega
   have HG4 := Lib.hid G4
   clear G4
   go_wp2
   have HG5 := HG4.out
   rw [HG5]
   refine bodyPost_ret (by simp [results, Tryz.results217, go_sem]; rfl) rfl ⟨⟨_, rfl⟩, rfl⟩
theorem div64_zero (lo y : Nat) (w : World) (h2 : 0 < y) (h3 : y < 4294967296) (h4 : lo < 18446744073709551616) :
  Calls Tryz.prog 217 #[.int .u64 0, .int .u64 (lo : Int), .int .u64 (y : Int)] w fun e w' => ∃ r : Int, e = .returned (.tuple #[.int .u64 ((lo / y : Nat) : Int), .int .u64 r]) ∧ ∃ n, w' = w.drewN n := by
 have hy0 : ((y : Int) == 0) = false := by rw [beq_eq_false_iff_ne]; omega
 have hyl : decide ((y : Int) ≤ 0) = false := by simp; omega
 have e1 : IntKind.u64.wrap ((lo : Int) / (y : Int)) = ((lo / y : Nat) : Int) := by
  have h := Nat.div_le_self lo y
  rw [← Int.natCast_ediv]
  generalize lo / y = q at h
  exact u64_wrap_id _ (by omega) (by omega)
 have HE := Lib.hid e1
 clear e1
 go_enter Tryz.func217, Tryz.ntmps217
 have hy1 : (y : Int) ≠ 0 := by omega
 go_upto_region 6 with (fail)
 go_region
 all_goals
  go_wp2
  have HE2 := HE.out
  rw [HE2]
  refine bodyPost_ret (by simp [results, Tryz.results217, go_sem]; rfl) rfl ⟨_, rfl, 1, rfl⟩
set_option maxRecDepth 20000 in
theorem limbAt_any (A : Option Addr) (c B i : Nat) (L : List Nat) (w : World) (hl : L.length ≤ 4000000) (hi : i ≤ 4000000) (hL : Lim L) (hR : Row .u32 w B A c L) :
  Calls Tryz.prog 187 #[.slice A L.length c, .int .i64 (i : Int)] w fun e w' => e = .returned (.int .u64 (nth L i : Int)) ∧ w = w' := by
 have b1 := hL.nth i
 rcases Nat.lt_or_ge i L.length with h | h
 ·obtain ⟨b, o, rfl, hbB, hcs⟩ := hR.spot (by omega)
  have hc := hcs i h
  have hlen := hR.len
  clear hcs hR
  generalize nth L i = x at *
  generalize L.length = l at *
  go_enter Tryz.func187, Tryz.ntmps187
  go_wp2
  go_ret
  exact ⟨rfl, rfl⟩
 ·have hz := nth_ge h
  rw [hz]
  clear hz b1
  generalize L.length = l at *
  go_enter Tryz.func187, Tryz.ntmps187
  go_wp2
  go_ret
  exact ⟨rfl, rfl⟩
set_option maxHeartbeats 800000 in
theorem wordGcd_any (a b : Nat) (w : World) (ha : a ≤ 9000000000000000000) (hb : b ≤ 9000000000000000000) :
  Calls Tryz.prog 124 #[.int .u64 (a : Int), .int .u64 (b : Int)] w fun e w' => e = .returned (.int .u64 (Nat.gcd a b : Int)) ∧ ∃ n, w' = w.drewN n := by
 go_enter Tryz.func124, Tryz.ntmps124
 go_wp2
 go_loopw [0, 1] (fun av bv wr => ∃ x y : Nat, x ≤ 9000000000000000000 ∧ y ≤ 9000000000000000000 ∧ av = .int .u64 (x : Int) ∧ bv = .int .u64 (y : Int) ∧ Hid (Nat.gcd x y = Nat.gcd a b) ∧ Hid (∃ n, wr = w.drewN n)) (fun _ bv _ => (intOf bv).toNat)
 case atStart => exact ⟨a, b, ha, hb, rfl, rfl, rfl, ⟨0, rfl⟩⟩
 case round =>
  obtain ⟨x, y, hx, hy, rfl, rfl, hg, hn⟩ := hrel
  rcases Nat.eq_zero_or_pos y with rfl | hpos
  ·have e : ((0 : Nat) : Int) = 0 := rfl
   have hgg := hg.out
   rw [Nat.gcd_zero_right] at hgg
   have HGG := Lib.hid hgg
   clear hgg hg
   go_wp2
   go_ret
   exact ⟨by rw [HGG.out]; rfl, hn.out⟩
  ·have hne : ((y : Int) == 0) = false := by rw [beq_eq_false_iff_ne]; omega
   have hne2 : (y : Int) ≠ 0 := by omega
   have hm := Nat.mod_lt x hpos
   have hgg : Nat.gcd y (x % y) = Nat.gcd a b := by rw [← hg.out, Nat.gcd_comm x y, Nat.gcd_rec y x, Nat.gcd_comm]
   have HGG := Lib.hid hgg
   clear hgg hg
   obtain ⟨r, hr⟩ : ∃ r, x % y = r := ⟨_, rfl⟩
   have hri : (x : Int) % (y : Int) = (r : Int) := by rw [← hr]; simp
   rw [hr] at hm HGG
   clear hr
   go_upto_region 2 with (fail)
   go_region
   all_goals
    go_wp2
    go_roundw
    case rel => exact ⟨y, r, hy, by omega, rfl, by rw [hri], HGG.out, by obtain ⟨n, rfl⟩ := hn.out; exact ⟨n + 1, rfl⟩⟩
    case measure => simp [intOf, hri]; omega
def ren25 : Go.Shelf.Ren := ⟨fun | 25 => 216 | n => n, fun | 22 => 103 | n => n, fun | n => n⟩
theorem lays25 : Go.Proofs.Lays7.n25 Tryz.prog ren25 := {
 mixed := by kernel_rfl
 f25 := Tryz.func216.trans (congrArg some (by kernel_rfl))
 t22 := Tryz.underlying103
 a22 := Tryz.isAgg103
 z22 := Tryz.sizeOf103
 v22 := Tryz.zeroValue103
 i22 := by kernel_rfl }
theorem add64_law (x y c : Nat) (hc : c ≤ 1) (w : World) :
  (callFunc 216 #[.int .u64 x, .int .u64 y, .int .u64 c]).run Tryz.prog w =
   .ok (.value (.tuple #[.int .u64 (((x + y + c) % 18446744073709551616 : Nat) : Int), .int .u64 (((x + y + c) / 18446744073709551616 : Nat) : Int)])) w := Go.Proofs.Any7.bits_Add64 lays25 x y c hc w
theorem div64_any (hi lo y : Nat) (w : World) (h2 : hi < y) (h3 : y < 4294967296) (h4 : lo < 18446744073709551616) :
  Calls Tryz.prog 217 #[.int .u64 (hi : Int), .int .u64 (lo : Int), .int .u64 (y : Int)] w fun e w' => ∃ r : Int, e = .returned (.tuple #[.int .u64 (((hi * 18446744073709551616 + lo) / y : Nat) : Int), .int .u64 r]) ∧ ∃ n, w' = w.drewN n := by
 rcases Nat.eq_zero_or_pos hi with rfl | h0
 ·refine (div64_zero lo y w h2 h3 h4).mono ?_
  rintro e w1 ⟨r, rfl, hn⟩
  exact ⟨r, by simp, hn⟩
 ·refine (div64_pos hi lo y w h0 h2 h3 h4).mono ?_
  rintro e w1 ⟨r, rfl, rfl⟩
  exact ⟨r, rfl, 0, rfl⟩
theorem lead_ok {a b c s : Nat} (ha : a < s) (hs : s ≤ 1000000000) (hb : b < 1000000000) (hc : c < 1000000000) :
  ∃ hi lo l2 cy : Nat, (a * 1000000000 + b) * 1000000000 / 18446744073709551616 = hi ∧ (a * 1000000000 + b) * 1000000000 % 18446744073709551616 = lo ∧ (lo + c + 0) % 18446744073709551616 = l2 ∧ (lo + c + 0) / 18446744073709551616 = cy ∧
   hi + cy < s ∧ l2 < 18446744073709551616 ∧ hi ≤ 2000000000 ∧ cy ≤ 1 ∧ (hi + cy) * 18446744073709551616 + l2 = (a * 1000000000 + b) * 1000000000 + c ∧ ((a * 1000000000 + b) * 1000000000 + c) / s ≤ 1000000000000000000 := by
 have hq : ((a * 1000000000 + b) * 1000000000 + c) / s ≤ 1000000000000000000 := by
  have : ((a * 1000000000 + b) * 1000000000 + c) < 1000000000000000001 * s := by
   have h1 : a + 1 ≤ s := ha
   have h2 : ((a * 1000000000 + b) * 1000000000 + c) < (a + 1) * 1000000000000000000 := by omega
   omega
  have := (Nat.div_lt_iff_lt_mul (show 0 < s by omega)).2 this
  omega
 have h9 : (a * 1000000000 + b) * 1000000000 + c < s * 1000000000000000000 := by omega
 have h0 : 0 + c = c := Nat.zero_add c
 obtain ⟨M, hM⟩ : ∃ M : Nat, 18446744073709551616 = M := ⟨_, rfl⟩
 have hM1 : 1000000000000000000 < M := by rw [← hM]; decide
 rw [hM]
 clear hM
 obtain ⟨X, hX⟩ : ∃ X, (a * 1000000000 + b) * 1000000000 = X := ⟨_, rfl⟩
 rw [hX] at h9 hq ⊢
 clear hX
 have hM0 : 0 < M := by omega
 have k1 := Nat.div_add_mod X M
 have k2 := Nat.mod_lt X hM0
 have k3 := Nat.div_add_mod (X % M + c + 0) M
 have k4 := Nat.mod_lt (X % M + c + 0) hM0
 have k5 : (X % M + c + 0) / M ≤ 1 := Nat.le_of_lt_succ ((Nat.div_lt_iff_lt_mul hM0).2 (by omega))
 obtain ⟨hi, hhi⟩ : ∃ hi, X / M = hi := ⟨_, rfl⟩
 obtain ⟨lo, hlo⟩ : ∃ lo, X % M = lo := ⟨_, rfl⟩
 rw [hhi, hlo] at k1
 rw [hlo] at k2 k3 k4 k5
 obtain ⟨cy, hcy⟩ : ∃ cy, (lo + c + 0) / M = cy := ⟨_, rfl⟩
 obtain ⟨l2, hl2⟩ : ∃ l2, (lo + c + 0) % M = l2 := ⟨_, rfl⟩
 rw [hcy, hl2] at k3
 rw [hl2] at k4
 rw [hcy] at k5
 have k6 : (hi + cy) * M + l2 = X + c := by rw [Nat.add_mul, Nat.mul_comm hi, Nat.mul_comm cy]; omega
 have k7 : s * 1000000000000000000 ≤ s * M := Nat.mul_le_mul_left _ (by omega)
 have k8 : hi + cy < s := Nat.lt_of_mul_lt_mul_right (a := M) (by omega)
 exact ⟨hi, lo, l2, cy, hhi, hlo, hl2, hcy, k8, k4, by omega, k5, k6, hq⟩
set_option maxRecDepth 100000 in
set_option maxHeartbeats 1600000 in
theorem leading_any (A : Option Addr) (c B n s : Nat) (L : List Nat) (w : World) (hl : L.length ≤ 4000000) (hn : n ≤ 400000) (hL : Lim L) (hR : Row .u32 w B A c L) (hs : s ≤ 1000000000) (hs2 : nth L (n + 2) < s) :
  Calls Tryz.prog 186 #[.slice A L.length c, .int .i64 ((n + 3 : Nat) : Int), .int .u64 (s : Int)] w fun e w' => e = .returned (.int .i64 ((top3 L n / s : Nat) : Int)) ∧ ∃ m, w' = w.drewN m := by
 have c1 := limbAt_any A c B (n + 2) L w hl (by omega) hL hR
 have c2 := limbAt_any A c B (n + 1) L w hl (by omega) hL hR
 have c3 := limbAt_any A c B n L w hl (by omega) hL hR
 have b1 := hL.nth (n + 2)
 have b2 := hL.nth (n + 1)
 have b3 := hL.nth n
 have htop : Hid (top3 L n / s = ((nth L (n + 2) * 1000000000 + nth L (n + 1)) * 1000000000 + nth L n) / s) := rfl
 generalize top3 L n / s = G at *
 generalize nth L (n + 2) = x2 at *
 generalize nth L (n + 1) = x1 at *
 generalize nth L n = x0 at *
 generalize L.length = l at *
 have i1 : ((n + 3 : Nat) : Int) - 1 = ((n + 2 : Nat) : Int) := by omega
 have i2 : ((n + 3 : Nat) : Int) - 2 = ((n + 1 : Nat) : Int) := by omega
 have i3 : ((n + 3 : Nat) : Int) - 3 = (n : Int) := by omega
 obtain ⟨hi, lo, l2, cy, d1, d2, d3, d4, d5, d6, d7, d8, d9, d10⟩ := lead_ok hs2 hs b2 b3
 have hm64 := Tryz.bits_Mul64 (x2 * 1000000000 + x1) 1000000000 (by omega) (by omega) w
 rw [d1, d2] at hm64
 have ha64 : ∀ W : World, (callFunc 216 #[.int .u64 (lo : Int), .int .u64 (x0 : Int), .int .u64 0]).run Tryz.prog W = .ok (.value (.tuple #[.int .u64 (((lo + x0 + 0) % 18446744073709551616 : Nat) : Int), .int .u64 (((lo + x0 + 0) / 18446744073709551616 : Nat) : Int)])) W := fun W => add64_law lo x0 0 (by omega) W
 rw [d3, d4] at ha64
 have hd64 := fun W => div64_any (hi + cy) l2 s W d5 (by omega) d6
 simp only [d9] at hd64
 rw [htop.out]
 obtain ⟨Q, hQ⟩ : ∃ Q, ((x2 * 1000000000 + x1) * 1000000000 + x0) / s = Q := ⟨_, rfl⟩
 rw [hQ] at d10 ⊢
 simp only [hQ] at hd64
 clear hQ
 have e1 : ((x2 : Int) * 1000000000 + (x1 : Int)) = ((x2 * 1000000000 + x1 : Nat) : Int) := by simp
 have e2 : (hi : Int) + (cy : Int) = ((hi + cy : Nat) : Int) := by simp
 obtain ⟨n3, hn3⟩ : ∃ k, n + 3 = k := ⟨_, rfl⟩
 obtain ⟨n2, hn2⟩ : ∃ k, n + 2 = k := ⟨_, rfl⟩
 obtain ⟨n1, hn1⟩ : ∃ k, n + 1 = k := ⟨_, rfl⟩
 rw [hn3] at i1 i2 i3 ⊢
 rw [hn2] at i1 c1
 rw [hn1] at i2 c2
 have hb3 : n3 ≤ 500000 := by omega
 have hb4 : 3 ≤ n3 := by omega
 clear hn3 hn2 hn1
 have C1 := Lib.hid c1
 have C2 := Lib.hid c2
 have C3 := Lib.hid c3
 have M64 := Lib.hid hm64
 have A64 := Lib.hid ha64
 have D64 := Lib.hid hd64
 have E1 := Lib.hid e1
 have E2 := Lib.hid e2
 clear c1 c2 c3 hm64 ha64 hd64 d1 d2 d3 d4 d6 d9 htop hR hL e1 e2 hs2
 go_enter Tryz.func186, Tryz.ntmps186
 go_wp2_with fail
 refine C1.out.mono ?_
 rintro e w1 ⟨rfl, rfl⟩
 go_wp2_with fail
 refine C2.out.mono ?_
 rintro e w1 ⟨rfl, rfl⟩
 go_wp2_with fail
 rw [E1.out]
 refine M64.out.mono ?_
 rintro e w1 ⟨rfl, rfl⟩
 go_wp2_with fail
 refine C3.out.mono ?_
 rintro e w1 ⟨rfl, rfl⟩
 go_wp2_with (simp only [A64.out])
 rw [E2.out]
 refine (D64.out _).mono ?_
 rintro e w1 ⟨r, rfl, m, rfl⟩
 go_wp2_with fail
 go_ret
 exact ⟨rfl, m, rfl⟩
def StOut (x0 y0 : Nat) (x y s0 s1 s2 s3 : Int) : Prop := ∃ e X Y P Q R T u v m n, LSt x0 y0 e X Y P Q R T u v m n ∧ x = (X : Int) ∧ y = (Y : Int) ∧ s0 = sg e P ∧ s1 = sg (!e) Q ∧ s2 = sg (!e) R ∧ s3 = sg e T
theorem stOut_start {x0 y0 : Nat} : StOut x0 y0 (x0 : Int) (y0 : Int) 1 0 0 1 := ⟨true, x0, y0, 1, 0, 0, 1, x0 + 1, y0, x0, y0 + 1, st_start, rfl, rfl, rfl, rfl, rfl, rfl⟩
theorem stOut_facts {x0 y0 : Nat} {x y s0 s1 s2 s3 : Int} (h : StOut x0 y0 x y s0 s1 s2 s3) (hx : x0 < 1000000000000000000) (hy : y0 ≤ x0) :
  ∃ u v m n : Nat, x + s0 = (u : Int) ∧ y + s2 = (v : Int) ∧ x + s1 = (m : Int) ∧ y + s3 = (n : Int) ∧ u ≤ 2000000000000000000 ∧ v ≤ 2000000000000000000 ∧ m ≤ 2000000000000000000 ∧ n ≤ 2000000000000000000 ∧
   -1000000000 ≤ s0 ∧ s0 ≤ 1000000000 ∧ -1000000000 ≤ s1 ∧ s1 ≤ 1000000000 ∧ -1000000000 ≤ s2 ∧ s2 ≤ 1000000000 ∧ -1000000000 ≤ s3 ∧ s3 ≤ 1000000000 ∧ 0 ≤ x ∧ x ≤ 1100000000000000000 ∧ 0 ≤ y ∧ y ≤ 1100000000000000000 ∧
   (0 < v → 0 < n → u / v = m / n → ∃ q : Nat, q = u / v ∧ q ≤ 2000000000000000000 ∧ -1000000000 ≤ s0 - (q : Int) * s2 ∧ s0 - (q : Int) * s2 ≤ 1000000000 ∧ -1000000000 ≤ s1 - (q : Int) * s3 ∧ s1 - (q : Int) * s3 ≤ 1000000000 ∧
    0 ≤ x - (q : Int) * y ∧ x - (q : Int) * y ≤ x ∧ y + (x - (q : Int) * y) < x + y ∧ StOut x0 y0 y (x - (q : Int) * y) s2 s3 (s0 - (q : Int) * s2) (s1 - (q : Int) * s3)) := by
 obtain ⟨e, X, Y, P, Q, R, T, u, v, m, n, h, rfl, rfl, rfl, rfl, rfl, rfl⟩ := h
 have g1 := sg_box e h.p9
 have g2 := sg_box (!e) h.q9
 have g3 := sg_box (!e) h.r9
 have g4 := sg_box e h.t9
 have t1 := h.t1
 have hu : u ≤ 1000000000000000000 := by
  have := Nat.mul_le_mul_right u t1
  have := h.tu
  omega
 have hm : m ≤ 1000000000000000000 := by
  have := Nat.mul_le_mul_right m t1
  have := h.tm
  omega
 have hvn : v ≤ 1000000000000000000 ∧ n ≤ 1000000000000000001 := by
  rcases h.id with ⟨i1, i2, i3, i4, i5, i6, i7⟩ | ⟨_, _, h3, h4⟩
  ·have := h.e1 i1; omega
  ·omega
 have p9 := h.p9
 have q9 := h.q9
 have r9 := h.r9
 have t9 := h.t9
 have es : (X : Int) + sg e P = (u : Int) ∧ (Y : Int) + sg (!e) R = (v : Int) ∧ (X : Int) + sg (!e) Q = (m : Int) ∧ (Y : Int) + sg e T = (n : Int) ∧ X ≤ 1100000000000000000 ∧ Y ≤ 1100000000000000000 := by
  cases e with
  | true => have := h.e1 rfl; simp only [sg, if_true, Bool.not_true, Bool.false_eq_true, if_false]; omega
  | false => have := h.e2 rfl; simp only [sg, if_true, Bool.not_false, Bool.false_eq_true, if_false]; omega
 refine ⟨u, v, m, n, es.1, es.2.1, es.2.2.1, es.2.2.2.1, by omega, by omega, by omega, by omega, g1.1, g1.2, g2.1, g2.2, g3.1, g3.2, g4.1, g4.2, by omega, by omega, by omega, by omega, ?_⟩
 intro hv hn hq
 obtain ⟨q, hqq⟩ : ∃ q, u / v = q := ⟨_, rfl⟩
 obtain ⟨k1, k2, k3, k4⟩ := st_step h hx hy hv hn hqq (by rw [← hq, hqq])
 have f1 : sg e P - (q : Int) * sg (!e) R = sg (!(!e)) (P + q * R) := by
  cases e <;> simp [sg] <;> grind
 have f2 : sg (!e) Q - (q : Int) * sg e T = sg (!e) (Q + q * T) := by
  cases e <;> simp [sg] <;> grind
 have f3 : (X : Int) - (q : Int) * (Y : Int) = ((X - q * Y : Nat) : Int) := by
  have : ((q * Y : Nat) : Int) = (q : Int) * (Y : Int) := by simp
  omega
 have f4 := Nat.mul_le_mul k2 k3
 have g5 := sg_box (!(!e)) k4.r9
 have g6 := sg_box (!e) k4.t9
 have hq3 : q ≤ 2000000000000000000 := by rw [← hqq]; have := Nat.div_le_self u v; omega
 refine ⟨q, hqq.symm, hq3, ?_⟩
 rw [f1, f2, f3]
 exact ⟨g5.1, g5.2, g6.1, g6.2, by omega, by omega, by omega, ⟨!e, Y, X - q * Y, R, T, P + q * R, Q + q * T, v, u - q * v, n, m - q * n, k4, rfl, rfl, rfl, by simp, rfl, rfl⟩⟩
def Box4 (w : World) (g : Nat) (s0 s1 s2 s3 : Int) : Prop := w.heap[g]? = some (.cells #[.int .i64 s0, .int .i64 s1, .int .i64 s2, .int .i64 s3] 162 (0, 0))
theorem Box4.all {w : World} {g : Nat} {s0 s1 s2 s3 : Int} (h : Box4 w g s0 s1 s2 s3) : w.cell? ⟨g, 0, none⟩ = some (.int .i64 s0) ∧ w.cell? ⟨g, 1, none⟩ = some (.int .i64 s1) ∧ w.cell? ⟨g, 2, none⟩ = some (.int .i64 s2) ∧ w.cell? ⟨g, 3, none⟩ = some (.int .i64 s3) ∧
  w.frozen? ⟨g, 0, none⟩ = false ∧ w.frozen? ⟨g, 1, none⟩ = false ∧ w.frozen? ⟨g, 2, none⟩ = false ∧ w.frozen? ⟨g, 3, none⟩ = false := by
 unfold Box4 at h
 simp [World.cell?, World.frozen?, h]
theorem Box4.store {w : World} {g : Nat} {s0 s1 s2 s3 : Int} (h : Box4 w g s0 s1 s2 s3) (t0 t1 t2 t3 : Int) :
  Box4 ((((w.setCell ⟨g, 0, none⟩ (.int .i64 t0)).setCell ⟨g, 1, none⟩ (.int .i64 t1)).setCell ⟨g, 2, none⟩ (.int .i64 t2)).setCell ⟨g, 3, none⟩ (.int .i64 t3)) g t0 t1 t2 t3 := by
 unfold Box4 at h ⊢
 simp [World.setCell, Array.getElem?_modify, h]
theorem Box4.lt {w : World} {g : Nat} {s0 s1 s2 s3 : Int} (h : Box4 w g s0 s1 s2 s3) : g < w.heap.size := by
 rcases Nat.lt_or_ge g w.heap.size with hlt | hge
 ·exact hlt
 ·unfold Box4 at h; rw [Array.getElem?_eq_none hge] at h; cases h
theorem Box4.grown {w w' : World} {g : Nat} {s0 s1 s2 s3 : Int} {row : Option Nat} (h : Box4 w g s0 s1 s2 s3) (hb : w.grownBy w' row) (hg : some g ≠ row) : Box4 w' g s0 s1 s2 s3 := (hb.block g h.lt hg).trans h
theorem Box4.new (w : World) (s0 s1 s2 s3 : Int) : Box4 (w.alloc (.cells #[.int .i64 s0, .int .i64 s1, .int .i64 s2, .int .i64 s3] 162)) w.heap.size s0 s1 s2 s3 := by
 show (w.heap.push _)[w.heap.size]? = _
 simp
set_option maxRecDepth 20000 in
set_option maxHeartbeats 3200000 in
theorem safe_any (A A' : Option Addr) (c c' l3 : Nat) (L M : List Nat) (w : World) (hl : L.length = l3 + 3) (hl3 : l3 ≤ 390000) (hml : M.length ≤ 400000)
  (hL : Lim L) (hM : Lim M) (hR : Row .u32 w w.heap.size A c L) (hR' : Row .u32 w w.heap.size A' c' M) (htop : nth M (l3 + 2) ≤ nth L (l3 + 2))
  (hx : top3 L l3 / (nth L (l3 + 2) + 1) < 1000000000000000000) (hy : top3 M l3 / (nth L (l3 + 2) + 1) ≤ top3 L l3 / (nth L (l3 + 2) + 1)) :
  Calls Tryz.prog 155 #[.slice A L.length c, .slice A' M.length c'] w fun e w' => ∃ x y s0 s1 s2 s3 : Int, e = .returned (.agg #[.int .i64 s0, .int .i64 s1, .int .i64 s2, .int .i64 s3]) ∧
   Hid (StOut (top3 L l3 / (nth L (l3 + 2) + 1)) (top3 M l3 / (nth L (l3 + 2) + 1)) x y s0 s1 s2 s3) ∧ Below w.heap.size w w' := by
 have hn1 := hL.nth (l3 + 2)
 have lead1 := fun B W h => leading_any A c B l3 (nth L (l3 + 2) + 1) L W (by omega) (by omega) hL h (by omega) (by omega)
 have lead2 := fun B W h => leading_any A' c' B l3 (nth L (l3 + 2) + 1) M W (by omega) (by omega) hM h (by omega) (by omega)
 obtain ⟨b, o, rfl, hbB, hcs⟩ := hR.spot (by omega)
 have hc0 := hcs (l3 + 2) (by omega)
 rw [← hl] at lead1 lead2
 have hcl := hR.len
 have hLL : Hid (L.length = l3 + 3) := hl
 have hi1 : (L.length : Int) - 1 = ((l3 + 2 : Nat) : Int) := by omega
 generalize top3 L l3 / (nth L (l3 + 2) + 1) = x0 at *
 generalize top3 M l3 / (nth L (l3 + 2) + 1) = y0 at *
 generalize nth L (l3 + 2) = tp at *
 generalize M.length = lm at *
 obtain ⟨l2, hl2⟩ : ∃ l2, l3 + 2 = l2 := ⟨_, rfl⟩
 rw [hl2] at hc0 hi1
 obtain ⟨ll, hll⟩ : ∃ ll, L.length = ll := ⟨_, rfl⟩
 rw [hll] at lead1 lead2 hcl hi1 ⊢
 have hr1 : l2 < ll := by omega
 have hr2 : ll ≤ 400000 := by omega
 have LEAD1 := Lib.hid lead1
 have LEAD2 := Lib.hid lead2
 have HR := Lib.hid hR
 have HR' := Lib.hid hR'
 clear lead1 lead2 hR hR' hcs hl hl2 hll htop hLL hL hM
 go_enter Tryz.func155, Tryz.ntmps155
 go_wp2_with fail
 refine (LEAD1.out _ _ (HR.out.alloc (Nat.le_refl _) _)).mono ?_
 rintro e w1 ⟨rfl, m1, rfl⟩
 go_wp2_with fail
 refine (LEAD2.out _ _ ((HR'.out.alloc (Nat.le_refl _) _).drewN _)).mono ?_
 rintro e w1 ⟨rfl, m2, rfl⟩
 go_wp2_with fail
 have b1 := (Box4.new w 0 0 0 0)
 have b2 := Box4.new ((w.alloc (.cells #[.int .i64 0, .int .i64 0, .int .i64 0, .int .i64 0] 162)).drewN (m1 + m2)) 1 0 0 1
 have hbw : Below w.heap.size w (((w.alloc (.cells #[.int .i64 0, .int .i64 0, .int .i64 0, .int .i64 0] 162)).drewN (m1 + m2)).alloc (.cells #[.int .i64 1, .int .i64 0, .int .i64 0, .int .i64 1] 162)) :=
  (below_drewN (below_alloc_new _) _).alloc (by simp) _
 have sz : ((w.alloc (.cells #[.int .i64 0, .int .i64 0, .int .i64 0, .int .i64 0] 162)).drewN (m1 + m2)).heap.size = w.heap.size + 1 := by simp
 rw [sz] at b2
 have b1' : Box4 (((w.alloc (.cells #[.int .i64 0, .int .i64 0, .int .i64 0, .int .i64 0] 162)).drewN (m1 + m2)).alloc (.cells #[.int .i64 1, .int .i64 0, .int .i64 0, .int .i64 1] 162)) w.heap.size 0 0 0 0 :=
  (Below.heap_alloc _ _ _ (by rw [sz]; omega)).trans b1
 clear b1 sz
 generalize ((w.alloc (.cells #[.int .i64 0, .int .i64 0, .int .i64 0, .int .i64 0] 162)).drewN (m1 + m2)).alloc (.cells #[.int .i64 1, .int .i64 0, .int .i64 0, .int .i64 1] 162) = w1 at *
 have hg0 := b1'.lt
 have hg1 := b2.lt
 have hst := stOut_start (x0 := x0) (y0 := y0)
 have B2 := Lib.hid b2
 have HST := Lib.hid hst
 clear b2 hst LEAD1 LEAD2 HR HR'
 go_loopw [6, 7] (fun xv yv wr => ∃ x y s0 s1 s2 s3 : Int, xv = .int .i64 x ∧ yv = .int .i64 y ∧ Hid (StOut x0 y0 x y s0 s1 s2 s3) ∧ Hid (Box4 wr (w.heap.size + 1) s0 s1 s2 s3) ∧ w1.grownBy wr (some (w.heap.size + 1))) (fun xv yv _ => (intOf xv + intOf yv).toNat)
 case atStart => exact ⟨x0, y0, 1, 0, 0, 1, rfl, rfl, HST.out, B2.out, grown_refl _ _⟩
 case round =>
  obtain ⟨x, y, s0, s1, s2, s3, rfl, rfl, hs, hb, hgr⟩ := hrel
  obtain ⟨u, v, m, n, f1, f2, f3, f4, f5, f6, f7, f8, f9, f10, f11, f12, f13, f14, f15, f16, f17, f18, f19, f20, hstep⟩ := stOut_facts hs.out hx hy
  obtain ⟨c0, c1, c2, c3, z0, z1, z2, z3⟩ := hb.out.all
  obtain ⟨d0, d1, d2, d3, y0', y1', y2', y3'⟩ := (b1'.grown hgr (by intro e; injection e; omega)).all
  have hfin : Below w.heap.size w wr := grown_below hbw hgr (by omega) (by omega)
  have HFIN := Lib.hid hfin
  have HSTEP := Lib.hid hstep
  clear hfin hstep
  have hne : w.heap.size ≠ w.heap.size + 1 := by omega
  by_cases hv : v = 0
  ·subst hv
   clear HSTEP f5 f6 f7 f8
   go_wp2
   refine bodyPost_ret (v := .agg #[.int .i64 s0, .int .i64 s1, .int .i64 s2, .int .i64 s3]) (by simp [results, Tryz.results155, go_sem, d0, d1, d2, d3]) rfl ⟨x, y, s0, s1, s2, s3, rfl, hs, ((((HFIN.out.setCell (by simp) _).setCell (by simp) _).setCell (by simp) _).setCell (by simp) _)⟩
  by_cases hn : n = 0
  ·subst hn
   have hvp : (0 : Int) < (v : Int) := by omega
   clear HSTEP f5 f6 f7 f8
   go_wp2
   refine bodyPost_ret (v := .agg #[.int .i64 s0, .int .i64 s1, .int .i64 s2, .int .i64 s3]) (by simp [results, Tryz.results155, go_sem, d0, d1, d2, d3]) rfl ⟨x, y, s0, s1, s2, s3, rfl, hs, ((((HFIN.out.setCell (by simp) _).setCell (by simp) _).setCell (by simp) _).setCell (by simp) _)⟩
  have hvp : (0 : Int) < (v : Int) := by omega
  have hnp : (0 : Int) < (n : Int) := by omega
  have hv0 : (v : Int) ≠ 0 := by omega
  have hn0 : (n : Int) ≠ 0 := by omega
  obtain ⟨q1, hq1⟩ : ∃ q, u / v = q := ⟨_, rfl⟩
  obtain ⟨q2, hq2⟩ : ∃ q, m / n = q := ⟨_, rfl⟩
  have e1 : (u : Int) / (v : Int) = (q1 : Int) := by rw [← hq1]; simp
  have e2 : (m : Int) / (n : Int) = (q2 : Int) := by rw [← hq2]; simp
  have g1 : q1 ≤ 2000000000000000000 := by rw [← hq1]; have := Nat.div_le_self u v; omega
  have g2 : q2 ≤ 2000000000000000000 := by rw [← hq2]; have := Nat.div_le_self m n; omega
  by_cases hq : q1 = q2
  ·obtain ⟨q, hqq, k1, k2, k3, k4, k5, k6, k7, k8, k9⟩ := HSTEP.out (by omega) (by omega) (by rw [hq1, hq2, hq])
   rw [hq1] at hqq
   subst hqq
   subst hq
   have K9 := Lib.hid k9
   clear HSTEP k9 hq1 hq2
   go_wp2
   go_roundw
   case rel => exact ⟨y, x - q * y, s2, s3, s0 - q * s2, s1 - q * s3, by go_num, by go_num, K9.out, hb.out.store _ _ _ _, grown_set (grown_set (grown_set (grown_set hgr _ _) _ _) _ _) _ _⟩
   case measure => simp [intOf]; omega
  ·have hqd : (((q1 : Int)) != ((q2 : Int))) = true := by simp; omega
   clear HSTEP hq1 hq2
   go_wp2
   refine bodyPost_ret (v := .agg #[.int .i64 s0, .int .i64 s1, .int .i64 s2, .int .i64 s3]) (by simp [results, Tryz.results155, go_sem, d0, d1, d2, d3]) rfl ⟨x, y, s0, s1, s2, s3, rfl, hs, ((((HFIN.out.setCell (by simp) _).setCell (by simp) _).setCell (by simp) _).setCell (by simp) _)⟩
def coSt (p q : Int) (L M : List Nat) : Nat → List Nat × Int
 | 0 => (List.replicate L.length 0, 0)
 | k + 1 => ((coSt p q L M k).1.set k ((p * (nth L k : Int) + q * (nth M k : Int) + (coSt p q L M k).2) % 1000000000).toNat, (p * (nth L k : Int) + q * (nth M k : Int) + (coSt p q L M k).2) / 1000000000)
theorem coSt_succ (p q : Int) (L M : List Nat) (k : Nat) : coSt p q L M (k + 1) = ((coSt p q L M k).1.set k ((p * (nth L k : Int) + q * (nth M k : Int) + (coSt p q L M k).2) % 1000000000).toNat, (p * (nth L k : Int) + q * (nth M k : Int) + (coSt p q L M k).2) / 1000000000) := rfl
theorem mul_box {p : Int} {x : Nat} (h1 : -1000000000 ≤ p) (h2 : p ≤ 1000000000) (hx : x < 1000000000) : -999999999000000000 ≤ p * (x : Int) ∧ p * (x : Int) ≤ 999999999000000000 := by
 have h3 : p * (x : Int) ≤ 1000000000 * (x : Int) := Int.mul_le_mul_of_nonneg_right h2 (by omega)
 have h4 : -1000000000 * (x : Int) ≤ p * (x : Int) := Int.mul_le_mul_of_nonneg_right h1 (by omega)
 omega
theorem coSt_ok {p q : Int} {L M : List Nat} (hL : Lim L) (hM : Lim M) (hp1 : -1000000000 ≤ p) (hp2 : p ≤ 1000000000) (hq1 : -1000000000 ≤ q) (hq2 : q ≤ 1000000000) (k : Nat) :
  Lim (coSt p q L M k).1 ∧ -2000000000 ≤ (coSt p q L M k).2 ∧ (coSt p q L M k).2 ≤ 2000000000 ∧ (coSt p q L M k).1.length = L.length ∧ ∀ j, k ≤ j → nth (coSt p q L M k).1 j = 0 := by
 induction k with
 | zero =>
  refine ⟨fun d hd => ?_, by simp [coSt], by simp [coSt], by simp [coSt], fun j _ => ?_⟩
  ·have := List.eq_of_mem_replicate hd; omega
  ·simp only [coSt, nth, List.getD_eq_getElem?_getD, List.getElem?_replicate]; split <;> rfl
 | succ k ih =>
  obtain ⟨h1, h2, h3, h4, h5⟩ := ih
  have a := mul_box hp1 hp2 (hL.nth k)
  have b := mul_box hq1 hq2 (hM.nth k)
  rw [coSt_succ]
  generalize p * (nth L k : Int) = x at *
  generalize q * (nth M k : Int) = y at *
  refine ⟨h1.set _ (by omega), by dsimp only; omega, by dsimp only; omega, by simp [h4], fun j hj => ?_⟩
  have := h5 j (by omega)
  simp only [nth, List.getD_eq_getElem?_getD] at this ⊢
  rw [List.getElem?_set_ne (by omega)]
  exact this
theorem coSt_val {p q : Int} {L M : List Nat} (hL : Lim L) (hM : Lim M) (hp1 : -1000000000 ≤ p) (hp2 : p ≤ 1000000000) (hq1 : -1000000000 ≤ q) (hq2 : q ≤ 1000000000) (k : Nat) (hk : k ≤ L.length) :
  (valB 1000000000 (coSt p q L M k).1 : Int) + ((1000000000 ^ k : Nat) : Int) * (coSt p q L M k).2 = p * (valB 1000000000 (L.take k) : Int) + q * (valB 1000000000 (M.take k) : Int) := by
 induction k with
 | zero => simp [coSt, valB, valB_zeros]
 | succ k ih =>
  replace ih := ih (by omega)
  obtain ⟨h1, h2, h3, hl, h5⟩ := coSt_ok (q := q) (M := M) hL hM hp1 hp2 hq1 hq2 k
  have hz := h5 k (Nat.le_refl _)
  rw [coSt_succ]
  have hbt : valB 1000000000 (M.take (k + 1)) = valB 1000000000 (M.take k) + 1000000000 ^ k * nth M k := by
   rcases Nat.lt_or_ge k M.length with h | h
   ·exact valB_take_succ _ _ _ h
   ·rw [valB_take_over _ _ _ h, valB_take_over _ _ _ (by omega), nth_ge h]; simp
  rw [hbt, valB_take_succ _ _ _ (show k < L.length by omega)]
  have hs := fun v => valB_set 1000000000 (coSt p q L M k).1 k v (by omega)
  rw [hz] at hs
  generalize coSt p q L M k = s at *
  obtain ⟨S, c⟩ := s
  dsimp only at *
  obtain ⟨T, hT⟩ : ∃ T, p * (nth L k : Int) + q * (nth M k : Int) + c = T := ⟨_, rfl⟩
  rw [hT]
  have hs' := hs (T % 1000000000).toNat
  obtain ⟨r, hr⟩ : ∃ r, (T % 1000000000).toNat = r := ⟨_, rfl⟩
  rw [hr] at hs' ⊢
  obtain ⟨d, hd⟩ : ∃ d, T / 1000000000 = d := ⟨_, rfl⟩
  rw [hd]
  have hTd : T = 1000000000 * d + (r : Int) := by omega
  have hs2 : (valB 1000000000 (S.set k r) : Int) = (valB 1000000000 S : Int) + ((1000000000 ^ k : Nat) : Int) * (r : Int) := by
   rw [← Int.natCast_mul, ← Int.natCast_add]; congr 1
  rw [hs2, Nat.pow_succ]
  simp only [Int.natCast_add, Int.natCast_mul]
  obtain ⟨pk, hpk⟩ : ∃ pk : Int, ((1000000000 ^ k : Nat) : Int) = pk := ⟨_, rfl⟩
  rw [hpk] at ih ⊢
  clear hs hs' hs2 hr hd hpk h1 h2 h3 h5 hz hbt hL hM
  rw [hTd] at hT
  clear hTd
  generalize (nth L k : Int) = x at *
  generalize (nth M k : Int) = y at *
  generalize (valB 1000000000 S : Int) = vS at *
  generalize (valB 1000000000 (L.take k) : Int) = vL at *
  generalize (valB 1000000000 (M.take k) : Int) = vM at *
  generalize (r : Int) = rr at *
  clear hp1 hp2 hq1 hq2 hl hk
  grind
theorem coSt_end {p q : Int} {L M : List Nat} (hL : Lim L) (hM : Lim M) (hp1 : -1000000000 ≤ p) (hp2 : p ≤ 1000000000) (hq1 : -1000000000 ≤ q) (hq2 : q ≤ 1000000000) (hml : M.length ≤ L.length)
  (h0 : 0 ≤ p * (val9 L : Int) + q * (val9 M : Int)) (h1 : p * (val9 L : Int) + q * (val9 M : Int) ≤ (val9 L : Int)) :
  (val9 (coSt p q L M L.length).1 : Int) = p * (val9 L : Int) + q * (val9 M : Int) := by
 have h := coSt_val hL hM hp1 hp2 hq1 hq2 L.length (Nat.le_refl _)
 obtain ⟨k1, k2, k3, k4, k5⟩ := coSt_ok (q := q) (M := M) hL hM hp1 hp2 hq1 hq2 L.length
 rw [List.take_length, List.take_of_length_le hml] at h
 have hv := valB_lt (b := 1000000000) k1
 have hvL := valB_lt (b := 1000000000) hL
 rw [k4] at hv
 show (valB 1000000000 _ : Int) = _
 generalize coSt p q L M L.length = s at *
 obtain ⟨S, c⟩ := s
 dsimp only at *
 unfold val9 at h0 h1 ⊢
 generalize p * (valB 1000000000 L : Int) + q * (valB 1000000000 M : Int) = T at *
 generalize (1000000000 : Nat) ^ L.length = N at *
 generalize valB 1000000000 S = vS at *
 generalize valB 1000000000 L = vL at *
 have hc : c = 0 := by
  rcases Int.lt_trichotomy c 0 with hc | hc | hc
  ·have := Int.mul_le_mul_of_nonneg_left (show c ≤ -1 by omega) (show (0 : Int) ≤ (N : Int) by omega)
   omega
  ·exact hc
  ·have := Int.mul_le_mul_of_nonneg_left (show 1 ≤ c by omega) (show (0 : Int) ≤ (N : Int) by omega)
   omega
 rw [hc] at h
 omega
theorem tdm_neg {T : Int} (h : T.tmod 1000000000 < 0) : T.tmod 1000000000 + 1000000000 = T % 1000000000 ∧ T.tdiv 1000000000 - 1 = T / 1000000000 := by
 have h2 := Int.mul_tdiv_add_tmod T 1000000000
 have h3 := Int.lt_tmod_of_pos T (show (0 : Int) < 1000000000 by omega)
 omega
theorem tdm_pos {T : Int} (h : ¬ T.tmod 1000000000 < 0) : T.tmod 1000000000 = T % 1000000000 ∧ T.tdiv 1000000000 = T / 1000000000 := by
 have h2 := Int.mul_tdiv_add_tmod T 1000000000
 have h3 := Int.tmod_lt_of_pos T (show (0 : Int) < 1000000000 by omega)
 omega
set_option maxRecDepth 20000 in
set_option maxHeartbeats 3200000 in
theorem combine_any (A A' : Option Addr) (c c' : Nat) (p q : Int) (L M : List Nat) (w : World) (hl : L.length ≤ 400000) (hml : M.length ≤ 400000)
  (hp1 : -1000000000 ≤ p) (hp2 : p ≤ 1000000000) (hq1 : -1000000000 ≤ q) (hq2 : q ≤ 1000000000)
  (hL : Lim L) (hM : Lim M) (hR : Row .u32 w w.heap.size A c L) (hR' : Row .u32 w w.heap.size A' c' M) :
  Calls Tryz.prog 156 #[.slice A L.length c, .slice A' M.length c', .int .i64 p, .int .i64 q] w fun e w' =>
   e = .returned (.slice (some ⟨w.heap.size, 0, none⟩) (trimN (coSt p q L M L.length).1 L.length) L.length) ∧ Blk .u32 104 w' w.heap.size (coSt p q L M L.length).1 ∧ Below w.heap.size w w' := by
 obtain ⟨i0, hi, hz0, hz1, hz2⟩ := info_parts info68
 have hlim := fun B i W h1 h2 => limbAt_any A' c' B i M W (by omega) h1 hM h2
 generalize hl' : L.length = l at *
 generalize hm' : M.length = m at *
 have HL := Lib.hid hl'
 have HM := Lib.hid hm'
 have HLIM := Lib.hid hlim
 clear hl' hm' hlim
 go_enter Tryz.func156, Tryz.ntmps156
 go_wp2_with (refine wpList_make_zeros _ rfl (.tmp 14) (.tmp 14) 23 rfl 104 .u32 i0 4 Tryz.underlying23 hi hz0 hz1 hz2 .i64 .i64 _ _ l rfl rfl rfl rfl (by omega) (by omega) ?_; intro w1 hb1 hB1 hs1)
 have hg := hb1.out.lt
 go_loopw [10, 18] (fun cv iv wr => ∃ k : Nat, k ≤ l ∧ iv = .int .i64 k ∧ cv = .int .i64 (coSt p q L M k).2 ∧ Blk .u32 104 wr w.heap.size (coSt p q L M k).1 ∧ w1.grownBy wr (some w.heap.size)) (fun _ iv _ => l - (intOf iv).toNat)
 case atStart => exact ⟨0, Nat.zero_le _, rfl, rfl, by simpa [coSt, HL.out] using hb1.out, grown_refl _ _⟩
 case round =>
  obtain ⟨k, hk, rfl, rfl, hb, hgr⟩ := hrel
  obtain ⟨h1, h2, h3, h4, h5⟩ := coSt_ok (q := q) (M := M) hL hM hp1 hp2 hq1 hq2 k
  have HS := Lib.hid (coSt_succ p q L M k)
  generalize hs : coSt p q L M k = s at *
  have HK := Lib.hid hs
  clear hs h5
  obtain ⟨S, x⟩ := s
  dsimp only at *
  rw [HL.out] at h4
  by_cases hlt : k < l
  ·have hc := hb.cell k (by omega)
   have hfr := hb.frozen k
   obtain ⟨b', o', rfl, hbg, hcell'⟩ := hR.spot (by rw [HL.out]; omega)
   have hc' := ((hcell'.below hB1 hbg).grown hgr (by omega) (by intro e; injection e; omega)) k (by rw [HL.out]; exact hlt)
   have hRb := hR'.below (grown_below hB1 hgr (Nat.le_refl _) hB1.size)
   have hcall := fun n => (HLIM.out w.heap.size k (wr.drewN n) (by omega) (hRb.drewN n)).mono (R' := fun e w'' => e = .returned (.int .u64 (nth M k : Int)) ∧ ∃ m, w'' = wr.drewN m) (fun _ _ ⟨he, hw⟩ => ⟨he, n, hw.symm⟩)
   have HCALL := Lib.hid hcall
   have m1 := mul_box hp1 hp2 (hL.nth k)
   have m2 := mul_box hq1 hq2 (hM.nth k)
   have n1 := hL.nth k
   have n2 := hM.nth k
   clear hcall hcell'
   obtain ⟨al, hal⟩ : ∃ x, nth L k = x := ⟨_, rfl⟩
   obtain ⟨bl, hbl⟩ : ∃ x, nth M k = x := ⟨_, rfl⟩
   rw [hal] at m1 n1 hc'
   rw [hbl] at m2 n2 HCALL
   rw [hal, hbl] at HS
   clear hal hbl
   obtain ⟨m11, m12⟩ := m1
   obtain ⟨m21, m22⟩ := m2
   go_upto_region 6 with (fail)
   go_quiet ((go_at_call 187; exact HCALL.out _))
   obtain ⟨T, hT⟩ : ∃ T, p * (al : Int) + q * (bl : Int) + x = T := ⟨_, rfl⟩
   rw [hT] at HS ⊢
   have t1 : -2000000000000000000 ≤ T := by omega
   have t2 : T ≤ 2000000000000000000 := by omega
   clear hT m11 m12 m21 m22
   obtain ⟨R, hR9⟩ : ∃ R : Nat, (T % 1000000000).toNat = R := ⟨_, rfl⟩
   have hR8 : T % 1000000000 = (R : Int) := by omega
   rw [hR9] at HS
   by_cases hneg : T.tmod 1000000000 < 0
   ·obtain ⟨g1, g2⟩ := tdm_neg hneg
    go_wp2
    go_roundw
    case rel =>
     have E := HS.out
     have e1 := (hb.drewN nq).setI k (v := (R : Int)) (x := R) (by omega)
     exact ⟨k + 1, by omega, by go_num, by rw [E], by rw [E]; exact e1, grown_set (grown_drewN hgr _) _ _⟩
    case measure => simp [intOf]; omega
   ·obtain ⟨g1, g2⟩ := tdm_pos hneg
    go_wp2
    go_roundw
    case rel =>
     have E := HS.out
     have e1 := (hb.drewN nq).setI k (v := (R : Int)) (x := R) (by omega)
     exact ⟨k + 1, by omega, by go_num, by rw [E], by rw [E]; exact e1, grown_set (grown_drewN hgr _) _ _⟩
    case measure => simp [intOf]; omega
  ·obtain rfl : k = l := by omega
   have hT := trim_any (some ⟨w.heap.size, 0, none⟩) k w.heap.size 0 S wr (by omega) (by omega) (fun _ => rfl) hb.cells
   rw [h4] at hT
   have hB : Below w.heap.size w wr := grown_below hB1 hgr (Nat.le_refl _) hB1.size
   have hb9 := Lib.hid hb
   have HT := Lib.hid hT
   clear h4 hT hb
   go_wp2_with fail
   refine HT.out.mono ?_
   rintro e w4 ⟨rfl, rfl⟩
   go_wp2_with fail
   go_ret
   have hk' := HK.out
   rw [hk']
   exact ⟨rfl, hb9.out, hB⟩
theorem factor_ok {v : Nat} (h0 : 0 < v) (h1 : v < 1000000000) : 0 < 1000000000 / (v + 1) ∧ 1000000000 / (v + 1) < 1000000000 ∧ 1000000000 ≤ 4 * (1000000000 / (v + 1) * v) ∧ 1000000000 / (v + 1) * (v + 1) ≤ 1000000000 := by
 have h2 := Nat.div_add_mod 1000000000 (v + 1)
 have h3 := Nat.mod_lt 1000000000 (show v + 1 > 0 by omega)
 have h4 : 0 < 1000000000 / (v + 1) := Nat.div_pos (by omega) (by omega)
 have h5 : 1000000000 / (v + 1) < 1000000000 := Nat.div_lt_self (by omega) (by omega)
 rw [Nat.mul_comm] at h2
 generalize 1000000000 / (v + 1) = f at *
 generalize 1000000000 % (v + 1) = r at *
 have h6 : f * (v + 1) = f * v + f := by rw [Nat.mul_add, Nat.mul_one]
 have h7 : 1 * v ≤ f * v := Nat.mul_le_mul_right _ h4
 have h8 : f * 1 ≤ f * v := Nat.mul_le_mul_left _ h0
 refine ⟨h4, h5, ?_, by omega⟩
 omega
theorem canon_len_ge {L : List Nat} (hL : Lim L) {n : Nat} (h : 1000000000 ^ n ≤ val9 L) : n < L.length := by
 rcases Nat.lt_or_ge n L.length with h1 | h1
 ·exact h1
 ·have h2 := valB_lt hL
  have h3 : (1000000000 : Nat) ^ L.length ≤ 1000000000 ^ n := Nat.pow_le_pow_right (by omega) h1
  unfold val9 at h
  omega
theorem canon_len_le {L : List Nat} (hL : Canon L) {n : Nat} (h : val9 L < 1000000000 ^ n) : L.length ≤ n := by
 rcases Nat.lt_or_ge n L.length with h1 | h1
 ·exfalso
  have h2 := hL.top (by omega)
  exact h2 (val_small h _ (by omega))
 ·exact h1
theorem val_top {L : List Nat} {n : Nat} (h : L.length = n) (hn : 0 < n) : val9 L = val9 (L.take (n - 1)) + 1000000000 ^ (n - 1) * nth L (n - 1) := by
 have h1 := valB_take_succ 1000000000 L (n - 1) (by omega)
 rw [show n - 1 + 1 = n by omega, List.take_of_length_le (by omega)] at h1
 exact h1
theorem divisor_ok {D0 D : List Nat} {n f : Nat} (hD0 : Lim D0) (hn : D0.length = n) (hn0 : 0 < n) (htop : 0 < nth D0 (n - 1)) (hf : f = 1000000000 / (nth D0 (n - 1) + 1)) (hD : Canon D) (hv : val9 D = val9 D0 * f) :
  D.length = n ∧ 1000000000 ≤ 4 * nth D (n - 1) := by
 obtain ⟨f1, f2, f3, f4⟩ := factor_ok htop (hD0.nth (n - 1))
 rw [← hf] at f1 f2 f3 f4
 have h1 := val_top hn hn0
 have h2 := valB_lt (hD0.take (n - 1))
 rw [List.length_take, hn, Nat.min_eq_left (by omega)] at h2
 have hT : 0 < (1000000000 : Nat) ^ (n - 1) := Nat.pow_pos (by omega)
 have hlo : 1000000000 ^ (n - 1) * (f * nth D0 (n - 1)) ≤ val9 D := by
  rw [hv, h1, Nat.add_mul]
  have e : 1000000000 ^ (n - 1) * (f * nth D0 (n - 1)) = 1000000000 ^ (n - 1) * nth D0 (n - 1) * f := by rw [Nat.mul_comm f, Nat.mul_assoc]
  omega
 have hhi : val9 D < 1000000000 ^ n := by
  have e1 : val9 D0 < 1000000000 ^ (n - 1) * (nth D0 (n - 1) + 1) := by rw [Nat.mul_add, Nat.mul_one, h1]; unfold val9; omega
  have e2 : val9 D0 * f < 1000000000 ^ (n - 1) * (nth D0 (n - 1) + 1) * f := Nat.mul_lt_mul_of_pos_right e1 f1
  have e3 : 1000000000 ^ (n - 1) * (f * (nth D0 (n - 1) + 1)) ≤ 1000000000 ^ (n - 1) * 1000000000 := Nat.mul_le_mul_left _ f4
  have e4 : 1000000000 ^ (n - 1) * (f * (nth D0 (n - 1) + 1)) = 1000000000 ^ (n - 1) * (nth D0 (n - 1) + 1) * f := by rw [Nat.mul_comm f, Nat.mul_assoc]
  have e5 : (1000000000 : Nat) ^ n = 1000000000 ^ (n - 1) * 1000000000 := by rw [← Nat.pow_succ]; congr 1; omega
  rw [hv, e5]
  omega
 have hlen1 := canon_len_le hD hhi
 have hlen2 : n - 1 < D.length := canon_len_ge hD.lim (Nat.le_trans (by
  have : 1000000000 ^ (n - 1) * 1 ≤ 1000000000 ^ (n - 1) * (f * nth D0 (n - 1)) := Nat.mul_le_mul_left _ (by omega)
  omega) hlo)
 have hlen : D.length = n := by omega
 refine ⟨hlen, ?_⟩
 have h3 := val_top hlen hn0
 have h4 := valB_lt (hD.lim.take (n - 1))
 rw [List.length_take, hlen, Nat.min_eq_left (by omega)] at h4
 have h5 : 1000000000 ^ (n - 1) * (f * nth D0 (n - 1)) < 1000000000 ^ (n - 1) * (nth D (n - 1) + 1) := by
  rw [Nat.mul_add, Nat.mul_one]; unfold val9 at *; omega
 have h6 := Nat.lt_of_mul_lt_mul_left h5
 omega
structure DivInv (X F la n j : Nat) (R Q : List Nat) : Prop where
 rl : R.length = la + 1
 ql : Q.length = la - n + 1
 lr : Lim R
 lq : Lim Q
 val : val9 R + X * val9 Q = F
 lt : val9 R < X * 1000000000 ^ j
 zero : ∀ k, k < j → nth Q k = 0
theorem div_start {L Ra D0 : List Nat} {f la n : Nat} (hL : Lim L) (hla : L.length = la) (hn : D0.length = n) (hn0 : 0 < n) (hnl : n ≤ la) (htop : 0 < nth D0 (n - 1)) (hf : 0 < f) (hRl : Ra.length ≤ la + 1) (hRa : Lim Ra) (hv : val9 Ra = val9 L * f) {X : Nat} (hX : X = val9 D0 * f) :
  DivInv X (val9 L * f) la n (la - n + 1) (splice (List.replicate (la + 1) 0) 0 Ra) (List.replicate (la - n + 1) 0) := by
 have hs : splice (List.replicate (la + 1) 0) 0 Ra = Ra ++ List.replicate (la + 1 - Ra.length) 0 := by simp [splice]
 have hvs : val9 (splice (List.replicate (la + 1) 0) 0 Ra) = val9 Ra := by
  rw [hs]; unfold val9; rw [valB_append, valB_zeros]; omega
 refine ⟨by rw [hs]; simp; omega, by simp, ?_, ?_, ?_, ?_, fun k _ => nth_zeros _ _⟩
 ·rw [hs]
  intro d hd
  rcases List.mem_append.1 hd with h | h
  ·exact hRa d h
  ·have := (List.mem_replicate.1 h).2; omega
 ·intro d hd
  have := (List.mem_replicate.1 hd).2; omega
 ·rw [hvs, hv]; unfold val9; rw [valB_zeros]; simp
 ·rw [hvs, hv, hX]
  have h1 := valB_lt hL
  rw [hla] at h1
  have h2 := val_top hn hn0
  have h3 : 1000000000 ^ (n - 1) * 1 ≤ 1000000000 ^ (n - 1) * nth D0 (n - 1) := Nat.mul_le_mul_left _ htop
  have h4 : 1000000000 ^ (n - 1) ≤ val9 D0 := by omega
  have h5 : 1000000000 ^ (n - 1) * 1000000000 ^ (la - n + 1) ≤ val9 D0 * 1000000000 ^ (la - n + 1) := Nat.mul_le_mul_right _ h4
  rw [← Nat.pow_add, show n - 1 + (la - n + 1) = la by omega] at h5
  have h6 : val9 L * f < val9 D0 * 1000000000 ^ (la - n + 1) * f := Nat.mul_lt_mul_of_pos_right (by unfold val9 at *; omega) hf
  have e : val9 D0 * f * 1000000000 ^ (la - n + 1) = val9 D0 * 1000000000 ^ (la - n + 1) * f := by rw [Nat.mul_assoc, Nat.mul_comm f, Nat.mul_assoc]
  rw [e]
  exact h6
theorem div_round {X F la n i : Nat} {R R2 Q D : List Nat} (h : DivInv X F la n (i + 1) R Q) (hi : i < la - n + 1) (hX : val9 D = X) (hX0 : 0 < X) (hr : Lim R2) (hrl : R2.length = R.length) (hv : val9 R2 + 1000000000 ^ i * (digQ i D R * val9 D) = val9 R) :
  digQ i D R < 1000000000 ∧ DivInv X F la n i R2 (Q.set i (digQ i D R)) := by
 subst hX
 obtain ⟨h1, h2⟩ := dig_less (i := i) (V := val9 R) (X := val9 D) (N := val9 R2) hX0 h.lt hv
 change digQ i D R < 1000000000 at h2
 refine ⟨h2, by rw [hrl]; exact h.rl, by rw [List.length_set]; exact h.ql, hr, h.lq.set _ h2, ?_, h1, fun k hk => ?_⟩
 ·have h3 := valB_set 1000000000 Q i (digQ i D R) (by rw [h.ql]; exact hi)
  rw [h.zero i (by omega), Nat.mul_zero, Nat.add_zero] at h3
  have h4 := h.val
  unfold val9 at *
  rw [h3]
  generalize digQ i D R = q at *
  generalize valB 1000000000 R2 = r2 at *
  generalize valB 1000000000 R = r at *
  generalize valB 1000000000 D = x at *
  generalize valB 1000000000 Q = y at *
  generalize (1000000000 : Nat) ^ i = t at *
  rw [Nat.mul_add]
  have e : x * (t * q) = t * (q * x) := by rw [Nat.mul_comm x, Nat.mul_assoc]
  omega
 ·rw [nth_set_ne (by omega)]; exact h.zero k (by omega)
theorem div_end {a b f R X Q q2 r2 : Nat} (hf : 0 < f) (hX : X = b * f) (h1 : R + X * Q = a * f) (h2 : R < X) (h3 : q2 * f + r2 = R) (h4 : r2 < f) : Q * b + q2 = a ∧ q2 < b := by
 subst hX
 have e1 : b * f * Q = (Q * b) * f := by rw [Nat.mul_comm (b * f), Nat.mul_assoc]
 rw [e1] at h1
 have h5 : Q * b ≤ a := by
  rcases Nat.lt_or_ge a (Q * b) with h | h
  ·exfalso
   have : a * f < Q * b * f := Nat.mul_lt_mul_of_pos_right h hf
   omega
  ·exact h
 obtain ⟨t, rfl⟩ : ∃ t, a = Q * b + t := ⟨a - Q * b, by omega⟩
 rw [Nat.add_mul] at h1
 have h6 : R = t * f := by omega
 have h7 : q2 = t := by
  have e2 : R / f = t := by rw [h6]; exact Nat.mul_div_cancel _ hf
  have e3 : R / f = q2 := Nat.div_eq_of_lt_le (by omega) (by rw [Nat.add_mul]; omega)
  omega
 subst h7
 refine ⟨rfl, ?_⟩
 rw [h6] at h2
 exact Nat.lt_of_mul_lt_mul_right h2
structure DlInv (b : Nat) (L M : List Nat) (j r : Nat) : Prop where
 len : M.length = L.length
 low : ∀ k, k < j → nth M k = nth L k
 val : val9 (M.drop j) * b + r = val9 (L.drop j)
 lt : r < b
 lim : Lim M
theorem dl_step {b : Nat} {L M : List Nat} {j r : Nat} (hb : b < 1000000000) (hj : j < L.length) (hL : Lim L) (h : DlInv b L M (j + 1) r) :
  (r * 1000000000 + nth L j) / b < 1000000000 ∧ DlInv b L (M.set j ((r * 1000000000 + nth L j) / b)) j ((r * 1000000000 + nth L j) % b) := by
 have hb0 : 0 < b := by have := h.lt; omega
 have h1 : (r * 1000000000 + nth L j) / b < 1000000000 := by
  rw [Nat.div_lt_iff_lt_mul hb0]
  have h2 := h.lt
  have h3 := hL.nth j
  have h4 : (r + 1) * 1000000000 ≤ b * 1000000000 := Nat.mul_le_mul_right _ h2
  omega
 refine ⟨h1, by simp [h.len], fun k hk => ?_, ?_, Nat.mod_lt _ hb0, h.lim.set _ h1⟩
 ·rw [nth_set_ne (by omega)]; exact h.low k (by omega)
 ·rw [valB_drop9 (M.set j _) j, nth_set_eq (by rw [h.len]; exact hj), drop_set_low (by omega), valB_drop9 L j, ← h.val]
  have h5 := Nat.div_add_mod (r * 1000000000 + nth L j) b
  generalize (r * 1000000000 + nth L j) / b = x at *
  generalize (r * 1000000000 + nth L j) % b = y at *
  generalize val9 (M.drop (j + 1)) = v at *
  generalize nth L j = l at *
  clear h1 h hb hj hL hb0
  grind
theorem dl_start {b : Nat} {L : List Nat} (hL : Lim L) (hb : 0 < b) : DlInv b L L L.length 0 :=
 ⟨rfl, fun _ _ => rfl, by rw [List.drop_eq_nil_of_le (Nat.le_refl _)]; simp [valB], hb, hL⟩
theorem dl_end {b : Nat} {L M : List Nat} {r : Nat} (h : DlInv b L M 0 r) : val9 M * b + r = val9 L := by simpa using h.val
set_option maxRecDepth 20000 in
set_option maxHeartbeats 1600000 in
theorem divLimb_any (A : Option Addr) (c b : Nat) (L : List Nat) (w : World) (hl : L.length ≤ 1000000) (hL : Lim L) (hb0 : 0 < b) (hb : b < 1000000000) (hR : Row .u32 w w.heap.size A c L) :
  Calls Tryz.prog 157 #[.slice A L.length c, .int .u32 b] w fun e w' => ∃ A1 c1 Q A2 c2 R, e = .returned (.tuple #[.slice A1 (List.length Q) c1, .slice A2 (List.length R) c2]) ∧
   Row .u32 w' w'.heap.size A1 c1 Q ∧ Row .u32 w' w'.heap.size A2 c2 R ∧ Canon Q ∧ Canon R ∧ val9 Q * b + val9 R = val9 L ∧ val9 R < b ∧ List.length Q ≤ L.length ∧ List.length R ≤ 1 ∧ Below w.heap.size w w' := by
 have hCp := fun W h => copied_any A c L W (by omega) h
 have hst := dl_start (b := b) hL hb0
 generalize hl' : L.length = l at *
 have HL := Lib.hid hl'
 have HCp := Lib.hid hCp
 have HST := Lib.hid hst
 clear hl' hCp hst
 go_enter Tryz.func157, Tryz.ntmps157
 go_wp2_with fail
 refine (HCp.out _ hR).mono ?_
 rintro e w1 ⟨rfl, hb1, hB1⟩
 have hg := hb1.lt
 go_wp2_with fail
 go_loopw [6, 7] (fun rv iv wr => ∃ j M r, j ≤ l ∧ iv = .int .i64 ((j : Int) - 1) ∧ rv = .int .u64 (r : Nat) ∧ Blk .u32 104 wr w.heap.size M ∧ Hid (DlInv b L M j r) ∧ w1.grownBy wr (some w.heap.size)) (fun _ iv _ => (intOf iv + 1).toNat)
 case atStart => exact ⟨l, L, 0, Nat.le_refl _, rfl, rfl, hb1, HST.out, grown_refl _ _⟩
 case round =>
  obtain ⟨j, M, r, hj, rfl, rfl, hbk, hin, hgr⟩ := hrel
  rcases Nat.eq_zero_or_pos j with rfl | hpos
  ·have hv := dl_end hin.out
   have hlen := hin.out.len
   have hlim := hin.out.lim
   have hrb : r < b := hin.out.lt
   clear hin
   rw [HL.out] at hlen
   have hT := trim_any (some ⟨w.heap.size, 0, none⟩) l w.heap.size 0 M wr (by omega) (by omega) (fun _ => rfl) hbk.cells
   rw [hlen] at hT
   have HT := Lib.hid hT
   have HV := Lib.hid hv
   have HLEN := Lib.hid hlen
   clear hT hv hlen
   go_wp2_with fail
   refine HT.out.mono ?_
   rintro e w4 ⟨rfl, rfl⟩
   go_wp2_with fail
   have hb2 : Blk .u32 104 (wr.alloc (.cells #[.int .u32 r] 104)) wr.heap.size [r] := by
    show _ = _
    rw [heap_alloc_new]; rfl
   have hT2 := trim_any (some ⟨wr.heap.size, 0, none⟩) 1 wr.heap.size 0 [r] _ (by simp) (by simp) (fun _ => rfl) hb2.cells
   have HT2 := Lib.hid hT2
   have hbm := hbk.alloc (.cells #[.int .u32 r] 104)
   have HB2 := Lib.hid hb2
   have HBM := Lib.hid hbm
   clear hT2 hb2 hbm hbk
   refine HT2.out.mono ?_
   rintro e w5 ⟨rfl, rfl⟩
   go_wp2_with fail
   go_ret2
   have hw5 : (wr.alloc (.cells #[.int .u32 r] 104)).heap.size = wr.heap.size + 1 := by simp
   obtain ⟨Q, q1, q2, q3, q4⟩ := trim_pack (B := wr.heap.size + 1) (c := l) HBM.out hlim (by have := HBM.out.lt; rw [hw5] at this; exact this) (by rw [HLEN.out]; exact Nat.le_refl _)
   obtain ⟨R, r1, r2, r3, r4⟩ := trim_pack (B := wr.heap.size + 1) (c := 1) HB2.out (fun d hd => by rw [List.mem_singleton] at hd; omega) (Nat.lt_succ_self _) (by simp)
   rw [HLEN.out] at q1
   rw [hw5]
   have hv1 : val9 [r] = r := by simp [valB]
   have t1 := trimN_le M l
   have t2 := trimN_le [r] 1
   refine ⟨_, _, Q, _, _, R, by rw [q1, r1]; rfl, q2, r2, q3, r3, by rw [q4, r4, hv1]; exact HV.out, by rw [r4, hv1]; exact hrb, by omega, by rw [r1]; exact t2, ?_⟩
   exact (grown_below hB1 hgr (Nat.le_refl _) hB1.size).alloc (by have := hgr.size; have := hB1.size; omega) _
  ·obtain ⟨m, rfl⟩ : ∃ m, j = m + 1 := ⟨j - 1, by omega⟩
   have hm1 : ((m + 1 : Nat) : Int) - 1 = m := by omega
   have hs := dl_step hb (by rw [HL.out]; omega) hL hin.out
   have hlo := hin.out.low m (by omega)
   have hc := hbk.cell m (by rw [hin.out.len, HL.out]; omega)
   rw [hlo] at hc
   have hfr := hbk.frozen m
   have hr : r < b := hin.out.lt
   have hx := hL.nth m
   generalize nth L m = x at *
   have hq1 : (((r : Int) * 1000000000 + x) / b) ≤ 999999999 := by
    have := hs.1
    have e : (((r * 1000000000 + x) / b : Nat) : Int) = ((r : Int) * 1000000000 + x) / b := by simp
    omega
   have hq0 : 0 ≤ (((r : Int) * 1000000000 + x) / b) := Int.ediv_nonneg (by omega) (by omega)
   have HS := Lib.hid hs
   clear hs hlo hm1
   go_wp2
   go_roundw
   case rel =>
    have e1 := hbk.setI m (v := ((r : Int) * 1000000000 + x) / b) (x := (r * 1000000000 + x) / b) (by simp)
    exact ⟨m, _, _, by omega, rfl, by simp, e1, HS.out.2, grown_set hgr _ _⟩
   case measure => simp [intOf]
structure EsInv (H p f s d r : Nat) : Prop where
 eq : d * f + r = H
 up : H * 1000000000 + p < (d + 1) * (f * 1000000000 + s)
 r5 : r < 5000000000
theorem es_start {H p f s : Nat} (hf : 0 < f) (hf2 : f < 1000000000) (hp : p < 1000000000) : EsInv H p f s (H / f) (H % f) := by
 have h1 := Nat.div_add_mod H f
 have h2 := Nat.mod_lt H hf
 refine ⟨by rw [Nat.mul_comm]; exact h1, ?_, by omega⟩
 have h3 : H + 1 ≤ (H / f + 1) * f := by rw [Nat.add_mul, Nat.mul_comm]; omega
 have h4 : (H + 1) * 1000000000 ≤ (H / f + 1) * f * 1000000000 := Nat.mul_le_mul_right _ h3
 rw [Nat.mul_add, ← Nat.mul_assoc]
 omega
theorem es_d {H p f s d r : Nat} (h : EsInv H p f s d r) (hH : H < 1000000000000000000) (hf : 1000000000 ≤ 4 * f) : d ≤ 4000000000 := by
 have h1 := h.eq
 rcases Nat.lt_or_ge 4000000000 d with h2 | h2
 ·exfalso
  have h3 : 4000000001 * f ≤ d * f := Nat.mul_le_mul_right _ h2
  omega
 ·exact h2
theorem es_lin {x r H p y : Nat} (h : x + r = H) (hc : r * 1000000000 + p < y) : H * 1000000000 + p < x * 1000000000 + y := by
 subst h
 rw [Nat.add_mul, Nat.add_assoc]
 exact Nat.add_lt_add_left hc _
theorem es_step {H p f s d r : Nat} (h : EsInv H p f s d r) (hc : r * 1000000000 + p < d * s) (hd : d ≤ 4000000000) (hs : s < 1000000000) (hf : f < 1000000000) : 0 < d ∧ EsInv H p f s (d - 1) (r + f) := by
 have h0 : 0 < d := by
  rcases Nat.eq_zero_or_pos d with h0 | h0
  ·subst h0; omega
  ·exact h0
 obtain ⟨e, rfl⟩ : ∃ e, d = e + 1 := ⟨d - 1, by omega⟩
 refine ⟨h0, ?_, ?_, ?_⟩
 ·have := h.eq
  rw [Nat.add_mul] at this
  simp; omega
 ·have := h.eq
  rw [Nat.add_sub_cancel]
  have e1 : (e + 1) * (f * 1000000000 + s) = ((e + 1) * f) * 1000000000 + (e + 1) * s := by rw [Nat.mul_add, Nat.mul_assoc]
  obtain ⟨x, hx⟩ : ∃ x, (e + 1) * f = x := ⟨_, rfl⟩
  obtain ⟨y, hy⟩ : ∃ y, (e + 1) * s = y := ⟨_, rfl⟩
  rw [e1, hx, hy]
  rw [hx] at this
  rw [hy] at hc
  exact es_lin this hc
 ·have h1 := Nat.mul_le_mul_right s hd
  obtain ⟨y, hy⟩ : ∃ y, (e + 1) * s = y := ⟨_, rfl⟩
  rw [hy] at h1 hc
  clear hy
  omega
theorem es_end {H p f s d r : Nat} (h : EsInv H p f s d r) (hc : d * s ≤ r * 1000000000 + p) : (H * 1000000000 + p) / (f * 1000000000 + s) = d := by
 refine Nat.div_eq_of_lt_le ?_ h.up
 have h1 := h.eq
 have e1 : d * (f * 1000000000 + s) = (d * f) * 1000000000 + d * s := by rw [Nat.mul_add, Nat.mul_assoc]
 obtain ⟨x, hx⟩ : ∃ x, d * f = x := ⟨_, rfl⟩
 rw [e1, hx]
 rw [hx] at h1
 clear e1 hx
 omega
set_option maxRecDepth 20000 in
set_option maxHeartbeats 3200000 in
theorem estimate_any (g i m c : Nat) (A' : Option Addr) (c' : Nat) (M D : List Nat) (w : World) (hm : i + m + 3 ≤ M.length) (hml : M.length ≤ 2000000) (hD : D.length = m + 2) (_hc3 : m + 3 ≤ c)
    (hM : Lim M) (hDl : Lim D) (h4 : 1000000000 ≤ 4 * nth D (m + 1)) (hblk : Blk .u32 104 w g M) (hR : Row .u32 w w.heap.size A' c' D) :
    Calls Tryz.prog 188 #[.slice (some ⟨g, i, none⟩) (m + 3 : Nat) c, .slice A' (m + 2 : Nat) c'] w fun e w' => e = .returned (.int .u64 ((top3 M (i + m) / top2 D (m + 2) : Nat) : Int)) ∧ ∃ nq, w' = w.drewN nq := by
  obtain ⟨b, o, rfl, hbB, hcs⟩ := hR.spot (by omega)
  have k1 := hblk.cell (i + (m + 2)) (by omega)
  have k2 := hblk.cell (i + (m + 1)) (by omega)
  have k3 := hblk.cell (i + m) (by omega)
  have k4 := hcs (m + 1) (by omega)
  have k5 := hcs m (by omega)
  have x1 := hM.nth (i + (m + 2))
  have x2 := hM.nth (i + (m + 1))
  have x3 := hM.nth (i + m)
  have x4 := hDl.nth (m + 1)
  have x5 := hDl.nth m
  have hgoal : Hid (top3 M (i + m) / top2 D (m + 2) = ((nth M (i + (m + 2)) * 1000000000 + nth M (i + (m + 1))) * 1000000000 + nth M (i + m)) / (nth D (m + 1) * 1000000000 + nth D m)) := rfl
  have hc' := hR.len
  rw [hD] at hc'
  generalize top3 M (i + m) / top2 D (m + 2) = G at *
  generalize nth M (i + (m + 2)) = p2 at *
  generalize nth M (i + (m + 1)) = p1 at *
  generalize nth M (i + m) = p0 at *
  generalize nth D (m + 1) = f at *
  generalize nth D m = s at *
  have b1 : (0 : Int) ≤ (m : Int) + 2 := by omega
  have b2 : (m : Int) + 2 < (m : Int) + 3 := by omega
  have b3 : (m : Int) + 2 - 1 = (m : Int) + 1 := by omega
  have b4 : (m : Int) + 2 - 2 = (m : Int) := by omega
  clear hcs hR
  go_enter Tryz.func188, Tryz.ntmps188
  go_wp2
  go_quiet (fail)
  go_wp2
  have hH : ((p2 : Int) * 1000000000 + p1) = ((p2 * 1000000000 + p1 : Nat) : Int) := by simp
  rw [hH]
  clear hH
  have hH2 : p2 * 1000000000 + p1 < 1000000000000000000 := by omega
  obtain ⟨H, hHe⟩ : ∃ H : Nat, p2 * 1000000000 + p1 = H := ⟨_, rfl⟩
  have HG := Lib.hid hgoal.out
  clear hgoal
  rw [hHe]
  rw [hHe] at hH2
  have HHE := Lib.hid hHe
  clear hHe
  have hst := es_start (H := H) (p := p0) (f := f) (s := s) (by omega) x4 x3
  have hf0 : (f : Int) ≠ 0 := by omega
  have hb1 : (0 : Int) ≤ (H : Int) / (f : Int) := Int.ediv_nonneg (by omega) (by omega)
  have hb2 : (H : Int) / (f : Int) ≤ 4000000000 := by
    have := es_d hst hH2 h4
    have e : ((H / f : Nat) : Int) = (H : Int) / (f : Int) := by simp
    omega
  have HST := Lib.hid hst
  clear hst
  go_quiet (fail)
  go_wp2
  go_quiet (fail)
  go_wp2
  go_loop [9, 10] (fun dv rv => ∃ d r : Nat, dv = .int .u64 (d : Int) ∧ rv = .int .u64 (r : Int) ∧ Hid (EsInv H p0 f s d r)) (fun dv _ => (intOf dv).toNat)
  case atStart => exact ⟨H / f, H % f, by simp, by simp, HST.out⟩
  case round =>
    obtain ⟨d, r, rfl, rfl, hin⟩ := hrel
    have hd4 := es_d hin.out hH2 h4
    have hr5 := hin.out.r5
    have hds : (d : Int) * (s : Int) ≤ 4000000000000000000 := by
      have h1 := Nat.mul_le_mul hd4 (Nat.le_of_lt x5)
      have e : ((d * s : Nat) : Int) = (d : Int) * (s : Int) := by simp
      omega
    have hds0 := mul_nonnegI d s
    by_cases hc : (r : Int) * 1000000000 + p0 < (d : Int) * s
    · have hs := es_step hin.out (by have e : ((d * s : Nat) : Int) = (d : Int) * (s : Int) := by simp
                                     omega) hd4 x5 x4
      have hd0 := hs.1
      have HS := Lib.hid hs.2
      clear hs hin
      go_wp2
      go_round
      case rel => exact ⟨d - 1, by omega, r + f, by simp, HS.out⟩
      case measure => simp [intOf]; omega
    · have he := es_end hin.out (by have e : ((d * s : Nat) : Int) = (d : Int) * (s : Int) := by simp
                                    omega)
      have HE := Lib.hid he
      clear he hin
      go_wp2
      go_ret
      exact ⟨ret_int (by rw [HG, HHE.out, HE.out]), ⟨_, rfl⟩⟩
set_option maxRecDepth 20000 in
set_option maxHeartbeats 3200000 in
theorem subMul_any (g o n c d : Nat) (A' : Option Addr) (c' : Nat) (M D : List Nat) (w : World) (hn : o + n ≤ M.length) (hm : M.length ≤ 3000000) (hl : D.length ≤ 1000000) (hd : d ≤ 4000000000)
  (hM : Lim M) (hD : Lim D) (hblk : Blk .u32 104 w g M) (hR : Row .u32 w g A' c' D) :
  Calls Tryz.prog 189 #[.slice (some ⟨g, o, none⟩) n c, .slice A' D.length c', .int .u64 (d : Int)] w fun e w' => e = .returned (.bool (decide ((smSt o d D M n).2 = 0))) ∧ Blk .u32 104 w' g (smSt o d D M n).1 ∧ w.grownBy w' (some g) := by
 generalize hl' : D.length = l at *
 have HL := Lib.hid hl'
 clear hl'
 go_enter Tryz.func189, Tryz.ntmps189
 go_wp2
 go_loopw [7, 12] (fun cv iv wr => ∃ k : Nat, k ≤ n ∧ iv = .int .i64 k ∧ cv = .int .u64 ((smSt o d D M k).2 : Int) ∧ Blk .u32 104 wr g (smSt o d D M k).1 ∧ w.grownBy wr (some g)) (fun _ iv _ => n - (intOf iv).toNat)
 case atStart => exact ⟨0, Nat.zero_le _, rfl, rfl, hblk, grown_refl _ _⟩
 case round =>
  obtain ⟨k, hk, rfl, rfl, hb, hgr⟩ := hrel
  obtain ⟨h1, h2, h3⟩ := smSt_ok (o := o) (d := d) hD hM k
  have HS := Lib.hid (smSt_succ o d D M k)
  generalize hs : smSt o d D M k = s at *
  have HK := Lib.hid hs
  clear hs
  obtain ⟨S, x⟩ := s
  dsimp only at *
  by_cases hlt : k < n
  ·have hc := hb.cell (o + k) (by omega)
   have hfr := hb.frozen (o + k)
   have b1 := h1.nth (o + k)
   have b2 := hD.nth k
   by_cases hkl : k < l
   ·obtain ⟨b', o', rfl, hbg, hcell'⟩ := hR.spot (by rw [HL.out]; omega)
    have hc' := (hcell'.grown hgr (by have := hblk.lt; omega) (by intro e; injection e; omega)) k (by rw [HL.out]; exact hkl)
    have b3 := mul_nonnegI d (nth D k)
    have b4 : (d : Int) * (nth D k : Int) ≤ 4000000000000000000 := by
     have h1 := Nat.mul_le_mul hd (Nat.le_of_lt b2)
     have e : ((d * nth D k : Nat) : Int) = (d : Int) * (nth D k : Int) := by simp
     omega
    have hcast : (((x + d * nth D k : Nat) : Int)) = (x : Int) + (d : Int) * (nth D k : Int) := by simp
    have HCAST := Lib.hid hcast
    clear hcell' hcast
    by_cases hbo : (nth S (o + k) : Int) < ((x : Int) + (d : Int) * (nth D k : Int)) % 1000000000
    ·go_wp2
     go_roundw
     case rel =>
      have E := HS.out
      have hbn : nth S (o + k) < (x + d * nth D k) % 1000000000 := by rw [← HCAST.out] at hbo; omega
      rw [if_pos hbn] at E
      have e1 := (hb.setI (o + k) (v := (nth S (o + k) : Int) + 1000000000) (x := nth S (o + k) + 1000000000) (by omega)).setI (o + k) (v := (nth S (o + k) : Int) + 1000000000 - ((x : Int) + (d : Int) * (nth D k : Int)) % 1000000000) (x := nth S (o + k) + 1000000000 - (x + d * nth D k) % 1000000000) (by rw [← HCAST.out]; omega)
      rw [List.set_set] at e1
      exact ⟨k + 1, by omega, by go_num, by rw [E]; simp, by rw [E]; exact e1, grown_set (grown_set hgr _ _) _ _⟩
     case measure => simp [intOf]; omega
    ·go_wp2
     go_roundw
     case rel =>
      have E := HS.out
      have hbn : ¬ nth S (o + k) < (x + d * nth D k) % 1000000000 := by rw [← HCAST.out] at hbo; omega
      rw [if_neg hbn] at E
      have e1 := hb.setI (o + k) (v := (nth S (o + k) : Int) - ((x : Int) + (d : Int) * (nth D k : Int)) % 1000000000) (x := nth S (o + k) - (x + d * nth D k) % 1000000000) (by rw [← HCAST.out]; omega)
      exact ⟨k + 1, by omega, by go_num, by rw [E]; simp, by rw [E]; exact e1, grown_set hgr _ _⟩
     case measure => simp [intOf]; omega
   ·have hz : nth D k = 0 := nth_ge (by rw [HL.out]; omega)
    have HZ := Lib.hid hz
    clear hz
    by_cases hbo : (nth S (o + k) : Int) < (x : Int) % 1000000000
    ·go_wp2
     go_roundw
     case rel =>
      have E := HS.out
      simp only [HZ.out, Nat.mul_zero, Nat.add_zero] at E
      rw [if_pos (by omega)] at E
      have e1 := (hb.setI (o + k) (v := (nth S (o + k) : Int) + 1000000000) (x := nth S (o + k) + 1000000000) (by omega)).setI (o + k) (v := (nth S (o + k) : Int) + 1000000000 - (x : Int) % 1000000000) (x := nth S (o + k) + 1000000000 - x % 1000000000) (by omega)
      rw [List.set_set] at e1
      exact ⟨k + 1, by omega, by go_num, by rw [E]; simp, by rw [E]; exact e1, grown_set (grown_set hgr _ _) _ _⟩
     case measure => simp [intOf]; omega
    ·go_wp2
     go_roundw
     case rel =>
      have E := HS.out
      simp only [HZ.out, Nat.mul_zero, Nat.add_zero] at E
      rw [if_neg (by omega)] at E
      have e1 := hb.setI (o + k) (v := (nth S (o + k) : Int) - (x : Int) % 1000000000) (x := nth S (o + k) - x % 1000000000) (by omega)
      exact ⟨k + 1, by omega, by go_num, by rw [E]; simp, by rw [E]; exact e1, grown_set hgr _ _⟩
     case measure => simp [intOf]; omega
  ·obtain rfl : k = n := by omega
   go_wp2
   go_ret
   exact ⟨by rw [HK.out]; by_cases hx : x = 0 <;> simp [hx], by rw [HK.out]; exact hb, hgr⟩
theorem wpList_copy_row2 {P : Program} {w : World} {ops : Array Oper} {rest : List Oper} {o : Oper} {a : Act} {Q : Exit → Act → World → Prop} (hgd : o.guard = none) (d s : Operand) (dT sT : TypeId)
  (ho : o.op = .call { callee := .builtin .copy, args := #[d, s], argTypes := #[dT, sT] }) (elem : TypeId) (hu : P.underlying dT = some (.slice elem)) (hsz : (P.info? elem).map (·.size) = some 1)
  (k : IntKind) (t : TypeId) (g dLen dCap sCap : Nat) (A : Option Addr) (M L : List Nat) (hd : a.eval d = .slice (some ⟨g, 0, none⟩) dLen dCap) (hs : a.eval s = .slice A L.length sCap)
  (hg : Blk k t w g M) {B : Nat} (hR : Row k w B A sCap L) (hfit : L.length ≤ dLen) (hM : dLen ≤ M.length)
  (h : ∀ w', Hid (Blk k t w' g (splice M 0 L)) → Below g w w' → wpList P ops Q rest (a.put o.dst (goInt L.length)) w') :
  wpList P ops Q (o :: rest) a w := by
 refine wpList_copy_splice hgd d s dT sT ho elem hu hsz (some ⟨g, 0, none⟩) A dLen dCap L.length sCap hd hs g 0 (M.map fun (d : Nat) => Value.int k (d : Int)) t hg (L.map fun (d : Nat) => Value.int k (d : Int)) ?_ ?_ ?_ ?_ g w (Below.refl _ _) (Nat.le_refl _) ?_
 ·simp only [List.length_map]; exact (Nat.min_eq_left hfit).symm
 ·intro hp
  refine ⟨rfl, ?_⟩
  obtain ⟨b, o, e, _, hc⟩ := hR.spot (by simpa using hp)
  refine ⟨_, e, fun j v hj => ?_⟩
  have hjl : j < L.length := by
   rcases Nat.lt_or_ge j L.length with h1 | h1
   ·exact h1
   ·rw [List.getElem?_eq_none (by simpa using h1)] at hj; cases hj
  have h2 := hc j hjl
  have h3 : v = .int k (nth L j) := by
   rw [List.getElem?_map, List.getElem?_eq_getElem hjl] at hj
   simp at hj
   rw [← hj, nth_lt hjl]
  rw [h3, ← h2]
  unfold Addr.add
  split
  ·rename_i h0; subst h0; simp
  ·rfl
 ·simpa using Nat.le_trans hfit hM
 ·intro v hv
  obtain ⟨d, _, rfl⟩ := List.mem_map.1 hv
  rfl
 ·intro w' h1 h2
  have h3 := h1.out
  rw [splice_map] at h3
  have h4 := h w' h3 h2
  simpa using h4
theorem blk_one (w : World) (f : Nat) : Blk .u32 104 (w.alloc (.cells #[.int .u32 f] 104)) w.heap.size [f] := by
 show _ = _
 rw [heap_alloc_new]; rfl
set_option maxRecDepth 20000 in
set_option maxHeartbeats 6400000 in
theorem divLong_any (A A' : Option Addr) (c c' m : Nat) (L M : List Nat) (w : World) (hl : L.length ≤ 400000) (hm : M.length = m + 2) (hml : m + 2 ≤ L.length) (hL : Lim L) (hM : Canon M)
  (hR : Row .u32 w w.heap.size A c L) (hR' : Row .u32 w w.heap.size A' c' M) :
  Calls Tryz.prog 158 #[.slice A L.length c, .slice A' M.length c'] w fun e w' => ∃ A1 c1 Q A2 c2 R, e = .returned (.tuple #[.slice A1 (List.length Q) c1, .slice A2 (List.length R) c2]) ∧
   Row .u32 w' w'.heap.size A1 c1 Q ∧ Row .u32 w' w'.heap.size A2 c2 R ∧ Canon Q ∧ Canon R ∧ val9 Q * val9 M + val9 R = val9 L ∧ val9 R < val9 M ∧ List.length Q ≤ L.length ∧ List.length R ≤ L.length + 1 ∧ Below w.heap.size w w' := by
 obtain ⟨i0, hi, hz0, hz1, hz2⟩ := info_parts info68
 obtain ⟨b, o, rfl, hbB, hcs⟩ := hR'.spot (by omega)
 have htop : 0 < nth M (m + 2 - 1) := Nat.pos_of_ne_zero (by have := hM.top (by omega); rw [hm] at this; exact this)
 have hv9 := hM.lim.nth (m + 2 - 1)
 have hcv := hcs (m + 1) (by omega)
 obtain ⟨f, hf⟩ : ∃ f, f = 1000000000 / (nth M (m + 2 - 1) + 1) := ⟨_, rfl⟩
 obtain ⟨f1, f2, f3, f4⟩ := factor_ok htop hv9
 rw [← hf] at f1 f2 f3 f4
 have hfe : (1000000000 : Int) / ((nth M (m + 1) : Int) + 1) = (f : Int) := by rw [hf]; simp
 have hmu1 := fun (W : World) (B : Option Addr) (d : Nat) h1 h2 => mult2 (some ⟨b, o, none⟩) B c' d M [f] W (by omega) (by simp) hM.lim (fun d hd => by rw [List.mem_singleton] at hd; omega) h1 h2
 have hmu2 := fun (W : World) (B : Option Addr) (d : Nat) h1 h2 => mult2 A B c d L [f] W (by omega) (by simp) hL (fun d hd => by rw [List.mem_singleton] at hd; omega) h1 h2
 have hx9 : nth M (m + 1) < 1000000000 := hv9
 have HMU1 := Lib.hid hmu1
 have HMU2 := Lib.hid hmu2
 have HTOP := Lib.hid htop
 have HF := Lib.hid hf
 have HF3 := Lib.hid f3
 have HF4 := Lib.hid f4
 clear hmu1 hmu2 htop hf f3 f4 hcs hv9
 generalize hl' : L.length = l at *
 have HL := Lib.hid hl'
 have HM := Lib.hid hm
 clear hl'
 rw [hm]
 clear hm
 have hlc := hR'.len
 rw [HM.out] at hlc
 go_enter Tryz.func158, Tryz.ntmps158
 go_wp2_with fail
 have hbF := blk_one w f
 have hbw0 := below_alloc_new (w := w) (.cells #[.int .u32 f] 104)
 have hsF : (w.alloc (.cells #[.int .u32 f] 104)).heap.size = w.heap.size + 1 := by simp
 have HRA := Lib.hid (hR.up hbw0)
 have HRB := Lib.hid (hR'.up hbw0)
 generalize w.alloc (.cells #[.int .u32 f] 104) = w0 at *
 clear hfe hcv hR hR'
 have HF0 := Lib.hid (Row.ofBlk (B := w0.heap.size) (c := 1) hbF hbF.lt (by simp))
 have h1 := HMU1.out _ _ _ HRB.out HF0.out
 rw [HM.out] at h1
 refine h1.mono ?_
 rintro e w1 ⟨gD, cD, D, rfl, hrD, hcD, hvD, hlD, hb1, hgD⟩
 have hv1 : val9 [f] = f := by simp [valB]
 rw [hv1] at hvD
 obtain ⟨hDl, hDt⟩ := divisor_ok hM.lim HM.out (by omega) HTOP.out HF.out hcD hvD
 have HVD := Lib.hid hvD
 have HDL := Lib.hid hDl
 have HDT := Lib.hid hDt
 have hb1F := hbF.below hb1 hbF.lt
 have HB1 := Lib.hid (hbw0.trans (Below.less hb1 hbw0.size))
 have HRA1 := Lib.hid (HRA.out.up hb1)
 have HRF1 := Lib.hid (HF0.out.up hb1)
 rw [hDl]
 have hs1 := hb1.size
 clear h1 hvD hDl hDt hbF hb1 hlD HRA HF0 HRB
 go_wp2_with (first
  | (refine wpList_make_zeros _ rfl (.tmp 26) (.tmp 26) 23 rfl 104 .u32 i0 4 Tryz.underlying23 hi hz0 hz1 hz2 .i64 .i64 _ _ (l + 1) rfl rfl (by omega) (by omega) (by omega) (by omega) ?_; intro w2 hb2 hB2 hs2)
  | fail)
 have hsw2 := hB2.size
 have h2 := HMU2.out _ _ _ (HRA1.out.up hB2) (HRF1.out.up hB2)
 refine h2.mono ?_
 rintro e w3 ⟨gA, cA, Ra, rfl, hrA, hcA, hvA, hlA, hb3, hgA⟩
 have hv1 : val9 [f] = f := by simp [valB]
 rw [hv1] at hvA
 have HB3 := Lib.hid (HB1.out.trans (Below.less (hB2.trans (Below.less hb3 hsw2)) HB1.out.size))
 have HRD := Lib.hid ((hrD.below hB2).below (Below.less hb3 hsw2))
 have HVA := Lib.hid hvA
 have hF3 := Lib.hid ((hb1F.below hB2 hb1F.lt).below hb3 (by have := hb1F.lt; omega))
 have hb2g := hb2.out.lt
 have hbR := hb2.out.below hb3 hb2g
 have HBR := Lib.hid hbR
 have hs3 := hb3.size
 have HRAn := Lib.hid hrA
 have hg1 : w.heap.size < w1.heap.size := hb1F.lt
 generalize hgR : w1.heap.size = gR at *
 have HGR := Lib.hid hgR
 clear hgR h2 hvA hb1F hb2 hbR hb3 hrD hrA hB2 HRA1 HRF1
 have hlA' : List.length Ra ≤ l + 1 := by simpa using hlA
 go_wp2_with (first
  | (refine wpList_copy_row2 rfl (.tmp 28) (.tmp 31) 23 23 rfl 104 Tryz.underlying23 size68 .u32 104 gR (l + 1) (l + 1) cA (some ⟨gA, 0, none⟩) (List.replicate (l + 1) 0) Ra rfl rfl HBR.out HRAn.out hlA' (by simp) ?_; intro w4 hb4 hB4)
  | (refine wpList_make_zeros _ rfl (.tmp 38) (.tmp 38) 23 rfl 104 .u32 i0 4 Tryz.underlying23 hi hz0 hz1 hz2 .i64 .i64 _ _ (l - (m + 2) + 1) rfl rfl (by omega) (by omega) (by omega) (by omega) ?_; intro w5 hb5 hB5 hs5)
  | fail)
 have hst := div_start (L := L) (Ra := Ra) (D0 := M) (f := f) (la := l) (n := m + 2) hL HL.out HM.out (by omega) hml HTOP.out f1 hlA' hcA.lim HVA.out HVD.out
 have hRl := hst.rl
 have kR := hb4.out.below hB5 hb4.out.lt
 have kQ := hb5.out
 have hgRQ := hb4.out.lt
 have kD := (HRD.out.below hB4).below (Below.less hB5 (Nat.le_of_lt hgRQ))
 have kF := (hF3.out.below hB4 hg1).below (Below.less hB5 (Nat.le_of_lt hgRQ)) hg1
 have hB45 := hB4.trans (Below.less hB5 (Nat.le_of_lt hgRQ))
 have HB5 := Lib.hid (HB3.out.trans (Below.less hB45 (Nat.le_of_lt hg1)))
 have HB35 := Lib.hid hB45
 have HST := Lib.hid hst
 have KD := Lib.hid kD
 have KF := Lib.hid kF
 have hs5' := hB5.size
 generalize w4.heap.size = gQ at *
 generalize hq0 : l - (m + 2) = q0 at *
 have hq0' : q0 + (m + 2) = l := by omega
 have HQ0 := Lib.hid hq0
 clear hq0 hst hB45 kD kF hb4 hb5 hB4 hB5 hs5 HBR HRAn HRD hF3 HB3 HB1 hlA hlA' hRl
 have hX0 : 0 < val9 D := by
  have h1 := val_top HDL.out (by omega)
  have h2 := HDT.out
  have h3 : 0 < nth D (m + 2 - 1) := by omega
  have h4 : 1000000000 ^ (m + 2 - 1) * 1 ≤ 1000000000 ^ (m + 2 - 1) * nth D (m + 2 - 1) := Nat.mul_le_mul_left _ h3
  have h5 : 0 < (1000000000 : Nat) ^ (m + 2 - 1) := Nat.pow_pos (by omega)
  omega
 go_loopw [9] (fun iv wr => ∃ j R Q, j ≤ q0 + 1 ∧ iv = .int .i64 ((j : Int) - 1) ∧ Blk .u32 104 wr gR R ∧ Blk .u32 104 wr gQ Q ∧ Hid (DivInv (val9 D) (val9 L * f) l (m + 2) j R Q) ∧ Below gR w5 wr) (fun iv _ => (intOf iv + 1).toNat)
 case atStart => exact ⟨q0 + 1, _, _, Nat.le_refl _, by simp, kR, kQ, HST.out, Below.refl _ _⟩
 case round =>
  obtain ⟨j, R, Q, hj, rfl, hbR, hbQ, hin, hbw⟩ := hrel
  rcases Nat.eq_zero_or_pos j with rfl | hpos
  ·go_upto_region 15 with (fail)
   have hcF : wr.cell? ⟨w.heap.size, 0, none⟩ = some (.int .u32 f) := by
    have := (KF.out.below hbw hg1).cell 0 (by simp)
    simpa [nth] using this
   have hfin := hin.out
   have htR := fun (V : World) (hV : Blk .u32 104 V gR R) => trim_any (some ⟨gR, 0, none⟩) (l + 1) gR 0 R V (by rw [hfin.rl]; omega) (by rw [hfin.rl]; exact Nat.le_refl _) (fun _ => rfl) hV.cells
   rw [hfin.rl] at htR
   obtain ⟨RT, q1, q2, q3, q4⟩ := trim_pack (B := wr.heap.size) (c := l + 1) hbR hfin.lr hbR.lt (by rw [hfin.rl]; exact Nat.le_refl _)
   rw [hfin.rl] at q1
   rw [← q1] at htR
   have htl := trimN_le R (l + 1)
   have hdv := fun (V : World) hV => divLimb_any (some ⟨gR, 0, none⟩) (l + 1) f RT V (by omega) q3.lim f1 f2 hV
   have HTR := Lib.hid htR
   have HDV := Lib.hid hdv
   have HQ2 := Lib.hid q2
   have HQ4 := Lib.hid q4
   have HBR2 := Lib.hid hbR
   have HQ1L := Lib.hid q1
   have HFIN := Lib.hid hfin
   have HQ3 := Lib.hid q3
   clear q1 q2 q4 hbR hfin htR hdv q3 hin
   have HC := Lib.hid (below_drew (Below.refl wr.heap.size wr))
   have hltF : w.heap.size < wr.heap.size := by have := hbw.size; omega
   go_region_held3 (fun w' => w'.cell? ⟨w.heap.size, 0, none⟩ = some (.int .u32 f)) (go_keep)
    (first
     | (go_at_call 120; (with_reducible refine (HTR.out _ (HBR2.out.drew)).mono ?_); rintro e w9 ⟨rfl, rfl⟩)
     | (go_at_call 157; (with_reducible refine (HDV.out _ (HQ2.out.drew)).mono ?_); rintro e w9 ⟨A1, c1, Q1, A2, c2, R1, rfl, k1, k2, k3, k4, k5, k6, k7, k8, k9⟩; have hcF9 := (k9.cell (p := ⟨w.heap.size, 0, none⟩) (by exact hltF)).trans hcF))
   all_goals
    have kk : Below wr.heap.size wr w9 := below_undrew k9
    have hbQ9 := hbQ.below kk hbQ.lt
    have hql := HFIN.out.ql
    rw [HQ0.out] at hql
    have htQ := trim_any (some ⟨gQ, 0, none⟩) (q0 + 1) gQ 0 Q w9 (by omega) (by omega) (fun _ => rfl) hbQ9.cells
    rw [hql] at htQ
    have HTQ := Lib.hid htQ
    have HBQ9 := Lib.hid hbQ9
    have HQL := Lib.hid hql
    clear htQ hbQ9 hql
    go_wp2_with fail
    refine HTQ.out.mono ?_
    rintro e w10 ⟨rfl, rfl⟩
    go_wp2_with fail
    go_ret2
    obtain ⟨QT, r1, r2, r3, r4⟩ := trim_pack (B := w9.heap.size) (c := q0 + 1) HBQ9.out HFIN.out.lq HBQ9.out.lt (by rw [HQL.out]; exact Nat.le_refl _)
    rw [HQL.out] at r1
    have hend := div_end (a := val9 L) (b := val9 M) (f := f) (R := val9 R) (X := val9 D) (Q := val9 Q) (q2 := val9 Q1) (r2 := val9 R1) f1 HVD.out HFIN.out.val (by have := HFIN.out.lt; simpa using this) (by rw [k5, HQ4.out]) k6
    have t1 := trimN_le Q (q0 + 1)
    have t2 := HQ1L.out
    exact ⟨_, _, QT, _, _, Q1, by rw [r1]; rfl, r2, k1, r3, k3, by rw [r4]; exact hend.1, hend.2, by omega, by omega, HB5.out.trans (Below.less (hbw.trans (Below.less kk (by have := hbw.size; show gR ≤ wr.heap.size; omega))) (by omega))⟩
  ·obtain ⟨i, rfl⟩ : ∃ i, j = i + 1 := ⟨j - 1, by omega⟩
   have hi1 : ((i + 1 : Nat) : Int) - 1 = i := by omega
   have n1 : (0 : Int) ≤ (i : Int) := by omega
   have n2 : (i : Int) ≤ (i : Int) + ((m : Int) + 2) + 1 := by omega
   have n3 : (i : Int) + ((m : Int) + 2) + 1 ≤ (l : Int) + 1 := by omega
   have n4 : ¬ l + 1 = i := by omega
   have n5 : ¬ l + 1 - i = 0 := by omega
   rw [hi1]
   clear hi1
   go_wp2_with fail
   rw [show i + (m + 2) + 1 - i = m + 3 by omega]
   have hcap : m + 3 ≤ l + 1 - i := by omega
   generalize l + 1 - i = cap at *
   have hlr := hin.out.lr
   have hrl := hin.out.rl
   have hlt := hin.out.lt
   have rD : Row .u32 wr gR (some ⟨gD, 0, none⟩) cD D := KD.out.below hbw
   have hes := estimate_any gR i m cap (some ⟨gD, 0, none⟩) cD R D wr (by omega) (by omega) HDL.out hcap hlr hcD.lim (by have := HDT.out; exact this) hbR (rD.more (by have := hbw.size; omega))
   refine hes.mono ?_
   rintro e w6 ⟨rfl, nq, rfl⟩
   have hdig := fun d hd => dig_ok (i := i) (n := m + 2) (d := d) hcD.lim HDL.out (by omega) hlr (by omega) (by have := HDT.out; omega) hlt hd
   rw [show i + (m + 2) - 2 = i + m by omega] at hdig
   have hdg := hdig _ rfl
   generalize top3 R (i + m) / top2 D (m + 2) = d at *
   have HDG := Lib.hid hdg
   clear hdig hdg hes hlt
   have hbRn := hbR.drewN nq
   have hbQn := hbQ.drewN nq
   have hbwn := below_drewN hbw nq
   have rDn := rD.drewN nq
   generalize wr.drewN nq = wn at *
   clear hbR hbQ hbw rD
   by_cases hcar : (smSt i d D R (m + 2 + 1)).2 = 0
   ·obtain ⟨hdq, hnv⟩ := HDG.out.yes hcar
    obtain ⟨hq9, hnx⟩ := div_round hin.out (by omega) rfl hX0 (smSt_ok (o := i) (d := d) hcD.lim hlr (m + 2 + 1)).1 (smSt_ok (o := i) (d := d) hcD.lim hlr (m + 2 + 1)).2.2 hnv
    rw [← hdq] at hq9 hnx
    have hsm := subMul_any gR i (m + 2 + 1) cap d (some ⟨gD, 0, none⟩) cD R D wn (by omega) (by omega) (by rw [HDL.out]; omega) (by omega) hlr hcD.lim hbRn rDn
    rw [HDL.out, show (decide ((smSt i d D R (m + 2 + 1)).2 = 0)) = true by simpa using hcar] at hsm
    have HSM := Lib.hid hsm
    have HNX := Lib.hid hnx
    clear hsm hnx hdq hnv hcar
    go_wp2_with fail
    refine HSM.out.mono ?_
    rintro e w7 ⟨rfl, hb7, hg7⟩
    have hQ7 := hbQn.grown hg7 (by intro e; injection e; omega)
    have hbw7 := grown_below hbwn hg7 (Nat.le_refl _) (by have := hbwn.size; omega)
    have hfr := hQ7.frozen i
    have hci := hQ7.cell i (by rw [hin.out.ql]; omega)
    clear hbRn hbQn hbwn hg7
    go_wp2_with fail
    go_roundw
    case rel => exact ⟨i, _, _, by omega, rfl, hb7.far (by show gR ≠ gQ; omega) _, hQ7.set_ i d, HNX.out, hbw7.setCell (by show gR ≤ gQ; omega) _⟩
    case measure => simp [intOf]
   ·obtain ⟨hdq, hnv⟩ := HDG.out.no hcar
    have hok1 := smSt_ok (o := i) (d := d) hcD.lim hlr (m + 2 + 1)
    have hok2 := addSt_ok (o := i) hcD.lim hok1.1 (m + 2 + 1)
    obtain ⟨hq9, hnx⟩ := div_round hin.out (by omega) rfl hX0 hok2.1 (hok2.2.2.trans hok1.2.2) hnv
    have hd1 : 1 ≤ d := by omega
    have hsm := subMul_any gR i (m + 2 + 1) cap d (some ⟨gD, 0, none⟩) cD R D wn (by omega) (by omega) (by rw [HDL.out]; omega) (by omega) hlr hcD.lim hbRn rDn
    rw [HDL.out, show (decide ((smSt i d D R (m + 2 + 1)).2 = 0)) = false by simpa using hcar] at hsm
    have HSM := Lib.hid hsm
    have HNX := Lib.hid hnx
    have hd9 : d ≤ 1000000000 := by omega
    have HDQ := Lib.hid hdq
    clear hsm hnx hdq hnv hcar
    go_wp2_with fail
    refine HSM.out.mono ?_
    rintro e w7 ⟨rfl, hb7, hg7⟩
    have hQ7 := hbQn.grown hg7 (by intro e; injection e; omega)
    have hbw7 := grown_below hbwn hg7 (Nat.le_refl _) (by have := hbwn.size; omega)
    have rD7 : Row .u32 w7 gR (some ⟨gD, 0, none⟩) cD D := KD.out.below hbw7
    clear hbRn hbQn hbwn hg7
    go_wp2_with fail
    have had := addTo_any gR i (m + 2 + 1) cap (some ⟨gD, 0, none⟩) cD (smSt i d D R (m + 2 + 1)).1 D w7 (by rw [hok1.2.2]; omega) (by rw [hok1.2.2]; omega) (by rw [HDL.out]; omega) hok1.1 hcD.lim hb7 rD7
    rw [HDL.out] at had
    refine had.mono ?_
    rintro e w8 ⟨rfl, hb8, hg8⟩
    have hQ8 := hQ7.grown hg8 (by intro e; injection e; omega)
    have hbw8 := grown_below hbw7 hg8 (Nat.le_refl _) (by have := hbw7.size; omega)
    have hfr := hQ8.frozen i
    have hci := hQ8.cell i (by rw [hin.out.ql]; omega)
    clear hb7 hQ7 hbw7 hg8 had hok1 hok2
    go_wp2_with fail
    go_roundw
    case rel =>
     have e1 := hQ8.setI i (v := (d : Int) - 1) (x := digQ i D R) (by have := HDQ.out; omega)
     exact ⟨i, _, _, by omega, rfl, hb8.far (by show gR ≠ gQ; omega) _, e1, HNX.out, hbw8.setCell (by show gR ≤ gQ; omega) _⟩
    case measure => simp [intOf]
def DivPost (L M : List Nat) (w : World) (e : Ending) (w' : World) : Prop := ∃ A1 c1 Q A2 c2 R, e = .returned (.tuple #[.slice A1 (List.length Q) c1, .slice A2 (List.length R) c2]) ∧
 Row .u32 w' w'.heap.size A1 c1 Q ∧ Row .u32 w' w'.heap.size A2 c2 R ∧ Canon Q ∧ Canon R ∧ val9 Q * val9 M + val9 R = val9 L ∧ val9 R < val9 M ∧ List.length Q ≤ L.length ∧ List.length R ≤ L.length + 1 ∧ Below w.heap.size w w'
theorem cmpZ_lt {x y : Nat} (h : x < y) : decide (cmpZ x y < 0) = true := by unfold cmpZ; simp [h]
theorem cmpZ_ge {x y : Nat} (h : y ≤ x) : decide (cmpZ x y < 0) = false := by unfold cmpZ; rw [if_neg (by omega)]; split <;> simp
theorem canon_nil : Canon ([] : List Nat) := ⟨fun _ h => absurd h (List.not_mem_nil), fun h => absurd h (Nat.lt_irrefl 0)⟩
set_option maxRecDepth 20000 in
set_option maxHeartbeats 3200000 in
theorem divide_any (A A' : Option Addr) (c c' : Nat) (L M : List Nat) (w : World) (hl : L.length ≤ 400000) (hm : M.length ≤ 400000) (hm0 : 0 < M.length) (hL : Canon L) (hM : Canon M)
  (hR : Row .u32 w w.heap.size A c L) (hR' : Row .u32 w w.heap.size A' c' M) :
  Calls Tryz.prog 123 #[.slice A L.length c, .slice A' M.length c'] w (DivPost L M w) := by
 have hcmp := compare_row A A' c c' L M w (by omega) (by omega) hR hR' hL hM
 rcases Nat.lt_or_ge (val9 L) (val9 M) with hlt | hge
 ·have hd := cmpZ_lt hlt
  have hfin : ∀ W g, Blk .u32 104 W g L → Below w.heap.size w W → DivPost L M w (.returned (.tuple #[.slice none 0 0, .slice (some ⟨g, 0, none⟩) L.length L.length])) W := fun W g hb hbw =>
   ⟨none, 0, [], _, _, L, rfl, Row.nil _ _ _ _ _, Row.ofBlk hb hb.lt (Nat.le_refl _), canon_nil, hL, by simp [valB], hlt, by simp, by omega, hbw⟩
  have hCp := fun W h => copied_any A c L W (by omega) h
  have HFIN := Lib.hid hfin
  have HCMP := Lib.hid hcmp
  have HCP := Lib.hid hCp
  clear hfin hcmp hCp hlt
  generalize cmpZ (val9 L) (val9 M) = cc at *
  generalize L.length = l at *
  generalize M.length = m at *
  go_enter Tryz.func123, Tryz.ntmps123
  go_wp2_with fail
  refine HCMP.out.mono ?_
  rintro e w1 ⟨rfl, nq, rfl⟩
  go_wp2_with fail
  refine (HCP.out _ (hR.drewN nq)).mono ?_
  rintro e w2 ⟨rfl, hb2, hB2⟩
  go_wp2_with fail
  go_ret2
  exact HFIN.out _ _ hb2 (below_undrewN hB2)
 ·have hd := cmpZ_ge hge
  have hln := canon_len hL hM hge
  have HCMP := Lib.hid hcmp
  clear hcmp
  generalize cmpZ (val9 L) (val9 M) = cc at *
  rcases Nat.lt_or_ge M.length 2 with h1 | h2
  ·have hm1 : M.length = 1 := by omega
   obtain ⟨b, o, rfl, hbB, hcs⟩ := hR'.spot (by omega)
   have hc0 := hcs 0 (by omega)
   have hv : val9 M = nth M 0 := by
    have := val_top hm1 (by omega)
    simpa [valB] using this
   have hpos : 0 < nth M 0 := Nat.pos_of_ne_zero (by have := hM.top (by omega); rw [hm1] at this; exact this)
   have hd1 := fun W h => divLimb_any A c (nth M 0) L W (by omega) hL.lim hpos (hM.lim.nth 0) h
   have hfin : ∀ e W, (∃ A1 c1 Q A2 c2 R, e = .returned (.tuple #[.slice A1 (List.length Q) c1, .slice A2 (List.length R) c2]) ∧
     Row .u32 W W.heap.size A1 c1 Q ∧ Row .u32 W W.heap.size A2 c2 R ∧ Canon Q ∧ Canon R ∧ val9 Q * nth M 0 + val9 R = val9 L ∧ val9 R < nth M 0 ∧ List.length Q ≤ L.length ∧ List.length R ≤ 1 ∧ Below w.heap.size w W) → DivPost L M w e W := by
    rintro e W ⟨A1, c1, Q, A2, c2, R, h1, h2, h3, h4, h5, h6, h7, h8, h9, h10⟩
    exact ⟨A1, c1, Q, A2, c2, R, h1, h2, h3, h4, h5, by rw [hv]; exact h6, by rw [hv]; exact h7, h8, by omega, h10⟩
   have HFIN := Lib.hid hfin
   have HD1 := Lib.hid hd1
   have hlc := hR'.len
   clear hfin hd1 hcs hv hge
   have hcm2 := HCMP.out
   clear HCMP
   rw [hm1] at hlc hcm2 ⊢
   have HCMP := Lib.hid hcm2
   clear hcm2
   generalize nth M 0 = v at *
   generalize L.length = l at *
   clear hm1 hln h1
   go_enter Tryz.func123, Tryz.ntmps123
   go_wp2_with fail
   refine HCMP.out.mono ?_
   rintro e w1 ⟨rfl, nq, rfl⟩
   have hc0' : (w.drewN nq).cell? ⟨b, o, none⟩ = some (.int .u32 v) := by simpa using hc0
   go_wp2_with fail
   refine (HD1.out _ (hR.drewN nq)).mono ?_
   rintro e w2 ⟨A1, c1, Q, A2, c2, R, rfl, k1, k2, k3, k4, k5, k6, k7, k8, k9⟩
   have H2 := Lib.hid (HFIN.out _ w2 ⟨A1, c1, Q, A2, c2, R, rfl, k1, k2, k3, k4, k5, k6, k7, k8, below_undrewN k9⟩)
   clear k1 k2 k3 k4 k5 k6 k7 k8 k9
   go_wp2_with fail
   go_ret2
   exact H2.out
  ·obtain ⟨m, hm2⟩ : ∃ m, M.length = m + 2 := ⟨M.length - 2, by omega⟩
   have hdl := fun W h1 h2' => divLong_any A A' c c' m L M W hl hm2 (by omega) hL.lim hM h1 h2'
   have HDL := Lib.hid hdl
   have hne : ((M.length : Int) == 1) = false := by rw [beq_eq_false_iff_ne]; omega
   have hfin : ∀ e W, (∃ A1 c1 Q A2 c2 R, e = .returned (.tuple #[.slice A1 (List.length Q) c1, .slice A2 (List.length R) c2]) ∧
     Row .u32 W W.heap.size A1 c1 Q ∧ Row .u32 W W.heap.size A2 c2 R ∧ Canon Q ∧ Canon R ∧ val9 Q * val9 M + val9 R = val9 L ∧ val9 R < val9 M ∧ List.length Q ≤ L.length ∧ List.length R ≤ L.length + 1 ∧ Below w.heap.size w W) → DivPost L M w e W := fun e W h => h
   have HFIN := Lib.hid hfin
   clear hdl hfin hge hln hm2
   generalize M.length = lm at *
   generalize L.length = l at *
   go_enter Tryz.func123, Tryz.ntmps123
   go_wp2_with fail
   refine HCMP.out.mono ?_
   rintro e w1 ⟨rfl, nq, rfl⟩
   go_wp2_with fail
   refine (HDL.out _ (hR.drewN nq) (hR'.drewN nq)).mono ?_
   rintro e w2 ⟨A1, c1, Q, A2, c2, R, rfl, k1, k2, k3, k4, k5, k6, k7, k8, k9⟩
   have H2 := Lib.hid (HFIN.out _ w2 ⟨A1, c1, Q, A2, c2, R, rfl, k1, k2, k3, k4, k5, k6, k7, k8, below_undrewN k9⟩)
   clear k1 k2 k3 k4 k5 k6 k7 k8 k9
   go_wp2_with fail
   go_ret2
   exact H2.out
theorem eq4d (d : Nat) (s0 s1 s2 s3 t0 t1 t2 t3 : Int) (w : World) :
  (Op.equalIn (d + 1 + 1) 162 (.agg #[.int .i64 s0, .int .i64 s1, .int .i64 s2, .int .i64 s3]) (.agg #[.int .i64 t0, .int .i64 t1, .int .i64 t2, .int .i64 t3])).run Tryz.prog w = .ok (s0 == t0 && s1 == t1 && s2 == t2 && s3 == t3) w := by
 have e : ∀ (a b : Int) (w : World), (Op.equalIn (d + 1) 2 (.int .i64 a) (.int .i64 b)).run Tryz.prog w = .ok (a == b) w := fun a b w => run_equalIn_int w d 2 .i64 .i64 a b Tryz.underlying2
 generalize d + 1 = d' at *
 simp only [Op.equalIn, Sem.run_bind, run_underlying Tryz.underlying162, Result.andThen_ok, Tryz.sizeOf2]
 simp only [Std.Legacy.Range.forIn_eq_forIn_range']
 simp only [Std.Legacy.Range.size, List.range', List.forIn_cons, List.forIn_nil]
 have hp : ∀ (cs : Array Value) (i : Nat) (v : Value) (w : World), cs[i]? = some v → (part 2 cs i).run Tryz.prog w = .ok v w := fun cs i v w h => by
  simp [part, Sem.run_bind, Tryz.isAgg2, h]
 have p0 : ∀ (a b c d : Value) (w : World), (part 2 #[a, b, c, d] 0).run Tryz.prog w = .ok a w := fun _ _ _ _ w => hp _ 0 _ w rfl
 have p1 : ∀ (a b c d : Value) (w : World), (part 2 #[a, b, c, d] 1).run Tryz.prog w = .ok b w := fun _ _ _ _ w => hp _ 1 _ w rfl
 have p2 : ∀ (a b c d : Value) (w : World), (part 2 #[a, b, c, d] 2).run Tryz.prog w = .ok c w := fun _ _ _ _ w => hp _ 2 _ w rfl
 have p3 : ∀ (a b c d : Value) (w : World), (part 2 #[a, b, c, d] 3).run Tryz.prog w = .ok d w := fun _ _ _ _ w => hp _ 3 _ w rfl
 by_cases h0 : s0 = t0
 ·by_cases h1 : s1 = t1
  ·by_cases h2 : s2 = t2
   ·by_cases h3 : s3 = t3
    ·simp [Sem.run_bind, Sem.run_ite, e, p0, p1, p2, p3, h0, h1, h2, h3]
    ·simp [Sem.run_bind, Sem.run_ite, e, p0, p1, p2, p3, h0, h1, h2, h3]
   ·simp [Sem.run_bind, Sem.run_ite, e, p0, p1, p2, h0, h1, h2]
  ·simp [Sem.run_bind, Sem.run_ite, e, p0, p1, h0, h1]
 ·simp [Sem.run_bind, Sem.run_ite, e, p0, h0]
theorem eq4 (s0 s1 s2 s3 t0 t1 t2 t3 : Int) (w : World) :
  (Op.equalIn 10000 162 (.agg #[.int .i64 s0, .int .i64 s1, .int .i64 s2, .int .i64 s3]) (.agg #[.int .i64 t0, .int .i64 t1, .int .i64 t2, .int .i64 t3])).run Tryz.prog w = .ok (s0 == t0 && s1 == t1 && s2 == t2 && s3 == t3) w := eq4d 9998 s0 s1 s2 s3 t0 t1 t2 t3 w
theorem combine2 (A A' : Option Addr) (c c' v : Nat) (p q : Int) (L M : List Nat) (w : World) (hl : L.length ≤ 400000) (hml : M.length ≤ L.length)
  (hp1 : -1000000000 ≤ p) (hp2 : p ≤ 1000000000) (hq1 : -1000000000 ≤ q) (hq2 : q ≤ 1000000000)
  (hL : Lim L) (hM : Lim M) (hv : (v : Int) = p * (val9 L : Int) + q * (val9 M : Int)) (hva : v ≤ val9 L) (hR : Row .u32 w w.heap.size A c L) (hR' : Row .u32 w w.heap.size A' c' M) :
  Calls Tryz.prog 156 #[.slice A L.length c, .slice A' M.length c', .int .i64 p, .int .i64 q] w fun e w' => ∃ A2 c2 R, e = .returned (.slice A2 (List.length R) c2) ∧
   Row .u32 w' w'.heap.size A2 c2 R ∧ Canon R ∧ val9 R = v ∧ R.length ≤ L.length ∧ Below w.heap.size w w' := by
 refine (combine_any A A' c c' p q L M w hl (by omega) hp1 hp2 hq1 hq2 hL hM hR hR').mono ?_
 rintro e w' ⟨rfl, hb, hbw⟩
 obtain ⟨k1, k2, k3, k4, k5⟩ := coSt_ok (q := q) (M := M) hL hM hp1 hp2 hq1 hq2 L.length
 have hval := coSt_end hL hM hp1 hp2 hq1 hq2 hml (by omega) (by omega)
 obtain ⟨R, h1, h2, h3, h4⟩ := trim_pack (c := L.length) hb k1 hb.lt (by rw [k4]; exact Nat.le_refl _)
 rw [k4] at h1
 have htl := trimN_le (coSt p q L M L.length).1 L.length
 exact ⟨_, _, R, by rw [h1], h2, h3, by rw [h4]; omega, by omega, hbw⟩
theorem top3_all {R : List Nat} (hR : Lim R) (j : Nat) (hz : ∀ k, j + 3 ≤ k → nth R k = 0) : val9 R / 1000000000 ^ j = top3 R j := by
 rcases Nat.lt_or_ge R.length j with h | h
 ·have h1 := valB_lt hR
  have h2 : (1000000000 : Nat) ^ R.length ≤ 1000000000 ^ j := Nat.pow_le_pow_right (by omega) (by omega)
  have h3 : top3 R j = 0 := by unfold top3; rw [nth_ge (by omega), nth_ge (by omega), nth_ge (by omega)]
  rw [h3]
  exact Nat.div_eq_of_lt (by unfold val9; omega)
 ·exact top3_val hR j h hz
theorem red_lead {L M : List Nat} {l3 : Nat} (hl : L.length = l3 + 3) (hml : M.length ≤ L.length) (hL : Lim L) (hM : Lim M) (hle : val9 M ≤ val9 L) :
  nth M (l3 + 2) ≤ nth L (l3 + 2) ∧ top3 L l3 / (nth L (l3 + 2) + 1) < 1000000000000000000 ∧ top3 M l3 / (nth L (l3 + 2) + 1) ≤ top3 L l3 / (nth L (l3 + 2) + 1) ∧
  ∃ S, 0 < S ∧ val9 L / S = top3 L l3 / (nth L (l3 + 2) + 1) ∧ val9 M / S = top3 M l3 / (nth L (l3 + 2) + 1) := by
 have h1 := top3_all hL l3 (fun k hk => nth_ge (by omega))
 have h2 := top3_all hM l3 (fun k hk => nth_ge (by omega))
 have h3 : top3 M l3 ≤ top3 L l3 := by rw [← h1, ← h2]; exact Nat.div_le_div_right hle
 have a1 := hL.nth (l3 + 1)
 have a2 := hL.nth l3
 have h4 : nth M (l3 + 2) ≤ nth L (l3 + 2) := by
  unfold top3 at h3
  omega
 refine ⟨h4, ?_, Nat.div_le_div_right h3, 1000000000 ^ l3 * (nth L (l3 + 2) + 1), Nat.mul_pos (Nat.pow_pos (by omega)) (by omega), ?_, ?_⟩
 ·rw [Nat.div_lt_iff_lt_mul (by omega)]
  unfold top3
  omega
 ·rw [← Nat.div_div_eq_div_mul, h1]
 ·rw [← Nat.div_div_eq_div_mul, h2]
def RedPost (L M : List Nat) (w : World) (e : Ending) (w' : World) : Prop := ∃ A1 c1 C A2 c2 D, e = .returned (.tuple #[.slice A1 (List.length C) c1, .slice A2 (List.length D) c2]) ∧
 Row .u32 w' w'.heap.size A1 c1 C ∧ Row .u32 w' w'.heap.size A2 c2 D ∧ Canon C ∧ Canon D ∧ val9 D ≤ val9 C ∧ Nat.gcd (val9 C) (val9 D) = Nat.gcd (val9 L) (val9 M) ∧ val9 C + val9 D < val9 L + val9 M ∧
 List.length C ≤ L.length ∧ List.length D ≤ L.length ∧ Below w.heap.size w w'
set_option maxRecDepth 20000 in
set_option maxHeartbeats 3200000 in
theorem reduce_any (A A' : Option Addr) (c c' l3 : Nat) (L M : List Nat) (w : World) (hl : L.length = l3 + 3) (hl3 : l3 ≤ 390000) (hm3 : 3 ≤ M.length) 
  (hL : Canon L) (hM : Canon M) (hle : val9 M ≤ val9 L) (hR : Row .u32 w w.heap.size A c L) (hR' : Row .u32 w w.heap.size A' c' M) :
  Calls Tryz.prog 122 #[.slice A L.length c, .slice A' M.length c'] w (RedPost L M w) := by
 have hml := canon_len hL hM hle
 obtain ⟨t1, t2, t3, S, s1, s2, s3⟩ := red_lead hl hml hL.lim hM.lim hle
 have hsafe := safe_any A A' c c' l3 L M w hl hl3 (by omega) hL.lim hM.lim hR hR' t1 t2 t3
 have hdiv := fun W h1 h2 => divide_any A A' c c' L M W (by omega) (by omega) (by omega) hL hM h1 h2
 have hco := fun v p q W a1 a2 a3 a4 a5 a6 h1 h2 => combine2 A A' c c' v p q L M W (by omega) hml a1 a2 a3 a4 hL.lim hM.lim a5 a6 h1 h2
 have hend1 : ∀ e W, Below w.heap.size w W → ∀ W', DivPost L M W e W' → ∃ (A1 : Option Addr) (c1 : Nat) (A2 : Option Addr) (c2 : Nat) (Q R : List Nat), e = .returned (.tuple #[.slice A1 (List.length Q) c1, .slice A2 (List.length R) c2]) ∧
   RedPost L M w (.returned (.tuple #[.slice A' M.length c', .slice A2 (List.length R) c2])) W' := by
  rintro e W hbW W' ⟨A1, c1, Q, A2, c2, R, rfl, k1, k2, k3, k4, k5, k6, k7, k8, k9⟩
  have hlr := canon_len hM k4 (Nat.le_of_lt k6)
  have hb := below_then hbW k9 hbW.size
  refine ⟨A1, c1, A2, c2, Q, R, rfl, A', c', M, A2, c2, R, rfl, hR'.up hb, k2, hM, k4, Nat.le_of_lt k6, ?_, by omega, hml, by omega, hb⟩
  have e1 : val9 R = val9 L % val9 M := by
   rw [← k5, Nat.mul_comm, Nat.mul_add_mod, Nat.mod_eq_of_lt k6]
  rw [e1, Nat.gcd_comm, ← Nat.gcd_rec, Nat.gcd_comm]
 have hend2 : ∀ x y s0 s1 s2 s3 : Int, StOut (top3 L l3 / (nth L (l3 + 2) + 1)) (top3 M l3 / (nth L (l3 + 2) + 1)) x y s0 s1 s2 s3 → ¬ (s0 = 1 ∧ s1 = 0 ∧ s2 = 0 ∧ s3 = 1) →
   (-1000000000 ≤ s0 ∧ s0 ≤ 1000000000 ∧ -1000000000 ≤ s1 ∧ s1 ≤ 1000000000 ∧ -1000000000 ≤ s2 ∧ s2 ≤ 1000000000 ∧ -1000000000 ≤ s3 ∧ s3 ≤ 1000000000) ∧ ∃ c d, SE (val9 L) (val9 M) c d s0 s1 s2 s3 := by
  rintro x y _ _ _ _ ⟨e, X, Y, P, Q, R, T, u, v, m, n, h, rfl, rfl, rfl, rfl, rfl, rfl⟩ hne
  refine ⟨⟨(sg_box _ h.p9).1, (sg_box _ h.p9).2, (sg_box _ h.q9).1, (sg_box _ h.q9).2, (sg_box _ h.r9).1, (sg_box _ h.r9).2, (sg_box _ h.t9).1, (sg_box _ h.t9).2⟩, ?_⟩
  rcases h.id with ⟨i1, i2, i3, i4, i5, i6, i7⟩ | ⟨i1, i2, i3, i4⟩
  ·exfalso; apply hne; subst i1 i2 i3 i4 i5; simp [sg]
  ·exact st_end h s1 s2 s3 i1 i2 i3 i4
 have hfin : ∀ W v1 v2 A1 c1 C A2 c2 D s0 s1 s2 s3, SE (val9 L) (val9 M) v1 v2 s0 s1 s2 s3 → Row .u32 W W.heap.size A1 c1 C → Row .u32 W W.heap.size A2 c2 D → Canon C → Canon D → val9 C = v1 → val9 D = v2 → List.length C ≤ L.length → List.length D ≤ L.length → Below w.heap.size w W →
   RedPost L M w (.returned (.tuple #[.slice A1 (List.length C) c1, .slice A2 (List.length D) c2])) W := by
  rintro W v1 v2 A1 c1 C A2 c2 D s0 s1 s2 s3 hse k1 k2 k3 k4 rfl rfl k5 k6 k7
  exact ⟨A1, c1, C, A2, c2, D, rfl, k1, k2, k3, k4, Nat.le_of_lt hse.dc, hse.g, hse.less, k5, k6, k7⟩
 have HSAFE := Lib.hid hsafe
 have HDIV := Lib.hid hdiv
 have HCO := Lib.hid hco
 have HEND1 := Lib.hid hend1
 have HEND2 := Lib.hid hend2
 have HFIN := Lib.hid hfin
 have HR := Lib.hid hR
 have HR' := Lib.hid hR'
 clear hsafe hdiv hco hend1 hend2 hfin hR hR' hl hml t1 t2 t3 s1 s2 s3 hm3 hl3 hle hL hM
 generalize hll : L.length = ll at *
 generalize hlm : M.length = lm at *
 have HLL := Lib.hid hll
 have HLM := Lib.hid hlm
 clear hll hlm
 go_enter Tryz.func122, Tryz.ntmps122
 go_wp2_with fail
 refine HSAFE.out.mono ?_
 rintro e w1 ⟨x, y, s0, s1, s2, s3, rfl, hst, hb1⟩
 have HB1 := Lib.hid hb1
 clear hb1
 by_cases hid : s0 = 1 ∧ s1 = 0 ∧ s2 = 0 ∧ s3 = 1
 ·obtain ⟨rfl, rfl, rfl, rfl⟩ := hid
  have heq : ∀ W : World, (Op.equalIn 10000 162 (.agg #[.int .i64 1, .int .i64 0, .int .i64 0, .int .i64 1]) (.agg #[.int .i64 1, .int .i64 0, .int .i64 0, .int .i64 1])).run Tryz.prog W = .ok true W := fun W => by rw [eq4]; rfl
  have HEQ := Lib.hid heq
  clear heq
  go_wp2_with (simp only [HEQ.out, Result.andThen_ok])
  have hbW : Below w.heap.size w (w1.alloc (.cells #[.int .i64 1, .int .i64 0, .int .i64 0, .int .i64 1] 162)) := HB1.out.alloc HB1.out.size _
  have HBW := Lib.hid hbW
  clear hbW
  refine (HDIV.out _ (HR.out.up HBW.out) (HR'.out.up HBW.out)).mono ?_
  intro e w2 hd
  obtain ⟨A1, c1, A2, c2, Q, R, rfl, hpost⟩ := HEND1.out _ _ HBW.out _ hd
  have HPOST := Lib.hid hpost
  clear hpost hd
  go_wp2_with fail
  go_ret2
  exact HPOST.out
 ·have heq : ∀ W : World, (Op.equalIn 10000 162 (.agg #[.int .i64 s0, .int .i64 s1, .int .i64 s2, .int .i64 s3]) (.agg #[.int .i64 1, .int .i64 0, .int .i64 0, .int .i64 1])).run Tryz.prog W = .ok false W := fun W => by
   rw [eq4]
   have : (s0 == 1 && s1 == 0 && s2 == 0 && s3 == 1) = false := by
    rw [Bool.eq_false_iff]
    intro h
    simp only [Bool.and_eq_true, beq_iff_eq] at h
    exact hid ⟨h.1.1.1, h.1.1.2, h.1.2, h.2⟩
   rw [this]
  have HEQ := Lib.hid heq
  obtain ⟨hbd, v1, v2, hse⟩ := HEND2.out _ _ _ _ _ _ hst.out hid
  have HSE := Lib.hid hse
  have HBD := Lib.hid hbd
  clear heq hse hbd hst hid
  go_wp2_with (simp only [HEQ.out, Result.andThen_ok])
  have hbx := Box4.new w1 s0 s1 s2 s3
  have hbW : Below w.heap.size w (w1.alloc (.cells #[.int .i64 s0, .int .i64 s1, .int .i64 s2, .int .i64 s3] 162)) := HB1.out.alloc HB1.out.size _
  change Code.wp Tryz.prog _ _ _ (w1.alloc (.cells #[.int .i64 s0, .int .i64 s1, .int .i64 s2, .int .i64 s3] 162))
  generalize w1.alloc (.cells #[.int .i64 s0, .int .i64 s1, .int .i64 s2, .int .i64 s3] 162) = W at *
  have hlt := hbx.lt
  obtain ⟨y0, y1, y2, y3, _, _, _, _⟩ := hbx.all
  have hf0 := y0
  have hf1 := y1
  have hf2 := y2
  have hf3 := y3
  have HC := Lib.hid (below_drew (Below.refl W.heap.size W))
  have HRW := Lib.hid (HR.out.up hbW)
  have HRW' := Lib.hid (HR'.out.up hbW)
  have HBW := Lib.hid hbW
  clear hbx hbW HR HR' HB1 HSAFE HDIV HEND1 HEND2 HEQ
  go_region_held3 (fun w' => w'.cell? ⟨w1.heap.size, 0, none⟩ = some (.int .i64 s0) ∧ w'.cell? ⟨w1.heap.size, 1, none⟩ = some (.int .i64 s1) ∧
    w'.cell? ⟨w1.heap.size, 2, none⟩ = some (.int .i64 s2) ∧ w'.cell? ⟨w1.heap.size, 3, none⟩ = some (.int .i64 s3)) (go_keep)
   (first
    | (go_at_call 156; (with_reducible refine (HCO.out v1 s0 s1 _ HBD.out.1 HBD.out.2.1 HBD.out.2.2.1 HBD.out.2.2.2.1 HSE.out.c0 HSE.out.ca (HRW.out.up HC.out) (HRW'.out.up HC.out)).mono ?_); rintro e w4 ⟨A1, c1, X, rfl, i1, i2, i3, i4, hb4⟩; have HX := Lib.hid i1; have HX2 := Lib.hid i2; have HX3 := Lib.hid i3; have HX4 := Lib.hid i4; clear i1 i2 i3 i4; (try (have HY9 := Lib.hid (HY.out.up hb4); clear HY; have HY := HY9; clear HY9)); have HC9 := Lib.hid (below_then HC.out hb4 HC.out.size); clear HC hf0 hf1 hf2 hf3; have HC := HC9; clear HC9; have hf0 := (below_atB (i := 0) HC.out hlt).trans y0; have hf1 := (below_atB (i := 1) HC.out hlt).trans y1; have hf2 := (below_atB (i := 2) HC.out hlt).trans y2; have hf3 := (below_atB (i := 3) HC.out hlt).trans y3; clear hb4)
    | (go_at_call 156; (with_reducible refine (HCO.out v2 s2 s3 _ HBD.out.2.2.2.2.1 HBD.out.2.2.2.2.2.1 HBD.out.2.2.2.2.2.2.1 HBD.out.2.2.2.2.2.2.2 HSE.out.d0 HSE.out.da (HRW.out.up HC.out) (HRW'.out.up HC.out)).mono ?_); rintro e w4 ⟨A2, c2, Y, rfl, i1, i2, i3, i4, hb4⟩; have HY := Lib.hid i1; have HY2 := Lib.hid i2; have HY3 := Lib.hid i3; have HY4 := Lib.hid i4; clear i1 i2 i3 i4; (try (have HX9 := Lib.hid (HX.out.up hb4); clear HX; have HX := HX9; clear HX9)); have HC9 := Lib.hid (below_then HC.out hb4 HC.out.size); clear HC hf0 hf1 hf2 hf3; have HC := HC9; clear HC9; have hf0 := (below_atB (i := 0) HC.out hlt).trans y0; have hf1 := (below_atB (i := 1) HC.out hlt).trans y1; have hf2 := (below_atB (i := 2) HC.out hlt).trans y2; have hf3 := (below_atB (i := 3) HC.out hlt).trans y3; clear hb4))
  all_goals
   go_wp2
   go_ret2
   exact HFIN.out _ v1 v2 _ _ X _ _ Y s0 s1 s2 s3 HSE.out HX.out HY.out HX2.out HY2.out HX3.out HY3.out HX4.out HY4.out (below_then HBW.out HC.out HBW.out.size)
def numAt (w : World) (b o i : Nat) : Nat := match w.cell? ⟨b, o + i, none⟩ with
 | some (.int _ x) => x.toNat
 | _ => 0
def readRow (w : World) : Value → List Nat
 | .slice (some p) n _ => (List.range n).map fun i => numAt w p.block p.off i
 | _ => []
theorem readRow_row {k : IntKind} {w : World} {B c : Nat} {A : Option Addr} {L : List Nat} (h : Row k w B A c L) : readRow w (.slice A L.length c) = L := by
 rcases Nat.eq_zero_or_pos L.length with h0 | h0
 ·have e := List.eq_nil_of_length_eq_zero h0
  subst e
  cases A <;> simp [readRow]
 ·obtain ⟨b, o, rfl, _, hc⟩ := h.spot h0
  simp only [readRow]
  apply List.ext_getElem
  ·simp
  ·intro i h1 h2
   have h3 := hc i h2
   simp only [List.getElem_map, List.getElem_range, numAt, h3]
   rw [nth_lt h2]
   simp
structure CS (L M : List Nat) (w wr : World) (A1 : Option Addr) (c1 : Nat) (C : List Nat) (A2 : Option Addr) (c2 : Nat) (D : List Nat) : Prop where
 r1 : Row .u32 wr wr.heap.size A1 c1 C
 r2 : Row .u32 wr wr.heap.size A2 c2 D
 k1 : Canon C
 k2 : Canon D
 le : val9 D ≤ val9 C
 g : Nat.gcd (val9 C) (val9 D) = Nat.gcd (val9 L) (val9 M)
 lc : C.length ≤ 380000
 bw : Below w.heap.size w wr
def ComPost (L M : List Nat) (w : World) (e : Ending) (w' : World) : Prop := ∃ A1 c1 R, e = .returned (.slice A1 (List.length R) c1) ∧ Row .u32 w' w'.heap.size A1 c1 R ∧ Canon R ∧ val9 R = Nat.gcd (val9 L) (val9 M) ∧ List.length R ≤ L.length + M.length ∧ Below w.heap.size w w'
theorem gcd_len {L M R : List Nat} (hL : Canon L) (hM : Canon M) (hR : Canon R) (h : val9 R = Nat.gcd (val9 L) (val9 M)) : R.length ≤ L.length + M.length := by
 rcases Nat.eq_zero_or_pos (val9 L) with h0 | h0
 ·have : val9 R = val9 M := by rw [h, h0, Nat.gcd_zero_left]
  have := canon_len hM hR (by omega)
  omega
 ·have : val9 R ≤ val9 L := by rw [h]; exact Nat.gcd_le_left _ h0
  have := canon_len hL hR this
  omega
theorem cs_step {L M C D C2 D2 : List Nat} {w wr w2 : World} {A1 A2 A3 A4 : Option Addr} {c1 c2 c3 c4 : Nat} (h : CS L M w wr A1 c1 C A2 c2 D) (i1 : Row .u32 w2 w2.heap.size A3 c3 C2) (i2 : Row .u32 w2 w2.heap.size A4 c4 D2)
  (i3 : Canon C2) (i4 : Canon D2) (i5 : val9 D2 ≤ val9 C2) (i6 : Nat.gcd (val9 C2) (val9 D2) = Nat.gcd (val9 C) (val9 D)) (i7 : C2.length ≤ C.length) (i8 : Below wr.heap.size wr w2) : CS L M w w2 A3 c3 C2 A4 c4 D2 :=
 ⟨i1, i2, i3, i4, i5, i6.trans h.g, Nat.le_trans i7 h.lc, below_then h.bw i8 h.bw.size⟩
theorem val2 {D : List Nat} (h : Lim D) (hl : D.length ≤ 2) : val9 D ≤ 1000000000000000000 := by
 have h1 := valB_lt h
 have h2 : (1000000000 : Nat) ^ D.length ≤ 1000000000 ^ 2 := Nat.pow_le_pow_right (by omega) hl
 have h3 : (1000000000 : Nat) ^ 2 = 1000000000000000000 := by decide
 unfold val9
 omega
set_option maxRecDepth 20000 in
set_option maxHeartbeats 3200000 in
theorem comDiv_any (A A' : Option Addr) (c c' : Nat) (L M : List Nat) (w : World) (hl : L.length ≤ 380000) (hm : M.length ≤ 380000)
  (hL : Canon L) (hM : Canon M) (hR : Row .u32 w w.heap.size A c L) (hR' : Row .u32 w w.heap.size A' c' M) :
  Calls Tryz.prog 81 #[.slice A L.length c, .slice A' M.length c'] w (ComPost L M w) := by
 have hcmp := compare_row A A' c c' L M w (by omega) (by omega) hR hR' hL hM
 have hfin : ∀ W A1 c1 R, Row .u32 W W.heap.size A1 c1 R → Canon R → val9 R = Nat.gcd (val9 L) (val9 M) → Below w.heap.size w W → ComPost L M w (.returned (.slice A1 (List.length R) c1)) W :=
  fun W A1 c1 R k1 k2 k3 k4 => ⟨A1, c1, R, rfl, k1, k2, k3, gcd_len hL hM k2 k3, k4⟩
 have hst1 : ∀ n, val9 M ≤ val9 L → CS L M w (w.drewN n) A c L A' c' M := fun n h => ⟨hR.drewN n, hR'.drewN n, hL, hM, h, rfl, hl, below_drewN (Below.refl _ _) n⟩
 have hst2 : ∀ n, val9 L ≤ val9 M → CS L M w (w.drewN n) A' c' M A c L := fun n h => ⟨hR'.drewN n, hR.drewN n, hM, hL, h, Nat.gcd_comm _ _, hm, below_drewN (Below.refl _ _) n⟩
 have HFIN := Lib.hid hfin
 have HST1 := Lib.hid hst1
 have HST2 := Lib.hid hst2
 have HCMP := Lib.hid hcmp
 clear hfin hst1 hst2 hcmp hR hR' hL hM
 have hcases : (decide (cmpZ (val9 L) (val9 M) < 0) = true ∧ Hid (val9 L ≤ val9 M)) ∨ (decide (cmpZ (val9 L) (val9 M) < 0) = false ∧ Hid (val9 M ≤ val9 L)) := by
  rcases Nat.lt_or_ge (val9 L) (val9 M) with h | h
  ·exact Or.inl ⟨cmpZ_lt h, Nat.le_of_lt h⟩
  ·exact Or.inr ⟨cmpZ_ge h, h⟩
 generalize cmpZ (val9 L) (val9 M) = cc at *
 generalize hll : L.length = ll at *
 generalize hlm : M.length = lm at *
 have HLL := Lib.hid hll
 have HLM := Lib.hid hlm
 clear hll hlm
 rcases hcases with ⟨hd, hle⟩ | ⟨hd, hle⟩
 all_goals
  go_enter Tryz.func81, Tryz.ntmps81
  go_wp2_with fail
  refine HCMP.out.mono ?_
  rintro e w1 ⟨rfl, n, rfl⟩
  go_wp2_with fail
  clear hd
  go_loopw [0, 1] (fun av bv wr => ∃ A1 c1 C A2 c2 D, av = .slice A1 (List.length C) c1 ∧ bv = .slice A2 (List.length D) c2 ∧ Hid (CS L M w wr A1 c1 C A2 c2 D)) (fun av bv wr => val9 (readRow wr av) + val9 (readRow wr bv))
  case atStart =>
   first
   | exact ⟨A, c, L, A', c', M, by rw [HLL.out], by rw [HLM.out], HST1.out _ hle.out⟩
   | exact ⟨A', c', M, A, c, L, by rw [HLM.out], by rw [HLL.out], HST2.out _ hle.out⟩
  case round =>
   obtain ⟨A1, c1, C, A2, c2, D, rfl, rfl, hcs⟩ := hrel
   have hcl := hcs.out.lc
   have hdl := canon_len hcs.out.k1 hcs.out.k2 hcs.out.le
   have hm1 := congrArg val9 (readRow_row hcs.out.r1)
   have hm2 := congrArg val9 (readRow_row hcs.out.r2)
   have hred : 3 ≤ D.length → Calls Tryz.prog 122 #[.slice A1 C.length c1, .slice A2 D.length c2] wr (RedPost C D wr) := fun h3 =>
    reduce_any A1 A2 c1 c2 (C.length - 3) C D wr (by omega) (by omega) h3 hcs.out.k1 hcs.out.k2 hcs.out.le hcs.out.r1 hcs.out.r2
   have hcop := copied_any A1 c1 C wr (by omega) hcs.out.r1
   have hdiv : 0 < D.length → Calls Tryz.prog 123 #[.slice A1 C.length c1, .slice A2 D.length c2] wr (DivPost C D wr) := fun h0 =>
    divide_any A1 A2 c1 c2 C D wr (by omega) (by omega) h0 hcs.out.k1 hcs.out.k2 hcs.out.r1 hcs.out.r2
   have hword : ∀ W, D.length ≤ 2 → Below wr.heap.size wr W → Calls Tryz.prog 125 #[.slice A2 D.length c2] W fun e w' => e = .returned (.int .u64 (val9 D)) ∧ W = w' := fun W h2 hb =>
    wordOf_any A2 c2 D W (by omega) (by have := val2 hcs.out.k2.lim h2; omega) (hcs.out.r2.up hb) hcs.out.k2.lim
   have hzero : D.length = 0 → val9 C = Nat.gcd (val9 L) (val9 M) := fun h0 => by
    rw [← hcs.out.g, val9_nil h0, Nat.gcd_zero_right]
   have HM1 := Lib.hid hm1
   have HM2 := Lib.hid hm2
   have HRED := Lib.hid hred
   have HCOP := Lib.hid hcop
   have HDIV := Lib.hid hdiv
   have HWORD := Lib.hid hword
   have HZERO := Lib.hid hzero
   clear hm1 hm2 hred hcop hdiv hword hzero
   generalize hlc : C.length = lc at *
   generalize hld : D.length = ld at *
   have HLC := Lib.hid hlc
   have HLD := Lib.hid hld
   clear hlc hld
   rcases Nat.lt_or_ge 2 ld with h3 | h2
   ·have h3i : (2 : Int) < (ld : Int) := by omega
    have hr := HRED.out h3
    have HR3 := Lib.hid hr
    clear hr HRED HCOP HDIV HWORD HZERO
    go_wp2_with fail
    refine HR3.out.mono ?_
    rintro e w2 ⟨A3, c3, C2, A4, c4, D2, rfl, i1, i2, i3, i4, i5, i6, i7, i8, i9, i10⟩
    have HN := Lib.hid (cs_step hcs.out i1 i2 i3 i4 i5 i6 (by rw [HLC.out]; rw [HLC.out] at i8; exact i8) i10)
    have HM3 := Lib.hid (congrArg val9 (readRow_row i1))
    have HM4 := Lib.hid (congrArg val9 (readRow_row i2))
    have HM5 := Lib.hid i7
    clear i1 i2 i3 i4 i5 i6 i7 i8 i9 i10
    go_wp2_with fail
    go_roundw
    case rel => exact ⟨A3, c3, C2, A4, c4, D2, rfl, rfl, HN.out⟩
    case measure =>
     show val9 (readRow w2 (.slice A3 (List.length C2) c3)) + val9 (readRow w2 (.slice A4 (List.length D2) c4)) < val9 (readRow wr (.slice A1 lc c1)) + val9 (readRow wr (.slice A2 ld c2))
     rw [HM1.out, HM2.out, HM3.out, HM4.out]
     exact HM5.out
   ·rcases Nat.eq_zero_or_pos ld with h0 | h0
    ·have hz := HZERO.out h0
     subst h0
     have HZ := Lib.hid hz
     clear hz HRED HDIV HWORD HZERO h2
     go_wp2_with fail
     refine HCOP.out.mono ?_
     rintro e w2 ⟨rfl, hb, hbw⟩
     have HN := Lib.hid (HFIN.out w2 (some ⟨wr.heap.size, 0, none⟩) lc C (Row.ofBlk hb hb.lt (by rw [HLC.out]; exact Nat.le_refl _)) hcs.out.k1 HZ.out (below_then hcs.out.bw hbw hcs.out.bw.size))
     clear hb hbw
     go_wp2_with fail
     go_ret
     have hn := HN.out
     rw [HLC.out] at hn
     exact hn
    ·have h0i : (0 : Int) < (ld : Int) := by omega
     have hne : ((ld : Int) == 0) = false := by rw [beq_eq_false_iff_ne]; omega
     have h2i : ¬ (2 : Int) < (ld : Int) := by omega
     have hdv := HDIV.out h0
     have HDV := Lib.hid hdv
     have HW := Lib.hid (fun W => HWORD.out W h2)
     clear hdv HRED HCOP HDIV HWORD HZERO
     go_wp2_with fail
     refine HDV.out.mono ?_
     rintro e w2 ⟨A3, c3, Q, A4, c4, R, rfl, i1, i2, i3, i4, i5, i6, i7, i8, i9⟩
     have hrl := canon_len hcs.out.k2 i4 (Nat.le_of_lt i6)
     rw [HLD.out] at hrl
     have hw4 := wordOf_any A4 c4 R w2 (by omega) (by have := val2 i4.lim (by omega); omega) i2 i4.lim
     have hg0 : Nat.gcd (val9 D) (val9 R) = Nat.gcd (val9 L) (val9 M) := by
      have e1 : val9 R = val9 C % val9 D := by rw [← i5, Nat.mul_comm, Nat.mul_add_mod, Nat.mod_eq_of_lt i6]
      rw [e1, Nat.gcd_comm, ← Nat.gcd_rec, Nat.gcd_comm, hcs.out.g]
     have hv1 := val2 hcs.out.k2.lim (by rw [HLD.out]; omega)
     have hv2 := val2 i4.lim (by omega)
     have hv3 : Nat.gcd (val9 L) (val9 M) ≤ 1000000000000000000 := by
      rw [← hg0]
      exact Nat.le_trans (Nat.gcd_le_left _ (by omega)) hv1
     have hwg := wordGcd_any (val9 D) (val9 R) w2 (by omega) (by omega)
     rw [hg0] at hwg
     have HW4 := Lib.hid hw4
     have HWG := Lib.hid hwg
     have HV3 := Lib.hid hv3
     have HBB := Lib.hid i9
     have HB := Lib.hid (below_then hcs.out.bw i9 hcs.out.bw.size)
     clear i1 i2 i3 i4 i5 i6 i7 i8 i9 hw4 hwg hg0 hv1 hv2 hv3
     go_wp2_with fail
     refine (HW.out _ HBB.out).mono ?_
     rintro e w5 ⟨rfl, rfl⟩
     go_wp2_with fail
     refine HW4.out.mono ?_
     rintro e w5 ⟨rfl, rfl⟩
     go_wp2_with fail
     refine HWG.out.mono ?_
     rintro e w5 ⟨rfl, k, rfl⟩
     go_wp2_with fail
     refine (limbsOf_any _ _ (by have := HV3.out; omega)).mono ?_
     rintro e w5 ⟨A5, c5, rfl, j1, j2⟩
     have HN := Lib.hid (HFIN.out w5 A5 c5 _ j1 (limbsN_canon _) (limbsN_val _) (below_then HB.out (below_undrewN j2) HB.out.size))
     clear j1 j2
     go_wp2_with fail
     go_ret
     exact HN.out
set_option maxHeartbeats 6400000
set_option maxRecDepth 20000
theorem tdiv_sign (n m : Bool) (a b q r : Nat) (h : q * b + r = a) (hr : r < b) :
  Int.tdiv (if n then -(a : Int) else a) (if m then -(b : Int) else b) = (if n != m then -(q : Int) else q) ∧ Int.tmod (if n then -(a : Int) else a) (if m then -(b : Int) else b) = (if n then -(r : Int) else r) := by
 have hq : a / b = q := Nat.div_eq_of_lt_le (by omega) (by rw [Nat.add_mul]; omega)
 have hm : a % b = r := by have := Nat.div_add_mod a b; rw [hq, Nat.mul_comm] at this; omega
 have e1 : Int.tdiv (a : Int) (b : Int) = (q : Int) := by rw [← hq]; rfl
 have e2 : Int.tmod (a : Int) (b : Int) = (r : Int) := by rw [← hm]; rfl
 cases n <;> cases m <;> simp [Int.neg_tdiv, Int.tdiv_neg, Int.neg_tmod, Int.tmod_neg, e1, e2]
theorem zI_signed (k : Bool) {Q : List Nat} (h0 : Q.length = 0 → val9 Q = 0) : zI (k && decide (0 < Q.length)) Q = if k then -(val9 Q : Int) else val9 Q := by
 unfold zI
 rcases Nat.eq_zero_or_pos Q.length with h | h
 ·rw [h0 h]; simp
 ·have e : decide (0 < Q.length) = true := by simpa using h
  rw [e, Bool.and_true]
theorem qr_final {w w4 : World} {p0 p1 p2 p3 : Value} {k1 k2 : Bool} {A1 A2 : Option Addr} {c1 c2 : Nat} {Q R : List Nat} (hS : St w w4 p0 p1 p2 p3 (.bool false) (.slice none 0 0) (.bool false) (.slice none 0 0))
  (h1 : IntR w4 w4.heap.size k1 A1 c1 Q) (h2 : IntR w4 w4.heap.size k2 A2 c2 R) (u1 v1 u2 v2 : Value) {W : World} (hW : W = setPair (setPair w4 (w.heap.size + 1 + 1) u1 v1) (w.heap.size + 1 + 1 + 1) u2 v2) :
  IntR W W.heap.size k1 A1 c1 Q ∧ IntR W W.heap.size k2 A2 c2 R ∧ Below w.heap.size w W := by
 subst hW
 have hS2 := hS.s2 u1 v1
 rw [setPair_size, setPair_size]
 exact ⟨IntR.pair hS2.b3 (IntR.pair hS.b2 h1 u1 v1) u2 v2, IntR.pair hS2.b3 (IntR.pair hS.b2 h2 u1 v1) u2 v2, (hS2.s3 u2 v2).bw⟩
theorem qr_final2 {w w4 : World} {p0 p1 p2 p3 : Value} {k1 k2 : Bool} {A1 A2 : Option Addr} {c1 c2 : Nat} {Q R : List Nat} (hS : St w w4 p0 p1 p2 p3 (.bool false) (.slice none 0 0) (.bool false) (.slice none 0 0))
  (h1 : IntR w4 w4.heap.size k1 A1 c1 Q) (h2 : IntR w4 w4.heap.size k2 A2 c2 R) (u1 v1 u2 v2 : Value) {W : World} (hW : W = setPair (setPair w4 (w.heap.size + 1 + 1 + 1) u2 v2) (w.heap.size + 1 + 1) u1 v1) :
  IntR W W.heap.size k1 A1 c1 Q ∧ IntR W W.heap.size k2 A2 c2 R ∧ Below w.heap.size w W := by
 subst hW
 have hS2 := hS.s3 u2 v2
 rw [setPair_size, setPair_size]
 exact ⟨IntR.pair hS2.b2 (IntR.pair hS.b3 h1 u2 v2) u1 v1, IntR.pair hS2.b2 (IntR.pair hS.b3 h2 u2 v2) u1 v1, (hS2.s2 u1 v1).bw⟩
theorem qr_post {w w4 W : World} {p0 p1 p2 p3 : Value} {n m : Bool} {A1 A2 : Option Addr} {c1 c2 : Nat} {Q R L M : List Nat} (hS : St w w4 p0 p1 p2 p3 (.bool false) (.slice none 0 0) (.bool false) (.slice none 0 0))
  (h1 : IntR w4 w4.heap.size (!(n == m) && decide (0 < Q.length)) A1 c1 Q) (h2 : IntR w4 w4.heap.size (n && decide (0 < R.length)) A2 c2 R) {u1 v1 u2 v2 : Value}
  (hW : W = setPair (setPair w4 (w.heap.size + 1 + 1) u1 v1) (w.heap.size + 1 + 1 + 1) u2 v2 ∨ W = setPair (setPair w4 (w.heap.size + 1 + 1 + 1) u2 v2) (w.heap.size + 1 + 1) u1 v1)
  (hv : val9 Q * val9 M + val9 R = val9 L) (hlt : val9 R < val9 M) {l : Nat} (hq : Q.length ≤ l) (hr : R.length ≤ l + 1) {lq lr : Nat} (hlq : Q.length = lq) (hlr : R.length = lr) :
  ∃ k1 B1 d1 Q' k2 B2 d2 R', Ending.returned (.tuple #[.agg #[.bool (!(n == m) && decide (0 < lq)), .slice A1 lq c1], .agg #[.bool (n && decide (0 < lr)), .slice A2 lr c2], .int .i64 0]) = Ending.returned (.tuple #[.agg #[.bool k1, .slice B1 (List.length Q') d1], .agg #[.bool k2, .slice B2 (List.length R') d2], .int .i64 0]) ∧
   IntR W W.heap.size k1 B1 d1 Q' ∧ IntR W W.heap.size k2 B2 d2 R' ∧ zI k1 Q' = Int.tdiv (zI n L) (zI m M) ∧ zI k2 R' = Int.tmod (zI n L) (zI m M) ∧ List.length Q' ≤ l ∧ List.length R' ≤ l + 1 ∧ Below w.heap.size w W := by
 subst hlq
 subst hlr
 have hf : IntR W W.heap.size (!(n == m) && decide (0 < Q.length)) A1 c1 Q ∧ IntR W W.heap.size (n && decide (0 < R.length)) A2 c2 R ∧ Below w.heap.size w W := by
  rcases hW with hW | hW
  ·exact qr_final hS h1 h2 _ _ _ _ hW
  ·exact qr_final2 hS h1 h2 _ _ _ _ hW
 have hz := tdiv_sign n m (val9 L) (val9 M) (val9 Q) (val9 R) hv hlt
 exact ⟨_, A1, c1, Q, _, A2, c2, R, rfl, hf.1, hf.2.1, by rw [zI_signed _ val9_nil]; exact hz.1.symm, by rw [zI_signed _ val9_nil]; exact hz.2.symm, hq, hr, hf.2.2⟩
theorem quoRem_zero (n m : Bool) (A A' : Option Addr) (c c' : Nat) (L : List Nat) (w : World) :
  Calls Tryz.prog 114 #[.agg #[.bool n, .slice A L.length c], .agg #[.bool m, .slice A' 0 c']] w fun e w' => e = .returned (.tuple #[.agg #[.bool false, .slice none 0 0], .agg #[.bool false, .slice none 0 0], .int .i64 10]) ∧ Below w.heap.size w w' := by
 generalize L.length = l at *
 go_enter Tryz.func114, Tryz.ntmps114
 go_wp2
 refine bodyPost_ret (v := .tuple #[.agg #[.bool false, .slice none 0 0], .agg #[.bool false, .slice none 0 0], .int .i64 10]) (by simp [results, Tryz.results114, go_sem]) rfl ⟨rfl, ?_⟩
 exact (below_a2 w _ _).trans (Below.less (below_a2 _ _ _) (by simp; omega))
theorem quoRem_pos (n m : Bool) (A A' : Option Addr) (c c' : Nat) (L M : List Nat) (w : World) (hl : L.length ≤ 400000) (hml : M.length ≤ 400000) (hm0 : 0 < M.length)
  (hL : IntR w w.heap.size n A c L) (hM : IntR w w.heap.size m A' c' M) :
  Calls Tryz.prog 114 #[.agg #[.bool n, .slice A L.length c], .agg #[.bool m, .slice A' M.length c']] w fun e w' => ∃ k1 A1 c1 Q k2 A2 c2 R, e = .returned (.tuple #[.agg #[.bool k1, .slice A1 (List.length Q) c1], .agg #[.bool k2, .slice A2 (List.length R) c2], .int .i64 0]) ∧
   IntR w' w'.heap.size k1 A1 c1 Q ∧ IntR w' w'.heap.size k2 A2 c2 R ∧ zI k1 Q = Int.tdiv (zI n L) (zI m M) ∧ zI k2 R = Int.tmod (zI n L) (zI m M) ∧ List.length Q ≤ L.length ∧ List.length R ≤ L.length + 1 ∧ Below w.heap.size w w' := by
 have F := four_boxes w (.bool n) (.slice A L.length c) (.bool m) (.slice A' M.length c') (.bool false) (.slice none 0 0) (.bool false) (.slice none 0 0) 25 25 25 25
 have hdv := fun W h1 h2 => divide_any A A' c c' L M W hl hml hm0 hL.canon hM.canon h1 h2
 have HDV := Lib.hid hdv
 have hne : ((M.length : Int) == 0) = false := by rw [beq_eq_false_iff_ne]; omega
 clear hdv
 generalize hl' : L.length = l at *
 generalize hm' : M.length = l2 at *
 have HLL := Lib.hid hl'
 have HML := Lib.hid hm'
 clear hl' hm'
 go_enter Tryz.func114, Tryz.ntmps114
 go_upto_region 3 with (fail)
 change Code.wp Tryz.prog _ _ _ ((((w.alloc (.cells #[.bool n, .slice A l c] 25)).alloc (.cells #[.bool m, .slice A' l2 c'] 25)).alloc (.cells #[.bool false, .slice none 0 0] 25)).alloc (.cells #[.bool false, .slice none 0 0] 25))
 generalize (((w.alloc (.cells #[.bool n, .slice A l c] 25)).alloc (.cells #[.bool m, .slice A' l2 c'] 25)).alloc (.cells #[.bool false, .slice none 0 0] 25)).alloc (.cells #[.bool false, .slice none 0 0] 25) = W0 at *
 obtain ⟨b0, b1, b2, b3, hsz, hbw⟩ := F
 have S0 : St w W0 _ _ _ _ _ _ _ _ := ⟨b0, b1, b2, b3, hbw, by omega⟩
 have x0 := b0.c0
 have x1 := b0.c1
 have x2 := b1.c0
 have x3 := b1.c1
 go_wp2_with fail
 have rL := hL.row.up S0.bw
 have rM := hM.row.up S0.bw
 refine (HDV.out W0 rL rM).mono ?_
 rintro e w1 ⟨A1, c1, Q, A2, c2, R, rfl, rQ, rR, cQ, cR, hv, hlt, hlq, hlr, hb1⟩
 have S1 := S0.call hb1
 have hn1 : ¬ w.heap.size + 1 + 1 = w.heap.size := by omega
 have hn2 : ¬ w.heap.size + 1 + 1 + 1 = w.heap.size := by omega
 have hn3 : ¬ w.heap.size + 1 + 1 = w.heap.size + 1 := by omega
 have hn4 : ¬ w.heap.size + 1 + 1 + 1 = w.heap.size + 1 := by omega
 have hn5 : ¬ w.heap.size + 1 + 1 + 1 = w.heap.size + 1 + 1 := by omega
 have hn6 : ¬ w.heap.size + 1 + 1 = w.heap.size + 1 + 1 + 1 := by omega
 have x0 := S1.b0.c0
 have x1 := S1.b0.c1
 have x2 := S1.b1.c0
 have x3 := S1.b1.c1
 have y0 := S1.b2.c0
 have y1 := S1.b2.c1
 have y2 := S1.b3.c0
 have y3 := S1.b3.c1
 have z0 := S1.b2.f0
 have z1 := S1.b2.f1
 have z2 := S1.b3.f0
 have z3 := S1.b3.f1
 have HS1 := Lib.hid S1
 have HV := Lib.hid hv
 have HLT := Lib.hid hlt
 have RQ := Lib.hid rQ
 have RR := Lib.hid rR
 have HC := Lib.hid (below_drew (Below.refl w1.heap.size w1))
 clear S0 hb1 hbw hsz b0 b1 b2 b3 rL rM hv hlt S1 rQ rR
 generalize hlq' : List.length Q = lq at *
 generalize hlr' : List.length R = lr at *
 have HLQ := Lib.hid hlq'
 have HLR := Lib.hid hlr'
 clear hlq' hlr'
 go_wp2_with fail
 go_region_held3 (fun w' => w'.cell? ⟨w.heap.size, 0, none⟩ = some (.bool n) ∧ w'.cell? ⟨w.heap.size + 1, 0, none⟩ = some (.bool m)) (go_keep)
  (first
   | (go_at_call 77; (with_reducible refine (signed_any _ _ _ _ _).mono ?_); rintro e w4 ⟨rfl, hb4⟩; have HC9 := Lib.hid (below_then HC.out hb4 HC.out.size); clear HC; have HC := HC9; clear HC9 hb4 x0 x1 x2 x3 y0 y1 y2 y3 z0 z1 z2 z3; have S9 := HS1.out.call HC.out; have x0 := S9.b0.c0; have x1 := S9.b0.c1; have x2 := S9.b1.c0; have x3 := S9.b1.c1; have y0 := S9.b2.c0; have y1 := S9.b2.c1; have y2 := S9.b3.c0; have y3 := S9.b3.c1; have z0 := S9.b2.f0; have z1 := S9.b2.f1; have z2 := S9.b3.f0; have z3 := S9.b3.f1; clear S9))
 all_goals
  go_wp2
  have hS := HS1.out.call HC.out
  have hi1 : IntR w4 w4.heap.size (!(n == m) && decide (0 < lq)) A1 c1 Q := ⟨RQ.out.up HC.out, cQ, fun hk hR => by rw [← HLQ.out, hR] at hk; simp at hk⟩
  have hi2 : IntR w4 w4.heap.size (n && decide (0 < lr)) A2 c2 R := ⟨RR.out.up HC.out, cR, fun hk hR => by rw [← HLR.out, hR] at hk; simp at hk⟩
  refine bodyPost_ret (v := .tuple #[.agg #[.bool (!(n == m) && decide (0 < lq)), .slice A1 lq c1], .agg #[.bool (n && decide (0 < lr)), .slice A2 lr c2], .int .i64 0]) (by simp [results, Tryz.results114, go_sem, y0, y1, y2, y3]) rfl ?_
  rw [← HLQ.out] at hi1
  rw [← HLR.out] at hi2
  exact qr_post hS hi1 hi2 (by first | exact .inl rfl | exact .inr rfl) HV.out HLT.out (by rw [HLQ.out, ← HLL.out]; exact hlq) (by rw [HLR.out, ← HLL.out]; exact hlr) HLQ.out HLR.out
theorem zI_natAbs (n : Bool) (L : List Nat) : (zI n L).natAbs = val9 L := by unfold zI; split <;> simp
set_option maxRecDepth 20000 in
set_option maxHeartbeats 3200000 in
theorem gcd_any (n m : Bool) (A A' : Option Addr) (c c' : Nat) (L M : List Nat) (w : World) (hl : L.length ≤ 380000) (hml : M.length ≤ 380000) (hL : IntR w w.heap.size n A c L) (hM : IntR w w.heap.size m A' c' M) :
  Calls Tryz.prog 37 #[.agg #[.bool n, .slice A L.length c], .agg #[.bool m, .slice A' M.length c']] w fun e w' => ∃ k A c R, e = .returned (.agg #[.bool k, .slice A R.length c]) ∧
   IntR w' w'.heap.size k A c R ∧ zI k R = (Int.gcd (zI n L) (zI m M) : Int) ∧ R.length ≤ L.length + M.length ∧ Below w.heap.size w w' := by
 have hcd := fun W h1 h2 => comDiv_any A A' c c' L M W hl hml hL.canon hM.canon h1 h2
 have hgg : Nat.gcd (val9 L) (val9 M) = Int.gcd (zI n L) (zI m M) := by unfold Int.gcd; rw [zI_natAbs, zI_natAbs]
 have HCD := Lib.hid hcd
 have HGG := Lib.hid hgg
 clear hcd hgg
 have hba := below_a3 w (.cells #[.bool n, .slice A L.length c] 25) (.cells #[.bool m, .slice A' M.length c'] 25) (.cells #[.bool false, .slice none 0 0] 25)
 have Y := three (Below.refl _ (((w.alloc (.cells #[.bool n, .slice A L.length c] 25)).alloc (.cells #[.bool m, .slice A' M.length c'] 25)).alloc (.cells #[.bool false, .slice none 0 0] 25)))
 have hbr := Box.new ((w.alloc (.cells #[.bool n, .slice A L.length c] 25)).alloc (.cells #[.bool m, .slice A' M.length c'] 25)) (.bool false) (.slice none 0 0) 25
 rw [show ((w.alloc (.cells #[.bool n, .slice A L.length c] 25)).alloc (.cells #[.bool m, .slice A' M.length c'] 25)).heap.size = w.heap.size + 1 + 1 by simp] at hbr
 have hsz : w.heap.size + 3 ≤ (((w.alloc (.cells #[.bool n, .slice A L.length c] 25)).alloc (.cells #[.bool m, .slice A' M.length c'] 25)).alloc (.cells #[.bool false, .slice none 0 0] 25)).heap.size := by simp
 generalize hl' : L.length = l at *
 generalize hm' : M.length = l2 at *
 have HLL := Lib.hid hl'
 have HML := Lib.hid hm'
 clear hl' hm'
 go_enter Tryz.func37, Tryz.ntmps37
 go_upto_region 1 with (fail)
 change Code.wp Tryz.prog _ _ _ (((w.alloc (.cells #[.bool n, .slice A l c] 25)).alloc (.cells #[.bool m, .slice A' l2 c'] 25)).alloc (.cells #[.bool false, .slice none 0 0] 25))
 generalize ((w.alloc (.cells #[.bool n, .slice A l c] 25)).alloc (.cells #[.bool m, .slice A' l2 c'] 25)).alloc (.cells #[.bool false, .slice none 0 0] 25) = W0 at *
 have x0 := Y.1
 have x1 := Y.2.1
 have x2 := Y.2.2.1
 have x3 := Y.2.2.2.1
 have r1 := hL.row.up hba
 have r2 := hM.row.up hba
 have HBR := Lib.hid hbr
 have HBA := Lib.hid hba
 have R1 := Lib.hid r1
 have R2 := Lib.hid r2
 clear Y hbr hba r1 r2 hL hM
 go_wp2_with fail
 refine (HCD.out _ R1.out R2.out).mono ?_
 rintro e w1 ⟨A1, c1, R, rfl, i1, i2, i3, i4, i5⟩
 have HB1 := Lib.hid i5
 have I1 := Lib.hid i1
 have I2 := Lib.hid i2
 have I3 := Lib.hid i3
 have I4 := Lib.hid i4
 clear i1 i2 i3 i4 i5
 generalize hrl : List.length R = lr at *
 have HRL := Lib.hid hrl
 clear hrl
 go_wp2_with fail
 refine (signed_any _ _ _ _ _).mono ?_
 rintro e w2 ⟨rfl, hb2⟩
 have hb12 := below_then HB1.out hb2 HB1.out.size
 have b2 := HBR.out.below hb12 (by omega)
 have HB2 := Lib.hid b2
 have HBW := Lib.hid (below_then HBA.out hb12 HBA.out.size)
 have HR2 := Lib.hid (I1.out.up hb2)
 have y0 := b2.c0
 have y1 := b2.c1
 have z0 := b2.f0
 have z1 := b2.f1
 clear hb12 b2 hb2 x0 x1 x2 x3
 go_wp2_with fail
 have HI : IntR w2 w2.heap.size false A1 c1 R := ⟨HR2.out, I2.out, fun h => by simp at h⟩
 refine bodyPost_ret (v := .agg #[.bool false, .slice A1 lr c1]) (by simp [results, Tryz.results37, go_sem, y0, y1]) rfl ⟨false, A1, c1, R, by rw [HRL.out], ?_, by rw [← HGG.out, ← I3.out]; rfl, by have := I4.out; rw [HLL.out, HML.out] at this; rw [HRL.out]; exact this, (HBW.out.setCell (by simp; omega) _).setCell (by simp; omega) _⟩
 rw [setCell_size, setCell_size]
 exact IntR.pair HB2.out HI _ _
theorem gcd_fact {x y : Int} {n m : Nat} {a b : Value} {w : World} (h1 : PInt x n a w) (h2 : PInt y m b w) (hn : n ≤ 380000) (hm : m ≤ 380000) :
  Calls Tryz.prog 37 #[a, b] w fun e w' => ∃ v, e = .returned v ∧ PInt (Int.gcd x y : Int) (n + m) v w' ∧ Below w.heap.size w w' := by
 obtain ⟨k, A, c, L, rfl, i1, rfl, l1⟩ := h1
 obtain ⟨k2, A2, c2, L2, rfl, i2, rfl, l2⟩ := h2
 refine (gcd_any k k2 A A2 c c2 L L2 w (by omega) (by omega) i1 i2).mono ?_
 rintro e w' ⟨q, B, d, R, rfl, hi, hz, hl, hb⟩
 exact ⟨_, rfl, ⟨q, B, d, R, rfl, hi, hz, by omega⟩, hb⟩
theorem Own.ofBlk {k : IntKind} {e : TypeId} {w : World} {base g : Nat} {L : List Nat} (h : Blk k e w g L) (hb : base ≤ g) (hl : L.length ≤ 1000000) : Own k e w base (.slice (some ⟨g, 0, none⟩) L.length L.length) L := by
 refine ⟨by simp, .inr ⟨g, L.length, _, rfl, hb, h, Nat.le_refl _, by unfold maxLen; omega, by simp, by simp only [Nat.mul_one]; exact List.take_of_length_le (by simp)⟩⟩
theorem Own.lies {k : IntKind} {e : TypeId} {w : World} {base : Nat} {v : Value} {L : List Nat} (h : Own k e w base v L) :
  ∃ A c, v = .slice A L.length c ∧ Row k w w.heap.size A c L ∧ (∀ b o, A = some ⟨b, o, none⟩ → base ≤ b) := by
 obtain ⟨A, c, rfl, hr⟩ := h.row
 refine ⟨A, c, rfl, hr, fun b o hA => ?_⟩
 subst hA
 rcases h.2 with ⟨h0, _⟩ | ⟨g, cap, cur, he, hbg, _⟩
 ·cases h0
 ·injection he with h1 h2 h3
  injection h1 with h1
  injection h1 with h1 h4 h5
  omega
theorem run_append_nil_any {P : Program} {w : World} (base : Nat) (t ty e : TypeId) (i : TypeInfo) (ht : P.underlying t = some (.slice e)) (hi : P.info? e = some i) {size : Nat}
  (v : Value) (n : Nat) (xs : List Value) (hown : w.ownsRow base e size v n xs) (c : Nat) : (Builtin.append_ #[t, t] ty #[v, .slice none 0 c]).run P w = .ok v w := by
 rcases hown.2 with ⟨rfl, rfl⟩ | ⟨g, cap, cur, rfl, _, _, hnc, _⟩
 ·simp [Builtin.append_, run_underlying ht, sizeOf, typeInfo, hi, Builtin.lenOf, Builtin.firstCells]
 ·simp [Builtin.append_, run_underlying ht, sizeOf, typeInfo, hi, Builtin.lenOf, Builtin.firstCells, hnc, storeCells]
theorem wpList_append_row {P : Program} {w : World} {ops : Array Oper} {rest : List Oper} {o : Oper} {a : Act} {Q : Exit → Act → World → Prop} (hgd : o.guard = none) (s x : Operand) (t : TypeId)
  (ho : o.op = .call { callee := .builtin .append, args := #[s, x], argTypes := #[t, t] })
  (k : IntKind) (base : Nat) (e : TypeId) (i : TypeInfo) (bytes : Nat) (ht : P.underlying t = some (.slice e)) (hi : P.info? e = some i) (hz : i.zero = some (.int k 0))
  (hsize : i.size = 1) (hby : i.bytes = bytes) (hb8 : bytes ≤ 8)
  (v : Value) (L : List Nat) (hs : a.eval s = v) (hown : Own k e w base v L) (A : Option Addr) (m c : Nat) (M : List Nat) (hm : M.length = m) (hx : a.eval x = .slice A m c) {B : Nat} (hR : Row k w B A c M)
  (hlen : L.length + m ≤ 100000000) (hbase : base ≤ w.heap.size)
  (h : ∀ v' w', Hid (Own k e w' base v' (L ++ M)) → Below base w w' → wpList P ops Q rest (a.put o.dst v') w') : wpList P ops Q (o :: rest) a w := by
 subst hm
 have hb := Nat.mul_le_mul_left (L.length + M.length) hb8
 rcases A with _ | ad
 ·have h0 : M.length = 0 := by
   rcases Nat.eq_zero_or_pos M.length with h0 | h0
   ·exact h0
   ·obtain ⟨b, o', e1, _, _⟩ := hR.spot h0; cases e1
  have hM : M = [] := List.eq_nil_of_length_eq_zero h0
  subst hM
  refine wpList_plain hgd fun K hK => ?_
  have hrun := run_append_nil_any (P := P) (w := w) base t o.type e i ht hi v _ _ hown c
  unfold Oper.wp
  simp only [List.length_nil] at hx
  simp [execOp, ho, resolve, invoke, builtin, hs, hx, hrun, Result.andThen]
  exact hK _ _ (h v w (by rw [List.append_nil]; exact hown) (Below.refl _ _))
 ·refine wpList_append_own w hgd s x t ho base e i (.int k 0) 1 bytes ht hi hz hsize hby rfl (by decide) v L.length _ hs hown ad M.length c (M.map fun (d : Nat) => Value.int k (d : Int)) hx (by simp) ?_ ?_ (by unfold maxLen; omega) (by omega) hbase ?_
  ·intro j u hj
   have hjl : j < M.length := by
    rcases Nat.lt_or_ge j M.length with h1 | h1
    ·exact h1
    ·rw [List.getElem?_eq_none (by simpa using h1)] at hj; cases hj
   obtain ⟨b, o', e1, _, hc⟩ := hR.spot (by omega)
   injection e1 with e1
   subst e1
   have h2 := hc j hjl
   have h3 : u = .int k (nth M j) := by
    rw [List.getElem?_map, List.getElem?_eq_getElem hjl] at hj
    simp at hj
    rw [← hj, nth_lt hjl]
   rw [h3, ← h2]
   unfold Addr.add
   split
   ·rename_i h0; subst h0; simp
   ·rfl
  ·intro u hu
   obtain ⟨d, _, rfl⟩ := List.mem_map.1 hu
   rfl
  ·intro v' w' h1 h2 _
   refine h v' w' ?_ ((Below.refl base w).grown h2 hbase (fun j hj => (World.ownsRow.lt hown j hj).1))
   show World.ownsRow _ _ _ _ _ _ _
   rw [List.length_append, List.map_append]
   exact h1
end Go.Proofs.YtgihmikeapbpkaaGreatDoor
