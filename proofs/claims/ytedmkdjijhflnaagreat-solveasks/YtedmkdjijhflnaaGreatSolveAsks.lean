/- The law SolveAsks: a name that is looked up, and answered, is told its addresses, and is told them at once until they are over: any name (made one of a label), any addresses, any lifetime, any draw. -/
import Derived.Test.YtedmkdjijhflnaaGreatE12
import Derived.Test.YtedmkdjijhflnaaGreatRows
import Derived.ProofKit
import Derived.Deep.Cut
import Derived.Deep.RegionHeld3
import Derived.OpenShut
import Derived.ShutString
import Derived.ChangeOld
import Derived.Below
namespace Go.Proofs.YtedmkdjijhflnaaGreat.solveAsks
open Go.ChangeShapes Go.WideShapes Go.ChangeAt Go.RowKit
open Go.ChangeMaps (open_string shut_string)
set_option linter.unusedVariables false
set_option maxRecDepth 20000
set_option linter.unusedSimpArgs false

theorem own : ownKnob Tryz.prog.godebug = none := by kernel_rfl

/-- A row of numbers that came in. -/
def IsRow (k : IntKind) (W : World) (a : Option Addr) (len cap : Nat) (zs : List Int) : Prop :=
  (a = none ∧ len = 0 ∧ cap = 0 ∧ zs = []) ∨ ∃ x : Addr, a = some x ∧ len ≤ cap ∧ cap ≤ maxLen ∧ zs.length = cap ∧ (∀ i, i < zs.length → W.cell? (x.add i) = some (.int k (zs.getD i 0))) ∧ ∀ n ∈ zs, (Lit.int k n).wf = true
/-- The law's addresses. -/
def prK (zs : List Int) (k : Nat) : List (Nat × Nat) := (List.range k).map fun i => ((zs.getD i 0).toNat % 256, i)
def adsK (zs : List Int) (k : Nat) : List Ad := (prK zs k).map fun p => adK p.1 p.2
theorem adsK_succ (zs : List Int) (k : Nat) : adsK zs (k + 1) = adsK zs k ++ [adK ((zs.getD k 0).toNat % 256) k] := by simp [adsK, prK, List.range_succ]
theorem adsK_len (zs : List Int) (k : Nat) : (adsK zs k).length = k := by simp [adsK, prK]
theorem adsK_16 (zs : List Int) (k : Nat) : ∀ a ∈ adsK zs k, a.2.length = 16 := fun a ha => by
  obtain ⟨p, _, rfl⟩ := List.mem_map.1 ha
  rfl
theorem prK_lt (zs : List Int) (k : Nat) (hk : k ≤ 3) : ∀ p ∈ prK zs k, p.1 < 256 ∧ p.2 < 256 := fun p hp => by
  obtain ⟨i, hi, rfl⟩ := List.mem_map.1 hp
  have := List.mem_range.1 hi
  exact ⟨Nat.mod_lt _ (by decide), by show i < 256; omega⟩
theorem adsK_nodup (zs : List Int) : ∀ k, (adsK zs k).Nodup
  | 0 => by simp [adsK, prK]
  | k + 1 => by
    rw [adsK_succ, List.nodup_append]
    refine ⟨adsK_nodup zs k, by simp, fun a ha b hb e => ?_⟩
    rw [List.mem_singleton.1 hb] at e
    obtain ⟨p, hp, rfl⟩ := List.mem_map.1 ha
    obtain ⟨i, hi, rfl⟩ := List.mem_map.1 hp
    have h1 := List.mem_range.1 hi
    simp [adK] at e
    omega
theorem dr_id (d : Int) : idP d = ((aroundN d 65536 : Nat) : Int) := by
  unfold idP aroundN
  split
  · rw [show -1 - d = -(d + 1) by omega]; omega
  · omega
theorem own_apart {w : World} {b1 b2 : Nat} {e1 e2 : TypeId} {z1 z2 n1 n2 : Nat} {v1 v2 : Value} {x1 x2 : List Value} (h1 : w.ownsRow b1 e1 z1 v1 n1 x1) (h2 : w.ownsRow b2 e2 z2 v2 n2 x2) (hne : e1 ≠ e2) : v1.ownBlock = none ∨ v1.ownBlock ≠ v2.ownBlock := by
  rcases h1.2 with ⟨rfl, _⟩ | ⟨g1, c1, k1, rfl, _, h1, _⟩
  · exact .inl rfl
  · rcases h2.2 with ⟨rfl, _⟩ | ⟨g2, c2, k2, rfl, _, h2, _⟩
    · exact .inr (by intro h; cases h)
    · refine .inr (fun e => hne ?_)
      have e : some g1 = some g2 := e
      injection e with e
      subst e
      have := Option.some.inj (h1.symm.trans h2)
      injection this
theorem range_below12 {w w' : World} {G o : Nat} {cs : List Value} (h : w.rangeAt G o cs) (hb : Below w.heap.size w w') (hG : G < w.heap.size) : w'.rangeAt G o cs := fun j u hu => (hb.cell (p := ⟨G, o + j, none⟩) hG).trans (h j u hu)
theorem built_arrK (x i : Int) : Tryz.prog.built 67 [(0, .int .u8 x), (1, .int .u8 i), (2, .int .u8 1), (3, .int .u8 1)] = some #[.int .u8 x, .int .u8 i, .int .u8 1, .int .u8 1, .int .u8 0, .int .u8 0, .int .u8 0, .int .u8 0, .int .u8 0, .int .u8 0, .int .u8 0, .int .u8 0, .int .u8 0, .int .u8 0, .int .u8 0, .int .u8 0] := by kernel_rfl
theorem built_adK (x i : Nat) : Tryz.prog.built 69 [(0, .int .i64 4), (1, .agg #[.int .u8 (x : Int), .int .u8 (i : Int), .int .u8 1, .int .u8 1, .int .u8 0, .int .u8 0, .int .u8 0, .int .u8 0, .int .u8 0, .int .u8 0, .int .u8 0, .int .u8 0, .int .u8 0, .int .u8 0, .int .u8 0, .int .u8 0])] = some (adL (adK x i)).toArray := by kernel_rfl
theorem built_recK (nm : ByteArray) (T : Int) (x i : Nat) : Tryz.prog.built 71 [(0, .string nm), (1, .int .i64 1), (2, .int .i64 1), (3, .int .i64 T), (4, addrV (adK x i).1 (adK x i).2)] = some (recL (recK nm T (adK x i))).toArray := by kernel_rfl
set_option maxRecDepth 100000 in
set_option maxHeartbeats 8000000 in
theorem walk (s0 : ByteArray) (a : Option Addr) (len cap : Nat) (zs : List Int) (z t : Int) (w : World) (hs : s0.size ≤ maxLen) (hI : IsRow .u32 w a len cap zs) (w0 : (Lit.int .i64 z).wf = true) (w1 : (Lit.int .i64 t).wf = true) :
    Calls Tryz.prog 6 #[.string s0, .slice a len cap, .int .i64 z, .int .i64 t] w fun e w' => e = .returned (.bool true) ∧ Below w.heap.size w w' := by
  have hs2 : s0.size ≤ 9223372036854775807 := by unfold maxLen at hs; omega
  have hlen : len ≤ 9223372036854775807 := by
    rcases hI with ⟨_, rfl, _⟩ | ⟨x, _, h1, h2, _⟩
    · decide
    · unfold maxLen at h2; omega
  obtain ⟨N, hN⟩ : ∃ N, min len 3 = N := ⟨_, rfl⟩
  have hN3 : N ≤ 3 := by omega
  have HMN := Lib.hid hN
  have hNl : N ≤ len := by omega
  have HT : Hid (∀ k, k < N → ∃ ad : Addr, a = some ad ∧ w.cell? (ad.add k) = some (.int .u32 (zs.getD k 0)) ∧ (Lit.int .u32 (zs.getD k 0)).wf = true) := Lib.hid (fun k hk => by
    rcases hI with ⟨_, h0, _⟩ | ⟨ad, e, h1, h2, h3, h4, h5⟩
    · omega
    · have hkz : k < zs.length := by omega
      exact ⟨ad, e, h4 k hkz, h5 _ (by rw [List.getD_eq_getElem?_getD, List.getElem?_eq_getElem hkz]; exact List.getElem_mem hkz)⟩)
  obtain ⟨u, hu⟩ : ∃ u, s0.size % 1000 = u := ⟨_, rfl⟩
  have hu3 : u < 1000 := by omega
  have hrm : (s0.size : Int).tmod 1000 = (u : Int) := by rw [Int.tmod_eq_emod_of_nonneg (by omega)]; omega
  have hit : Lib.itoa ((u : Nat) : Int) = Lib.decDigits u := by unfold Lib.itoa; rw [if_neg (by omega)]; rfl
  have HDE := fun W => Lib.hid (refDecimal_any ((u : Nat) : Int) W (by omega) (by omega))
  simp only [hit] at HDE
  obtain ⟨DB, hDB⟩ : ∃ DB : ByteArray, (⟨(Lib.decDigits u).toArray⟩ : ByteArray) = DB := ⟨_, rfl⟩
  simp only [hDB] at HDE
  obtain ⟨NM, hNM⟩ : ∃ NM : ByteArray, (⟨#[97]⟩ : ByteArray) ++ DB = NM := ⟨_, rfl⟩
  have hnk : nmK u = NM := by rw [← hNM, ← hDB]; rfl
  have hNS : 1 ≤ NM.size ∧ NM.size ≤ 22 := by rw [← hnk]; exact nmK_size u hu3
  have HNS := Lib.hid hNS
  have HASK : Hid (askOk NM 1 = true) := Lib.hid (by rw [← hnk]; exact nmK_ask u hu3)
  have HMAY : Hid (mayN NM = true) := Lib.hid (by rw [← hnk]; exact nmK_may u hu3)
  have hds : DB.size ≤ 22 := by
    have e : NM.size = (⟨#[97]⟩ : ByteArray).size + DB.size := by rw [← hNM, ByteArray.size_append]
    omega
  have hno : ¬ (9223372036854775807 < 1 + DB.size) := by omega
  have hnz := aroundN_lt z 1000 (by decide)
  have HR1 : ∀ W, Hid (Calls Tryz.prog 10 #[.int .i64 z, .int .i64 1000] W fun e w' => e = .returned (.int .i64 ((aroundN z 1000 : Nat) : Int)) ∧ W = w') := fun W => Lib.hid (around_any z 1000 W w0 (by decide) (by decide))
  obtain ⟨T, hT⟩ : ∃ T : Int, 1 + ((aroundN z 1000 : Nat) : Int) = T := ⟨_, rfl⟩
  have hT1 : 1 ≤ T := by omega
  have hT2 : T ≤ 1000 := by omega
  have hwT : IntKind.i64.wrap (1 + ((aroundN z 1000 : Nat) : Int)) = T := by rw [IntKind.wrap_i64]; omega
  have HT1 := Lib.hid hT1
  have HT2 := Lib.hid hT2
  have HR2 : ∀ W, Hid (Calls Tryz.prog 10 #[.int .i64 t, .int .i64 65536] W fun e w' => e = .returned (.int .i64 (idP t)) ∧ W = w') := fun W => Lib.hid (by rw [dr_id]; exact around_any t 65536 W w1 (by decide) (by decide))
  have HLV := fun W => Lib.hid (lives12_any W)
  have HW1 := Lib.hid w1
  clear hs hI w0 w1 hN hu hit hDB hnk
  generalize aroundN z 1000 = az at *
  go_enter Tryz.func6, Tryz.ntmps6
  go_wp2_with fail
  try rw [hrm]
  refine (HDE _).out.mono ?_
  rintro e w2 ⟨rfl, hb2⟩
  have HB2 := Lib.hid hb2
  clear hb2 HDE hrm
  go_upto_region 2 with fail
  try rw [hNM]
  clear hNM hno hds
  go_wp2_with fail
  refine (HR1 w2).out.mono ?_
  rintro e wq ⟨rfl, hwq⟩
  obtain rfl : w2 = wq := hwq
  clear HR1
  go_upto_region 5 with fail
  try rw [hT]
  clear hT hwT hnz
  go_wp2_with fail
  go_loopw [10, 11, 12] (fun sl sw si wr => ∃ (k : Nat) (vl vw : Value), vl = sl ∧ vw = sw ∧ k ≤ N ∧ si = .int .i64 (k : Int) ∧ Hid (RowR wr w.heap.size vl ((adsK zs k).map (recK NM T))) ∧ Hid (RowA wr w.heap.size vw (adsK zs k)) ∧ Hid (Below w.heap.size w wr)) (fun _ _ i _ => N - (intOf i).toNat)
  case atStart => exact ⟨0, _, _, rfl, rfl, Nat.zero_le _, rfl, Lib.hid (RowR.nil _ _), Lib.hid (RowA.nil _ _), HB2⟩
  case round =>
    clear HB2
    obtain ⟨k, vl, vw, rfl, rfl, hk, rfl, HRL, HRA, HB⟩ := hrel
    by_cases hkN : k < N
    · have hdl : decide ((k : Int) < (len : Int)) = true := decide_eq_true (by omega)
      have hdln : decide (k < len) = true := decide_eq_true (by omega)
      have hd3 : decide ((k : Int) < 3) = true := decide_eq_true (by omega)
      have hdn3 : decide (k < 3) = true := decide_eq_true (by omega)
      have hklen : (k : Int) < (len : Int) := by omega
      have hk0 : (0 : Int) ≤ (k : Int) := by omega
      have hwk : IntKind.i64.wrap ((k : Int) + 1) = (k : Int) + 1 := by rw [IntKind.wrap_i64]; omega
      obtain ⟨ad, rfl, hcw, hzw⟩ := HT.out k hkN
      have hcell : wr.cell? (ad.add k) = some (.int .u32 (zs.getD k 0)) := by rw [HB.out.cell (p := ad.add k) (World.block_lt_of_cell? w (ad.add k) hcw)]; exact hcw
      have hzb := bounds_u32 hzw
      have HSC := Lib.hid (adsK_succ zs k)
      generalize zs.getD k 0 = zk at *
      have hx8 : IntKind.u8.wrap zk = ((zk.toNat % 256 : Nat) : Int) := by
        simp only [IntKind.wrap, IntKind.bits, IntKind.signed]
        simp
        omega
      have hi8 : IntKind.u8.wrap (k : Int) = (k : Int) := by
        simp only [IntKind.wrap, IntKind.bits, IntKind.signed]
        simp
        omega
      generalize zk.toNat % 256 = x8 at *
      clear hcw hzw hzb
      have BAR := built_arrK ((x8 : Nat) : Int) ((k : Nat) : Int)
      have BAD := built_adK x8 k
      have BRC := built_recK NM T x8 k
      have HL16 : Hid ((adK x8 k).2.length = 16) := Lib.hid rfl
      obtain ⟨W1, hW1⟩ : ∃ W1, wr.alloc (.cells zA 69) = W1 := ⟨_, rfl⟩
      have HZ : Hid (AddrAt W1 wr.heap.size 0 (List.replicate 16 0)) := Lib.hid (by rw [← hW1]; exact addr_zeroed wr)
      have hb1 : Below wr.heap.size wr W1 := by rw [← hW1]; exact (Below.refl _ _).alloc (Nat.le_refl _) _
      have HBW := Lib.hid hb1
      clear hb1
      unfold zA at hW1
      go_upto_region 9 with (first
        | refine build_of rfl rfl BAR (by simp only [List.map_toArray, List.map_cons, List.map_nil]; rfl) ?_
        | refine build_of rfl rfl BAD (by simp only [List.map_toArray, List.map_cons, List.map_nil]; rfl) ?_
        | refine store_addr HZ _ _ HL16 rfl rfl rfl rfl (fun U HU HA => ?_))
      have hbU : Below wr.heap.size wr U := by rw [HU.out]; exact below_cells (Nat.le_refl _) _ _ _ HBW.out
      have HRL1 := Lib.hid (HRL.out.below hbU)
      have HRA1 := Lib.hid (HRA.out.below hbU)
      have HB1 := Lib.hid (chain HB.out hbU)
      have HNP : Hid (∀ g, vw.ownBlock = some g → g ≠ wr.heap.size) := Lib.hid (fun g hg => Nat.ne_of_lt (HRA.out.lt g hg).2)
      have HPR : Hid (U.rangeAt wr.heap.size 0 (adL (adK x8 k))) := Lib.hid HA.out.range
      have HPL : Hid (wr.heap.size < U.heap.size) := Lib.hid HA.out.lt
      obtain ⟨P, hP⟩ : ∃ P, wr.heap.size = P := ⟨_, rfl⟩
      rw [hP] at HPR HPL HNP
      try rw [hP]
      clear hP hbU HU HA HZ HBW hW1 BAR BAD HRL HRA HB hcell hx8 hi8
      have HM1 : Hid (1 = [adK x8 k].length) := Lib.hid rfl
      have HY1 : Hid (H16 [adK x8 k]) := Lib.hid (fun r hr => by rw [List.mem_singleton.1 hr]; rfl)
      have HLE1 : Hid ((adsK zs k).length + [adK x8 k].length ≤ 1000) := Lib.hid (by rw [adsK_len]; simp; omega)
      have HF1 : Hid (∀ W, Hid (W = U.alloc (.cells (adL (adK x8 k)).toArray 69)) → Below U.heap.size U W ∧ W.rangeAt U.heap.size 0 (flatA [adK x8 k])) := Lib.hid (fun W e => by
        rw [e.out]
        exact ⟨(Below.refl _ _).alloc (Nat.le_refl _) _, ad_range _ _⟩)
      go_upto_region 10 with (first
        | refine load_ad HL16 HPR _ (by rfl) rfl rfl ?_
        | (refine build_adM HL16 rfl _ rfl rfl (fun W5 HW5 => ?_); have HRL5 := Lib.hid (HRL1.out.below (HF1.out W5 HW5).1); have HRA5 := Lib.hid (HRA1.out.below (HF1.out W5 HW5).1); have HB5 := Lib.hid (chain HB1.out (HF1.out W5 HW5).1); have HBW5 := Lib.hid (HF1.out W5 HW5).1; have HR5 := Lib.hid (HF1.out W5 HW5).2; have HS5 : Hid (w.heap.size ≤ W5.heap.size) := Lib.hid HB5.out.size)
        | (at_builtin; refine append_ads HRA5 _ _ rfl rfl rfl [adK x8 k] rfl HM1 HR5 HY1 HLE1 HS5 (fun v6 w6 HO6 HG6 => ?_)))
      have HRL6 : Hid (RowR w6 w.heap.size vl ((adsK zs k).map (recK NM T))) := Lib.hid ⟨HRL5.out.1.kept HG6.out (own_apart HRL5.out.1 HRA5.out.1 (by decide)), HRL5.out.2⟩
      have HB6 : Hid (Below w.heap.size w w6) := Lib.hid (HB5.out.grown HG6.out HS5.out (fun y hy => (HRA5.out.lt y hy).1))
      have HP6 : Hid (w6.rangeAt P 0 (adL (adK x8 k))) := Lib.hid (fun j u hu => by
        have h1 := HBW5.out.size
        rw [World.cell?_of_block (w := W5) (a := ⟨P, 0 + j, none⟩) (HG6.out.block P (Nat.lt_of_lt_of_le HPL.out h1) (fun e => HNP.out P e.symm rfl)), HBW5.out.cell (p := ⟨P, 0 + j, none⟩) HPL.out]
        exact HPR.out j u hu)
      clear HRL1 HRA1 HB1 HPR HPL HNP HF1 HRL5 HRA5 HB5 HBW5 HR5 HS5 HG6 HW5 HM1 HY1 HLE1
      have HM2 : Hid (1 = [recK NM T (adK x8 k)].length) := Lib.hid rfl
      have HY2 : Hid (All16 [recK NM T (adK x8 k)]) := Lib.hid (fun r hr => by rw [List.mem_singleton.1 hr]; rfl)
      have HLE2 : Hid (((adsK zs k).map (recK NM T)).length + [recK NM T (adK x8 k)].length ≤ 100000) := Lib.hid (by rw [List.length_map, adsK_len]; simp; omega)
      have HU16 : Hid ((recK NM T (adK x8 k)).b.length = 16) := Lib.hid rfl
      have HF2 : Hid (∀ W, Hid (W = w6.alloc (.cells (recL (recK NM T (adK x8 k))).toArray 71)) → Below w6.heap.size w6 W ∧ W.rangeAt w6.heap.size 0 (flatR [recK NM T (adK x8 k)])) := Lib.hid (fun W e => by
        rw [e.out]
        refine ⟨(Below.refl _ _).alloc (Nat.le_refl _) _, ?_⟩
        rw [show flatR [recK NM T (adK x8 k)] = recL (recK NM T (adK x8 k)) from List.append_nil _]
        exact (CellsAt.new w6 71 (recL (recK NM T (adK x8 k)))).range)
      go_wp2_with (first
        | refine load_ad HL16 HP6 _ (by rfl) rfl rfl ?_
        | refine build_of rfl rfl BRC (by simp only [List.map_toArray, List.map_cons, List.map_nil]; rfl) ?_
        | (refine build_recS (r := recK NM T (adK x8 k)) HU16 rfl _ rfl rfl (fun W7 HW7 => ?_); have HRL7 := Lib.hid (HRL6.out.below (HF2.out W7 HW7).1); have HRA7 := Lib.hid (HO6.out.below (HF2.out W7 HW7).1); have HB7 := Lib.hid (chain HB6.out (HF2.out W7 HW7).1); have HR7 := Lib.hid (HF2.out W7 HW7).2; have HS7 : Hid (w.heap.size ≤ W7.heap.size) := Lib.hid HB7.out.size)
        | (at_builtin; refine append_recs HRL7 _ _ rfl rfl rfl [recK NM T (adK x8 k)] rfl HM2 HR7 HY2 HLE2 HS7 (fun v8 w8 HO8 HG8 HA8 => ?_)))
      have HRA8 : Hid (RowA w8 w.heap.size v6 (adsK zs (k + 1))) := Lib.hid (by
        rw [HSC.out]
        exact ⟨HRA7.out.1.kept HG8.out (own_apart HRA7.out.1 HRL7.out.1 (by decide)), HRA7.out.2⟩)
      have HRL8 : Hid (RowR w8 w.heap.size v8 ((adsK zs (k + 1)).map (recK NM T))) := Lib.hid (by
        rw [HSC.out, List.map_append]
        exact HO8.out)
      have HB8 : Hid (Below w.heap.size w w8) := Lib.hid (HB7.out.grown HG8.out HS7.out (fun y hy => (HRL7.out.1.lt y hy).1))
      clear HRL6 HO6 HB6 HP6 HF2 HRL7 HRA7 HB7 HR7 HS7 HG8 HA8 HO8 HW7 BRC HM2 HY2 HLE2 HU16 HL16
      go_roundw
      case rel => exact ⟨k + 1, v8, v6, rfl, rfl, by omega, by go_num, HRL8, HRA8, HB8⟩
      case measure => simp [intOf]; omega
    · obtain rfl : k = N := by omega
      have hor : len ≤ k ∨ (k < len ∧ 3 ≤ k) := by have := HMN.out; omega
      have HFG := forge_ok (idP t) NM T (prK zs k) (idP_lt t) HMAY.out (by have := HNS.out; omega) ⟨by omega, by omega⟩ (prK_lt zs k hN3) (by simp [prK]; omega)
      rw [show (prK zs k).map (fun p => adK p.1 p.2) = adsK zs k from rfl] at HFG
      have HMM := Lib.hid HFG.1
      have HFT := Lib.hid HFG.2
      have HND := Lib.hid (adsK_nodup zs k)
      have HA16 := Lib.hid (adsK_16 zs k)
      have hal := adsK_len zs k
      clear HFG
      generalize adsK zs k = AD at *
      obtain ⟨al, cl, rfl, hrl⟩ := HRL.out.recs HFT.out
      obtain ⟨aw, cw, rfl, haw⟩ := HRA.out.ads
      have HRD := Lib.hid hrl
      have HAW := Lib.hid haw
      have HAL := Lib.hid hal
      have HDL : Hid ((AD.map (recK NM T)).length = k) := Lib.hid (by rw [List.length_map, hal])
      simp only [List.length_map, hal]
      have HNW := Lib.hid (newE_any 1 1 9 3 wr)
      rw [show cfgP 1 1 9 3 = cfgA from rfl] at HNW
      have HBD := built_cf 1 1 9 3
      have HIDL := Lib.hid (idP_lt t)
      obtain ⟨id, hid⟩ : ∃ id, idP t = id := ⟨_, rfl⟩
      have HST := fun G cp b W (h : SolE W wr.heap.size G cp b cfgA 0 (.slice none 0 0) [] []) => Lib.hid (startE_any wr.heap.size G cp b NM 1 t 0 [] cfgA 0 (.slice none 0 0) [] [] W h (fun e he => by cases he) (by decide) (by have := HNS.out; omega) (by decide) HW1.out (by decide) (by decide) (by decide) (by decide) (by decide))
      have HNEW : Hid (newLk cfgA 0 NM 1 t 0 = lkA NM id) := Lib.hid (by rw [lkA_new, hid])
      simp only [hid] at HIDL HMM HR2
      clear HRL HRA hal hrl haw hid HW1
      rcases hor with hor | ⟨hor, hor2⟩
      · have hdl : decide ((k : Int) < (len : Int)) = false := decide_eq_false (by omega)
        have hdln : decide (k < len) = false := decide_eq_false (by omega)
        clear hor
        go_wp2_with (refine build_of rfl rfl HBD (by simp only [List.map_toArray, List.map_cons, List.map_nil]; rfl) ?_)
        refine HNW.out.mono ?_
        rintro e w1 ⟨G, cp, b, rfl, hq1, hb1⟩
        have HS1 := HST G cp b w1 hq1
        have HR1 := Lib.hid hb1
        clear HNW HBD hq1 hb1 HST
        go_wp2_with fail
        refine HS1.out.mono ?_
        rintro e w2 ⟨ev, v2, A2, rfl, hq2, hb2, hf2, hw2⟩
        obtain ⟨rfl, g, rfl⟩ : ev = evS (lkA NM id) ∧ ∃ g, A2 = [(g, lkA NM id)] := by
          unfold StartW at hw2
          rw [HNEW.out] at hw2
          rcases hw2 with ⟨h, _⟩ | ⟨_, h, _⟩ | ⟨_, _, h, _⟩ | ⟨_, _, _, h, g, _, h2⟩
          · rw [HASK.out] at h; cases h
          · cases h
          · cases h
          · exact ⟨h, g, h2⟩
        have HQ2 := Lib.hid hq2
        have HR2b := Lib.hid (HR1.out.trans hb2)
        clear HS1 HR1 hq2 hb2 hf2 hw2 HNEW
        have HZ3 := Lib.hid (zeroEv w2 77)
        have hb3 := (Below.refl w2.heap.size w2).alloc (Nat.le_refl _) (.cells #[.int .i64 0, .int .i64 0, .int .i64 0, .string ⟨#[]⟩, .int .i64 0, .int .i64 0, .slice none 0 0, .int .i64 0] 77)
        obtain ⟨W3, hW3⟩ : ∃ W3, w2.alloc (.cells #[.int .i64 0, .int .i64 0, .int .i64 0, .string ⟨#[]⟩, .int .i64 0, .int .i64 0, .slice none 0 0, .int .i64 0] 77) = W3 := ⟨_, rfl⟩
        rw [hW3] at HZ3 hb3
        have HB3 := Lib.hid hb3
        clear hb3
        unfold evV
        go_upto_region 15 with (refine store_of HZ3 rfl ev_size _ _ rfl rfl rfl (vs := evL (evS (lkA NM id))) rfl rfl rfl (fun U3 HU HUC => ?_))
        try simp only [Act.put]
        have hU : Below w2.heap.size w2 U3 := by rw [HU.out]; exact below_cells (Nat.le_refl _) _ _ _ HB3.out
        obtain ⟨E1, hE⟩ : ∃ E, w2.heap.size = E := ⟨_, rfl⟩
        have HQ3 := Lib.hid (HQ2.out.below hU)
        have HR3 := Lib.hid (HR2b.out.trans (hU.mono HR2b.out.size))
        clear HQ2 HR2b
        rw [hE] at HUC
        try rw [hE]
        have HE1 := HUC
        clear HU HB3 HZ3 hW3 hE hU HUC
        obtain ⟨S, hS⟩ : ∃ S : World → Prop, (fun V : World => Below U3.heap.size U3 V) = S := ⟨_, rfl⟩
        have HS0 : Hid (∀ V, S V → Below U3.heap.size U3 V) := Lib.hid (fun V h => by rw [← hS] at h; exact h)
        have hSd : S U3.drew := by rw [← hS]; exact (Below.refl _ _).drew
        clear hS
        have E0 : Hid (∀ V, S V → V.cell? ⟨E1, 0, none⟩ = some (.int .i64 0)) := Lib.hid (fun V h => (HE1.out.below (HS0.out V h)).cell 0 _ rfl)
        have E2c : Hid (∀ V, S V → V.cell? ⟨E1, 2, none⟩ = some (.int .i64 id)) := Lib.hid (fun V h => (HE1.out.below (HS0.out V h)).cell 2 _ rfl)
        have HARS : ∀ V, S V → Hid (Calls Tryz.prog 10 #[.int .i64 t, .int .i64 65536] V fun e w' => e = .returned (.int .i64 id) ∧ S w') := fun V h => Lib.hid ((HR2 V).out.mono (fun e w' hh => ⟨hh.1, by rw [← hh.2]; exact h⟩))
        have hne0 : ((id : Int) != (id : Int)) = false := by simp
        refine wp_region_noPanic ?_
        refine wp_region_held_drew (S := S) (by kernel_rfl) hSd (fun hHeld => ?_)
        clear HR2
        refine wpAnyH_take (i := 0) (v := ?_) rfl (by kernel_rfl) (by kernel_rfl) (by kernel_rfl) (fun _ _ _ h => h) (Or.inl ⟨by rfl, ?_⟩) (by assumption) ?_
        rotate_left
        · (intro w hSw; go_simp; try (with_reducible rfl))
        try simp only [Act.put, List.getElem_toArray, List.getElem_cons_zero, List.setIfInBounds_toArray, List.set_cons_zero, List.set_cons_succ]
        refine wpAnyH_take (i := 1) (v := ?_) rfl (by kernel_rfl) (by kernel_rfl) (by kernel_rfl) (fun _ _ _ h => h) (Or.inl ⟨by rfl, ?_⟩) (by assumption) ?_
        rotate_left
        · (intro w hSw; have hc0 := E0.out w hSw; go_simp; try (with_reducible rfl))
        try simp only [Act.put, List.getElem_toArray, List.getElem_cons_zero, List.getElem_cons_succ, List.setIfInBounds_toArray, List.set_cons_zero, List.set_cons_succ]
        refine wpAnyH_take (i := 2) (v := ?_) rfl (by kernel_rfl) (by kernel_rfl) (by kernel_rfl) (fun _ _ _ h => h) (Or.inl ⟨by rfl, ?_⟩) (by assumption) ?_
        rotate_left
        · (intro w hSw; go_simp; try (with_reducible rfl))
        try simp only [Act.put, List.getElem_toArray, List.getElem_cons_zero, List.getElem_cons_succ, List.setIfInBounds_toArray, List.set_cons_zero, List.set_cons_succ]
        refine wpAnyH_take (i := 3) (v := ?_) rfl (by kernel_rfl) (by kernel_rfl) (by kernel_rfl) (fun _ _ _ h => h) (Or.inl ⟨by rfl, ?_⟩) (by assumption) ?_
        rotate_left
        · (intro w hSw; go_simp; try (with_reducible rfl))
        try simp only [Act.put, List.getElem_toArray, List.getElem_cons_zero, List.getElem_cons_succ, List.setIfInBounds_toArray, List.set_cons_zero, List.set_cons_succ]
        refine wpAnyH_take (i := 4) (v := ?_) rfl (by kernel_rfl) (by kernel_rfl) (by kernel_rfl) (fun _ _ _ h => h) (Or.inl ⟨by rfl, ?_⟩) (by assumption) ?_
        rotate_left
        · (intro w hSw; go_simp; try (with_reducible rfl))
        try simp only [Act.put, List.getElem_toArray, List.getElem_cons_zero, List.getElem_cons_succ, List.setIfInBounds_toArray, List.set_cons_zero, List.set_cons_succ]
        refine wpAnyH_take (i := 5) (v := ?_) rfl (by kernel_rfl) (by kernel_rfl) (by kernel_rfl) (fun _ _ _ h => h) (Or.inl ⟨by rfl, ?_⟩) (by assumption) ?_
        rotate_left
        · (intro w hSw; go_simp; try (with_reducible rfl))
        try simp only [Act.put, List.getElem_toArray, List.getElem_cons_zero, List.getElem_cons_succ, List.setIfInBounds_toArray, List.set_cons_zero, List.set_cons_succ]
        refine wpAnyH_take (i := 6) (v := ?_) rfl (by kernel_rfl) (by kernel_rfl) (by kernel_rfl) (fun _ _ _ h => h) (Or.inl ⟨by rfl, ?_⟩) (by assumption) ?_
        rotate_left
        · (intro w hSw; have hc0 := E2c.out w hSw; go_simp; try (with_reducible rfl))
        try simp only [Act.put, List.getElem_toArray, List.getElem_cons_zero, List.getElem_cons_succ, List.setIfInBounds_toArray, List.set_cons_zero, List.set_cons_succ]
        refine wpAnyH_take (i := 7) (v := ?_) rfl (by kernel_rfl) (by kernel_rfl) (by kernel_rfl) (fun _ _ _ h => h) (Or.inl ⟨by rfl, ?_⟩) (by assumption) ?_
        rotate_left
        · (intro w hSw; go_simp; try (with_reducible rfl))
        try simp only [Act.put, List.getElem_toArray, List.getElem_cons_zero, List.getElem_cons_succ, List.setIfInBounds_toArray, List.set_cons_zero, List.set_cons_succ]
        refine wpAnyH_ready (rs := [8]) (by kernel_rfl) (by simp) ?_
        refine AllReadyH.cons rfl (fun K hK => ?_) AllReadyH.nil
        go_simp
        refine (HARS _ (by assumption)).out.mono ?_
        rintro e wr8 ⟨rfl, hS8⟩
        go_wp2_with fail
        refine hK.out _ _ hS8 (fun hHeld => ?_)
        clear hK K
        try simp only [Act.put, List.getElem_toArray, List.getElem_cons_zero, List.getElem_cons_succ, List.setIfInBounds_toArray, List.set_cons_zero, List.set_cons_succ]
        refine wpAnyH_take (i := 9) (v := ?_) rfl (by kernel_rfl) (by kernel_rfl) (by kernel_rfl) (fun _ _ _ h => h) (Or.inl ⟨by rfl, ?_⟩) (by assumption) ?_
        rotate_left
        · (intro w hSw; go_simp; try (with_reducible rfl))
        try simp only [Act.put, List.getElem_toArray, List.getElem_cons_zero, List.getElem_cons_succ, List.setIfInBounds_toArray, List.set_cons_zero, List.set_cons_succ]
        refine wpAnyH_take (i := 10) (v := ?_) rfl (by kernel_rfl) (by kernel_rfl) (by kernel_rfl) (fun _ _ _ h => h) (Or.inl ⟨by rfl, ?_⟩) (by assumption) ?_
        rotate_left
        · (intro w hSw; go_simp; try (with_reducible rfl))
        try simp only [Act.put, List.getElem_toArray, List.getElem_cons_zero, List.getElem_cons_succ, List.setIfInBounds_toArray, List.set_cons_zero, List.set_cons_succ]
        refine wpAnyH_done (by kernel_rfl) ?_ _
        refine NoPanic.normal ?_
        have hbl := HS0.out _ hS8
        have HQ4 := Lib.hid (HQ3.out.below hbl)
        have HR4 := Lib.hid (HR3.out.trans (hbl.mono HR3.out.size))
        have HE4 := Lib.hid (HE1.out.below hbl)
        clear E0 E2c HARS hHeld hSd hS8 hbl HS0 HQ3 HR3 HE1 hne0
        generalize wr8 = w4 at *
        have HLQ : Hid (w4.rangeAt E1 2 [.int .i64 id, .string NM, .int .i64 1, .int .i64 0]) := Lib.hid (ev_query HE4.out)
        have hsQ : (Tryz.prog.info? 74).map (·.size) = some ([.int .i64 id, .string NM, .int .i64 1, .int .i64 0] : List Value).length := by kernel_rfl
        have HAS := fun W => Lib.hid (show Calls Tryz.prog 27 #[.agg #[.int .i64 id, .string NM, .int .i64 1, .int .i64 0]] W (fun e w' => e = .returned (.agg #[.int .i64 id, .string NM, .int .i64 1, .int .i64 0]) ∧ Below W.heap.size W w') from as12_any ⟨id, NM, 1, 0⟩ W)
        go_wp2_with (refine wpList_load_mid rfl _ _ rfl E1 2 rfl [.int .i64 id, .string NM, .int .i64 1, .int .i64 0] _ HLQ.out Tryz.underlying74 rfl hsQ ?_)
        refine (HAS w4).out.mono ?_
        rintro e w5 ⟨rfl, hb5⟩
        have HQ5 := Lib.hid (HQ4.out.below hb5)
        have HR5 := Lib.hid (HR4.out.trans (hb5.mono HR4.out.size))
        have HFO := Lib.hid (forgeA_any id NM al cl (AD.map (recK NM T)) k HDL.out w5 (HRD.out.below HR5.out) (by have := HNS.out; omega))
        clear HAS hb5 HLQ hsQ HQ4 HR4 HE4
        go_wp2_with fail
        refine HFO.out.mono ?_
        rintro e w6 ⟨gq, rfl, hmi, hb6⟩
        have HQ6 := Lib.hid (HQ5.out.below hb6)
        have HR6 := Lib.hid (HR5.out.trans (hb6.mono HR5.out.size))
        have HWI := Lib.hid (writeA_any id NM gq al cl (AD.map (recK NM T)) k HDL.out w6 hmi HMM.out hN3)
        clear HFO hmi hb6 HQ5 HR5
        go_wp2_with fail
        refine HWI.out.mono ?_
        rintro e w7 ⟨ab, cb, rfl, hbi, hbl, hb7⟩
        have HQ7 := Lib.hid (HQ6.out.below hb7)
        have HR7 := Lib.hid (HR6.out.trans (hb7.mono HR6.out.size))
        have HMG := Lib.hid (mgP_wB HMM.out ⟨by show 1 ≤ 65535; decide, by show (AD.map (recK NM T)).length ≤ 65535; have := HDL.out; omega, by show 0 ≤ 65535; decide, by show 0 ≤ 65535; decide⟩ HFT.out (fun r hr => by cases hr) (fun r hr => by cases hr))
        have HLN := Lib.hid (forge_len (id := id) (T := T) HMAY.out HNS.out HA16.out (by have := HAL.out; omega))
        have HHE := Lib.hid (hearE_any wr.heap.size G cp b 0 0 1 ab cb (wB (forgeM ⟨id, NM, 1, 0⟩ (AD.map (recK NM T)))) cfgA (0 + 1) v2 [(g, lkA NM id)] [] w7 HQ7.out (fun p hp => by rw [List.mem_singleton.1 hp]; exact ⟨by show (0 : Int) < 1; decide, by show (0 : Int) ≤ 8; decide⟩) (by decide) (by decide) (by decide) (by simp) hbi hbl (fun m hm => by
          rw [HMG.out] at hm
          injection hm with hm
          rw [← hm]
          show (AD.map (recK NM T)).length ≤ 900
          have := HDL.out
          omega))
        clear HWI hbi hbl hb7 HQ6 HR6
        generalize hwb : (wB (forgeM ⟨id, NM, 1, 0⟩ (AD.map (recK NM T)))) = bs at *
        clear hwb
        go_wp2_with fail
        refine HHE.out.mono ?_
        rintro e w8 ⟨ve, L8, v8, A8, es8, rfl, hr8, hq8, hb8, hf8, hsub8, hd8⟩
        obtain ⟨rfl, hd9⟩ := heard_K HND.out HT1.out (by have := HT2.out; omega) rfl HLN.out HMG.out hd8
        have HFL : Hid (∀ y ∈ fpO G v8 [], y < w7.heap.size) := Lib.hid (fun y hy => fpO_lt HQ7.out.so y (hsub8 y hy))
        have HQ8 := Lib.hid hq8
        have HR8 := Lib.hid (HR7.out.trans hb8)
        have HW78 : Hid (w7.heap.size ≤ w8.heap.size) := Lib.hid hf8.size
        clear HHE hq8 hb8 hf8 hsub8 hd8 HQ7 HR7 HMG HLN
        rcases hd9 with ⟨hl0, rfl, rfl⟩ | ⟨hl0, ta, tc, rfl, hta, htf, a8, c8, rfl, ha8, hf8⟩
        · obtain ⟨gf, cf, rfl, hgf, hgl, hrg⟩ := hr8.one
          have hk0 : k = 0 := by rw [← HAL.out, hl0]; rfl
          clear hdl hdln
          try clear hd3 hdn3
          try clear hor2
          subst hk0
          have e0 : w8.cell? ⟨gf, 0, none⟩ = some (.int .i64 2) := hrg 0 _ rfl
          have e7 : w8.cell? ⟨gf, 7, none⟩ = some (.int .i64 8) := hrg 7 _ rfl
          have HCH : Hid (Calls Tryz.prog 15 #[.pointer (some ⟨G, 0, none⟩), .string NM, .int .i64 1, .int .i64 1] w8 fun e w' => e = .returned (.bool false) ∧ Below w8.heap.size w8 w') := Lib.hid (cachedE_any wr.heap.size G cp b NM 1 1 [] cfgA (0 + 1) v8 [] [] w8 HQ8.out (fun e he => by cases he) (by decide) (by have := HNS.out; omega) (by decide))
          clear hr8 hrg hl0 HQ8
          simp only [List.length_cons, List.length_nil]
          go_wp2_with fail
          refine HCH.out.mono ?_
          rintro e w9 ⟨rfl, hb9⟩
          have HR9 := Lib.hid (HR8.out.trans (hb9.mono HR8.out.size))
          clear HCH hb9 e0 e7 HR8
          go_wp2_with fail
          refine (HLV w9).out.mono ?_
          rintro e w10 ⟨rfl, hb10⟩
          have HRX := Lib.hid (HR9.out.trans (hb10.mono HR9.out.size))
          clear hb10 HR9
          go_wp2_with fail
          go_ret
          exact ⟨rfl, HB.out.trans (HRX.out.mono HB.out.size)⟩
        · simp only [HAL.out] at hr8 HQ8
          obtain ⟨gf, cf, rfl, hgf, hgl, hrg⟩ := hr8.one
          have hk1 : 0 < k := by rw [← HAL.out]; exact List.length_pos_iff.2 hl0
          have hkb : ((k : Int) == 0) = false := by simp; omega
          have hge : getE [⟨lowB NM, 1, a8, k, c8, 1 + T⟩] (lowB NM) 1 = some ⟨lowB NM, 1, a8, k, c8, 1 + T⟩ := getE_own _ _ _ _ _
          have HGE := Lib.hid hge
          have HL9 : Hid (AD.length ≤ 1000) := Lib.hid (by have := HAL.out; omega)
          have HSM : ∀ a1 c1 a2 c2 W, AdsIn W a1 c1 AD → AdsIn W a2 c2 AD → Hid (Calls Tryz.prog 28 #[.slice a1 k c1, .slice a2 k c2] W fun e w' => e = .returned (.bool true) ∧ Below W.heap.size W w') := fun a1 c1 a2 c2 W h1 h2 => Lib.hid (by
            have h := sameAdsC_any a1 a2 c1 c2 AD AD W h1.1 h2.1 (by have := HL9.out; omega) (by have := HL9.out; omega)
            rw [HAL.out] at h
            simpa using h)
          have HTF := Lib.hid htf
          have HF8 := Lib.hid hf8
          have HFN : Hid (∀ x, w7.heap.size ≤ x → x ∉ fpO G v8 []) := Lib.hid (fun x h1 h2 => by have := HFL.out x h2; omega)
          have HS2 := Lib.hid (startE_any wr.heap.size G cp b NM 1 0 T AD cfgA (0 + 1) v8 [] [⟨lowB NM, 1, a8, k, c8, 1 + T⟩] w8 HQ8.out (fun e he => by
            rw [HGE.out] at he
            injection he with he
            subst he
            exact ⟨HAL.out.symm, ha8, fun x o hx => HFN.out x (HF8.out x o hx)⟩) HL9.out (by have := HNS.out; omega) (by decide) (by decide) (by have := HT1.out; omega) (by have := HT2.out; omega) (by decide) (by decide) (by decide))
          have HTA8 := Lib.hid hta
          have HA8 := Lib.hid ha8
          have HRG8 := Lib.hid hrg
          have HGF : Hid (w7.heap.size ≤ gf ∧ gf < w8.heap.size) := Lib.hid ⟨hgf, hgl⟩
          clear hr8 hrg hl0 HQ8 hk1 hge htf hf8 hta ha8 hgf hgl
          simp only [List.length_cons, List.length_nil]
          go_wp2_with fail
          refine HS2.out.mono ?_
          rintro e w9 ⟨ev9, v9, A9, rfl, hq9, hb9, hf9, hw9⟩
          obtain ⟨rfl, rfl, a9, c9, rfl, hra9⟩ : v8 = v9 ∧ A9 = [] ∧ ∃ a c, ev9 = evD (0 + 1) a k c ∧ RowA w9 w8.heap.size (.slice a k c) AD := by
            unfold StartW theE at hw9
            rw [HGE.out, HAL.out] at hw9
            rcases hw9 with ⟨h, _⟩ | ⟨_, _, _, h1, h2, a, c, h3, h4⟩ | ⟨_, h, _⟩ | ⟨_, h, _⟩
            · rw [HASK.out] at h; cases h
            · exact ⟨h1.symm, h2, a, c, h3, h4⟩
            · rcases h with h | h
              · cases h
              · exact absurd h (by show ¬ (1 + T ≤ T); omega)
            · rcases h with h | h
              · cases h
              · exact absurd h (by show ¬ (1 + T ≤ T); omega)
          have HQ9 := Lib.hid hq9
          have HR9 := Lib.hid (HR8.out.trans hb9)
          have HW89 : Hid (w8.heap.size ≤ w9.heap.size) := Lib.hid hf9.size
          have HRG9 : Hid (w9.rangeAt gf 0 (evL (evD 0 ta k tc))) := Lib.hid (fun j u hu => by
            rw [World.cell?_of_block (w := w8) (a := ⟨gf, 0 + j, none⟩) (hf9.keep gf HGF.out.2 (HFN.out gf HGF.out.1))]
            exact HRG8.out j u hu)
          have HTA9 := Lib.hid (HTA8.out.foot hf9 (fun x o hx => HFN.out x (HTF.out x o hx)))
          have HA9 := Lib.hid (HA8.out.foot hf9 (fun x o hx => HFN.out x (HF8.out x o hx)))
          have HRA9 : Hid (AdsIn w9 a9 c9 AD) := Lib.hid (by
            obtain ⟨ax, cx, e, hx⟩ := hra9.ads
            injection e with e1 _ e3
            rw [e1, e3]
            exact hx)
          have HFA9 : Hid (∀ x o, a9 = some ⟨x, o, none⟩ → w7.heap.size ≤ x) := Lib.hid (fun x o hx => by have h1 := hra9.far x o hx; have h2 := HW78.out; omega)
          clear HS2 hq9 hb9 hf9 hw9 hra9 HTA8 HA8 HRG8 HR8
          have HZ3 := Lib.hid (zeroEv w9 77)
          have hb3 := (Below.refl w9.heap.size w9).alloc (Nat.le_refl _) (.cells #[.int .i64 0, .int .i64 0, .int .i64 0, .string ⟨#[]⟩, .int .i64 0, .int .i64 0, .slice none 0 0, .int .i64 0] 77)
          obtain ⟨W10, hW3⟩ : ∃ W10, w9.alloc (.cells #[.int .i64 0, .int .i64 0, .int .i64 0, .string ⟨#[]⟩, .int .i64 0, .int .i64 0, .slice none 0 0, .int .i64 0] 77) = W10 := ⟨_, rfl⟩
          rw [hW3] at HZ3 hb3
          have HB3 := Lib.hid hb3
          clear hb3
          unfold evV
          go_upto_region 23 with (refine store_of HZ3 rfl ev_size _ _ rfl rfl rfl (vs := evL (evD (0 + 1) a9 k c9)) rfl rfl rfl (fun U10 HU HUC => ?_))
          try simp only [Act.put]
          have hU : Below w9.heap.size w9 U10 := by rw [HU.out]; exact below_cells (Nat.le_refl _) _ _ _ HB3.out
          obtain ⟨E2, hE⟩ : ∃ E, w9.heap.size = E := ⟨_, rfl⟩
          have HQ10 := Lib.hid (HQ9.out.below hU)
          have HR10 := Lib.hid (HR9.out.trans (hU.mono HR9.out.size))
          have HRG10 := Lib.hid (range_below12 HRG9.out hU (Nat.lt_of_lt_of_le HGF.out.2 HW89.out))
          have HTA10 := Lib.hid (HTA9.out.below hU)
          have HA10 := Lib.hid (HA9.out.below hU)
          have HRA10 := Lib.hid (HRA9.out.below hU)
          have HEW : Hid (w7.heap.size ≤ E2) := Lib.hid (by have h1 := HW78.out; have h2 := HW89.out; omega)
          have HGU : Hid (gf < U10.heap.size) := Lib.hid (by have h1 := HGF.out.2; have h2 := HW89.out; have h3 := hU.size; omega)
          clear HQ9 HR9 HRG9 HTA9 HA9 HRA9
          rw [hE] at HUC
          try rw [hE]
          have HE2 := HUC
          clear HU HB3 HZ3 hW3 hE hU HUC
          have hwT1 : IntKind.i64.wrap (T + 1) = T + 1 := by rw [IntKind.wrap_i64]; omega
          have HS3 := Lib.hid (startE_any wr.heap.size G cp b NM 1 0 (T + 1) AD cfgA (0 + 1 + 1) v8 [] [⟨lowB NM, 1, a8, k, c8, 1 + T⟩] U10 HQ10.out (fun e he => by
            rw [HGE.out] at he
            injection he with he
            subst he
            exact ⟨HAL.out.symm, HA10.out, fun x o hx => HFN.out x (HF8.out x o hx)⟩) HL9.out (by have := HNS.out; omega) (by decide) (by decide) (by have := HT1.out; omega) (by have := HT2.out; omega) (by decide) (by decide) (by decide))
          clear HQ10 HA10 HF8
          go_wp2_with fail
          refine HS3.out.mono ?_
          rintro e w11 ⟨ev11, v11, A11, rfl, hq11, hb11, hf11, hw11⟩
          obtain ⟨ln, rfl⟩ : ∃ ln, ev11 = evS ln := by
            unfold StartW theE at hw11
            rw [HGE.out] at hw11
            rcases hw11 with ⟨h, _⟩ | ⟨_, _, h, _⟩ | ⟨_, _, h, _⟩ | ⟨_, _, _, h, _⟩
            · rw [HASK.out] at h; cases h
            · exact absurd h (by show ¬ (T + 1 < 1 + T); omega)
            · cases h
            · exact ⟨_, h⟩
          have HR11 := Lib.hid (HR10.out.trans hb11)
          have HRG11 : Hid (w11.rangeAt gf 0 (evL (evD 0 ta k tc))) := Lib.hid (fun j u hu => by
            rw [World.cell?_of_block (w := U10) (a := ⟨gf, 0 + j, none⟩) (hf11.keep gf HGU.out (HFN.out gf HGF.out.1))]
            exact HRG10.out j u hu)
          have HTA11 := Lib.hid (HTA10.out.foot hf11 (fun x o hx => HFN.out x (HTF.out x o hx)))
          have HRA11 := Lib.hid (HRA10.out.foot hf11 (fun x o hx => HFN.out x (HFA9.out x o hx)))
          have HE211 := Lib.hid (HE2.out.foot hf11 (HFN.out E2 HEW.out))
          have HGU2 : Hid (gf < w11.heap.size) := Lib.hid (Nat.lt_of_lt_of_le HGU.out hf11.size)
          clear HS3 hq11 hb11 hf11 hw11 HR10 HRG10 HTA10 HRA10 HE2 hwT1
          have HZ3 := Lib.hid (zeroEv w11 77)
          have hb3 := (Below.refl w11.heap.size w11).alloc (Nat.le_refl _) (.cells #[.int .i64 0, .int .i64 0, .int .i64 0, .string ⟨#[]⟩, .int .i64 0, .int .i64 0, .slice none 0 0, .int .i64 0] 77)
          obtain ⟨W12, hW3⟩ : ∃ W12, w11.alloc (.cells #[.int .i64 0, .int .i64 0, .int .i64 0, .string ⟨#[]⟩, .int .i64 0, .int .i64 0, .slice none 0 0, .int .i64 0] 77) = W12 := ⟨_, rfl⟩
          rw [hW3] at HZ3 hb3
          have HB3 := Lib.hid hb3
          clear hb3
          unfold evV
          go_upto_region 24 with (refine store_of HZ3 rfl ev_size _ _ rfl rfl rfl (vs := evL (evS ln)) rfl rfl rfl (fun U12 HU HUC => ?_))
          try simp only [Act.put]
          have hU : Below w11.heap.size w11 U12 := by rw [HU.out]; exact below_cells (Nat.le_refl _) _ _ _ HB3.out
          obtain ⟨E3, hE⟩ : ∃ E, w11.heap.size = E := ⟨_, rfl⟩
          have HR12 := Lib.hid (HR11.out.trans (hU.mono HR11.out.size))
          have HRG12 := Lib.hid (range_below12 HRG11.out hU HGU2.out)
          have HTA12 := Lib.hid (HTA11.out.below hU)
          have HRA12 := Lib.hid (HRA11.out.below hU)
          have HE212 := Lib.hid (HE211.out.below hU)
          clear HR11 HRG11 HTA11 HRA11 HE211
          rw [hE] at HUC
          try rw [hE]
          have HE3 := HUC
          clear HU HB3 HZ3 hW3 hE hU HUC
          have HS4 := HSM ta tc aw cw U12 HTA12.out (HAW.out.below HR12.out)
          have f0 : U12.cell? ⟨gf, 0, none⟩ = some (.int .i64 1) := HRG12.out 0 _ rfl
          have f6 : U12.cell? ⟨gf, 6, none⟩ = some (.slice ta k tc) := HRG12.out 6 _ rfl
          go_wp2_with fail
          refine HS4.out.mono ?_
          rintro e w13 ⟨rfl, hb13⟩
          have HR13 := Lib.hid (HR12.out.trans (hb13.mono HR12.out.size))
          have HE213 := Lib.hid (HE212.out.below hb13)
          have HE313 := Lib.hid (HE3.out.below hb13)
          have HS5 := HSM a9 c9 aw cw w13 (HRA12.out.below hb13) (HAW.out.below HR13.out)
          have g0 : w13.cell? ⟨E2, 0, none⟩ = some (.int .i64 1) := HE213.out.cell 0 _ rfl
          have g6 : w13.cell? ⟨E2, 6, none⟩ = some (.slice a9 k c9) := HE213.out.cell 6 _ rfl
          clear HS4 f0 f6 hb13 HR12 HRG12 HTA12 HRA12 HE212 HE3 HE213
          go_wp2_with fail
          refine HS5.out.mono ?_
          rintro e w14 ⟨rfl, hb14⟩
          have HR14 := Lib.hid (HR13.out.trans (hb14.mono HR13.out.size))
          have HE314 := Lib.hid (HE313.out.below hb14)
          have h0 : w14.cell? ⟨E3, 0, none⟩ = some (.int .i64 0) := HE314.out.cell 0 _ rfl
          clear HS5 g0 g6 hb14 HR13 HE313
          go_wp2_with fail
          refine (HLV w14).out.mono ?_
          rintro e w15 ⟨rfl, hb15⟩
          have HR15 := Lib.hid (HR14.out.trans (hb15.mono HR14.out.size))
          clear hb15 HR14 h0
          go_wp2_with fail
          go_ret
          exact ⟨rfl, HB.out.trans (HR15.out.mono HB.out.size)⟩
      · have hdl : decide ((k : Int) < (len : Int)) = true := decide_eq_true (by omega)
        have hdln : decide (k < len) = true := decide_eq_true hor
        have hd3 : decide ((k : Int) < 3) = false := decide_eq_false (by omega)
        have hdn3 : decide (k < 3) = false := decide_eq_false (by omega)
        clear hor
        go_wp2_with (refine build_of rfl rfl HBD (by simp only [List.map_toArray, List.map_cons, List.map_nil]; rfl) ?_)
        refine HNW.out.mono ?_
        rintro e w1 ⟨G, cp, b, rfl, hq1, hb1⟩
        have HS1 := HST G cp b w1 hq1
        have HR1 := Lib.hid hb1
        clear HNW HBD hq1 hb1 HST
        go_wp2_with fail
        refine HS1.out.mono ?_
        rintro e w2 ⟨ev, v2, A2, rfl, hq2, hb2, hf2, hw2⟩
        obtain ⟨rfl, g, rfl⟩ : ev = evS (lkA NM id) ∧ ∃ g, A2 = [(g, lkA NM id)] := by
          unfold StartW at hw2
          rw [HNEW.out] at hw2
          rcases hw2 with ⟨h, _⟩ | ⟨_, h, _⟩ | ⟨_, _, h, _⟩ | ⟨_, _, _, h, g, _, h2⟩
          · rw [HASK.out] at h; cases h
          · cases h
          · cases h
          · exact ⟨h, g, h2⟩
        have HQ2 := Lib.hid hq2
        have HR2b := Lib.hid (HR1.out.trans hb2)
        clear HS1 HR1 hq2 hb2 hf2 hw2 HNEW
        have HZ3 := Lib.hid (zeroEv w2 77)
        have hb3 := (Below.refl w2.heap.size w2).alloc (Nat.le_refl _) (.cells #[.int .i64 0, .int .i64 0, .int .i64 0, .string ⟨#[]⟩, .int .i64 0, .int .i64 0, .slice none 0 0, .int .i64 0] 77)
        obtain ⟨W3, hW3⟩ : ∃ W3, w2.alloc (.cells #[.int .i64 0, .int .i64 0, .int .i64 0, .string ⟨#[]⟩, .int .i64 0, .int .i64 0, .slice none 0 0, .int .i64 0] 77) = W3 := ⟨_, rfl⟩
        rw [hW3] at HZ3 hb3
        have HB3 := Lib.hid hb3
        clear hb3
        unfold evV
        go_upto_region 15 with (refine store_of HZ3 rfl ev_size _ _ rfl rfl rfl (vs := evL (evS (lkA NM id))) rfl rfl rfl (fun U3 HU HUC => ?_))
        try simp only [Act.put]
        have hU : Below w2.heap.size w2 U3 := by rw [HU.out]; exact below_cells (Nat.le_refl _) _ _ _ HB3.out
        obtain ⟨E1, hE⟩ : ∃ E, w2.heap.size = E := ⟨_, rfl⟩
        have HQ3 := Lib.hid (HQ2.out.below hU)
        have HR3 := Lib.hid (HR2b.out.trans (hU.mono HR2b.out.size))
        clear HQ2 HR2b
        rw [hE] at HUC
        try rw [hE]
        have HE1 := HUC
        clear HU HB3 HZ3 hW3 hE hU HUC
        obtain ⟨S, hS⟩ : ∃ S : World → Prop, (fun V : World => Below U3.heap.size U3 V) = S := ⟨_, rfl⟩
        have HS0 : Hid (∀ V, S V → Below U3.heap.size U3 V) := Lib.hid (fun V h => by rw [← hS] at h; exact h)
        have hSd : S U3.drew := by rw [← hS]; exact (Below.refl _ _).drew
        clear hS
        have E0 : Hid (∀ V, S V → V.cell? ⟨E1, 0, none⟩ = some (.int .i64 0)) := Lib.hid (fun V h => (HE1.out.below (HS0.out V h)).cell 0 _ rfl)
        have E2c : Hid (∀ V, S V → V.cell? ⟨E1, 2, none⟩ = some (.int .i64 id)) := Lib.hid (fun V h => (HE1.out.below (HS0.out V h)).cell 2 _ rfl)
        have HARS : ∀ V, S V → Hid (Calls Tryz.prog 10 #[.int .i64 t, .int .i64 65536] V fun e w' => e = .returned (.int .i64 id) ∧ S w') := fun V h => Lib.hid ((HR2 V).out.mono (fun e w' hh => ⟨hh.1, by rw [← hh.2]; exact h⟩))
        have hne0 : ((id : Int) != (id : Int)) = false := by simp
        refine wp_region_noPanic ?_
        refine wp_region_held_drew (S := S) (by kernel_rfl) hSd (fun hHeld => ?_)
        clear HR2
        refine wpAnyH_take (i := 0) (v := ?_) rfl (by kernel_rfl) (by kernel_rfl) (by kernel_rfl) (fun _ _ _ h => h) (Or.inl ⟨by rfl, ?_⟩) (by assumption) ?_
        rotate_left
        · (intro w hSw; go_simp; try (with_reducible rfl))
        try simp only [Act.put, List.getElem_toArray, List.getElem_cons_zero, List.setIfInBounds_toArray, List.set_cons_zero, List.set_cons_succ]
        refine wpAnyH_take (i := 1) (v := ?_) rfl (by kernel_rfl) (by kernel_rfl) (by kernel_rfl) (fun _ _ _ h => h) (Or.inl ⟨by rfl, ?_⟩) (by assumption) ?_
        rotate_left
        · (intro w hSw; have hc0 := E0.out w hSw; go_simp; try (with_reducible rfl))
        try simp only [Act.put, List.getElem_toArray, List.getElem_cons_zero, List.getElem_cons_succ, List.setIfInBounds_toArray, List.set_cons_zero, List.set_cons_succ]
        refine wpAnyH_take (i := 2) (v := ?_) rfl (by kernel_rfl) (by kernel_rfl) (by kernel_rfl) (fun _ _ _ h => h) (Or.inl ⟨by rfl, ?_⟩) (by assumption) ?_
        rotate_left
        · (intro w hSw; go_simp; try (with_reducible rfl))
        try simp only [Act.put, List.getElem_toArray, List.getElem_cons_zero, List.getElem_cons_succ, List.setIfInBounds_toArray, List.set_cons_zero, List.set_cons_succ]
        refine wpAnyH_take (i := 3) (v := ?_) rfl (by kernel_rfl) (by kernel_rfl) (by kernel_rfl) (fun _ _ _ h => h) (Or.inl ⟨by rfl, ?_⟩) (by assumption) ?_
        rotate_left
        · (intro w hSw; go_simp; try (with_reducible rfl))
        try simp only [Act.put, List.getElem_toArray, List.getElem_cons_zero, List.getElem_cons_succ, List.setIfInBounds_toArray, List.set_cons_zero, List.set_cons_succ]
        refine wpAnyH_take (i := 4) (v := ?_) rfl (by kernel_rfl) (by kernel_rfl) (by kernel_rfl) (fun _ _ _ h => h) (Or.inl ⟨by rfl, ?_⟩) (by assumption) ?_
        rotate_left
        · (intro w hSw; go_simp; try (with_reducible rfl))
        try simp only [Act.put, List.getElem_toArray, List.getElem_cons_zero, List.getElem_cons_succ, List.setIfInBounds_toArray, List.set_cons_zero, List.set_cons_succ]
        refine wpAnyH_take (i := 5) (v := ?_) rfl (by kernel_rfl) (by kernel_rfl) (by kernel_rfl) (fun _ _ _ h => h) (Or.inl ⟨by rfl, ?_⟩) (by assumption) ?_
        rotate_left
        · (intro w hSw; go_simp; try (with_reducible rfl))
        try simp only [Act.put, List.getElem_toArray, List.getElem_cons_zero, List.getElem_cons_succ, List.setIfInBounds_toArray, List.set_cons_zero, List.set_cons_succ]
        refine wpAnyH_take (i := 6) (v := ?_) rfl (by kernel_rfl) (by kernel_rfl) (by kernel_rfl) (fun _ _ _ h => h) (Or.inl ⟨by rfl, ?_⟩) (by assumption) ?_
        rotate_left
        · (intro w hSw; have hc0 := E2c.out w hSw; go_simp; try (with_reducible rfl))
        try simp only [Act.put, List.getElem_toArray, List.getElem_cons_zero, List.getElem_cons_succ, List.setIfInBounds_toArray, List.set_cons_zero, List.set_cons_succ]
        refine wpAnyH_take (i := 7) (v := ?_) rfl (by kernel_rfl) (by kernel_rfl) (by kernel_rfl) (fun _ _ _ h => h) (Or.inl ⟨by rfl, ?_⟩) (by assumption) ?_
        rotate_left
        · (intro w hSw; go_simp; try (with_reducible rfl))
        try simp only [Act.put, List.getElem_toArray, List.getElem_cons_zero, List.getElem_cons_succ, List.setIfInBounds_toArray, List.set_cons_zero, List.set_cons_succ]
        refine wpAnyH_ready (rs := [8]) (by kernel_rfl) (by simp) ?_
        refine AllReadyH.cons rfl (fun K hK => ?_) AllReadyH.nil
        go_simp
        refine (HARS _ (by assumption)).out.mono ?_
        rintro e wr8 ⟨rfl, hS8⟩
        go_wp2_with fail
        refine hK.out _ _ hS8 (fun hHeld => ?_)
        clear hK K
        try simp only [Act.put, List.getElem_toArray, List.getElem_cons_zero, List.getElem_cons_succ, List.setIfInBounds_toArray, List.set_cons_zero, List.set_cons_succ]
        refine wpAnyH_take (i := 9) (v := ?_) rfl (by kernel_rfl) (by kernel_rfl) (by kernel_rfl) (fun _ _ _ h => h) (Or.inl ⟨by rfl, ?_⟩) (by assumption) ?_
        rotate_left
        · (intro w hSw; go_simp; try (with_reducible rfl))
        try simp only [Act.put, List.getElem_toArray, List.getElem_cons_zero, List.getElem_cons_succ, List.setIfInBounds_toArray, List.set_cons_zero, List.set_cons_succ]
        refine wpAnyH_take (i := 10) (v := ?_) rfl (by kernel_rfl) (by kernel_rfl) (by kernel_rfl) (fun _ _ _ h => h) (Or.inl ⟨by rfl, ?_⟩) (by assumption) ?_
        rotate_left
        · (intro w hSw; go_simp; try (with_reducible rfl))
        try simp only [Act.put, List.getElem_toArray, List.getElem_cons_zero, List.getElem_cons_succ, List.setIfInBounds_toArray, List.set_cons_zero, List.set_cons_succ]
        refine wpAnyH_done (by kernel_rfl) ?_ _
        refine NoPanic.normal ?_
        have hbl := HS0.out _ hS8
        have HQ4 := Lib.hid (HQ3.out.below hbl)
        have HR4 := Lib.hid (HR3.out.trans (hbl.mono HR3.out.size))
        have HE4 := Lib.hid (HE1.out.below hbl)
        clear E0 E2c HARS hHeld hSd hS8 hbl HS0 HQ3 HR3 HE1 hne0
        generalize wr8 = w4 at *
        have HLQ : Hid (w4.rangeAt E1 2 [.int .i64 id, .string NM, .int .i64 1, .int .i64 0]) := Lib.hid (ev_query HE4.out)
        have hsQ : (Tryz.prog.info? 74).map (·.size) = some ([.int .i64 id, .string NM, .int .i64 1, .int .i64 0] : List Value).length := by kernel_rfl
        have HAS := fun W => Lib.hid (show Calls Tryz.prog 27 #[.agg #[.int .i64 id, .string NM, .int .i64 1, .int .i64 0]] W (fun e w' => e = .returned (.agg #[.int .i64 id, .string NM, .int .i64 1, .int .i64 0]) ∧ Below W.heap.size W w') from as12_any ⟨id, NM, 1, 0⟩ W)
        go_wp2_with (refine wpList_load_mid rfl _ _ rfl E1 2 rfl [.int .i64 id, .string NM, .int .i64 1, .int .i64 0] _ HLQ.out Tryz.underlying74 rfl hsQ ?_)
        refine (HAS w4).out.mono ?_
        rintro e w5 ⟨rfl, hb5⟩
        have HQ5 := Lib.hid (HQ4.out.below hb5)
        have HR5 := Lib.hid (HR4.out.trans (hb5.mono HR4.out.size))
        have HFO := Lib.hid (forgeA_any id NM al cl (AD.map (recK NM T)) k HDL.out w5 (HRD.out.below HR5.out) (by have := HNS.out; omega))
        clear HAS hb5 HLQ hsQ HQ4 HR4 HE4
        go_wp2_with fail
        refine HFO.out.mono ?_
        rintro e w6 ⟨gq, rfl, hmi, hb6⟩
        have HQ6 := Lib.hid (HQ5.out.below hb6)
        have HR6 := Lib.hid (HR5.out.trans (hb6.mono HR5.out.size))
        have HWI := Lib.hid (writeA_any id NM gq al cl (AD.map (recK NM T)) k HDL.out w6 hmi HMM.out hN3)
        clear HFO hmi hb6 HQ5 HR5
        go_wp2_with fail
        refine HWI.out.mono ?_
        rintro e w7 ⟨ab, cb, rfl, hbi, hbl, hb7⟩
        have HQ7 := Lib.hid (HQ6.out.below hb7)
        have HR7 := Lib.hid (HR6.out.trans (hb7.mono HR6.out.size))
        have HMG := Lib.hid (mgP_wB HMM.out ⟨by show 1 ≤ 65535; decide, by show (AD.map (recK NM T)).length ≤ 65535; have := HDL.out; omega, by show 0 ≤ 65535; decide, by show 0 ≤ 65535; decide⟩ HFT.out (fun r hr => by cases hr) (fun r hr => by cases hr))
        have HLN := Lib.hid (forge_len (id := id) (T := T) HMAY.out HNS.out HA16.out (by have := HAL.out; omega))
        have HHE := Lib.hid (hearE_any wr.heap.size G cp b 0 0 1 ab cb (wB (forgeM ⟨id, NM, 1, 0⟩ (AD.map (recK NM T)))) cfgA (0 + 1) v2 [(g, lkA NM id)] [] w7 HQ7.out (fun p hp => by rw [List.mem_singleton.1 hp]; exact ⟨by show (0 : Int) < 1; decide, by show (0 : Int) ≤ 8; decide⟩) (by decide) (by decide) (by decide) (by simp) hbi hbl (fun m hm => by
          rw [HMG.out] at hm
          injection hm with hm
          rw [← hm]
          show (AD.map (recK NM T)).length ≤ 900
          have := HDL.out
          omega))
        clear HWI hbi hbl hb7 HQ6 HR6
        generalize hwb : (wB (forgeM ⟨id, NM, 1, 0⟩ (AD.map (recK NM T)))) = bs at *
        clear hwb
        go_wp2_with fail
        refine HHE.out.mono ?_
        rintro e w8 ⟨ve, L8, v8, A8, es8, rfl, hr8, hq8, hb8, hf8, hsub8, hd8⟩
        obtain ⟨rfl, hd9⟩ := heard_K HND.out HT1.out (by have := HT2.out; omega) rfl HLN.out HMG.out hd8
        have HFL : Hid (∀ y ∈ fpO G v8 [], y < w7.heap.size) := Lib.hid (fun y hy => fpO_lt HQ7.out.so y (hsub8 y hy))
        have HQ8 := Lib.hid hq8
        have HR8 := Lib.hid (HR7.out.trans hb8)
        have HW78 : Hid (w7.heap.size ≤ w8.heap.size) := Lib.hid hf8.size
        clear HHE hq8 hb8 hf8 hsub8 hd8 HQ7 HR7 HMG HLN
        rcases hd9 with ⟨hl0, rfl, rfl⟩ | ⟨hl0, ta, tc, rfl, hta, htf, a8, c8, rfl, ha8, hf8⟩
        · obtain ⟨gf, cf, rfl, hgf, hgl, hrg⟩ := hr8.one
          have hk0 : k = 0 := by rw [← HAL.out, hl0]; rfl
          clear hdl hdln
          try clear hd3 hdn3
          try clear hor2
          subst hk0
          have e0 : w8.cell? ⟨gf, 0, none⟩ = some (.int .i64 2) := hrg 0 _ rfl
          have e7 : w8.cell? ⟨gf, 7, none⟩ = some (.int .i64 8) := hrg 7 _ rfl
          have HCH : Hid (Calls Tryz.prog 15 #[.pointer (some ⟨G, 0, none⟩), .string NM, .int .i64 1, .int .i64 1] w8 fun e w' => e = .returned (.bool false) ∧ Below w8.heap.size w8 w') := Lib.hid (cachedE_any wr.heap.size G cp b NM 1 1 [] cfgA (0 + 1) v8 [] [] w8 HQ8.out (fun e he => by cases he) (by decide) (by have := HNS.out; omega) (by decide))
          clear hr8 hrg hl0 HQ8
          simp only [List.length_cons, List.length_nil]
          go_wp2_with fail
          refine HCH.out.mono ?_
          rintro e w9 ⟨rfl, hb9⟩
          have HR9 := Lib.hid (HR8.out.trans (hb9.mono HR8.out.size))
          clear HCH hb9 e0 e7 HR8
          go_wp2_with fail
          refine (HLV w9).out.mono ?_
          rintro e w10 ⟨rfl, hb10⟩
          have HRX := Lib.hid (HR9.out.trans (hb10.mono HR9.out.size))
          clear hb10 HR9
          go_wp2_with fail
          go_ret
          exact ⟨rfl, HB.out.trans (HRX.out.mono HB.out.size)⟩
        · simp only [HAL.out] at hr8 HQ8
          obtain ⟨gf, cf, rfl, hgf, hgl, hrg⟩ := hr8.one
          have hk1 : 0 < k := by rw [← HAL.out]; exact List.length_pos_iff.2 hl0
          have hkb : ((k : Int) == 0) = false := by simp; omega
          have hge : getE [⟨lowB NM, 1, a8, k, c8, 1 + T⟩] (lowB NM) 1 = some ⟨lowB NM, 1, a8, k, c8, 1 + T⟩ := getE_own _ _ _ _ _
          have HGE := Lib.hid hge
          have HL9 : Hid (AD.length ≤ 1000) := Lib.hid (by have := HAL.out; omega)
          have HSM : ∀ a1 c1 a2 c2 W, AdsIn W a1 c1 AD → AdsIn W a2 c2 AD → Hid (Calls Tryz.prog 28 #[.slice a1 k c1, .slice a2 k c2] W fun e w' => e = .returned (.bool true) ∧ Below W.heap.size W w') := fun a1 c1 a2 c2 W h1 h2 => Lib.hid (by
            have h := sameAdsC_any a1 a2 c1 c2 AD AD W h1.1 h2.1 (by have := HL9.out; omega) (by have := HL9.out; omega)
            rw [HAL.out] at h
            simpa using h)
          have HTF := Lib.hid htf
          have HF8 := Lib.hid hf8
          have HFN : Hid (∀ x, w7.heap.size ≤ x → x ∉ fpO G v8 []) := Lib.hid (fun x h1 h2 => by have := HFL.out x h2; omega)
          have HS2 := Lib.hid (startE_any wr.heap.size G cp b NM 1 0 T AD cfgA (0 + 1) v8 [] [⟨lowB NM, 1, a8, k, c8, 1 + T⟩] w8 HQ8.out (fun e he => by
            rw [HGE.out] at he
            injection he with he
            subst he
            exact ⟨HAL.out.symm, ha8, fun x o hx => HFN.out x (HF8.out x o hx)⟩) HL9.out (by have := HNS.out; omega) (by decide) (by decide) (by have := HT1.out; omega) (by have := HT2.out; omega) (by decide) (by decide) (by decide))
          have HTA8 := Lib.hid hta
          have HA8 := Lib.hid ha8
          have HRG8 := Lib.hid hrg
          have HGF : Hid (w7.heap.size ≤ gf ∧ gf < w8.heap.size) := Lib.hid ⟨hgf, hgl⟩
          clear hr8 hrg hl0 HQ8 hk1 hge htf hf8 hta ha8 hgf hgl
          simp only [List.length_cons, List.length_nil]
          go_wp2_with fail
          refine HS2.out.mono ?_
          rintro e w9 ⟨ev9, v9, A9, rfl, hq9, hb9, hf9, hw9⟩
          obtain ⟨rfl, rfl, a9, c9, rfl, hra9⟩ : v8 = v9 ∧ A9 = [] ∧ ∃ a c, ev9 = evD (0 + 1) a k c ∧ RowA w9 w8.heap.size (.slice a k c) AD := by
            unfold StartW theE at hw9
            rw [HGE.out, HAL.out] at hw9
            rcases hw9 with ⟨h, _⟩ | ⟨_, _, _, h1, h2, a, c, h3, h4⟩ | ⟨_, h, _⟩ | ⟨_, h, _⟩
            · rw [HASK.out] at h; cases h
            · exact ⟨h1.symm, h2, a, c, h3, h4⟩
            · rcases h with h | h
              · cases h
              · exact absurd h (by show ¬ (1 + T ≤ T); omega)
            · rcases h with h | h
              · cases h
              · exact absurd h (by show ¬ (1 + T ≤ T); omega)
          have HQ9 := Lib.hid hq9
          have HR9 := Lib.hid (HR8.out.trans hb9)
          have HW89 : Hid (w8.heap.size ≤ w9.heap.size) := Lib.hid hf9.size
          have HRG9 : Hid (w9.rangeAt gf 0 (evL (evD 0 ta k tc))) := Lib.hid (fun j u hu => by
            rw [World.cell?_of_block (w := w8) (a := ⟨gf, 0 + j, none⟩) (hf9.keep gf HGF.out.2 (HFN.out gf HGF.out.1))]
            exact HRG8.out j u hu)
          have HTA9 := Lib.hid (HTA8.out.foot hf9 (fun x o hx => HFN.out x (HTF.out x o hx)))
          have HA9 := Lib.hid (HA8.out.foot hf9 (fun x o hx => HFN.out x (HF8.out x o hx)))
          have HRA9 : Hid (AdsIn w9 a9 c9 AD) := Lib.hid (by
            obtain ⟨ax, cx, e, hx⟩ := hra9.ads
            injection e with e1 _ e3
            rw [e1, e3]
            exact hx)
          have HFA9 : Hid (∀ x o, a9 = some ⟨x, o, none⟩ → w7.heap.size ≤ x) := Lib.hid (fun x o hx => by have h1 := hra9.far x o hx; have h2 := HW78.out; omega)
          clear HS2 hq9 hb9 hf9 hw9 hra9 HTA8 HA8 HRG8 HR8
          have HZ3 := Lib.hid (zeroEv w9 77)
          have hb3 := (Below.refl w9.heap.size w9).alloc (Nat.le_refl _) (.cells #[.int .i64 0, .int .i64 0, .int .i64 0, .string ⟨#[]⟩, .int .i64 0, .int .i64 0, .slice none 0 0, .int .i64 0] 77)
          obtain ⟨W10, hW3⟩ : ∃ W10, w9.alloc (.cells #[.int .i64 0, .int .i64 0, .int .i64 0, .string ⟨#[]⟩, .int .i64 0, .int .i64 0, .slice none 0 0, .int .i64 0] 77) = W10 := ⟨_, rfl⟩
          rw [hW3] at HZ3 hb3
          have HB3 := Lib.hid hb3
          clear hb3
          unfold evV
          go_upto_region 23 with (refine store_of HZ3 rfl ev_size _ _ rfl rfl rfl (vs := evL (evD (0 + 1) a9 k c9)) rfl rfl rfl (fun U10 HU HUC => ?_))
          try simp only [Act.put]
          have hU : Below w9.heap.size w9 U10 := by rw [HU.out]; exact below_cells (Nat.le_refl _) _ _ _ HB3.out
          obtain ⟨E2, hE⟩ : ∃ E, w9.heap.size = E := ⟨_, rfl⟩
          have HQ10 := Lib.hid (HQ9.out.below hU)
          have HR10 := Lib.hid (HR9.out.trans (hU.mono HR9.out.size))
          have HRG10 := Lib.hid (range_below12 HRG9.out hU (Nat.lt_of_lt_of_le HGF.out.2 HW89.out))
          have HTA10 := Lib.hid (HTA9.out.below hU)
          have HA10 := Lib.hid (HA9.out.below hU)
          have HRA10 := Lib.hid (HRA9.out.below hU)
          have HEW : Hid (w7.heap.size ≤ E2) := Lib.hid (by have h1 := HW78.out; have h2 := HW89.out; omega)
          have HGU : Hid (gf < U10.heap.size) := Lib.hid (by have h1 := HGF.out.2; have h2 := HW89.out; have h3 := hU.size; omega)
          clear HQ9 HR9 HRG9 HTA9 HA9 HRA9
          rw [hE] at HUC
          try rw [hE]
          have HE2 := HUC
          clear HU HB3 HZ3 hW3 hE hU HUC
          have hwT1 : IntKind.i64.wrap (T + 1) = T + 1 := by rw [IntKind.wrap_i64]; omega
          have HS3 := Lib.hid (startE_any wr.heap.size G cp b NM 1 0 (T + 1) AD cfgA (0 + 1 + 1) v8 [] [⟨lowB NM, 1, a8, k, c8, 1 + T⟩] U10 HQ10.out (fun e he => by
            rw [HGE.out] at he
            injection he with he
            subst he
            exact ⟨HAL.out.symm, HA10.out, fun x o hx => HFN.out x (HF8.out x o hx)⟩) HL9.out (by have := HNS.out; omega) (by decide) (by decide) (by have := HT1.out; omega) (by have := HT2.out; omega) (by decide) (by decide) (by decide))
          clear HQ10 HA10 HF8
          go_wp2_with fail
          refine HS3.out.mono ?_
          rintro e w11 ⟨ev11, v11, A11, rfl, hq11, hb11, hf11, hw11⟩
          obtain ⟨ln, rfl⟩ : ∃ ln, ev11 = evS ln := by
            unfold StartW theE at hw11
            rw [HGE.out] at hw11
            rcases hw11 with ⟨h, _⟩ | ⟨_, _, h, _⟩ | ⟨_, _, h, _⟩ | ⟨_, _, _, h, _⟩
            · rw [HASK.out] at h; cases h
            · exact absurd h (by show ¬ (T + 1 < 1 + T); omega)
            · cases h
            · exact ⟨_, h⟩
          have HR11 := Lib.hid (HR10.out.trans hb11)
          have HRG11 : Hid (w11.rangeAt gf 0 (evL (evD 0 ta k tc))) := Lib.hid (fun j u hu => by
            rw [World.cell?_of_block (w := U10) (a := ⟨gf, 0 + j, none⟩) (hf11.keep gf HGU.out (HFN.out gf HGF.out.1))]
            exact HRG10.out j u hu)
          have HTA11 := Lib.hid (HTA10.out.foot hf11 (fun x o hx => HFN.out x (HTF.out x o hx)))
          have HRA11 := Lib.hid (HRA10.out.foot hf11 (fun x o hx => HFN.out x (HFA9.out x o hx)))
          have HE211 := Lib.hid (HE2.out.foot hf11 (HFN.out E2 HEW.out))
          have HGU2 : Hid (gf < w11.heap.size) := Lib.hid (Nat.lt_of_lt_of_le HGU.out hf11.size)
          clear HS3 hq11 hb11 hf11 hw11 HR10 HRG10 HTA10 HRA10 HE2 hwT1
          have HZ3 := Lib.hid (zeroEv w11 77)
          have hb3 := (Below.refl w11.heap.size w11).alloc (Nat.le_refl _) (.cells #[.int .i64 0, .int .i64 0, .int .i64 0, .string ⟨#[]⟩, .int .i64 0, .int .i64 0, .slice none 0 0, .int .i64 0] 77)
          obtain ⟨W12, hW3⟩ : ∃ W12, w11.alloc (.cells #[.int .i64 0, .int .i64 0, .int .i64 0, .string ⟨#[]⟩, .int .i64 0, .int .i64 0, .slice none 0 0, .int .i64 0] 77) = W12 := ⟨_, rfl⟩
          rw [hW3] at HZ3 hb3
          have HB3 := Lib.hid hb3
          clear hb3
          unfold evV
          go_upto_region 24 with (refine store_of HZ3 rfl ev_size _ _ rfl rfl rfl (vs := evL (evS ln)) rfl rfl rfl (fun U12 HU HUC => ?_))
          try simp only [Act.put]
          have hU : Below w11.heap.size w11 U12 := by rw [HU.out]; exact below_cells (Nat.le_refl _) _ _ _ HB3.out
          obtain ⟨E3, hE⟩ : ∃ E, w11.heap.size = E := ⟨_, rfl⟩
          have HR12 := Lib.hid (HR11.out.trans (hU.mono HR11.out.size))
          have HRG12 := Lib.hid (range_below12 HRG11.out hU HGU2.out)
          have HTA12 := Lib.hid (HTA11.out.below hU)
          have HRA12 := Lib.hid (HRA11.out.below hU)
          have HE212 := Lib.hid (HE211.out.below hU)
          clear HR11 HRG11 HTA11 HRA11 HE211
          rw [hE] at HUC
          try rw [hE]
          have HE3 := HUC
          clear HU HB3 HZ3 hW3 hE hU HUC
          have HS4 := HSM ta tc aw cw U12 HTA12.out (HAW.out.below HR12.out)
          have f0 : U12.cell? ⟨gf, 0, none⟩ = some (.int .i64 1) := HRG12.out 0 _ rfl
          have f6 : U12.cell? ⟨gf, 6, none⟩ = some (.slice ta k tc) := HRG12.out 6 _ rfl
          go_wp2_with fail
          refine HS4.out.mono ?_
          rintro e w13 ⟨rfl, hb13⟩
          have HR13 := Lib.hid (HR12.out.trans (hb13.mono HR12.out.size))
          have HE213 := Lib.hid (HE212.out.below hb13)
          have HE313 := Lib.hid (HE3.out.below hb13)
          have HS5 := HSM a9 c9 aw cw w13 (HRA12.out.below hb13) (HAW.out.below HR13.out)
          have g0 : w13.cell? ⟨E2, 0, none⟩ = some (.int .i64 1) := HE213.out.cell 0 _ rfl
          have g6 : w13.cell? ⟨E2, 6, none⟩ = some (.slice a9 k c9) := HE213.out.cell 6 _ rfl
          clear HS4 f0 f6 hb13 HR12 HRG12 HTA12 HRA12 HE212 HE3 HE213
          go_wp2_with fail
          refine HS5.out.mono ?_
          rintro e w14 ⟨rfl, hb14⟩
          have HR14 := Lib.hid (HR13.out.trans (hb14.mono HR13.out.size))
          have HE314 := Lib.hid (HE313.out.below hb14)
          have h0 : w14.cell? ⟨E3, 0, none⟩ = some (.int .i64 0) := HE314.out.cell 0 _ rfl
          clear HS5 g0 g6 hb14 HR13 HE313
          go_wp2_with fail
          refine (HLV w14).out.mono ?_
          rintro e w15 ⟨rfl, hb15⟩
          have HR15 := Lib.hid (HR14.out.trans (hb15.mono HR14.out.size))
          clear hb15 HR14 h0
          go_wp2_with fail
          go_ret
          exact ⟨rfl, HB.out.trans (HR15.out.mono HB.out.size)⟩

set_option maxRecDepth 100000 in
theorem lifted (os : Os) (started : os.Started) (H : Type) (enc : TypeId × Value → H) :
    ReturnsInHanded {} Tryz.checked os 6 .any (Rows.solveAsksSpec.pre6 enc Tryz.prog Tryz.f6 Rows.solveAsksRow.domain false) (Rows.solveAsksSpec.post enc Tryz.prog Tryz.f6 false true false false) := by
  refine returnsInHanded_of_change (C := Tryz.checked) own started (by kernel_rfl) Tryz.func6
    (ChangeSpec.witness6 (enc := enc) (C := Tryz.checked) false ⟨#[], #[.string ByteArray.empty, .slice none 0 0, .int .i64 0, .int .i64 0], []⟩ 8 (by kernel_rfl) (by kernel_rfl) (by kernel_rfl) (by kernel_rfl)) ?_
  intro W base args ds gs before hval0 hW hcnd _
  have hval : ∀ (j : Nat) t v, Tryz.f6.params[j]? = some t → args[j]? = some v → Value.okWide Tryz.prog W .any base t v := hval0
  have hW' := hW
  obtain ⟨p, q, hA0, hV, rfl, hfz, hnd⟩ := hW
  have hA : DataW.TrodAll enc Tryz.prog W 0 (fun _ => true) true Tryz.f6.params.toList args.toList ds p := hA0
  rw [Tryz.params6] at hA hval
  obtain ⟨v0, vs0, d0, ds0, p0, q0, hargs, rfl, rfl, h0, r0⟩ := trodAll_cons hA
  obtain ⟨v1, vs1, d1, ds1, p1, q1, rfl, rfl, rfl, h1, r1⟩ := trodAll_cons r0
  obtain ⟨v2, vs2, d2, ds2, p2, q2, rfl, rfl, rfl, h2, r2⟩ := trodAll_cons r1
  obtain ⟨v3, vs3, d3, ds3, p3, q3, rfl, rfl, rfl, h3, r3⟩ := trodAll_cons r2
  obtain ⟨rfl, rfl, rfl⟩ := trodAll_nil r3
  obtain rfl : args = #[v0, v1, v2, v3] := by cases args; simp_all
  obtain ⟨rfl, rfl⟩ := trodVars_none hV
  obtain ⟨a0, rfl, rfl, rfl, w0⟩ := open_string Tryz.underlying9 (hval 0 9 v0 rfl rfl) h0
  obtain ⟨a1, len1, cap1, rfl⟩ := okWide_slice Tryz.underlying64 (hval 1 64 v1 rfl rfl)
  have k1 := h1
  have lt1 : ∀ x ∈ p1, x.block < W.heap.size := by obtain ⟨m, hm⟩ := k1; exact DataW.trod_lt m _ _ _ hm
  obtain ⟨z1, w1⟩ : ∃ zs, IsRow .u32 W a1 len1 cap1 zs := by
    obtain ⟨fuel, hf⟩ := h1
    rcases open_ints Tryz.underlying64 Tryz.underlying66 (by kernel_rfl) hf with ⟨hcs, _⟩ | ⟨x, l, c, zs, hcs, _, hl, hm, hz, _, hcell, hwz⟩
    · simp [Value.cells] at hcs
      obtain ⟨rfl, rfl, rfl⟩ := hcs
      exact ⟨[], .inl ⟨rfl, rfl, rfl, rfl⟩⟩
    · simp [Value.cells] at hcs
      obtain ⟨rfl, rfl, rfl⟩ := hcs
      exact ⟨zs, .inr ⟨_, rfl, hl, hm, by simpa using hz, hcell, hwz⟩⟩
  obtain ⟨a2, rfl, rfl, rfl, w2⟩ := open_int Tryz.underlying3 (hval 2 3 v2 rfl rfl) h2
  obtain ⟨a3, rfl, rfl, rfl, w3⟩ := open_int Tryz.underlying3 (hval 3 3 v3 rfl rfl) h3
  clear hA0 hval0
  refine (walk a0 a1 len1 cap1 z1 a2 a3 W w0 w1 w2 w3).mono fun e W' ⟨he, bel⟩ => ?_
  subst he
  exact ⟨_, rfl, _, _, _, [], _, [], hW', trodAll_mk1 (shut_bool Tryz.underlying4 _), (trodAll_cons_mk (shut_string Tryz.underlying9 w0) (trodAll_cons_mk (Below.trod laidOut (by kernel_rfl) (of_decide_eq_true (by kernel_rfl)) k1 bel lt1) (trodAll_cons_mk (shut_int Tryz.underlying3 w2) (trodAll_cons_mk (shut_int Tryz.underlying3 w3) trodAll_mk0)))), rfl, bel.frame _, fun h => by cases h⟩

theorem over : Rows.solveAsksRow.holds Tryz.pinned (OpenSpec.ofChange Rows.solveAsksSpec) :=
  OpenClaim.holds_of_wide 6 Tryz.f6 rfl rfl rfl rfl rfl rfl rfl ⟨rfl, rfl, rfl, rfl, rfl⟩ rfl rfl rfl rfl rfl (by kernel_rfl) Tryz.func6 (by kernel_rfl)
    (of_decide_eq_true (by kernel_rfl)) (by unfold Func.isWrapper; first | (rw [if_pos (by decide +kernel)]; kernel_rfl) | (rw [if_neg (by decide +kernel)]; exact ⟨rfl, rfl⟩))
    (fun os started H enc _ => lifted os started H enc)


theorem proved : Rows.SolveAsksSaid := over
#print axioms proved
end Go.Proofs.YtedmkdjijhflnaaGreat.solveAsks
