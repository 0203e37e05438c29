/-
  The walk of the law StoreRises.
-/
import Derived.Test.YtdgpbdedaafdiaaRise
import Derived.Deep.DeepCutAuto
namespace Go.Proofs.Ytdgpbdedaafdiaa
open Go.RowKit

theorem RowE.kp {w : World} {lo : Nat} {M : List Nat} {a : Option Addr} {c : Nat} {es : List Pe} (h : RowE w lo w.heap.size a c es) (hw : ∀ e ∈ es, e.Wf) (hM : ∀ g ∈ M, g < lo) : Kp M w fun x => EnsAt x a c es := by
  have hlo : ∀ g ∈ blk a, lo ≤ g := fun g hg => by
    obtain ⟨xs, _, hE, _, ho⟩ := h
    exact (World.ownsRow.lt hE.own g (blk_own hg)).1
  refine (er_of (base := 0) (M := blk a ++ M) h hw (Nat.zero_le _) fun g hg => ?_).kp fun g hg hm => ?_
  · rcases List.mem_append.mp hg with e | e
    · exact .inr (.inr e)
    · exact .inl (hM g e)
  · have := hlo g hg
    have := hM g hm
    omega

theorem RetMu.step2 {w0 w w' : World} {SB R : Nat} {M : List Nat} {d : DS} {rs : List Pr} {s : Ss} {e : Ending} {y : As} (hE : Ext w0 w) (h : So w w0.heap.size SB R M d rs s) (hp : Stp d rs) (hr : RetMu w w0.heap.size SB R M (doA d rs s y).1 (doA d rs s y).2 e w') :
    e = .returned (.int .i64 (doA d rs s y).1.1) ∧ Ext w0 w' ∧ ∃ M', So w' w0.heap.size SB R M' (doA d rs s y).1.2 (doA d rs s y).2 (runS (doA d rs s y).2) ∧ Stp (doA d rs s y).1.2 (doA d rs s y).2 ∧ (doA d rs s y).2.length ≤ rs.length + 1 ∧ Mv w w' M M' := by
  obtain ⟨h1, M', h2, h3⟩ := hr
  exact ⟨h1, (h3.below hE fun g hg => (h.mLt hg).1).1, M', h2, stp_doA hp s y, len_doA d rs s y, h3⟩

theorem Bx.below {w w' : World} {B : Nat} {t : TypeId} {C : Array Value} (h : Bx w B t C) (hb : Below w.heap.size w w') : Bx w' B t C := h.chg (gs := []) (Chg.of_below hb) (by simp)

set_option maxRecDepth 100000 in
set_option maxHeartbeats 16000000 in
theorem storeRises_walk (a0 : Option Addr) (len0 cap0 : Nat) (m0 : List As) (w : World) (w0 : m0.length = len0 ∧ Acts14 w a0 cap0 m0) :
    Calls Try.prog 3 #[.slice a0 len0 cap0] w fun e w' => e = .returned (.bool true) ∧ Below w.heap.size w w' := by
  have h0 : len0 ≤ maxLen := by have := w0.1; have := w0.2.le; have := w0.2.max; omega
  unfold maxLen at h0
  have HL0 := Lib.hid w0.1
  have HX0 := Lib.hid w0.2
  clear w0
  go_enter Try.func3, Try.ntmps3
  go_wp2_with fail
  refine (disk_new 1048576 _).mono ?_
  rintro e w1 ⟨R, rfl, -, hd1, hb1⟩
  rw [show roomOf 1048576 = 1048576 by decide] at hd1
  have HD1 := Lib.hid hd1
  have E1 : Hid (Ext w w1) := hb1
  clear hd1 hb1
  go_wp2_with fail
  refine (stOpen_new HD1.out).mono ?_
  rintro e w2 ⟨SB, M2, rfl, hs2, hm2⟩
  have E2 : Hid (Ext w w2) := (hm2.below E1.out fun g hg => by rw [List.mem_singleton.mp hg]; exact HD1.out.base).1
  have HS2 := Lib.hid hs2
  have HP2 : Hid (Stp ⟨[], 1048576, false, false, 0⟩ []) := ⟨rfl, rfl, rfl⟩
  have HA2 := Lib.hid abv0
  clear hs2 hm2 HD1 E1
  go_wp2
  go_loopw [5] (fun i ws => ∃ (k : Nat) (M : List Nat) (d : DS) (rs : List Pr) (s : Ss), k ≤ len0 ∧ k ≤ 40 ∧ rs.length ≤ k ∧ i = .int .i64 k ∧ Hid (So ws w.heap.size SB R M d rs s) ∧ Hid (Stp d rs) ∧ Hid (Abv s) ∧ Hid (Ext w ws)) (fun i _ => len0 - (intOf i).toNat)
  case atStart => exact ⟨0, M2, _, [], ss0, Nat.zero_le _, Nat.zero_le _, Nat.le_refl _, rfl, HS2, HP2, HA2, E2⟩
  case round =>
    obtain ⟨k, M, d, rs, s, hk, hk40, hrs, rfl, HS, HP, HA, HB⟩ := hrel
    by_cases hlt : k < len0 ∧ k < 40
    · have j0 : (0 : Int) ≤ (k : Int) := by omega
      have j1 : (k : Int) < (len0 : Int) := by omega
      have j2 : decide ((k : Int) < (len0 : Int)) = true := by simp; omega
      have j3 : decide ((k : Int) < 40) = true := by simp; omega
      have hlt1 := hlt.1
      have hlt2 := hlt.2
      obtain ⟨b, off, e0, hc⟩ := (HX0.out.below HB.out).cell k (by rw [HL0.out]; exact hlt1)
      subst e0
      have HMEM := Lib.hid (getD_mem m0 k as0 (by rw [HL0.out]; exact hlt1))
      generalize m0.getD k as0 = y at *
      obtain ⟨what, n, e, loc, c, r, ma, mc, ea, ec⟩ := y
      obtain ⟨lf, hlf⟩ : ∃ q, e.frag.length = q := ⟨_, rfl⟩
      obtain ⟨lm, hlm⟩ : ∃ q, r.mem.length = q := ⟨_, rfl⟩
      obtain ⟨le, hle⟩ : ∃ q, r.ents.length = q := ⟨_, rfl⟩
      have HLE := Lib.hid hle
      have HCY : Hid ((⟨what, n, e, loc, c, r, ma, mc, ea, ec⟩ : As).cells.toArray = #[.int .i64 what, .int .i64 n, .int .i64 e.seq, .int .i64 e.client, .int .i64 e.num, .int .i64 e.op, .string (strB e.key), .int .i64 e.size, .int .u32 (e.sum : Int), .slice loc lf c, .int .i64 r.kind, .int .i64 r.epoch, .slice ma lm mc, .int .i64 r.pos, .int .i64 r.last, .slice ea le ec]) := by show _ = _; rw [← hlf, ← hlm, ← hle]; rfl
      unfold As.cells at hc
      dsimp only at hc
      rw [hlf, hlm, hle] at hc
      have HC := Lib.hid hc
      clear hc hlf hlm hle hlt
      go_upto_region 8 with (first | (refine wpList_ldX 40 16 _ _ _ #[.int .i64 what, .int .i64 n, .int .i64 e.seq, .int .i64 e.client, .int .i64 e.num, .int .i64 e.op, .string (strB e.key), .int .i64 e.size, .int .u32 (e.sum : Int), .slice loc lf c, .int .i64 r.kind, .int .i64 r.epoch, .slice ma lm mc, .int .i64 r.pos, .int .i64 r.last, .slice ea le ec] rfl rfl rfl (by kernel_rfl) (by kernel_rfl) rfl (fun j v hv => HC.out j v (by rw [← Array.getElem?_toList] at hv; exact hv)) ?_) | (refine wpList_st 40 16 wr.heap.size 0 40 #[.int .i64 what, .int .i64 n, .int .i64 e.seq, .int .i64 e.client, .int .i64 e.num, .int .i64 e.op, .string (strB e.key), .int .i64 e.size, .int .u32 (e.sum : Int), .slice loc lf c, .int .i64 r.kind, .int .i64 r.epoch, .slice ma lm mc, .int .i64 r.pos, .int .i64 r.last, .slice ea le ec] #[.int .i64 0, .int .i64 0, .int .i64 0, .int .i64 0, .int .i64 0, .int .i64 0, .string ⟨#[]⟩, .int .i64 0, .int .u32 0, .slice none 0 0, .int .i64 0, .int .i64 0, .slice none 0 0, .int .i64 0, .int .i64 0, .slice none 0 0] #[.int .i64 what, .int .i64 n, .int .i64 e.seq, .int .i64 e.client, .int .i64 e.num, .int .i64 e.op, .string (strB e.key), .int .i64 e.size, .int .u32 (e.sum : Int), .slice loc lf c, .int .i64 r.kind, .int .i64 r.epoch, .slice ma lm mc, .int .i64 r.pos, .int .i64 r.last, .slice ea le ec] _ _ rfl rfl rfl rfl rfl (by kernel_rfl) rfl (bx_new8 wr #[.int .i64 0, .int .i64 0, .int .i64 0, .int .i64 0, .int .i64 0, .int .i64 0, .string ⟨#[]⟩, .int .i64 0, .int .u32 0, .slice none 0 0, .int .i64 0, .int .i64 0, .slice none 0 0, .int .i64 0, .int .i64 0, .slice none 0 0] 40) (by show 16 ≤ 16; omega) (by simp [Value.oneCell']) rfl ?_; intro wx hx hcx; have hbx : Below wr.heap.size wr wx := hcx.below (below_one wr _) (by simp) (by simp); have HBX := Lib.hid hx; have E := Lib.hid (Ext.trans HB.out hbx); have HS' := Lib.hid (HS.out.below hbx); clear hx hcx hbx HS HB HC; have HS := HS'; clear HS'))
      have c0 := HBX.out.cell 0 (.int .i64 what) rfl
      have c15 := HBX.out.cell 15 (.slice ea le ec) rfl
      by_cases h1 : what < 0
      · have d1 : decide (what < 0) = true := decide_eq_true h1
        clear h1
        go_wp2_with fail
        go_roundw
        case rel => exact ⟨k + 1, M, d, rs, s, by omega, by omega, by omega, by go_num, HS, HP, HA, E⟩
        case measure => simp [intOf]; omega
      · have d1 : decide (what < 0) = false := decide_eq_false h1
        by_cases h2 : 4 < what
        · have d2 : decide (what > 4) = true := decide_eq_true h2
          clear h1 h2
          go_wp2_with fail
          go_roundw
          case rel => exact ⟨k + 1, M, d, rs, s, by omega, by omega, by omega, by go_num, HS, HP, HA, E⟩
          case measure => simp [intOf]; omega
        · have d2 : decide (what > 4) = false := decide_eq_false h2
          by_cases h3 : 6 < le
          · have d3 : decide ((le : Int) > 6) = true := decide_eq_true (by omega)
            clear h1 h2 h3
            go_wp2_with fail
            go_roundw
            case rel => exact ⟨k + 1, M, d, rs, s, by omega, by omega, by omega, by go_num, HS, HP, HA, E⟩
            case measure => simp [intOf]; omega
          · have d3 : decide ((le : Int) > 6) = false := decide_eq_false (by omega)
            have H6 : Hid (r.ents.length ≤ 6) := by show _ ≤ _; rw [HLE.out]; omega
            clear h1 h2 h3
            obtain ⟨L, ht⟩ : ∃ L : Lay, SomeV (.pointer (some ⟨SB, 0, none⟩)) wx (.pointer (some ⟨L.RB, 0, none⟩)) s L := by
              obtain ⟨_, _, L, _, hx⟩ := HS.out
              exact ⟨L, hx.someV⟩
            have HT := Lib.hid ht
            clear ht
            have HEL : Hid (s.now.ents.length ≤ 46) := by have := HS.out.len; show _ ≤ _; omega
            have HML := Lib.hid HS.out.mem
            have HOK := Lib.hid HS.out.ok
            have hf0 := conf_f0
            go_wp2_with fail
            refine (stConf_any _ HT.out (by have := HML.out; omega)).mono ?_
            rintro x wx ⟨a3, k3, rfl, -, hb⟩
            have E' := Lib.hid (Ext.trans E.out hb)
            have HT' := Lib.hid (HT.out.below hb)
            have HS' := Lib.hid (HS.out.below hb)
            have HBX' := Lib.hid (HBX.out.below hb)
            clear E hb HT HS HBX
            have E := E'
            clear E'
            have HT := HT'
            clear HT'
            have HS := HS'
            clear HS'
            have HBX := HBX'
            clear HBX'
            go_wp2_with fail
            refine (stEntries_any _ HT.out (by have := HEL.out; omega) HOK.out.frag).mono ?_
            rintro x wy ⟨a1, k1, rfl, hr, hb⟩
            have HE1 := Lib.hid (hr.kp HOK.out.wf.now.ents fun g hg => (HS.out.mLt hg).2)
            have E' := Lib.hid (Ext.trans E.out hb)
            have HT' := Lib.hid (HT.out.below hb)
            have HS' := Lib.hid (HS.out.below hb)
            have HBX' := Lib.hid (HBX.out.below hb)
            clear E hb hr HT HS HBX
            have E := E'
            clear E'
            have HT := HT'
            clear HT'
            have HS := HS'
            clear HS'
            have HBX := HBX'
            clear HBX'
            go_wp2_with fail
            refine (stSealed_any _ HT.out).mono ?_
            rintro x wx ⟨rfl, hb⟩
            have E' := Lib.hid (Ext.trans E.out hb)
            have HT' := Lib.hid (HT.out.below hb)
            have HS' := Lib.hid (HS.out.below hb)
            have HBX' := Lib.hid (HBX.out.below hb)
            have HE1' := Lib.hid (HE1.out.below hb)
            clear E hb HT HS HBX HE1
            have E := E'
            clear E'
            have HT := HT'
            clear HT'
            have HS := HS'
            clear HS'
            have HBX := HBX'
            clear HBX'
            have HE1 := HE1'
            clear HE1'
            go_wp2_with fail
            refine (stLast_any _ HT.out (by have := HEL.out; omega)).mono ?_
            rintro x wx ⟨rfl, hb⟩
            have E' := Lib.hid (Ext.trans E.out hb)
            have HT' := Lib.hid (HT.out.below hb)
            have HS' := Lib.hid (HS.out.below hb)
            have HBX' := Lib.hid (HBX.out.below hb)
            have HE1' := Lib.hid (HE1.out.below hb)
            clear E hb HT HS HBX HE1
            have E := E'
            clear E'
            have HT := HT'
            clear HT'
            have HS := HS'
            clear HS'
            have HBX := HBX'
            clear HBX'
            have HE1 := HE1'
            clear HE1'
            go_wp2_with (refine wpList_ldX 40 16 _ _ _ #[.int .i64 what, .int .i64 n, .int .i64 e.seq, .int .i64 e.client, .int .i64 e.num, .int .i64 e.op, .string (strB e.key), .int .i64 e.size, .int .u32 (e.sum : Int), .slice loc lf c, .int .i64 r.kind, .int .i64 r.epoch, .slice ma lm mc, .int .i64 r.pos, .int .i64 r.last, .slice ea le ec] rfl rfl rfl (by kernel_rfl) (by kernel_rfl) rfl (fun j v hv => (by rw [Nat.zero_add]; exact HBX.out.cell j v hv)) ?_)
            rw [← HCY.out]
            refine (lawCall_any ⟨what, n, e, loc, c, r, ma, mc, ea, ec⟩ HS.out (by omega) (HX0.out.kp HMEM.out E.out fun g hg => (HS.out.mLt hg).1) H6.out).mono ?_
            intro x w3 hw
            have hri := rise_doA (d := d) HS.out.1 HA.out (⟨what, n, e, loc, c, r, ma, mc, ea, ec⟩ : As)
            obtain ⟨rfl, he3, M3, hs3, hp3, hl3, hm3⟩ := RetMu.step2 E.out HS.out HP.out hw
            have HE1' : Hid (EnsAt w3 a1 k1 s.now.ents) := (HE1.out.mv hm3).now
            have HLR := Lib.hid (lastS_range HOK.out)
            clear E HS HP HA HT HE1 HBX
            have E := Lib.hid he3
            have HE1 := HE1'
            have HP3 := Lib.hid hp3
            have HRI := Lib.hid hri
            have HS3 := Lib.hid hs3
            clear hw he3 hs3 hp3 hri hm3 HE1'
            generalize doA d rs s ⟨what, n, e, loc, c, r, ma, mc, ea, ec⟩ = p at *
            obtain ⟨⟨z, d3⟩, rs3⟩ := p
            dsimp only at hl3 HS3 HP3 HRI
            obtain ⟨t, ht⟩ : ∃ t, runS rs3 = t := ⟨_, rfl⟩
            rw [ht] at HS3 HRI
            clear ht
            have HA3 := Lib.hid HRI.out.abv
            have HOK3 := Lib.hid HS3.out.ok
            have HEL3 : Hid (t.now.ents.length ≤ 46) := by have := HS3.out.len; show _ ≤ _; omega
            have HML3 := Lib.hid HS3.out.mem
            obtain ⟨L3, ht⟩ : ∃ L : Lay, SomeV (.pointer (some ⟨SB, 0, none⟩)) w3 (.pointer (some ⟨L.RB, 0, none⟩)) t L := by
              obtain ⟨_, _, L, _, hx⟩ := HS3.out
              exact ⟨L, hx.someV⟩
            have HT := Lib.hid ht
            clear ht
            go_wp2_with fail
            refine (stEntries_any _ HT.out (by have := HEL3.out; omega) HOK3.out.frag).mono ?_
            rintro x wx ⟨a2, k2, rfl, hr, hb⟩
            have E' := Lib.hid (Ext.trans E.out hb)
            have HT' := Lib.hid (HT.out.below hb)
            have HS3' := Lib.hid (HS3.out.below hb)
            have HE1' := Lib.hid (HE1.out.below hb)
            clear E hb HT HS3 HE1
            have E := E'
            clear E'
            have HT := HT'
            clear HT'
            have HS3 := HS3'
            clear HS3'
            have HE1 := HE1'
            clear HE1'
            have HE2 := Lib.hid hr.ens
            clear hr
            obtain ⟨q, hq⟩ : ∃ q, lastS s = q := ⟨_, rfl⟩
            have HQ := Lib.hid hq
            rw [hq]
            have HLR2 : Hid (0 ≤ q ∧ q ≤ 1099511627776) := by rw [← hq]; exact HLR.out
            have hq1 := HLR2.out.1
            have hq2 := HLR2.out.2
            obtain ⟨l, hl⟩ : ∃ l, s.now.ents.length = l := ⟨_, rfl⟩
            obtain ⟨l3, hl3'⟩ : ∃ l, t.now.ents.length = l := ⟨_, rfl⟩
            have HLL := Lib.hid hl
            have HLL3 := Lib.hid hl3'
            rw [hl, hl3']
            have hl46 : l ≤ 46 := by rw [← hl]; exact HEL.out
            have d1 : decide (t.now.epoch < s.now.epoch) = false := decide_eq_false (by have := HRI.out.up; omega)
            clear hq hl hl3' HLR
            go_wp2_with fail
            refine (stConf_any _ HT.out (by have := HML3.out; omega)).mono ?_
            rintro x wx ⟨a4, k4, rfl, -, hb⟩
            have E' := Lib.hid (Ext.trans E.out hb)
            have HT' := Lib.hid (HT.out.below hb)
            have HS3' := Lib.hid (HS3.out.below hb)
            have HE1' := Lib.hid (HE1.out.below hb)
            have HE2' := Lib.hid (HE2.out.below hb)
            clear E hb HT HS3 HE1 HE2
            have E := E'
            clear E'
            have HT := HT'
            clear HT'
            have HS3 := HS3'
            clear HS3'
            have HE1 := HE1'
            clear HE1'
            have HE2 := HE2'
            clear HE2'
            go_wp2_with fail
            refine (stConf_any _ HT.out (by have := HML3.out; omega)).mono ?_
            rintro x wx ⟨a5, k5, rfl, -, hb⟩
            have E' := Lib.hid (Ext.trans E.out hb)
            have HT' := Lib.hid (HT.out.below hb)
            have HS3' := Lib.hid (HS3.out.below hb)
            have HE1' := Lib.hid (HE1.out.below hb)
            have HE2' := Lib.hid (HE2.out.below hb)
            clear E hb HT HS3 HE1 HE2
            have E := E'
            clear E'
            have HT := HT'
            clear HT'
            have HS3 := HS3'
            clear HS3'
            have HE1 := HE1'
            clear HE1'
            have HE2 := HE2'
            clear HE2'
            by_cases hz : z = 0
            · by_cases hep : t.now.epoch = s.now.epoch
              · have d2 : (t.now.epoch == s.now.epoch) = true := by simp [hep]
                rcases HRI.out.ents hep with hts | ⟨hsl0, e2, hts, hes⟩
                · cases hse : s.sealed
                  · clear hep
                    have HTS : Hid (t.now.ents = s.now.ents) := hts
                    clear hts
                    obtain rfl : l3 = l := by rw [← HLL3.out, ← HLL.out, HTS.out]
                    have HTK : Hid (EnsAt wx a2 k2 s.now.ents) := by show EnsAt _ _ _ _; rw [← HTS.out]; exact HE2.out
                    have hcap : l3 ≤ k2 := by have := HTK.out.le; rw [HLL.out] at this; exact this
                    have hsl := slice_toE a2 l3 k2 l3 hcap
                    have hsl' := slice_toE' a2 l3 k2 l3 hcap
                    have dd3 : decide ((l3 : Int) < (l3 : Int)) = false := decide_eq_false (by omega)
                    have d4 : decide ((l3 : Int) > (l3 : Int) + 1) = false := decide_eq_false (by omega)
                    have d5 : ((l3 : Int) != (l3 : Int)) = false := by simp
                    have d6 : decide ((l3 : Int) > (l3 : Int)) = false := decide_eq_false (by omega)
                    go_wp2_with fail
                    refine (sameAll_any _ _ _ _ l3 s.now.ents _ HLL.out (by omega) (HTK.out) HE1.out HOK.out.small).mono ?_
                    rintro x wx ⟨rfl, hb⟩
                    have E' := Lib.hid (Ext.trans E.out hb)
                    have HT' := Lib.hid (HT.out.below hb)
                    have HS3' := Lib.hid (HS3.out.below hb)
                    have HE1' := Lib.hid (HE1.out.below hb)
                    have HE2' := Lib.hid (HE2.out.below hb)
                    clear E hb HT HS3 HE1 HE2
                    have E := E'
                    clear E'
                    have HT := HT'
                    clear HT'
                    have HS3 := HS3'
                    clear HS3'
                    have HE1 := HE1'
                    clear HE1'
                    have HE2 := HE2'
                    clear HE2'
                    have dz : (z != 0) = false := by simp; exact hz
                    clear hz
                    go_wp2_with fail
                    go_roundw
                    case rel => exact ⟨k + 1, M3, d3, rs3, t, by omega, by omega, by omega, by go_num, HS3, HP3, HA3, E⟩
                    case measure => simp [intOf]; omega
                  · have HSL : Hid (t.sealed = true) := HRI.out.sld hep hse
                    clear hep
                    have HTS : Hid (t.now.ents = s.now.ents) := hts
                    clear hts
                    obtain rfl : l3 = l := by rw [← HLL3.out, ← HLL.out, HTS.out]
                    have HTK : Hid (EnsAt wx a2 k2 s.now.ents) := by show EnsAt _ _ _ _; rw [← HTS.out]; exact HE2.out
                    have hcap : l3 ≤ k2 := by have := HTK.out.le; rw [HLL.out] at this; exact this
                    have hsl := slice_toE a2 l3 k2 l3 hcap
                    have hsl' := slice_toE' a2 l3 k2 l3 hcap
                    have dd3 : decide ((l3 : Int) < (l3 : Int)) = false := decide_eq_false (by omega)
                    have d4 : decide ((l3 : Int) > (l3 : Int) + 1) = false := decide_eq_false (by omega)
                    have d5 : ((l3 : Int) != (l3 : Int)) = false := by simp
                    have d6 : decide ((l3 : Int) > (l3 : Int)) = false := decide_eq_false (by omega)
                    go_wp2_with fail
                    refine (sameAll_any _ _ _ _ l3 s.now.ents _ HLL.out (by omega) (HTK.out) HE1.out HOK.out.small).mono ?_
                    rintro x wx ⟨rfl, hb⟩
                    have E' := Lib.hid (Ext.trans E.out hb)
                    have HT' := Lib.hid (HT.out.below hb)
                    have HS3' := Lib.hid (HS3.out.below hb)
                    have HE1' := Lib.hid (HE1.out.below hb)
                    have HE2' := Lib.hid (HE2.out.below hb)
                    clear E hb HT HS3 HE1 HE2
                    have E := E'
                    clear E'
                    have HT := HT'
                    clear HT'
                    have HS3 := HS3'
                    clear HS3'
                    have HE1 := HE1'
                    clear HE1'
                    have HE2 := HE2'
                    clear HE2'
                    go_wp2_with fail
                    refine (stSealed_any _ HT.out).mono ?_
                    rintro x wx ⟨rfl, hb⟩
                    have E' := Lib.hid (Ext.trans E.out hb)
                    have HT' := Lib.hid (HT.out.below hb)
                    have HS3' := Lib.hid (HS3.out.below hb)
                    have HE1' := Lib.hid (HE1.out.below hb)
                    have HE2' := Lib.hid (HE2.out.below hb)
                    clear E hb HT HS3 HE1 HE2
                    have E := E'
                    clear E'
                    have HT := HT'
                    clear HT'
                    have HS3 := HS3'
                    clear HS3'
                    have HE1 := HE1'
                    clear HE1'
                    have HE2 := HE2'
                    clear HE2'
                    rw [HSL.out]
                    have dz : (z != 0) = false := by simp; exact hz
                    clear hz
                    go_wp2_with fail
                    go_roundw
                    case rel => exact ⟨k + 1, M3, d3, rs3, t, by omega, by omega, by omega, by go_num, HS3, HP3, HA3, E⟩
                    case measure => simp [intOf]; omega
                · rw [hsl0]
                  clear hep hsl0
                  have HTS := Lib.hid hts
                  have HES := Lib.hid hes
                  clear hts hes
                  obtain rfl : l3 = l + 1 := by rw [← HLL3.out, ← HLL.out, HTS.out, List.length_append]; rfl
                  have HTK : Hid (EnsAt wx a2 k2 s.now.ents) := by show EnsAt _ _ _ _; have h1 := HE2.out.take l; rw [HTS.out, show l = s.now.ents.length from HLL.out.symm, List.take_left] at h1; exact h1
                  have hcap : l ≤ k2 := by have := HTK.out.le; rw [HLL.out] at this; exact this
                  have hsl := slice_toE a2 (l + 1) k2 l hcap
                  have hsl' := slice_toE' a2 (l + 1) k2 l hcap
                  obtain ⟨b2, off2, loc2, c2, eb, hec⟩ := HE2.out.el l (by rw [HLL3.out]; omega)
                  have x0 := hec.c0
                  rw [show (t.now.ents.getD l pe0) = e2 by rw [HTS.out, show l = s.now.ents.length from HLL.out.symm]; simp] at x0
                  rw [HES.out, HQ.out] at x0
                  have HX0C := Lib.hid x0
                  clear hec x0
                  subst eb
                  have dd3 : decide (((l + 1 : Nat) : Int) < (l : Int)) = false := decide_eq_false (by omega)
                  have d4 : decide (((l + 1 : Nat) : Int) > (l : Int) + 1) = false := decide_eq_false (by omega)
                  have d6 : decide (((l + 1 : Nat) : Int) > (l : Int)) = true := decide_eq_true (by omega)
                  have i1 : (0 : Int) ≤ (l : Int) := by omega
                  have i2 : (l : Int) < ((l + 1 : Nat) : Int) := by omega
                  have d7 : (q + 1 != q + 1) = false := by simp
                  go_wp2_with fail
                  refine (sameAll_any _ _ _ _ l s.now.ents _ HLL.out (by omega) (HTK.out) HE1.out HOK.out.small).mono ?_
                  rintro x wx ⟨rfl, hb⟩
                  have x0 := cell_later hb HX0C.out
                  have E' := Lib.hid (Ext.trans E.out hb)
                  have HT' := Lib.hid (HT.out.below hb)
                  have HS3' := Lib.hid (HS3.out.below hb)
                  have HE1' := Lib.hid (HE1.out.below hb)
                  have HE2' := Lib.hid (HE2.out.below hb)
                  clear E hb HT HS3 HE1 HE2
                  have E := E'
                  clear E'
                  have HT := HT'
                  clear HT'
                  have HS3 := HS3'
                  clear HS3'
                  have HE1 := HE1'
                  clear HE1'
                  have HE2 := HE2'
                  clear HE2'
                  have dz : (z != 0) = false := by simp; exact hz
                  clear hz
                  go_wp2_with fail
                  go_roundw
                  case rel => exact ⟨k + 1, M3, d3, rs3, t, by omega, by omega, by omega, by go_num, HS3, HP3, HA3, E⟩
                  case measure => simp [intOf]; omega
              · have d2 : (t.now.epoch == s.now.epoch) = false := by simp [hep]
                have dz : (z != 0) = false := by simp; exact hz
                clear hz hep
                go_wp2_with fail
                go_roundw
                case rel => exact ⟨k + 1, M3, d3, rs3, t, by omega, by omega, by omega, by go_num, HS3, HP3, HA3, E⟩
                case measure => simp [intOf]; omega
            · have hts0 : t = s := HRI.out.no hz
              have hts : t.now.ents = s.now.ents := by rw [hts0]
              have d2 : (t.now.epoch == s.now.epoch) = true := by simp [hts0]
              have HEP : Hid (t.now.epoch = s.now.epoch) := by show _ = _; rw [hts0]
              cases hse : s.sealed
              · have HSL : Hid (t.sealed = false) := by show _ = _; rw [hts0]; exact hse
                clear hts0
                have HTS : Hid (t.now.ents = s.now.ents) := hts
                clear hts
                obtain rfl : l3 = l := by rw [← HLL3.out, ← HLL.out, HTS.out]
                have HTK : Hid (EnsAt wx a2 k2 s.now.ents) := by show EnsAt _ _ _ _; rw [← HTS.out]; exact HE2.out
                have hcap : l3 ≤ k2 := by have := HTK.out.le; rw [HLL.out] at this; exact this
                have hsl := slice_toE a2 l3 k2 l3 hcap
                have hsl' := slice_toE' a2 l3 k2 l3 hcap
                have dd3 : decide ((l3 : Int) < (l3 : Int)) = false := decide_eq_false (by omega)
                have d4 : decide ((l3 : Int) > (l3 : Int) + 1) = false := decide_eq_false (by omega)
                have d5 : ((l3 : Int) != (l3 : Int)) = false := by simp
                have d6 : decide ((l3 : Int) > (l3 : Int)) = false := decide_eq_false (by omega)
                go_wp2_with fail
                refine (sameAll_any _ _ _ _ l3 s.now.ents _ HLL.out (by omega) (HTK.out) HE1.out HOK.out.small).mono ?_
                rintro x wx ⟨rfl, hb⟩
                have E' := Lib.hid (Ext.trans E.out hb)
                have HT' := Lib.hid (HT.out.below hb)
                have HS3' := Lib.hid (HS3.out.below hb)
                have HE1' := Lib.hid (HE1.out.below hb)
                have HE2' := Lib.hid (HE2.out.below hb)
                clear E hb HT HS3 HE1 HE2
                have E := E'
                clear E'
                have HT := HT'
                clear HT'
                have HS3 := HS3'
                clear HS3'
                have HE1 := HE1'
                clear HE1'
                have HE2 := HE2'
                clear HE2'
                have dz : (z != 0) = true := by simp; exact hz
                clear hz
                go_wp2_with fail
                refine (stConf_any _ HT.out (by have := HML3.out; omega)).mono ?_
                rintro x wx ⟨a6, k6, rfl, -, hb⟩
                have E' := Lib.hid (Ext.trans E.out hb)
                have HT' := Lib.hid (HT.out.below hb)
                have HS3' := Lib.hid (HS3.out.below hb)
                have HE1' := Lib.hid (HE1.out.below hb)
                have HE2' := Lib.hid (HE2.out.below hb)
                clear E hb HT HS3 HE1 HE2
                have E := E'
                clear E'
                have HT := HT'
                clear HT'
                have HS3 := HS3'
                clear HS3'
                have HE1 := HE1'
                clear HE1'
                have HE2 := HE2'
                clear HE2'
                rw [HEP.out]
                have de : (s.now.epoch != s.now.epoch) = false := by simp
                go_wp2_with fail
                refine (stSealed_any _ HT.out).mono ?_
                rintro x wx ⟨rfl, hb⟩
                have E' := Lib.hid (Ext.trans E.out hb)
                have HT' := Lib.hid (HT.out.below hb)
                have HS3' := Lib.hid (HS3.out.below hb)
                have HE1' := Lib.hid (HE1.out.below hb)
                have HE2' := Lib.hid (HE2.out.below hb)
                clear E hb HT HS3 HE1 HE2
                have E := E'
                clear E'
                have HT := HT'
                clear HT'
                have HS3 := HS3'
                clear HS3'
                have HE1 := HE1'
                clear HE1'
                have HE2 := HE2'
                clear HE2'
                rw [HSL.out]
                go_wp2_with fail
                go_roundw
                case rel => exact ⟨k + 1, M3, d3, rs3, t, by omega, by omega, by omega, by go_num, HS3, HP3, HA3, E⟩
                case measure => simp [intOf]; omega
              · have HSL : Hid (t.sealed = true) := by show _ = _; rw [hts0]; exact hse
                clear hts0
                have HTS : Hid (t.now.ents = s.now.ents) := hts
                clear hts
                obtain rfl : l3 = l := by rw [← HLL3.out, ← HLL.out, HTS.out]
                have HTK : Hid (EnsAt wx a2 k2 s.now.ents) := by show EnsAt _ _ _ _; rw [← HTS.out]; exact HE2.out
                have hcap : l3 ≤ k2 := by have := HTK.out.le; rw [HLL.out] at this; exact this
                have hsl := slice_toE a2 l3 k2 l3 hcap
                have hsl' := slice_toE' a2 l3 k2 l3 hcap
                have dd3 : decide ((l3 : Int) < (l3 : Int)) = false := decide_eq_false (by omega)
                have d4 : decide ((l3 : Int) > (l3 : Int) + 1) = false := decide_eq_false (by omega)
                have d5 : ((l3 : Int) != (l3 : Int)) = false := by simp
                have d6 : decide ((l3 : Int) > (l3 : Int)) = false := decide_eq_false (by omega)
                go_wp2_with fail
                refine (sameAll_any _ _ _ _ l3 s.now.ents _ HLL.out (by omega) (HTK.out) HE1.out HOK.out.small).mono ?_
                rintro x wx ⟨rfl, hb⟩
                have E' := Lib.hid (Ext.trans E.out hb)
                have HT' := Lib.hid (HT.out.below hb)
                have HS3' := Lib.hid (HS3.out.below hb)
                have HE1' := Lib.hid (HE1.out.below hb)
                have HE2' := Lib.hid (HE2.out.below hb)
                clear E hb HT HS3 HE1 HE2
                have E := E'
                clear E'
                have HT := HT'
                clear HT'
                have HS3 := HS3'
                clear HS3'
                have HE1 := HE1'
                clear HE1'
                have HE2 := HE2'
                clear HE2'
                go_wp2_with fail
                refine (stSealed_any _ HT.out).mono ?_
                rintro x wx ⟨rfl, hb⟩
                have E' := Lib.hid (Ext.trans E.out hb)
                have HT' := Lib.hid (HT.out.below hb)
                have HS3' := Lib.hid (HS3.out.below hb)
                have HE1' := Lib.hid (HE1.out.below hb)
                have HE2' := Lib.hid (HE2.out.below hb)
                clear E hb HT HS3 HE1 HE2
                have E := E'
                clear E'
                have HT := HT'
                clear HT'
                have HS3 := HS3'
                clear HS3'
                have HE1 := HE1'
                clear HE1'
                have HE2 := HE2'
                clear HE2'
                rw [HSL.out]
                have dz : (z != 0) = true := by simp; exact hz
                clear hz
                go_wp2_with fail
                refine (stConf_any _ HT.out (by have := HML3.out; omega)).mono ?_
                rintro x wx ⟨a6, k6, rfl, -, hb⟩
                have E' := Lib.hid (Ext.trans E.out hb)
                have HT' := Lib.hid (HT.out.below hb)
                have HS3' := Lib.hid (HS3.out.below hb)
                have HE1' := Lib.hid (HE1.out.below hb)
                have HE2' := Lib.hid (HE2.out.below hb)
                clear E hb HT HS3 HE1 HE2
                have E := E'
                clear E'
                have HT := HT'
                clear HT'
                have HS3 := HS3'
                clear HS3'
                have HE1 := HE1'
                clear HE1'
                have HE2 := HE2'
                clear HE2'
                rw [HEP.out]
                have de : (s.now.epoch != s.now.epoch) = false := by simp
                go_wp2_with fail
                refine (stSealed_any _ HT.out).mono ?_
                rintro x wx ⟨rfl, hb⟩
                have E' := Lib.hid (Ext.trans E.out hb)
                have HT' := Lib.hid (HT.out.below hb)
                have HS3' := Lib.hid (HS3.out.below hb)
                have HE1' := Lib.hid (HE1.out.below hb)
                have HE2' := Lib.hid (HE2.out.below hb)
                clear E hb HT HS3 HE1 HE2
                have E := E'
                clear E'
                have HT := HT'
                clear HT'
                have HS3 := HS3'
                clear HS3'
                have HE1 := HE1'
                clear HE1'
                have HE2 := HE2'
                clear HE2'
                rw [HSL.out]
                go_wp2_with fail
                go_roundw
                case rel => exact ⟨k + 1, M3, d3, rs3, t, by omega, by omega, by omega, by go_num, HS3, HP3, HA3, E⟩
                case measure => simp [intOf]; omega
    · have t : decide ((k : Int) < (len0 : Int)) = false ∧ decide (k < len0) = false ∨ decide ((k : Int) < (len0 : Int)) = true ∧ decide (k < len0) = true ∧ decide ((k : Int) < 40) = false := by simp; omega
      clear hlt
      rcases t with ⟨t1, t2⟩ | ⟨t1, t2, t3⟩
      · go_wp2_with fail
        refine (awake14 _).mono ?_
        rintro x wf ⟨rfl, hb⟩
        have EF := Lib.hid (Ext.trans HB.out hb)
        clear hb
        go_wp2
        go_ret
        exact ⟨rfl, EF.out⟩
      · go_wp2_with fail
        refine (awake14 _).mono ?_
        rintro x wf ⟨rfl, hb⟩
        have EF := Lib.hid (Ext.trans HB.out hb)
        clear hb
        go_wp2
        go_ret
        exact ⟨rfl, EF.out⟩

end Go.Proofs.Ytdgpbdedaafdiaa
