/-
  What the program reads: readList of entries, readRecord.
-/
import Derived.Test.YtdgpbdedaafdiaaWalksY8
namespace Go.Proofs.Ytdgpbdedaafdiaa
open Go.RowKit

set_option maxRecDepth 100000 in
set_option maxHeartbeats 1000000 in
theorem readEnts_own {H : Nat} (R : Nat) (m : Int) (s : Pk.St) (w : World) (h : RdrH H w R s) (hB : Gf.Bytes s.1) (hl : s.1.length ≤ 100000000) (hm0 : 0 ≤ m) (hm : m ≤ 1000000) :
    Calls Try.prog 66 #[.pointer (some ⟨R, 0, none⟩), .int .i64 m, .func (.func 67) #[] #[]] w (RLeO H w R (rdS rdE (Pk.vC s m).toNat (Pk.nC s m)).1 (rdS rdE (Pk.vC s m).toNat (Pk.nC s m)).2) := by
  have hc := vC_range s m hm0
  have hk := nC_keep s m hB
  have hRl := h.lt
  have hHl := h.home
  have HH := Lib.hid h
  clear h hB
  go_enter Try.func66, Try.ntmps66
  go_wp2_with fail
  refine (rCountH R m s _ HH.out).mono ?_
  rintro e w1 ⟨rfl, hr1, hb1⟩
  generalize Pk.vC s m = z at *
  generalize Pk.nC s m = s1 at *
  obtain ⟨n, rfl⟩ : ∃ n : Nat, z = (n : Int) := ⟨z.toNat, by omega⟩
  rw [Int.toNat_natCast]
  have HR1 := Lib.hid hr1
  have HB1 := Lib.hid hb1
  have HKB := Lib.hid hk.1
  have hkl := hk.2
  clear hr1 hb1 hk
  go_wp2
  go_loopw [7, 11] (fun v i ws => ∃ (k c : Nat) (a : Option Addr) (xs : List El), k ≤ n ∧ i = .int .i64 k ∧ v = .slice a k c ∧ Hid (xs.map (·.p) = (rdS rdE k s1).1) ∧ Hid (Els ws w.heap.size (.slice a k c) xs) ∧ Hid (RdrH H ws R (rdS rdE k s1).2) ∧ Hid (Chg [R] w ws)) (fun _ i _ => n - (intOf i).toNat)
  case atStart => exact ⟨0, 0, none, [], Nat.zero_le _, rfl, rfl, rfl, els_nil _ _, HR1, HB1⟩
  case round =>
    obtain ⟨k, c, a, xs, hk, rfl, rfl, HM, HO, HR, HC⟩ := hrel
    by_cases hlt : k < n
    · have HL : Hid (xs.length = k) := HO.out.at_.1
      have HN1 : Hid ((rdS rdE (k + 1) s1).1 = (rdS rdE k s1).1 ++ [(rdE (rdS rdE k s1).2).1]) := by show _ = _; rw [rdS_succ]
      have HN2 : Hid ((rdS rdE (k + 1) s1).2 = (rdE (rdS rdE k s1).2).2) := by show _ = _; rw [rdS_succ]
      have hkk := rdS_keep rdE_can s1 HKB.out k
      generalize (rdS rdE k s1).1 = es at *
      generalize (rdS rdE k s1).2 = sk at *
      have HWF := Lib.hid (rdE_wf sk hkk.1).1
      go_wp2_with fail
      refine (readEntry_any R sk _ HR.out (by omega)).mono ?_
      rintro e w2 ⟨loc, cp, rfl, hs2, hf2, hr2, hb2⟩
      generalize (rdE sk).1 = p at *
      generalize (rdE sk).2 = sk1 at *
      have hoR : ∀ g, Value.ownBlock (.slice a k c) = some g → R ≠ g ∧ H ≠ g ∧ w.heap.size ≤ g ∧ g < wr.heap.size := fun g hg => by
        have := World.ownsRow.lt HO.out.own g hg
        omega
      have hb3 := below_one w2 (.cells #[.int .i64 p.seq, .int .i64 p.client, .int .i64 p.num, .int .i64 p.op, .string (strB p.key), .int .i64 p.size, .int .u32 (p.sum : Int), .slice loc p.frag.length cp] 32)
      have HO2 := Lib.hid ((HO.out.chg hb2 (by simpa using hRl)).chg (gs := []) (Chg.of_below hb3) (by simp))
      have HR2 := Lib.hid (hr2.below hb3)
      have HC2 := Lib.hid ((HC.out.trans hb2).wide (Chg.of_below (gs := []) hb3) (by simp))
      have HS2 := Lib.hid (hs2.below hb3)
      have HF2 : Hid (∀ b o, loc = some ⟨b, o, none⟩ → w.heap.size ≤ b ∧ b < (w2.alloc (.cells #[.int .i64 p.seq, .int .i64 p.client, .int .i64 p.num, .int .i64 p.op, .string (strB p.key), .int .i64 p.size, .int .u32 (p.sum : Int), .slice loc p.frag.length cp] 32)).heap.size ∧ ∀ g, Value.ownBlock (.slice a k c) = some g → b ≠ g) := fun b o e => by
        have h0 := HC.out.size
        have h1 := hb3.size
        rcases hf2 with e' | ⟨b', o', e', h2, h3⟩
        · rw [e'] at e; cases e
        · rw [e'] at e
          cases e
          exact ⟨by omega, by omega, fun g hg => by have := (hoR g hg).2.2.2; omega⟩
      have HX : Hid (∀ j u, (ecells ⟨p, loc, cp⟩)[j]? = some u → (w2.alloc (.cells #[.int .i64 p.seq, .int .i64 p.client, .int .i64 p.num, .int .i64 p.op, .string (strB p.key), .int .i64 p.size, .int .u32 (p.sum : Int), .slice loc p.frag.length cp] 32)).cell? ⟨w2.heap.size, j, none⟩ = some u) := fun j u hj => by
        rw [World.cell?_alloc_mark, ← Array.getElem?_toList]
        exact hj
      have HOR := Lib.hid hoR
      have hz2 := HC2.out.size
      clear hs2 hf2 hr2 hb2 hoR hb3
      go_wp2_with (at_builtin; refine wpList_appE rfl (.tmp 13) (.tmp 17) rfl w.heap.size _ xs k HL.out rfl HO2.out ⟨p, loc, cp⟩ _ 1 rfl HX.out (by omega) hz2 HS2.out HF2.out HWF.out ?_; intro g3 c3 w3 ho3 hg3)
      have HO3 := Lib.hid ho3
      have HM3 : Hid ((xs ++ [(⟨p, loc, cp⟩ : El)]).map (·.p) = (rdS rdE (k + 1) s1).1) := by
        show _ = _
        rw [HN1.out, List.map_append, HM.out]
        rfl
      have HR3 : Hid (RdrH H w3 R (rdS rdE (k + 1) s1).2) := by
        show RdrH _ _ _ _
        rw [HN2.out]
        exact HR2.out.grown hg3 (fun g hg => by have := HOR.out g hg; omega)
      have HC3 := Lib.hid (chg_grown HC2.out hg3 (fun g hg => (HOR.out g hg).2.2.1))
      clear ho3 hg3
      go_roundw
      case rel => exact ⟨k + 1, c3, some ⟨g3, 0, none⟩, _, by omega, by go_num, rfl, HM3, HO3, HR3, HC3⟩
      case measure => simp [intOf]; omega
    · obtain rfl : k = n := by omega
      have HF : Hid (RLeO H w R (rdS rdE k s1).1 (rdS rdE k s1).2 (.returned (.slice a k c)) wr) := by
        refine ⟨a, c, by rw [rdS_len], ⟨xs, HM.out, ?_, fun x hx b o e => (HO.out.off x hx b o e).2.1, ?_⟩, HR.out, HC.out⟩
        · rw [HO.out.at_.1]; exact HO.out
        · rw [HO.out.at_.1]; exact fun g e => (World.ownsRow.lt HO.out.own g e).2
      go_wp2
      go_ret
      exact HF.out

theorem readEnts_any {H : Nat} (R : Nat) (m : Int) (s : Pk.St) (w : World) (h : RdrH H w R s) (hB : Gf.Bytes s.1) (hl : s.1.length ≤ 100000000) (hm0 : 0 ≤ m) (hm : m ≤ 1000000) :
    Calls Try.prog 66 #[.pointer (some ⟨R, 0, none⟩), .int .i64 m, .func (.func 67) #[] #[]] w (RLe H w R (rdS rdE (Pk.vC s m).toNat (Pk.nC s m)).1 (rdS rdE (Pk.vC s m).toNat (Pk.nC s m)).2) :=
  (readEnts_own R m s w h hB hl hm0 hm).mono fun _ _ h => h.weak

/-- The blocks of gs alone have turned since. -/
theorem RdI.fin6 {H : Nat} {w0 w : World} {R : Nat} {s : Pk.St} {t : TypeId} {y0 y1 y2 y3 y4 y5 : Value} {C : Array Value} (h : RdI H w0 w R s t #[y0, y1, y2, y3, y4, y5] C) (v0 v1 v2 v3 v4 v5 : Value)
    (n0 : notU8 v0 = true) (n1 : notU8 v1 = true) (n2 : notU8 v2 = true) (n3 : notU8 v3 = true) (n4 : notU8 v4 = true) (n5 : notU8 v5 = true) :
    RdI H w0 ((((((w.setCell ⟨w0.heap.size, 0, none⟩ v0).setCell ⟨w0.heap.size, 1, none⟩ v1).setCell ⟨w0.heap.size, 2, none⟩ v2).setCell ⟨w0.heap.size, 3, none⟩ v3).setCell ⟨w0.heap.size, 4, none⟩ v4).setCell ⟨w0.heap.size, 5, none⟩ v5) R s t #[v0, v1, v2, v3, v4, v5] C ∧ Chg [w0.heap.size] w ((((((w.setCell ⟨w0.heap.size, 0, none⟩ v0).setCell ⟨w0.heap.size, 1, none⟩ v1).setCell ⟨w0.heap.size, 2, none⟩ v2).setCell ⟨w0.heap.size, 3, none⟩ v3).setCell ⟨w0.heap.size, 4, none⟩ v4).setCell ⟨w0.heap.size, 5, none⟩ v5) := by
  have hs := SeenAt.nil (w := w) (a := none) (cap := 0) (Nat.zero_le _)
  obtain ⟨h0, s0⟩ := h.zset 0 v0 #[v0, y1, y2, y3, y4, y5] (by simp) n0 hs
  obtain ⟨h1, s1⟩ := h0.zset 1 v1 #[v0, v1, y2, y3, y4, y5] (by simp) n1 s0
  obtain ⟨h2, s2⟩ := h1.zset 2 v2 #[v0, v1, v2, y3, y4, y5] (by simp) n2 s1
  obtain ⟨h3, s3⟩ := h2.zset 3 v3 #[v0, v1, v2, v3, y4, y5] (by simp) n3 s2
  obtain ⟨h4, s4⟩ := h3.zset 4 v4 #[v0, v1, v2, v3, v4, y5] (by simp) n4 s3
  obtain ⟨h5, s5⟩ := h4.zset 5 v5 #[v0, v1, v2, v3, v4, v5] (by simp) n5 s4
  exact ⟨h5, (((((chg_set w _ 0 v0).trans (chg_set _ _ 1 v1)).trans (chg_set _ _ 2 v2)).trans (chg_set _ _ 3 v3)).trans (chg_set _ _ 4 v4)).trans (chg_set _ _ 5 v5)⟩

/-- A record whose members and entries lie in blocks from lo up to hi, the entries as a row of the call's own. -/
structure RecO (w : World) (lo hi : Nat) (ma : Option Addr) (mc : Nat) (ea : Option Addr) (ec : Nat) (r : Pr) : Prop where
  parts : ∃ mid, lo ≤ mid ∧ mid ≤ hi ∧ (∀ gs w2, Chg gs w w2 → (∀ g ∈ gs, g < lo ∨ mid ≤ g) → IntsAt w2 ma mc r.mem) ∧ RowE w mid hi ea ec r.ents
  wf : r.Wf

theorem RecO.at_ {w : World} {lo hi : Nat} {ma : Option Addr} {mc : Nat} {ea : Option Addr} {ec : Nat} {r : Pr} (h : RecO w lo hi ma mc ea ec r) : RecAt w ma mc ea ec r := by
  obtain ⟨⟨mid, _, _, h1, h2⟩, hw⟩ := h
  exact ⟨h1 [] w (Chg.refl _ _) (by simp), h2.ens, hw⟩

theorem RecO.chg {w w' : World} {lo hi : Nat} {ma : Option Addr} {mc : Nat} {ea : Option Addr} {ec : Nat} {r : Pr} {gs : List Nat} (h : RecO w lo hi ma mc ea ec r) (hb : Chg gs w w') (hg : ∀ g ∈ gs, g < lo ∨ hi ≤ g) : RecO w' lo hi ma mc ea ec r := by
  obtain ⟨⟨mid, h1, h2, h3, h4⟩, hw⟩ := h
  refine ⟨⟨mid, h1, h2, fun hs w2 hc hh => h3 (gs ++ hs) w2 ((hb.mono fun g hm => List.mem_append_left _ hm).trans (hc.mono fun g hm => List.mem_append_right _ hm)) fun g hm => ?_, h4.chg hb fun g hm => ?_⟩, hw⟩
  · rcases List.mem_append.mp hm with hm | hm
    · have := hg g hm; omega
    · exact hh g hm
  · have := hg g hm; omega

theorem RecO.wide {w : World} {lo hi lo' hi' : Nat} {ma : Option Addr} {mc : Nat} {ea : Option Addr} {ec : Nat} {r : Pr} (h : RecO w lo hi ma mc ea ec r) (hl : lo' ≤ lo) (hh : hi ≤ hi') : RecO w lo' hi' ma mc ea ec r := by
  obtain ⟨⟨mid, h1, h2, h3, h4⟩, hw⟩ := h
  exact ⟨⟨mid, Nat.le_trans hl h1, Nat.le_trans h2 hh, fun gs w2 hb hg => h3 gs w2 hb fun g hm => by have := hg g hm; omega, h4.wide hh⟩, hw⟩

/-- A record read by the Reader at R, in new memory. -/
def RRec (H : Nat) (w : World) (R : Nat) (r : Pr) (s : Pk.St) (e : Ending) (w' : World) : Prop :=
  ∃ ma mc ea ec, e = .returned (.agg #[.int .i64 r.kind, .int .i64 r.epoch, .slice ma r.mem.length mc, .int .i64 r.pos, .int .i64 r.last, .slice ea r.ents.length ec]) ∧
    RecO w' w.heap.size w'.heap.size ma mc ea ec r ∧ RdrH H w' R s ∧ Chg [R] w w'

set_option maxRecDepth 100000 in
set_option maxHeartbeats 1000000 in
theorem readRecord_any {H : Nat} (R : Nat) (s : Pk.St) (w : World) (h : RdrH H w R s) (hB : Gf.Bytes s.1) (hl : s.1.length ≤ 100000000) :
    Calls Try.prog 53 #[.pointer (some ⟨R, 0, none⟩)] w (RRec H w R (rdR s).1 (rdR s).2) := by
  have HI0 := Lib.hid (rdI_new w R s 38 #[.int .i64 0, .int .i64 0, .slice none 0 0, .int .i64 0, .int .i64 0, .slice none 0 0] h rfl)
  have HE : Hid (rdR s = (⟨Pk.vN s, Pk.vN (Pk.nN s), (rdM (Pk.nN (Pk.nN (Pk.nN (Pk.nN s))))).1, Pk.vN (Pk.nN (Pk.nN s)), Pk.vN (Pk.nN (Pk.nN (Pk.nN s))), (rdEs (rdM (Pk.nN (Pk.nN (Pk.nN (Pk.nN s))))).2).1⟩, (rdEs (rdM (Pk.nN (Pk.nN (Pk.nN (Pk.nN s))))).2).2)) := rfl
  have HWF := Lib.hid (rdR_wf s hB).1
  clear h
  generalize rdR s = ans at *
  go_enter Try.func53, Try.ntmps53
  go_wp2_with fail
  generalize (w.alloc (.cells #[.int .i64 0, .int .i64 0, .slice none 0 0, .int .i64 0, .int .i64 0, .slice none 0 0] 38)).alloc (.cells #[.int .i64 0, .int .i64 0, .slice none 0 0, .int .i64 0, .int .i64 0, .slice none 0 0] 38) = w0 at *
  refine (rNumH R s _ HI0.out.rdr).mono ?_
  rintro e w1 ⟨rfl, hr1, hb1⟩
  have HJ := Lib.hid (HI0.out.read hr1 hb1)
  have k0 := HJ.out.cell 0 (.int .i64 0) rfl
  have f0 := HJ.out.free 0
  obtain ⟨B1, L1⟩ := nN_keep s hB
  clear hr1 hb1 HI0
  generalize Pk.vN s = z1 at *
  generalize Pk.nN s = s1 at *
  go_wp2_with fail
  have HI1 : Hid (RdI H w (w1.setCell ⟨w.heap.size + 1, 0, none⟩ (.int .i64 z1)) R s1 38 #[.int .i64 0, .int .i64 0, .slice none 0 0, .int .i64 0, .int .i64 0, .slice none 0 0] #[.int .i64 z1, .int .i64 0, .slice none 0 0, .int .i64 0, .int .i64 0, .slice none 0 0]) := HJ.out.store 0 (.int .i64 z1) rfl
  generalize w1.setCell ⟨w.heap.size + 1, 0, none⟩ (.int .i64 z1) = x1 at *
  clear k0 f0 HJ
  refine (rNumH R s1 _ HI1.out.rdr).mono ?_
  rintro e w1 ⟨rfl, hr1, hb1⟩
  have HJ := Lib.hid (HI1.out.read hr1 hb1)
  have k0 := HJ.out.cell 1 (.int .i64 0) rfl
  have f0 := HJ.out.free 1
  obtain ⟨B2, L2⟩ := nN_keep s1 B1
  clear hr1 hb1 HI1
  generalize Pk.vN s1 = z2 at *
  generalize Pk.nN s1 = s2 at *
  go_wp2_with fail
  have HI2 : Hid (RdI H w (w1.setCell ⟨w.heap.size + 1, 1, none⟩ (.int .i64 z2)) R s2 38 #[.int .i64 0, .int .i64 0, .slice none 0 0, .int .i64 0, .int .i64 0, .slice none 0 0] #[.int .i64 z1, .int .i64 z2, .slice none 0 0, .int .i64 0, .int .i64 0, .slice none 0 0]) := HJ.out.store 1 (.int .i64 z2) rfl
  generalize w1.setCell ⟨w.heap.size + 1, 1, none⟩ (.int .i64 z2) = x2 at *
  clear k0 f0 HJ
  refine (rNumH R s2 _ HI2.out.rdr).mono ?_
  rintro e w1 ⟨rfl, hr1, hb1⟩
  have HJ := Lib.hid (HI2.out.read hr1 hb1)
  have k0 := HJ.out.cell 3 (.int .i64 0) rfl
  have f0 := HJ.out.free 3
  obtain ⟨B3, L3⟩ := nN_keep s2 B2
  clear hr1 hb1 HI2
  generalize Pk.vN s2 = z3 at *
  generalize Pk.nN s2 = s3 at *
  go_wp2_with fail
  have HI3 : Hid (RdI H w (w1.setCell ⟨w.heap.size + 1, 3, none⟩ (.int .i64 z3)) R s3 38 #[.int .i64 0, .int .i64 0, .slice none 0 0, .int .i64 0, .int .i64 0, .slice none 0 0] #[.int .i64 z1, .int .i64 z2, .slice none 0 0, .int .i64 z3, .int .i64 0, .slice none 0 0]) := HJ.out.store 3 (.int .i64 z3) rfl
  generalize w1.setCell ⟨w.heap.size + 1, 3, none⟩ (.int .i64 z3) = x3 at *
  clear k0 f0 HJ
  refine (rNumH R s3 _ HI3.out.rdr).mono ?_
  rintro e w1 ⟨rfl, hr1, hb1⟩
  have HJ := Lib.hid (HI3.out.read hr1 hb1)
  have k0 := HJ.out.cell 4 (.int .i64 0) rfl
  have f0 := HJ.out.free 4
  obtain ⟨B4, L4⟩ := nN_keep s3 B3
  clear hr1 hb1 HI3
  generalize Pk.vN s3 = z4 at *
  generalize Pk.nN s3 = s4 at *
  go_wp2_with fail
  have HI4 : Hid (RdI H w (w1.setCell ⟨w.heap.size + 1, 4, none⟩ (.int .i64 z4)) R s4 38 #[.int .i64 0, .int .i64 0, .slice none 0 0, .int .i64 0, .int .i64 0, .slice none 0 0] #[.int .i64 z1, .int .i64 z2, .slice none 0 0, .int .i64 z3, .int .i64 z4, .slice none 0 0]) := HJ.out.store 4 (.int .i64 z4) rfl
  generalize w1.setCell ⟨w.heap.size + 1, 4, none⟩ (.int .i64 z4) = x4 at *
  clear k0 f0 HJ
  have HM : Hid (rdM s4 = rdS rdN (Pk.vC s4 16).toNat (Pk.nC s4 16)) := rfl
  refine (readInts_any R 16 s4 _ HI4.out.rdr (by omega) (by omega)).mono ?_
  rw [← HM.out]
  rintro e w5 ⟨a5, c5, rfl, hk5, hr1, hb1⟩
  have HJ := Lib.hid (HI4.out.read hr1 hb1)
  have HK5 := Lib.hid hk5
  have HS45 : Hid (x4.heap.size ≤ w5.heap.size) := hb1.size
  have k0 := HJ.out.cell 2 (.slice none 0 0) rfl
  have f0 := HJ.out.free 2
  have hz4 := HI4.out.z.lt
  have hc4 := HI4.out.c.lt
  have hr4 := HI4.out.rdr.lt
  obtain ⟨B5, L5⟩ := rdM_keep s4 B4
  clear hr1 hb1 HI4 hk5 HM
  generalize (rdM s4).1 = M at *
  generalize (rdM s4).2 = s5 at *
  go_wp2_with fail
  have HI5 : Hid (RdI H w (w5.setCell ⟨w.heap.size + 1, 2, none⟩ (.slice a5 M.length c5)) R s5 38 #[.int .i64 0, .int .i64 0, .slice none 0 0, .int .i64 0, .int .i64 0, .slice none 0 0] #[.int .i64 z1, .int .i64 z2, .slice a5 M.length c5, .int .i64 z3, .int .i64 z4, .slice none 0 0]) := HJ.out.store 2 (.slice a5 M.length c5) rfl
  have HC5 : Hid (Chg [R, w.heap.size, w.heap.size + 1] w5 (w5.setCell ⟨w.heap.size + 1, 2, none⟩ (.slice a5 M.length c5))) := (chg_set w5 (w.heap.size + 1) 2 _).mono (by simp)
  have HZ5 : Hid (w5.heap.size = (w5.setCell ⟨w.heap.size + 1, 2, none⟩ (.slice a5 M.length c5)).heap.size) := by show _ = _; simp
  generalize w5.setCell ⟨w.heap.size + 1, 2, none⟩ (.slice a5 M.length c5) = x5 at *
  clear k0 f0 HJ
  have HM : Hid (rdEs s5 = rdS rdE (Pk.vC s5 4096).toNat (Pk.nC s5 4096)) := rfl
  refine (readEnts_own R 4096 s5 _ HI5.out.rdr B5 (by omega) (by omega) (by omega)).mono ?_
  rw [← HM.out]
  rintro e w6 ⟨a6, c6, rfl, hk6, hr1, hb1⟩
  have HJ := Lib.hid (HI5.out.read hr1 hb1)
  have HK6 := Lib.hid hk6
  have HS56 : Hid (x5.heap.size ≤ w6.heap.size) := hb1.size
  have HC6 := Lib.hid (HC5.out.trans (hb1.mono (hs := [R, w.heap.size, w.heap.size + 1]) (by simp)))
  have f0 := HJ.out.free 5
  have hz5 := HI5.out.z.lt
  have hc5 := HI5.out.c.lt
  have k0 := HJ.out.cell 0 (.int .i64 z1) rfl
  have k1 := HJ.out.cell 1 (.int .i64 z2) rfl
  have k2 := HJ.out.cell 2 (.slice a5 M.length c5) rfl
  have k3 := HJ.out.cell 3 (.int .i64 z3) rfl
  have k4 := HJ.out.cell 4 (.int .i64 z4) rfl
  have k5 := HJ.out.cell 5 (.slice none 0 0) rfl
  have y0 := HJ.out.z.cell 0 (.int .i64 0) rfl
  have y1 := HJ.out.z.cell 1 (.int .i64 0) rfl
  have y2 := HJ.out.z.cell 2 (.slice none 0 0) rfl
  have y3 := HJ.out.z.cell 3 (.int .i64 0) rfl
  have y4 := HJ.out.z.cell 4 (.int .i64 0) rfl
  have y5 := HJ.out.z.cell 5 (.slice none 0 0) rfl
  have g0 := HJ.out.z.free 0
  have g1 := HJ.out.z.free 1
  have g2 := HJ.out.z.free 2
  have g3 := HJ.out.z.free 3
  have g4 := HJ.out.z.free 4
  have g5 := HJ.out.z.free 5
  clear hr1 hb1 HI5 hk6 HM HC5
  generalize (rdEs s5).1 = E at *
  generalize (rdEs s5).2 = s6 at *
  have HF := Lib.hid ((HJ.out.store 5 (.slice a6 E.length c6) rfl).fin6 (.int .i64 z1) (.int .i64 z2) (.slice a5 M.length c5) (.int .i64 z3) (.int .i64 z4) (.slice a6 E.length c6) rfl rfl rfl rfl rfl rfl)
  have HCZ : Hid (Chg [w.heap.size, w.heap.size + 1] w6 (((((((w6.setCell ⟨w.heap.size + 1, 5, none⟩ (.slice a6 E.length c6)).setCell ⟨w.heap.size, 0, none⟩ (.int .i64 z1)).setCell ⟨w.heap.size, 1, none⟩ (.int .i64 z2)).setCell ⟨w.heap.size, 2, none⟩ (.slice a5 M.length c5)).setCell ⟨w.heap.size, 3, none⟩ (.int .i64 z3)).setCell ⟨w.heap.size, 4, none⟩ (.int .i64 z4)).setCell ⟨w.heap.size, 5, none⟩ (.slice a6 E.length c6))) := ((chg_set w6 (w.heap.size + 1) 5 _).mono (by simp)).trans (HF.out.2.mono (by simp))
  clear HJ
  go_wp2_with fail
  generalize (((((((w6.setCell ⟨w.heap.size + 1, 5, none⟩ (.slice a6 E.length c6)).setCell ⟨w.heap.size, 0, none⟩ (.int .i64 z1)).setCell ⟨w.heap.size, 1, none⟩ (.int .i64 z2)).setCell ⟨w.heap.size, 2, none⟩ (.slice a5 M.length c5)).setCell ⟨w.heap.size, 3, none⟩ (.int .i64 z3)).setCell ⟨w.heap.size, 4, none⟩ (.int .i64 z4)).setCell ⟨w.heap.size, 5, none⟩ (.slice a6 E.length c6)) = wf at *
  have q0 := HF.out.1.z.cell 0 (.int .i64 z1) rfl
  have q1 := HF.out.1.z.cell 1 (.int .i64 z2) rfl
  have q2 := HF.out.1.z.cell 2 (.slice a5 M.length c5) rfl
  have q3 := HF.out.1.z.cell 3 (.int .i64 z3) rfl
  have q4 := HF.out.1.z.cell 4 (.int .i64 z4) rfl
  have q5 := HF.out.1.z.cell 5 (.slice a6 E.length c6) rfl
  refine bodyPost_ret (v := .agg #[.int .i64 z1, .int .i64 z2, .slice a5 M.length c5, .int .i64 z3, .int .i64 z4, .slice a6 E.length c6]) (by simp [results, Try.results53, go_sem, q0, q1, q2, q3, q4, q5]) rfl ?_
  rw [HE.out] at HWF ⊢
  have h45 : x4.heap.size ≤ w5.heap.size := HS45.out
  refine ⟨a5, c5, a6, c6, rfl, ⟨⟨x5.heap.size, ?_, ?_, fun gs w2 hb hg => ?_, (HK6.out.chg HCZ.out (fun g hm => by simp at hm; omega)).wide HCZ.out.size⟩, HWF.out⟩, HF.out.1.rdr, HF.out.1.chg⟩
  · omega
  · exact Nat.le_trans HS56.out HCZ.out.size
  · have hc := ((HC6.out.trans (HCZ.out.mono (hs := [R, w.heap.size, w.heap.size + 1]) (by simp))).mono (hs := [R, w.heap.size, w.heap.size + 1] ++ gs) (fun g hm => List.mem_append_left _ hm)).trans (hb.mono (hs := [R, w.heap.size, w.heap.size + 1] ++ gs) (fun g hm => List.mem_append_right _ hm))
    refine HK5.out (([R, w.heap.size, w.heap.size + 1] ++ gs).filter (· < w5.heap.size)) w2 ⟨hc.os, hc.tape, hc.output, hc.size, fun k hk hn => hc.block k hk fun hm => hn ?_⟩ fun g hm => ?_
    · rw [List.mem_filter]
      exact ⟨hm, by simpa using hk⟩
    · rw [List.mem_filter] at hm
      obtain ⟨hm, hlt⟩ := hm
      have hlt : g < w5.heap.size := by simpa using hlt
      have hz5 := HZ5.out
      rcases List.mem_append.mp hm with hm | hm
      · simp at hm; omega
      · have := hg g hm; omega

end Go.Proofs.Ytdgpbdedaafdiaa
