/-
  book: Renew, for sound records.
-/
import Derived.Test.YtdgpbdedaafdiaaGreatAwake9
namespace Go.Proofs.YtdgpbdedaafdiaaGreat
open Go.RowKit




/-- Other encodings, which lie elsewhere, are laid into the book. -/
theorem Bk.swap {w : World} {base RB R n gc : Nat} {a ga ga' : Option Addr} {s : DS} {cs : List (List Nat)} {F : List Nat} (h : Bk w base RB R a ga s cs F) {xs : List Rw} (hr : Rws w base ga' gc xs) (hg : ∀ g ∈ blk ga', g ∉ RB :: R :: blk a) (hx : ∀ x ∈ xs, ∀ g ∈ blk x.loc, g ∉ RB :: R :: blk a) (hn : xs.length = n) :
    Bk (w.setCell ⟨RB, 1, none⟩ (.slice ga' n gc)) base RB R a ga' s (xs.map Rw.ps) (xs.flatMap fun x => blk x.loc) := by
  subst hn
  obtain ⟨cap, ys, h1, h2, h3, h4⟩ := h.rows
  have hc1 := chg_set1 w RB 1 (.slice ga' xs.length gc)
  have k1 : ∀ g ∈ blk ga', g ≠ RB ∧ g ≠ R ∧ g ∉ blk a := fun g hg' => by have := hg g hg'; simp only [List.mem_cons, not_or] at this; exact this
  have k2 : ∀ x ∈ xs, ∀ g ∈ blk x.loc, g ≠ RB ∧ g ≠ R ∧ g ∉ blk a := fun x hx' g hg' => by have := hx x hx' g hg'; simp only [List.mem_cons, not_or] at this; exact this
  refine ⟨h.dsk.chg hc1 (by simp; exact fun e => h.neR e.symm) (fun g hg' e => h.neA (by simp at e; exact e ▸ hg')), ?_, ⟨gc, xs, World.cell?_setCell_same _ _ _ h1, rfl, hr.chg hc1 (fun g hg' e => (k1 g hg').1 (by simpa using e)) (fun x hx' g hg' e => (k2 x hx' g hg').1 (by simpa using e)), fun x hx' g hg' => ⟨fun e => ?_, List.mem_flatMap.mpr ⟨x, hx', hg'⟩⟩⟩, fun k => by rw [World.frozen?_setCell]; exact h.free k, h.neR, h.neA, fun e => (k1 RB e).1 rfl, fun e => (k1 R e).2.1 rfl, fun g hg' e => (k1 g e).2.2 hg', h.base⟩
  · rw [World.cell?_setCell_other _ _ _ _ (by simp)]
    exact h.b0
  · unfold bkM at e
    simp only [List.mem_cons, List.mem_append] at e
    rcases e with e | e | e | e
    · exact (k2 x hx' g hg').1 e
    · exact (k2 x hx' g hg').2.1 e
    · exact (k2 x hx' g hg').2.2 e
    · exact (hr.far x hx' g hg').1 e

/-- What Renew's loop has made. -/
structure Rn (w ws : World) (ga : Option Addr) (gc : Nat) (ca : Option Addr) (cc : Nat) (xs : List Rw) (cs : List (List Nat)) : Prop where
  rows : Rws ws w.heap.size ga gc xs
  con : Con ws w.heap.size ca cc (frms cs)
  eq : xs.map Rw.ps = cs
  new : ∀ x ∈ xs, ∀ g ∈ blk x.loc, w.heap.size ≤ g ∧ g ∉ blk ca
  ne : ∀ g ∈ blk ca, g ∉ blk ga
  ext : Ext w ws

theorem Rn.below {w ws ws' : World} {ga ca : Option Addr} {gc cc : Nat} {xs : List Rw} {cs : List (List Nat)} (h : Rn w ws ga gc ca cc xs cs) (hb : Below ws.heap.size ws ws') : Rn w ws' ga gc ca cc xs cs :=
  ⟨h.rows.below hb, h.con.chg (gs := []) (Chg.of_below hb) (by simp), h.eq, h.new, h.ne, h.ext.trans hb⟩

/-- What Renew answers and leaves. -/
def RetRn (w : World) (base RB R : Nat) (a ga : Option Addr) (p : Int × DS) (cs cs' : List (List Nat)) (e : Ending) (w' : World) : Prop :=
  e = .returned (.int .i64 p.1) ∧ ∃ a' ga' F', Bk w' base RB R a' ga' p.2 (if p.1 = 0 then cs' else cs) F' ∧ Mv w w' (bkM RB R a ga) (bkM RB R a' ga')

set_option maxRecDepth 100000 in
set_option maxHeartbeats 2000000 in
theorem bkRenew_own (base RB R : Nat) (a ga : Option Addr) (s : DS) (cs : List (List Nat)) (F : List Nat) (la : Option Addr) (lc l : Nat) (zs : List Rl) (w : World) (hB : Bk w base RB R a ga s cs F) (hl : zs.length = l) (hz : RcA w la lc zs) (hg : ∀ z ∈ zs, GoodX z) (hm : l ≤ 100) :
    Calls Tryz.prog 62 #[.pointer (some ⟨RB, 0, none⟩), .slice la l lc] w (RetAp w base RB R a ga (wrt s (frms (zs.map encX)) true) cs (zs.map encX) F) := by
  have HB := Lib.hid hB
  have HL := Lib.hid hl
  have HX := Lib.hid hz
  have HG := Lib.hid hg
  have hbs : base ≤ w.heap.size := by have := hB.base; have := hB.lt; omega
  have HFT : Hid ((frms (zs.map encX)).length ≤ 234000) := by have := good_frms zs hg; rw [hl] at this; show _ ≤ _; omega
  clear hB hl hz hg
  go_enter Tryz.func62, Tryz.ntmps62
  go_wp2
  go_loopw [5, 6, 16] (fun u v i ws => ∃ (k gc cc z : Nat) (gb ca : Option Addr) (xs : List Rw), k ≤ l ∧ i = .int .i64 k ∧ u = .slice gb k gc ∧ v = .slice ca z cc ∧ Hid ((frms ((zs.take k).map encX)).length = z) ∧ Hid (xs.length = k) ∧ Hid (Rn w ws gb gc ca cc xs ((zs.take k).map encX))) (fun _ _ i _ => l - (intOf i).toNat)
  case atStart => exact ⟨0, 0, 0, 0, none, none, [], Nat.zero_le _, rfl, rfl, rfl, rfl, rfl, ⟨rws_nil _ _, Con.nil _ _, rfl, by intro x hx; simp at hx, by simp [blk], Ext.refl _⟩⟩
  case round =>
    obtain ⟨k, gc, cc, z, gb, ca, xs, hk, rfl, rfl, rfl, HZL, HXL, HR⟩ := hrel
    by_cases hlt : k < l
    · have j0 : (0 : Int) ≤ (k : Int) := by omega
      have j1 : (k : Int) < (l : Int) := by omega
      obtain ⟨b, off, rfl, hc, hok⟩ := (HX.out.below HR.out.ext).one k (by rw [HL.out]; exact hlt)
      have HGX := Lib.hid (HG.out _ (getD_mem zs k rl0 (by rw [HL.out]; exact hlt)))
      have HN1 := Lib.hid (map_snoc_take encX zs rl0 k (by rw [HL.out]; exact hlt))
      have HLT : Hid ((frms ((zs.take (k + 1)).map encX)).length ≤ 234000) := by
        have h1 := frms_len_take (zs.map encX) (k + 1)
        rw [← List.map_take] at h1
        exact Nat.le_trans h1 HFT.out
      generalize zs.getD k rl0 = x at *
      obtain ⟨r, ma, mc, ea, ec, lo, hi⟩ := x
      have HOK : Hid (RecAt wr ma mc ea ec r) := hok
      have HN2 : Hid ((zs.take (k + 1)).map encX = (zs.take k).map encX ++ [encR r]) := HN1.out
      have HYES : Hid (sndR r = true) := HGX.out.snd
      have HCL : Hid ((encR r).length ≤ 2332) := HGX.out.len
      dsimp only at hc
      obtain ⟨lm, hlm⟩ : ∃ q, r.mem.length = q := ⟨_, rfl⟩
      obtain ⟨le, hle⟩ : ∃ q, r.ents.length = q := ⟨_, rfl⟩
      rw [hlm, hle] at hc
      have HLM := Lib.hid hlm
      have HLE := Lib.hid hle
      have hbl := below_one wr (.cells #[.int .i64 r.kind, .int .i64 r.epoch, .slice ma lm mc, .int .i64 r.pos, .int .i64 r.last, .slice ea le ec] 35)
      have HR1 := Lib.hid (HR.out.below hbl)
      have HOK1 := Lib.hid (HOK.out.below hbl)
      have x0 := hc.c0
      have x1 := hc.c1
      have x2 := hc.c2
      have x3 := hc.c3
      have x4 := hc.c4
      have x5 := hc.c5
      clear hok hlm hle hc HN1 HR HOK hbl
      go_wp2_with fail
      refine (encode_yes _ _ _ _ _ _ r _ HOK1.out HLM.out HLE.out HYES.out).mono ?_
      rintro e w2 ⟨g1, c1, rfl, ho1, hb2⟩
      have HR2 := Lib.hid (HR1.out.below hb2)
      have HO2 := Lib.hid ho1
      have hnew : ∀ g ∈ blk ca, g ≠ g1 := fun g hg => by have h1 := (HR1.out.con.lt hg).2; have h2 := ho1.lt.1; omega
      have hnew' : ∀ g ∈ blk gb, g ≠ g1 := fun g hg => by have h1 := (HR1.out.rows.lt hg).2; have h2 := ho1.lt.1; omega
      have HNW := Lib.hid hnew
      have HNW' := Lib.hid hnew'
      have HG1 : Hid (w.heap.size ≤ g1) := by have h1 := HR1.out.ext.size; have h2 := ho1.lt.1; show _ ≤ _; omega
      have HS2 := Lib.hid ho1.seenAt
      clear x0 x1 x2 x3 x4 x5
      clear ho1 hb2 hnew hnew' HR1 HOK1
      generalize encR r = C at *
      obtain ⟨q, hq⟩ : ∃ q, C.length = q := ⟨_, rfl⟩
      rw [hq]
      have HQ := Lib.hid hq
      have hq2 : q ≤ 2332 := by rw [← hq]; exact HCL.out
      clear hq
      have hbl := below_one w2 (.cells #[.slice (some ⟨g1, 0, none⟩) q c1] 39)
      have HR3 := Lib.hid (HR2.out.below hbl)
      have HS3 := Lib.hid (HS2.out.below hbl)
      have HG3 : Hid (g1 < w2.heap.size) := HO2.out.lt.2
      clear hbl
      go_wp2_with (at_builtin; refine wpList_appRw rfl (.tmp 28) (.tmp 30) rfl w.heap.size gb gc xs k HXL.out rfl HR3.out.rows ⟨some ⟨g1, 0, none⟩, c1, C⟩ w2.heap.size 1 rfl (by rw [World.cell?_alloc_mark]; rw [Rw.val, HQ.out]; rfl) (by omega) HR3.out.ext.size HS3.out (fun g hg => by simp [blk] at hg; subst hg; exact ⟨fun e => HNW'.out g e rfl, by have := HG3.out; simp; omega⟩) ?_; intro g4 c4 w4 hr4 chg4 hg4; have HR4 := Lib.hid hr4; have HC4 := Lib.hid chg4; have HA4 := Lib.hid hg4; clear hr4 chg4 hg4)
      have HK4 := Lib.hid (HR3.out.con.chg HC4.out HR3.out.ne)
      have E4 : Hid (Ext w w4) := HC4.out.below HR3.out.ext HR3.out.ext.size (fun g hg => (HR3.out.rows.lt hg).1)
      have HNE4 : Hid (∀ g ∈ blk ca, g ≠ g4) := fun g hg e => by
        subst e
        rcases HA4.out with h1 | h1
        · exact HR3.out.ne g hg h1
        · have := (HR3.out.con.lt hg).2; omega
      have HNW4 : Hid (∀ x ∈ xs ++ [(⟨some ⟨g1, 0, none⟩, c1, C⟩ : Rw)], ∀ g ∈ blk x.loc, w.heap.size ≤ g ∧ g ∉ blk ca) := fun x hx g hg => by
        rcases List.mem_append.mp hx with hx | hx
        · exact HR3.out.new x hx g hg
        · rw [List.mem_singleton.mp hx] at hg
          simp [blk] at hg
          subst hg
          exact ⟨HG1.out, fun e => HNW.out g e rfl⟩
      have HEQ4 : Hid ((xs ++ [(⟨some ⟨g1, 0, none⟩, c1, C⟩ : Rw)]).map Rw.ps = (zs.take (k + 1)).map encX) := by
        show _ = _
        rw [List.map_append, HR3.out.eq, HN2.out]
        rfl
      have HSC : Hid (SeenAt w4 (some ⟨g1, 0, none⟩) c1 C) := HR4.out.seen ⟨some ⟨g1, 0, none⟩, c1, C⟩ (List.mem_append_right _ (List.mem_singleton.mpr rfl))
      clear HR3 HR2 HA4 HC4 HS3 HS2 HO2 HG3
      refine (bkFrame_any _ _ _ C _ HQ.out (by omega) HSC.out).mono ?_
      rintro e w5 ⟨g5, c5, rfl, ho5, hb5⟩
      have HR5 := Lib.hid (HR4.out.below hb5)
      have HK5 := Lib.hid (HK4.out.chg (gs := []) (Chg.of_below hb5) (by simp))
      have E5 := Lib.hid (E4.out.trans hb5)
      have HS5 := Lib.hid ho5.seenAt
      have HFL : Hid ((frm C).length = 8 + q) := by show _ = _; rw [frm_len, HQ.out]
      have hsum : z + (8 + q) ≤ 234000 := by
        have := HLT.out
        rw [HN2.out, frms_snoc, List.length_append, HZL.out, HFL.out] at this
        exact this
      rw [HFL.out]
      have HNF : Hid (frms ((zs.take (k + 1)).map encX) = frms ((zs.take k).map encX) ++ frm C) := by show _ = _; rw [HN2.out, frms_snoc]
      clear ho5 hb5 HR4 HK4 E4
      go_wp2_with (at_builtin; refine wpList_appC rfl (.tmp 32) (.tmp 34) rfl w.heap.size ca cc (frms ((zs.take k).map encX)) (frm C) (by rw [HZL.out]; rfl) HK5.out _ c5 (by rw [HFL.out]; rfl) HS5.out (by rw [HZL.out, HFL.out]; omega) E5.out.size ?_; intro ca6 cc6 w6 hk6 chg6 hw6; rw [show (frms ((zs.take k).map encX) ++ frm C).length = z + (8 + q) by rw [List.length_append, HZL.out, HFL.out]]; have HK6 := Lib.hid hk6; have HC6 := Lib.hid chg6; have HW6 := Lib.hid hw6; clear hk6 chg6 hw6)
      have HR6 : Hid (Rn w w6 (some ⟨g4, 0, none⟩) c4 ca6 cc6 (xs ++ [(⟨some ⟨g1, 0, none⟩, c1, C⟩ : Rw)]) ((zs.take (k + 1)).map encX)) := by
        refine ⟨HR5.out.chg HC6.out (fun g hg e => ?_) (fun x hx g hg => (HNW4.out x hx g hg).2), by rw [HNF.out]; exact HK6.out, HEQ4.out, fun x hx g hg => ⟨(HNW4.out x hx g hg).1, fun e => ?_⟩, fun g hg e => ?_, HC6.out.below E5.out E5.out.size (fun g hg => (HK5.out.lt hg).1)⟩
        · simp [blk] at hg
          exact HNE4.out g e hg
        · rcases HW6.out.old g e with h1 | h1
          · exact (HNW4.out x hx g hg).2 h1
          · have := (HR5.out.far x hx g hg).2; omega
        · simp [blk] at e
          rcases HW6.out.old g hg with h1 | h1
          · exact HNE4.out g h1 e
          · have := (HR5.out.lt (g := g4) (by simp [blk])).2; omega
      have HXL6 : Hid ((xs ++ [(⟨some ⟨g1, 0, none⟩, c1, C⟩ : Rw)]).length = k + 1) := by show _ = _; rw [List.length_append, HXL.out]; rfl
      have HZ6 : Hid ((frms ((zs.take (k + 1)).map encX)).length = z + (8 + q)) := by show _ = _; rw [HNF.out, List.length_append, HZL.out, HFL.out]
      clear HR5 HK5 HK6 HC6 HW6 E5 HNE4 HNW4 HEQ4
      go_roundw
      case rel => exact ⟨k + 1, c4, cc6, z + (8 + q), some ⟨g4, 0, none⟩, ca6, _, by omega, by go_num, rfl, rfl, HZ6, HXL6, HR6⟩
      case measure => simp [intOf]; omega
    · obtain rfl : k = l := by omega
      have HT : Hid (zs.take k = zs) := List.take_of_length_le (by rw [HL.out]; exact Nat.le_refl _)
      rw [HT.out] at HR HZL
      have HB1 := Lib.hid (HB.out.below HR.out.ext)
      have hc0 := HB1.out.b0
      have HNE : Hid (frms (zs.map encX) ≠ [] → ∀ g ∈ blk ca, g ≠ R) := fun _ g hg e => by have h1 := (HR.out.con.lt hg).1; have h2 := HB.out.dsk.lt; omega
      go_wp2_with fail
      refine (disk_replace base R a s ca cc z (frms (zs.map encX)) _ HB1.out.dsk HZL.out HR.out.con.seenAt HNE.out).mono ?_
      rintro e w7 ⟨rfl, a7, hd7, hg7, hw7⟩
      have HB7 := Lib.hid (HB1.out.wrote hd7 hg7 hw7)
      have HM7 := Lib.hid ((Mv.of_below (bkM RB R a ga) HR.out.ext).trans (HB1.out.wroteMv hg7 hw7))
      have hold : ∀ g, w.heap.size ≤ g → g ∉ R :: blk a := fun g hge e => by
        rcases List.mem_cons.mp e with rfl | e
        · have := HB.out.dsk.lt; omega
        · have := (HB.out.dsk.blkLt e).2; omega
      have HR7 := Lib.hid (rws_base (HR.out.rows.chg hg7 (fun g hg => hold g (HR.out.rows.lt hg).1) (fun x hx g hg => hold g (HR.out.new x hx g hg).1)) hbs)
      have hnew : ∀ g, w.heap.size ≤ g → g < wr.heap.size → g ∉ RB :: R :: blk a7 := fun g hge hlt' e => by
        rcases List.mem_cons.mp e with rfl | e
        · have := HB.out.lt; omega
        · rcases List.mem_cons.mp e with rfl | e
          · have := HB.out.dsk.lt; omega
          · rcases hw7.old g e with e | e
            · have := (HB.out.dsk.blkLt e).2; omega
            · omega
      have HSW := Lib.hid (HB7.out.swap (n := k) HR7.out (fun g hg => hnew g (HR.out.rows.lt hg).1 (HR.out.rows.lt hg).2) (fun x hx g hg => hnew g (HR.out.new x hx g hg).1 (HR.out.rows.far x hx g hg).2) HXL.out)
      have HGB : Hid (∀ g ∈ blk gb, w.heap.size ≤ g) := fun g hg => (HR.out.rows.lt hg).1
      have HNF : Hid (∀ g ∈ xs.flatMap (fun x => blk x.loc), w.heap.size ≤ g ∧ g < w7.heap.size) := fun g hg => by
        obtain ⟨x, hx, hg'⟩ := List.mem_flatMap.mp hg
        exact ⟨(HR.out.new x hx g hg').1, Nat.lt_of_lt_of_le (HR.out.rows.far x hx g hg').2 hg7.size⟩
      have HEQ : Hid (xs.map Rw.ps = zs.map encX) := HR.out.eq
      obtain ⟨gc0, xs0, hcb, _⟩ := HB7.out.rows
      have hfb := HB7.out.free 1
      clear hd7 hg7 hw7 hold hnew hc0
      generalize wrt s (frms (zs.map encX)) true = p at *
      obtain ⟨nn, s7⟩ := p
      by_cases hn : nn = 0
      · have hn1 : (nn != 0) = false := by simp [hn]
        have HFIN : Hid (RetAp w base RB R a ga (nn, s7) cs (zs.map encX) F (.returned (.int .i64 0)) (w7.setCell ⟨RB, 1, none⟩ (.slice gb k gc))) := by
          refine ⟨by rw [hn], a7, gb, _, by rw [if_pos hn, ← HEQ.out]; exact HSW.out, ⟨(HM7.out.chg.trans ((chg_set1 w7 RB 1 _).mono (by simp [bkM]))), fun g hg => ?_⟩, fun g hg => .inr ⟨(HNF.out g hg).1, by have := (HNF.out g hg).2; simp; omega⟩⟩
          unfold bkM at hg
          simp only [List.mem_cons, List.mem_append] at hg
          rcases hg with e | e | e | e
          · exact HM7.out.now g (by unfold bkM; simp [e])
          · exact HM7.out.now g (by unfold bkM; simp [e])
          · exact HM7.out.now g (by unfold bkM; simp [e])
          · exact .inr (HGB.out g e)
        clear hn
        go_wp2
        go_ret
        exact HFIN.out
      · have hn1 : (nn != 0) = true := by simp [hn]
        have HFIN : Hid (RetAp w base RB R a ga (nn, s7) cs (zs.map encX) F (.returned (.int .i64 nn)) w7) := ⟨rfl, a7, ga, F, by rw [if_neg hn]; exact HB7.out, HM7.out, fun g hg => .inl hg⟩
        clear hn
        go_wp2
        go_ret
        exact HFIN.out

theorem bkRenew_any (base RB R : Nat) (a ga : Option Addr) (s : DS) (cs : List (List Nat)) (F : List Nat) (la : Option Addr) (lc l : Nat) (zs : List Rl) (w : World) (hB : Bk w base RB R a ga s cs F) (hl : zs.length = l) (hz : RcA w la lc zs) (hg : ∀ z ∈ zs, GoodX z) (hm : l ≤ 100) :
    Calls Tryz.prog 62 #[.pointer (some ⟨RB, 0, none⟩), .slice la l lc] w (RetRn w base RB R a ga (wrt s (frms (zs.map encX)) true) cs (zs.map encX)) :=
  (bkRenew_own base RB R a ga s cs F la lc l zs w hB hl hz hg hm).mono fun _ _ ⟨h1, a', ga', F', h2, h3, _⟩ => ⟨h1, a', ga', F', h2, h3⟩

set_option maxRecDepth 100000 in
set_option maxHeartbeats 2000000 in
/-- Renew of a record that is not sound. -/
theorem bkRenew_no (RB : Nat) (la : Option Addr) (lc l : Nat) (x : Rl) (w : World) (hl : l = 1) (hz : RcA w la lc [x]) (hno : sndR x.r = false) :
    Calls Tryz.prog 62 #[.pointer (some ⟨RB, 0, none⟩), .slice la l lc] w fun e w' => e = .returned (.int .i64 2) ∧ Below w.heap.size w w' := by
  have HX := Lib.hid hz
  have HN := Lib.hid hno
  have HL := Lib.hid hl
  clear hz hno hl
  go_enter Tryz.func62, Tryz.ntmps62
  go_wp2
  go_loopw [5, 6, 16] (fun u v i ws => ∃ k : Nat, i = .int .i64 k ∧ u = .slice none 0 0 ∧ v = .slice none 0 0 ∧ Hid (k = 0) ∧ Hid (Ext w ws)) (fun _ _ _ _ => 1)
  case atStart => exact ⟨0, rfl, rfl, rfl, rfl, Ext.refl _⟩
  case round =>
    obtain ⟨k, rfl, rfl, rfl, HK, HR⟩ := hrel
    have j0 : (0 : Int) ≤ (k : Int) := by omega
    have j1 : (k : Int) < (l : Int) := by have := HK.out; have := HL.out; omega
    obtain ⟨b, off, rfl, hc, hok⟩ := (HX.out.below HR.out).one k (by rw [HK.out]; simp)
    have hx : ([x] : List Rl).getD k rl0 = x := by rw [HK.out]; rfl
    rw [hx] at hc hok
    clear hx
    obtain ⟨r, ma, mc, ea, ec, lo, hi⟩ := x
    have HOK : Hid (RecAt wr ma mc ea ec r) := hok
    have HNO : Hid (sndR r = false) := HN.out
    dsimp only at hc
    obtain ⟨lm, hlm⟩ : ∃ q, r.mem.length = q := ⟨_, rfl⟩
    obtain ⟨le, hle⟩ : ∃ q, r.ents.length = q := ⟨_, rfl⟩
    rw [hlm, hle] at hc
    have HLM := Lib.hid hlm
    have HLE := Lib.hid hle
    have hbl := below_one wr (.cells #[.int .i64 r.kind, .int .i64 r.epoch, .slice ma lm mc, .int .i64 r.pos, .int .i64 r.last, .slice ea le ec] 35)
    have HOK1 := Lib.hid (HOK.out.below hbl)
    have HR1 := Lib.hid (HR.out.trans hbl)
    have x0 := hc.c0
    have x1 := hc.c1
    have x2 := hc.c2
    have x3 := hc.c3
    have x4 := hc.c4
    have x5 := hc.c5
    clear hok hlm hle hc HR HOK hbl HN HX
    go_wp2_with fail
    refine (encode_no _ _ _ _ _ _ r _ HOK1.out HLM.out HLE.out HNO.out).mono ?_
    rintro e w2 ⟨rfl, hb2⟩
    have HR2 := Lib.hid (HR1.out.trans hb2)
    clear x0 x1 x2 x3 x4 x5
    clear hb2
    go_wp2
    go_ret
    exact ⟨rfl, HR2.out⟩

end Go.Proofs.YtdgpbdedaafdiaaGreat
