/-
  store: add, renew; Log, Seal, Stage, Activate, Begin.
  store: Log, Stage, Activate.
  store: Stage, Activate.
-/
import Derived.Test.YtdgpbdedaafdiaaGreatWalksO4
import Derived.Deep.DeepCutAuto
namespace Go.Proofs.YtdgpbdedaafdiaaGreat
open Go.RowKit



theorem RetWr.below {w w0 w' : World} {base SB R : Nat} {d : DS} {cs : List (List Nat)} {s : Ss} {L : Lay} {r : Pr} {rep : Bool} {e : Ending} (h : RetWr w0 base SB R d cs s L r rep e w') (hb : Below w.heap.size w w0) : RetWr w base SB R d cs s L r rep e w' := by
  obtain ⟨h1, L', h2, h3⟩ := h
  exact ⟨h1, L', h2, (Mv.of_below _ hb).trans h3⟩

section
variable {w : World} {base SB R : Nat} {d : DS} {cs : List (List Nat)} {s : Ss} {L : Lay} {ma ea : Option Addr} {mc ec lm le : Nat} {r : Pr}

set_option maxRecDepth 100000 in
set_option maxHeartbeats 4000000 in
theorem stAdd_any (h : SoX w base SB R d cs s L) (hr : Kp (L.M SB R) w fun x => RecAt x ma mc ea ec r) (hlm : r.mem.length = lm) (hle : r.ents.length = le) (hs : s.now.ents.length ≤ 900000) (hcl : cs.length ≤ 1000000) :
    Calls Tryz.prog 41 #[.pointer (some ⟨SB, 0, none⟩), .agg #[.int .i64 r.kind, .int .i64 r.epoch, .slice ma lm mc, .int .i64 r.pos, .int .i64 r.last, .slice ea le ec]] w (RetWr w base SB R d cs s L r false) := by
  have HLM := Lib.hid hlm
  have HLE := Lib.hid hle
  have HX := Lib.hid h
  have hbl := below_one w (.cells #[.int .i64 r.kind, .int .i64 r.epoch, .slice ma lm mc, .int .i64 r.pos, .int .i64 r.last, .slice ea le ec] 35)
  have HB0 : Hid (Box (w.alloc (.cells #[.int .i64 r.kind, .int .i64 r.epoch, .slice ma lm mc, .int .i64 r.pos, .int .i64 r.last, .slice ea le ec] 35)) w.heap.size #[.int .i64 r.kind, .int .i64 r.epoch, .slice ma lm mc, .int .i64 r.pos, .int .i64 r.last, .slice ea le ec]) := box_new _ _ _ _ rfl
  have HE0 := Lib.hid hbl
  have HX1 := Lib.hid (h.below hbl)
  have HK1 := Lib.hid (hr.below hbl)
  clear h hr hlm hle hbl
  go_enter Tryz.func41, Tryz.ntmps41
  go_wp2_with fail
  generalize (w.alloc (.cells #[.int .i64 r.kind, .int .i64 r.epoch, .slice ma lm mc, .int .i64 r.pos, .int .i64 r.last, .slice ea le ec] 35)) = w0 at *
  refine wp_region_S2 (fun x => Box x w.heap.size #[.int .i64 r.kind, .int .i64 r.epoch, .slice ma lm mc, .int .i64 r.pos, .int .i64 r.last, .slice ea le ec]) (by kernel_rfl) ?_
  have hSw : Box w0.drew w.heap.size #[.int .i64 r.kind, .int .i64 r.epoch, .slice ma lm mc, .int .i64 r.pos, .int .i64 r.last, .slice ea le ec] := HB0.out
  have hbd : Below w0.heap.size w0 w0.drew := Below.drew (Below.refl _ w0)
  have HX2 := Lib.hid (HX1.out.below hbd)
  have HK2 := Lib.hid (HK1.out.below hbd)
  have HE2 : Hid (Below w.heap.size w w0.drew) := HE0.out.drew
  clear hbd HX1 HK1 HB0
  generalize w0.drew = w2 at *
  refine wpAnyH_tkS2 (i := 0) 5 (v := ?_) rfl rfl (by kernel_rfl) (by kernel_rfl) (by kernel_rfl) (by rfl) hSw (fun wq hwq => ?_) ?_
  rotate_left
  · (have hx := True.intro; go_simp <;> with_reducible rfl)
  simp only [List.setIfInBounds_toArray, List.set_cons_zero, List.set_cons_succ]
  refine wpAnyH_tkS2 (i := 1) 6 (v := ?_) rfl rfl (by kernel_rfl) (by kernel_rfl) (by kernel_rfl) (by rfl) hSw (fun wq hwq => ?_) ?_
  rotate_left
  · (obtain ⟨y0, y1, y2, y3, y4, y5⟩ := box6 hwq; go_simp <;> with_reducible rfl)
  simp only [List.setIfInBounds_toArray, List.set_cons_zero, List.set_cons_succ]
  refine wpAnyH_tkS2 (i := 2) 7 (v := ?_) rfl rfl (by kernel_rfl) (by kernel_rfl) (by kernel_rfl) (by rfl) hSw (fun wq hwq => ?_) ?_
  rotate_left
  · (have hx := True.intro; go_simp <;> with_reducible rfl)
  simp only [List.setIfInBounds_toArray, List.set_cons_zero, List.set_cons_succ]
  refine wpAnyH_tkS2 (i := 3) 8 (v := ?_) rfl rfl (by kernel_rfl) (by kernel_rfl) (by kernel_rfl) (by rfl) hSw (fun wq hwq => ?_) ?_
  rotate_left
  · (have hx := True.intro; go_simp <;> with_reducible rfl)
  simp only [List.setIfInBounds_toArray, List.set_cons_zero, List.set_cons_succ]
  refine wpAnyH_tkS2 (i := 4) 9 (v := ?_) rfl rfl (by kernel_rfl) (by kernel_rfl) (by kernel_rfl) (by rfl) hSw (fun wq hwq => ?_) ?_
  rotate_left
  · (have hx := True.intro; go_simp <;> with_reducible rfl)
  simp only [List.setIfInBounds_toArray, List.set_cons_zero, List.set_cons_succ]
  have c0 : w2.cell? ⟨SB, 0, none⟩ = some (.pointer (some ⟨L.RB, 0, none⟩)) := HX2.out.box.cell 0 _ rfl
  refine wpAnyH_oneS2 (i := 5) rfl (by kernel_rfl) (by rfl) (fun K hK => ?_)
  go_simp
  refine hK.out _ _ (fun x => Box x w.heap.size #[.int .i64 r.kind, .int .i64 r.epoch, .slice ma lm mc, .int .i64 r.pos, .int .i64 r.last, .slice ea le ec]) (fun _ h => h) (hSw) ?_
  clear hK K
  refine wpAnyH_tkS2 (i := 6) 11 (v := ?_) rfl rfl (by kernel_rfl) (by kernel_rfl) (by kernel_rfl) (by rfl) hSw (fun wq hwq => ?_) ?_
  rotate_left
  · (have hx := True.intro; go_simp <;> with_reducible rfl)
  simp only [List.setIfInBounds_toArray, List.set_cons_zero, List.set_cons_succ]
  refine wpAnyH_oneS2 (i := 7) rfl (by kernel_rfl) (by rfl) (fun K hK => ?_)
  go_simp
  refine (write_app HX2.out HK2.out HLM.out HLE.out hs hcl).mono ?_
  intro e w3 hw
  have hS3 : Box w3 w.heap.size #[.int .i64 r.kind, .int .i64 r.epoch, .slice ma lm mc, .int .i64 r.pos, .int .i64 r.last, .slice ea le ec] := fun j v hv => by
    obtain ⟨_, L', _, hm⟩ := hw
    exact hm.chg.cell (hSw j v hv) fun e => Nat.lt_irrefl _ (HX.out.mLt (g := w.heap.size) e).2
  have HF := Lib.hid (hw.below HE2.out)
  obtain ⟨rfl, -⟩ := hw
  generalize wq d r false = p at *
  refine hK.out _ _ (fun x => Box x w.heap.size #[.int .i64 r.kind, .int .i64 r.epoch, .slice ma lm mc, .int .i64 r.pos, .int .i64 r.last, .slice ea le ec]) (fun _ h => h) (hS3) ?_
  clear hK K
  clear hSw c0
  have hSw := hS3
  refine wpAnyH_tkS2 (i := 8) 4 (v := ?_) rfl rfl (by kernel_rfl) (by kernel_rfl) (by kernel_rfl) (by rfl) hSw (fun wq hwq => ?_) ?_
  rotate_left
  · (have hx := True.intro; go_simp <;> with_reducible rfl)
  simp only [List.setIfInBounds_toArray, List.set_cons_zero, List.set_cons_succ]
  refine wpAnyH_done (by kernel_rfl) ?_ _
  refine NoPanic.normal ?_
  go_wp2
  go_ret
  exact HF.out

set_option maxRecDepth 100000 in
set_option maxHeartbeats 4000000 in
theorem stRenew_any (h : SoX w base SB R d cs s L) (hr : Kp (L.M SB R) w fun x => RecAt x ma mc ea ec r) (hlm : r.mem.length = lm) (hle : r.ents.length = le) (hs : s.now.ents.length ≤ 900000) (h6 : r.ents.length ≤ 6) :
    Calls Tryz.prog 42 #[.pointer (some ⟨SB, 0, none⟩), .agg #[.int .i64 r.kind, .int .i64 r.epoch, .slice ma lm mc, .int .i64 r.pos, .int .i64 r.last, .slice ea le ec]] w (RetWr w base SB R d cs s L r true) := by
  have HLM := Lib.hid hlm
  have HLE := Lib.hid hle
  have HX := Lib.hid h
  have hb1 := below_one w (.cells #[.pointer (some ⟨SB, 0, none⟩)] 25)
  have hb2 := below_one (w.alloc (.cells #[.pointer (some ⟨SB, 0, none⟩)] 25)) (.cells #[.int .i64 r.kind, .int .i64 r.epoch, .slice ma lm mc, .int .i64 r.pos, .int .i64 r.last, .slice ea le ec] 35)
  have HB0 : Hid (Box ((w.alloc (.cells #[.pointer (some ⟨SB, 0, none⟩)] 25)).alloc (.cells #[.int .i64 r.kind, .int .i64 r.epoch, .slice ma lm mc, .int .i64 r.pos, .int .i64 r.last, .slice ea le ec] 35)) (w.heap.size + 1) #[.int .i64 r.kind, .int .i64 r.epoch, .slice ma lm mc, .int .i64 r.pos, .int .i64 r.last, .slice ea le ec]) := box_new _ _ _ _ (by simp)
  have HCP : Hid (((w.alloc (.cells #[.pointer (some ⟨SB, 0, none⟩)] 25)).alloc (.cells #[.int .i64 r.kind, .int .i64 r.epoch, .slice ma lm mc, .int .i64 r.pos, .int .i64 r.last, .slice ea le ec] 35)).cell? ⟨w.heap.size, 0, none⟩ = some (.pointer (some ⟨SB, 0, none⟩))) := cell_later hb2 (by simp)
  have HE0 := Lib.hid (hb1.trans (hb2.mono hb1.size))
  have HX1 := Lib.hid ((h.below hb1).below hb2)
  have HK1 := Lib.hid ((hr.below hb1).below hb2)
  obtain ⟨y0, y1, y2, y3, y4, y5⟩ := box6 HB0.out
  have hcp := HCP.out
  clear h hr hlm hle hb1 hb2
  go_enter Tryz.func42, Tryz.ntmps42
  go_wp2_with fail
  generalize ((w.alloc (.cells #[.pointer (some ⟨SB, 0, none⟩)] 25)).alloc (.cells #[.int .i64 r.kind, .int .i64 r.epoch, .slice ma lm mc, .int .i64 r.pos, .int .i64 r.last, .slice ea le ec] 35)) = w0 at *
  refine (write_ren HX1.out HK1.out HLM.out HLE.out hs w.heap.size HCP.out (fun e => by have := (HX.out.bk.mLt e).2; omega) h6).mono ?_
  intro e w3 hw
  have HF := Lib.hid (hw.below HE0.out)
  obtain ⟨rfl, -⟩ := hw
  generalize wq d r true = p at *
  go_wp2
  go_ret
  exact HF.out

end

/-- What a write comes to, in records. -/
theorem RetWr.mu {w w' : World} {base SB R : Nat} {d : DS} {rs : List Pr} {s : Ss} {L : Lay} {r : Pr} {rep : Bool} {e : Ending} (hrun : runS rs = s) (hg : ∀ r ∈ rs, Gr r) (h : RetWr w base SB R d (rs.map encR) s L r rep e w') (hr : sndR r = true → Gr r) (h4 : rep = true → r.kind = 4) :
    RetMu w base SB R (L.M SB R) (wq d r rep) (nxt rs r rep (wq d r rep).1) e w' := by
  obtain ⟨h1, L', h2, h3⟩ := h
  refine ⟨h1, L'.M SB R, ?_, h3⟩
  by_cases hn : (wq d r rep).1 = 0
  · have hs : sndR r = true := by
      cases hs : sndR r
      · rw [wq_no d r rep hs] at hn; cases hn
      · rfl
    rw [if_pos hn, if_pos hn] at h2
    cases rep
    · rw [nxt_app _ _ _ hn]
      refine ⟨rfl, fun x hx => ?_, L', rfl, ?_⟩
      · rcases List.mem_append.mp hx with hx | hx
        · exact hg x hx
        · rw [List.mem_singleton.mp hx]; exact hr hs
      · rw [runS_snoc, hrun, List.map_append]
        exact h2
    · rw [nxt_rep _ _ _ hn]
      refine ⟨rfl, fun x hx => ?_, L', rfl, ?_⟩
      · rw [List.mem_singleton.mp hx]; exact hr hs
      · rw [runS_four r (h4 rfl), ← appS_four (s := s) (h4 rfl)]
        exact h2
  · rw [if_neg hn, if_neg hn] at h2
    rw [nxt_no _ _ _ _ hn]
    exact ⟨rfl, hg, L', rfl, by rw [hrun]; exact h2⟩

/-- A call: what it answers ahead of the disk, or the disk's answer. -/
def act (d : DS) (rs : List Pr) (pre : Option Int) (r : Pr) (rep : Bool) : (Int × DS) × List Pr :=
  match pre with
  | some n => ((n, d), rs)
  | none => (wq d r rep, nxt rs r rep (wq d r rep).1)

def preLog (s : Ss) (e : Pe) : Option Int := if s.now.epoch = 0 ∨ s.sealed = true then some 8 else if e.seq ≠ lastS s + 1 then some 3 else none
def preSeal (s : Ss) : Option Int := if s.now.epoch = 0 then some 8 else if s.sealed = true then some 0 else none
def preStage (s : Ss) (c : Int) : Option Int := if c ≤ s.now.epoch ∨ c ≤ s.staged.epoch then some 8 else none
def preActivate (s : Ss) (n : Int) : Option Int := if n < 1 ∨ n ≠ s.staged.epoch then some 8 else none
def preBegin (s : Ss) (c : Int) : Option Int := if c ≤ s.now.epoch then some 8 else none

def recLog (e : Pe) : Pr := ⟨1, 0, [], 0, 0, [e]⟩
def recSeal : Pr := ⟨2, 0, [], 0, 0, []⟩
def recStage (c : Int) (m : List Int) (pos last : Int) (es : List Pe) : Pr := ⟨3, c, m, pos, last, es⟩
def recAct (s : Ss) : Pr := { s.staged with kind := 4 }
def recBegin (c : Int) (m : List Int) (pos : Int) : Pr := ⟨4, c, m, pos, 0, []⟩

section
variable {w w' : World} {base SB R : Nat} {M : List Nat} {d : DS} {rs : List Pr} {s : Ss} {e : Ending}

/-- Nothing has been written. -/
theorem So.told (h : So w base SB R M d rs s) (n : Int) (hb : Below w.heap.size w w') : RetMu w base SB R M (n, d) rs (.returned (.int .i64 n)) w' :=
  ⟨rfl, M, by have := h.below hb; rw [h.1]; exact this, Mv.of_below _ hb⟩

set_option maxRecDepth 100000 in
set_option maxHeartbeats 2000000 in
theorem stSeal_any (h : So w base SB R M d rs s) (hl : rs.length ≤ 100000) : Calls Tryz.prog 20 #[.pointer (some ⟨SB, 0, none⟩)] w (RetMu w base SB R M (act d rs (preSeal s) recSeal false).1 (act d rs (preSeal s) recSeal false).2) := by
  have hlen := h.len
  have HS := Lib.hid h
  obtain ⟨hrun, hg, L, rfl, hx⟩ := h
  have HRUN := Lib.hid hrun
  have HG := Lib.hid hg
  have HX := Lib.hid hx
  have c2 : w.cell? ⟨SB, 2, none⟩ = some (.int .i64 s.now.epoch) := hx.box.cell 2 _ rfl
  have c7 : w.cell? ⟨SB, 7, none⟩ = some (.bool s.sealed) := hx.box.cell 7 _ rfl
  clear hx hg hrun
  go_enter Tryz.func20, Tryz.ntmps20
  by_cases h0 : s.now.epoch = 0
  · have d0 : (s.now.epoch == 0) = true := by simp [h0]
    have HP : Hid (preSeal s = some 8) := if_pos h0
    have HF : Hid (RetMu w base SB R (L.M SB R) (act d rs (preSeal s) recSeal false).1 (act d rs (preSeal s) recSeal false).2 (.returned (.int .i64 8)) w) := by
      rw [HP.out]
      exact HS.out.told 8 (Below.refl _ _)
    clear h0
    go_wp2
    go_ret
    exact HF.out
  · have d0 : (s.now.epoch == 0) = false := by simp [h0]
    cases hs : s.sealed
    · rw [hs] at c7
      have HP : Hid (preSeal s = none) := by unfold preSeal; rw [if_neg h0, if_neg (by rw [hs]; simp)]; exact rfl
      clear h0
      go_wp2_with fail
      refine (stAdd_any (r := recSeal) HX.out (fun _ x _ _ => sr_rec x) rfl rfl (by omega) (by rw [List.length_map]; omega)).mono ?_
      intro e w3 hw
      have HF : Hid (RetMu w base SB R (L.M SB R) (act d rs (preSeal s) recSeal false).1 (act d rs (preSeal s) recSeal false).2 e w3) := by
        rw [HP.out]
        exact hw.mu HRUN.out HG.out (fun h => ⟨h, sr_wf, by decide, fun e => by cases e⟩) (fun e => by cases e)
      obtain ⟨rfl, -⟩ := hw
      generalize wq d recSeal false = p at *
      go_wp2
      go_ret
      exact HF.out
    · rw [hs] at c7
      have HP : Hid (preSeal s = some 0) := by unfold preSeal; rw [if_neg h0, if_pos hs]; exact rfl
      have HF : Hid (RetMu w base SB R (L.M SB R) (act d rs (preSeal s) recSeal false).1 (act d rs (preSeal s) recSeal false).2 (.returned (.int .i64 0)) w) := by
        rw [HP.out]
        exact HS.out.told 0 (Below.refl _ _)
      clear h0
      go_wp2
      go_ret
      exact HF.out

set_option maxRecDepth 100000 in
set_option maxHeartbeats 2000000 in
theorem stBegin_any (c pos : Int) (ma : Option Addr) (mc lm : Nat) (m : List Int) (hlm : m.length = lm) (h : So w base SB R M d rs s) (hl : rs.length ≤ 100000) (hm : Kp M w fun x => IntsAt x ma mc m) (hw : (recBegin c m pos).Wf) :
    Calls Tryz.prog 23 #[.pointer (some ⟨SB, 0, none⟩), .agg #[.int .i64 c, .slice ma lm mc], .int .i64 pos] w (RetMu w base SB R M (act d rs (preBegin s c) (recBegin c m pos) true).1 (act d rs (preBegin s c) (recBegin c m pos) true).2) := by
  have hlen := h.len
  have HLM := Lib.hid hlm
  have hbl := below_one w (.cells #[.int .i64 c, .slice ma lm mc] 32)
  have HB0 : Hid (Box (w.alloc (.cells #[.int .i64 c, .slice ma lm mc] 32)) w.heap.size #[.int .i64 c, .slice ma lm mc]) := box_new _ _ _ _ rfl
  have HE0 := Lib.hid hbl
  have HS := Lib.hid (h.below hbl)
  have HM := Lib.hid (hm.below hbl)
  have HMU : Hid (∀ e w', RetMu (w.alloc (.cells #[.int .i64 c, .slice ma lm mc] 32)) base SB R M (act d rs (preBegin s c) (recBegin c m pos) true).1 (act d rs (preBegin s c) (recBegin c m pos) true).2 e w' → RetMu w base SB R M (act d rs (preBegin s c) (recBegin c m pos) true).1 (act d rs (preBegin s c) (recBegin c m pos) true).2 e w') := fun e w' ⟨h1, M', h2, h3⟩ => ⟨h1, M', h2, (Mv.of_below _ hbl).trans h3⟩
  have HW := Lib.hid hw
  clear h hm hlm hbl hw
  go_enter Tryz.func23, Tryz.ntmps23
  obtain ⟨y0, y1⟩ := box2 HB0.out
  go_wp2_with fail
  generalize (w.alloc (.cells #[.int .i64 c, .slice ma lm mc] 32)) = w0 at *
  obtain ⟨hrun, hg, L, rfl, hx⟩ := HS.out
  have HRUN := Lib.hid hrun
  have HG := Lib.hid hg
  have HX := Lib.hid hx
  have HC2 : Hid (w0.cell? ⟨SB, 2, none⟩ = some (.int .i64 s.now.epoch)) := hx.box.cell 2 _ rfl
  clear hx hg hrun
  refine wp_region_ext (by kernel_rfl) ?_
  have E0 : Hid (Ext w0 w0.drew) := (Below.refl _ w0).drew
  have hC2 : w0.drew.cell? ⟨SB, 2, none⟩ = some (.int .i64 s.now.epoch) := HC2.out
  have hY0 : w0.drew.cell? ⟨w.heap.size, 0, none⟩ = some (.int .i64 c) := y0
  have HS2 := Lib.hid (HS.out.below E0.out)
  have HX2 := Lib.hid (HX.out.below E0.out)
  have HM2 := Lib.hid (HM.out.below E0.out)
  have HB2 := Lib.hid (HB0.out.below E0.out)
  have HMU2 : Hid (∀ e w', RetMu w0.drew base SB R (L.M SB R) (act d rs (preBegin s c) (recBegin c m pos) true).1 (act d rs (preBegin s c) (recBegin c m pos) true).2 e w' → RetMu w base SB R (L.M SB R) (act d rs (preBegin s c) (recBegin c m pos) true).1 (act d rs (preBegin s c) (recBegin c m pos) true).2 e w') := fun e w' ⟨h1, M', h2, h3⟩ => HMU.out e w' ⟨h1, M', h2, (Mv.of_below _ E0.out).trans h3⟩
  clear HMU HS HX HM HB0 HC2 y0 y1
  generalize w0.drew = w2 at *
  refine wpAnyH_tk (i := 0) 9 (v := ?_) rfl rfl (by kernel_rfl) (by kernel_rfl) (by kernel_rfl) (by rfl) (fun wq hwq => ?_) ?_
  rotate_left
  · (go_simp <;> with_reducible rfl)
  simp only [List.setIfInBounds_toArray, List.set_cons_zero, List.set_cons_succ]
  refine wpAnyH_tk (i := 1) 10 (v := ?_) rfl rfl (by kernel_rfl) (by kernel_rfl) (by kernel_rfl) (by rfl) (fun wq hwq => ?_) ?_
  rotate_left
  · (have hx := cell_later hwq hY0; go_simp <;> with_reducible rfl)
  simp only [List.setIfInBounds_toArray, List.set_cons_zero, List.set_cons_succ]
  refine wpAnyH_tk (i := 2) 11 (v := ?_) rfl rfl (by kernel_rfl) (by kernel_rfl) (by kernel_rfl) (by rfl) (fun wq hwq => ?_) ?_
  rotate_left
  · (go_simp <;> with_reducible rfl)
  simp only [List.setIfInBounds_toArray, List.set_cons_zero, List.set_cons_succ]
  refine wpAnyH_tk (i := 3) 12 (v := ?_) rfl rfl (by kernel_rfl) (by kernel_rfl) (by kernel_rfl) (by rfl) (fun wq hwq => ?_) ?_
  rotate_left
  · (go_simp <;> with_reducible rfl)
  simp only [List.setIfInBounds_toArray, List.set_cons_zero, List.set_cons_succ]
  refine wpAnyH_tk (i := 4) 13 (v := ?_) rfl rfl (by kernel_rfl) (by kernel_rfl) (by kernel_rfl) (by rfl) (fun wq hwq => ?_) ?_
  rotate_left
  · (go_simp <;> with_reducible rfl)
  simp only [List.setIfInBounds_toArray, List.set_cons_zero, List.set_cons_succ]
  refine wpAnyH_tk (i := 5) 14 (v := ?_) rfl rfl (by kernel_rfl) (by kernel_rfl) (by kernel_rfl) (by rfl) (fun wq hwq => ?_) ?_
  rotate_left
  · (go_simp <;> with_reducible rfl)
  simp only [List.setIfInBounds_toArray, List.set_cons_zero, List.set_cons_succ]
  refine wpAnyH_tk (i := 6) 15 (v := ?_) rfl rfl (by kernel_rfl) (by kernel_rfl) (by kernel_rfl) (by rfl) (fun wq hwq => ?_) ?_
  rotate_left
  · (go_simp <;> with_reducible rfl)
  simp only [List.setIfInBounds_toArray, List.set_cons_zero, List.set_cons_succ]
  refine wpAnyH_tk (i := 7) 16 (v := ?_) rfl rfl (by kernel_rfl) (by kernel_rfl) (by kernel_rfl) (by rfl) (fun wq hwq => ?_) ?_
  rotate_left
  · (have hx := cell_later hwq hC2; go_simp <;> with_reducible rfl)
  simp only [List.setIfInBounds_toArray, List.set_cons_zero, List.set_cons_succ]
  refine wpAnyH_tk (i := 8) 17 (v := ?_) rfl rfl (by kernel_rfl) (by kernel_rfl) (by kernel_rfl) (by rfl) (fun wq hwq => ?_) ?_
  rotate_left
  · (go_simp <;> with_reducible rfl)
  simp only [List.setIfInBounds_toArray, List.set_cons_zero, List.set_cons_succ]
  refine wpAnyH_done (by kernel_rfl) ?_ _
  refine NoPanic.normal ?_
  obtain ⟨y0, y1⟩ := box2 HB2.out
  clear hC2 hY0
  by_cases h0 : c ≤ s.now.epoch
  · have d0 : decide (c ≤ s.now.epoch) = true := decide_eq_true h0
    rw [d0]
    have HP : Hid (preBegin s c = some 8) := if_pos h0
    have HF : Hid (RetMu w base SB R (L.M SB R) (act d rs (preBegin s c) (recBegin c m pos) true).1 (act d rs (preBegin s c) (recBegin c m pos) true).2 (.returned (.int .i64 8)) w2) := by
      refine HMU2.out _ _ ?_
      rw [HP.out]
      exact HS2.out.told 8 (Below.refl _ _)
    clear h0
    go_wp2
    go_ret
    exact HF.out
  · have d0 : decide (c ≤ s.now.epoch) = false := decide_eq_false h0
    rw [d0]
    have HP : Hid (preBegin s c = none) := if_neg h0
    clear h0
    go_wp2_with fail
    refine (stRenew_any (r := recBegin c m pos) HX2.out (HM2.out.imp fun x hx => ⟨hx, EnsAt.nil (Nat.zero_le _), HW.out⟩) HLM.out rfl (by omega) (Nat.zero_le _)).mono ?_
    intro e w3 hw
    have HF : Hid (RetMu w base SB R (L.M SB R) (act d rs (preBegin s c) (recBegin c m pos) true).1 (act d rs (preBegin s c) (recBegin c m pos) true).2 e w3) := by
      refine HMU2.out _ _ ?_
      rw [HP.out]
      exact hw.mu HRUN.out HG.out (fun h => ⟨h, HW.out, Nat.zero_le _, fun e => by cases e⟩) (fun _ => rfl)
    obtain ⟨rfl, -⟩ := hw
    generalize wq d (recBegin c m pos) true = p at *
    go_wp2
    go_ret
    exact HF.out

end

end Go.Proofs.YtdgpbdedaafdiaaGreat

namespace Go.Proofs.YtdgpbdedaafdiaaGreat
open Go.RowKit



theorem RetMu.bel {w w0 w' : World} {base SB R : Nat} {M : List Nat} {p : Int × DS} {rs : List Pr} {e : Ending} (h : RetMu w0 base SB R M p rs e w') (hb : Below w.heap.size w w0) : RetMu w base SB R M p rs e w' := by
  obtain ⟨h1, M', h2, h3⟩ := h
  exact ⟨h1, M', h2, (Mv.of_below _ hb).trans h3⟩

/-- One entry in a block of its own. -/
theorem ens_one {w : World} {M : List Nat} {B n : Nat} {e : Pe} {loc : Option Addr} {c : Nat} (hn : e.frag.length = n) (hB : Box w B #[.int .i64 e.seq, .int .i64 e.client, .int .i64 e.num, .int .i64 e.op, .string (strB e.key), .int .i64 e.size, .int .u32 (e.sum : Int), .slice loc n c])
    (hM : B ∉ M) (hlt : B < w.heap.size) (hs : Kp M w fun x => SeenAt x loc c e.frag) (hw : e.Wf) : Kp M w fun x => EnsAt x (some ⟨B, 0, none⟩) 1 [e] := fun gs x hc hg => by
  subst hn
  have hn : B ∉ gs := fun e => by
    rcases hg B e with h | h
    · exact hM h
    · omega
  have hb : ∀ (j : Nat) (v : Value), (#[.int .i64 e.seq, .int .i64 e.client, .int .i64 e.num, .int .i64 e.op, .string (strB e.key), .int .i64 e.size, .int .u32 (e.sum : Int), .slice loc e.frag.length c] : Array Value)[j]? = some v → x.cell? ⟨B, j, none⟩ = some v := fun j v hv => hc.cell (hB j v hv) hn
  obtain ⟨y0, y1, y2, y3, y4, y5, y6, y7⟩ := box8 (w := x) (B := B) hb
  refine ⟨Nat.le_refl _, by unfold maxLen; omega, fun i hi => ?_, fun f hf => ?_⟩
  · have hi' : i < 1 := hi
    obtain rfl : i = 0 := by omega
    exact ⟨B, 0, loc, c, rfl, y0, y1, y2, y3, y4, y5, y6, y7, hs gs x hc hg⟩
  · rw [List.mem_singleton.mp hf]; exact hw

theorem i64_k {n : Int} (h : 0 ≤ n ∧ n ≤ 4) : I64 n := by unfold I64; omega

theorem recLog_wf {p : Pe} (h : p.Wf) : (recLog p).Wf := ⟨i64_k (by simp [recLog]), i64_k (by simp [recLog]), by simp [recLog], i64_k (by simp [recLog]), i64_k (by simp [recLog]), by simp [recLog]; exact h⟩

theorem wrap_same {n : Int} (h : -9223372036854775808 ≤ n ∧ n ≤ 9223372036854775807) : IntKind.i64.wrap n = n := by
  simp [IntKind.wrap, IntKind.signed, IntKind.bits]
  omega

section
variable {w w' : World} {base SB R : Nat} {M : List Nat} {d : DS} {rs : List Pr} {s : Ss}

set_option maxRecDepth 100000 in
set_option maxHeartbeats 4000000 in
theorem stLog_any (p : Pe) (loc : Option Addr) (c n : Nat) (hn : p.frag.length = n) (h : So w base SB R M d rs s) (hl : rs.length ≤ 100000) (hs : Kp M w fun x => SeenAt x loc c p.frag) (hw : p.Wf) :
    Calls Tryz.prog 19 #[.pointer (some ⟨SB, 0, none⟩), .agg #[.int .i64 p.seq, .int .i64 p.client, .int .i64 p.num, .int .i64 p.op, .string (strB p.key), .int .i64 p.size, .int .u32 (p.sum : Int), .slice loc n c]] w (RetMu w base SB R M (act d rs (preLog s p) (recLog p) false).1 (act d rs (preLog s p) (recLog p) false).2) := by
  have hlen := h.len
  have HLR := Lib.hid (lastS_range h.ok)
  have HN := Lib.hid hn
  have HW := Lib.hid hw
  have hbl := below_one w (.cells #[.int .i64 p.seq, .int .i64 p.client, .int .i64 p.num, .int .i64 p.op, .string (strB p.key), .int .i64 p.size, .int .u32 (p.sum : Int), .slice loc n c] 41)
  have HB0 : Hid (Box (w.alloc (.cells #[.int .i64 p.seq, .int .i64 p.client, .int .i64 p.num, .int .i64 p.op, .string (strB p.key), .int .i64 p.size, .int .u32 (p.sum : Int), .slice loc n c] 41)) w.heap.size #[.int .i64 p.seq, .int .i64 p.client, .int .i64 p.num, .int .i64 p.op, .string (strB p.key), .int .i64 p.size, .int .u32 (p.sum : Int), .slice loc n c]) := box_new _ _ _ _ rfl
  have HE0 := Lib.hid hbl
  have HS := Lib.hid (h.below hbl)
  have HK := Lib.hid (hs.below hbl)
  have HML : Hid (∀ g ∈ M, g < w.heap.size) := fun g hg => (h.mLt hg).2
  clear h hs hn hbl hw
  go_enter Tryz.func19, Tryz.ntmps19
  obtain ⟨hrun, hg, L, rfl, hx⟩ := HS.out
  have HRUN := Lib.hid hrun
  have HG := Lib.hid hg
  have HX := Lib.hid hx
  have c2 : (w.alloc (.cells #[.int .i64 p.seq, .int .i64 p.client, .int .i64 p.num, .int .i64 p.op, .string (strB p.key), .int .i64 p.size, .int .u32 (p.sum : Int), .slice loc n c] 41)).cell? ⟨SB, 2, none⟩ = some (.int .i64 s.now.epoch) := hx.box.cell 2 _ rfl
  have c7 : (w.alloc (.cells #[.int .i64 p.seq, .int .i64 p.client, .int .i64 p.num, .int .i64 p.op, .string (strB p.key), .int .i64 p.size, .int .u32 (p.sum : Int), .slice loc n c] 41)).cell? ⟨SB, 7, none⟩ = some (.bool s.sealed) := hx.box.cell 7 _ rfl
  clear hx hg hrun
  by_cases h0 : s.now.epoch = 0 ∨ s.sealed = true
  · have HP : Hid (preLog s p = some 8) := if_pos h0
    have HF : Hid (RetMu w base SB R (L.M SB R) (act d rs (preLog s p) (recLog p) false).1 (act d rs (preLog s p) (recLog p) false).2 (.returned (.int .i64 8)) (w.alloc (.cells #[.int .i64 p.seq, .int .i64 p.client, .int .i64 p.num, .int .i64 p.op, .string (strB p.key), .int .i64 p.size, .int .u32 (p.sum : Int), .slice loc n c] 41))) := by
      refine RetMu.bel ?_ HE0.out
      rw [HP.out]
      exact HS.out.told 8 (Below.refl _ _)
    by_cases h1 : s.now.epoch = 0
    · have d0 : (s.now.epoch == 0) = true := by simp [h1]
      clear h0 h1
      go_wp2
      go_ret
      exact HF.out
    · have d0 : (s.now.epoch == 0) = false := by simp [h1]
      have d1 : s.sealed = true := by rcases h0 with h | h; exact absurd h h1; exact h
      rw [d1] at c7
      clear h0 h1
      go_wp2
      go_ret
      exact HF.out
  · have h1 : s.now.epoch ≠ 0 := fun e => h0 (.inl e)
    have h2 : s.sealed = false := by cases hs : s.sealed; rfl; exact absurd (.inr hs) h0
    have d0 : (s.now.epoch == 0) = false := by simp [h1]
    rw [h2] at c7
    have HP0 : Hid (preLog s p = if p.seq ≠ lastS s + 1 then some 3 else none) := if_neg h0
    clear h0 h1
    go_wp2_with fail
    generalize (w.alloc (.cells #[.int .i64 p.seq, .int .i64 p.client, .int .i64 p.num, .int .i64 p.op, .string (strB p.key), .int .i64 p.size, .int .u32 (p.sum : Int), .slice loc n c] 41)) = w0 at *
    refine wp_region_ext (by kernel_rfl) ?_
    have E0 : Hid (Ext w0 w0.drew) := (Below.refl _ w0).drew
    have hY0 : w0.drew.cell? ⟨w.heap.size, 0, none⟩ = some (.int .i64 p.seq) := (box8 HB0.out).1
    have HE2 : Hid (Below w.heap.size w w0.drew) := HE0.out.drew
    have HS2 := Lib.hid (HS.out.below E0.out)
    have HX2 := Lib.hid (HX.out.below E0.out)
    have HK2 := Lib.hid (HK.out.below E0.out)
    have HB2 := Lib.hid (HB0.out.below E0.out)
    have HSV := Lib.hid (HX.out.someV.below E0.out)
    have HSZ : Hid (w.heap.size < w0.drew.heap.size) := by
      have := bx_lt HX.out.box
      exact Nat.lt_of_lt_of_le (World.block_lt_of_cell? _ _ (box8 HB0.out).1) (Nat.le_refl _)
    clear HS HX HK HB0 HE0 c2 c7
    generalize w0.drew = w2 at *
    refine wpAnyH_tk (i := 0) 20 (v := ?_) rfl rfl (by kernel_rfl) (by kernel_rfl) (by kernel_rfl) (by rfl) (fun wq hwq => ?_) ?_
    rotate_left
    · (go_simp <;> with_reducible rfl)
    simp only [List.setIfInBounds_toArray, List.set_cons_zero, List.set_cons_succ]
    refine wpAnyH_tk (i := 1) 21 (v := ?_) rfl rfl (by kernel_rfl) (by kernel_rfl) (by kernel_rfl) (by rfl) (fun wq hwq => ?_) ?_
    rotate_left
    · (have hx := cell_later hwq hY0; go_simp <;> with_reducible rfl)
    simp only [List.setIfInBounds_toArray, List.set_cons_zero, List.set_cons_succ]
    refine wpAnyH_tk (i := 2) 22 (v := ?_) rfl rfl (by kernel_rfl) (by kernel_rfl) (by kernel_rfl) (by rfl) (fun wq hwq => ?_) ?_
    rotate_left
    · (go_simp <;> with_reducible rfl)
    simp only [List.setIfInBounds_toArray, List.set_cons_zero, List.set_cons_succ]
    refine wpAnyH_one (i := 3) rfl (by kernel_rfl) (by rfl) (fun K hK => ?_)
    go_simp
    refine (stLast_any _ HSV.out (by omega)).mono ?_
    rintro e w3 ⟨rfl, hb3⟩
    have HE3 := Lib.hid (HE2.out.trans (hb3.mono HE2.out.size))
    have HS3 := Lib.hid (HS2.out.below hb3)
    have HX3 := Lib.hid (HX2.out.below hb3)
    have HK3 := Lib.hid (HK2.out.below hb3)
    have HB3 := Lib.hid (HB2.out.below hb3)
    have HSZ3 := Lib.hid (Nat.lt_of_lt_of_le HSZ.out hb3.size)
    clear HSV HS2 HX2 HK2 HB2 HSZ
    generalize hq : lastS s = q at *
    have HQ := Lib.hid hq
    have hq1 := HLR.out.1
    have hq2 := HLR.out.2
    clear hq
    refine hK.out _ _ hb3 ?_
    clear hK K
    refine wpAnyH_tk (i := 4) 24 (v := ?_) rfl rfl (by kernel_rfl) (by kernel_rfl) (by kernel_rfl) (by rfl) (fun wq hwq => ?_) ?_
    rotate_left
    · (go_simp <;> with_reducible rfl)
    simp only [List.setIfInBounds_toArray, List.set_cons_zero, List.set_cons_succ]
    refine wpAnyH_tk (i := 5) 25 (v := ?_) rfl rfl (by kernel_rfl) (by kernel_rfl) (by kernel_rfl) (by rfl) (fun wq hwq => ?_) ?_
    rotate_left
    · (go_simp <;> with_reducible rfl)
    simp only [List.setIfInBounds_toArray, List.set_cons_zero, List.set_cons_succ]
    refine wpAnyH_done (by kernel_rfl) ?_ _
    refine NoPanic.normal ?_
    clear hb3 hY0
    have hwr : IntKind.i64.wrap (q + 1) = q + 1 := wrap_same (by omega)
    try rw [hwr]
    clear hwr
    obtain ⟨y0, y1, y2, y3, y4, y5, y6, y7⟩ := box8 HB3.out
    by_cases h5 : p.seq = q + 1
    · have d5 : (p.seq != q + 1) = false := by simp [h5]
      have HP : Hid (preLog s p = none) := by show _ = _; rw [HP0.out]; exact if_neg (by simp [h5])
      try rw [d5]
      clear h5
      have hb4 := below_one w3 (.cells #[.int .i64 p.seq, .int .i64 p.client, .int .i64 p.num, .int .i64 p.op, .string (strB p.key), .int .i64 p.size, .int .u32 (p.sum : Int), .slice loc n c] 41)
      have HX4 := Lib.hid (HX3.out.below hb4)
      have HE4 := Lib.hid (HE3.out.trans (hb4.mono HE3.out.size))
      have HN4 := Lib.hid (ens_one (M := L.M SB R) (B := w3.heap.size) HN.out (box_new w3 _ _ _ rfl) (fun e => by have h1 := HML.out _ e; have h2 := HE3.out.size; omega) (by simp) (HK3.out.below hb4) HW.out)
      clear hb4
      go_wp2_with fail
      refine (stAdd_any (r := recLog p) HX4.out (HN4.out.imp fun x hx => ⟨IntsAt.nil (Nat.zero_le _), hx, recLog_wf HW.out⟩) rfl rfl (by omega) (by rw [List.length_map]; omega)).mono ?_
      intro e w5 hw
      have HF : Hid (RetMu w base SB R (L.M SB R) (act d rs (preLog s p) (recLog p) false).1 (act d rs (preLog s p) (recLog p) false).2 e w5) := by
        refine RetMu.bel ?_ HE4.out
        rw [HP.out]
        exact hw.mu HRUN.out HG.out (fun h => ⟨h, recLog_wf HW.out, by simp [recLog], fun _ => by simp [recLog]⟩) (fun e => by cases e)
      obtain ⟨rfl, -⟩ := hw
      generalize wq d (recLog p) false = z at *
      go_wp2
      go_ret
      exact HF.out
    · have d5 : (p.seq != q + 1) = true := by simp [h5]
      have HP : Hid (preLog s p = some 3) := by show _ = _; rw [HP0.out]; exact if_pos h5
      try rw [d5]
      have HF : Hid (RetMu w base SB R (L.M SB R) (act d rs (preLog s p) (recLog p) false).1 (act d rs (preLog s p) (recLog p) false).2 (.returned (.int .i64 3)) w3) := by
        refine RetMu.bel ?_ HE3.out
        rw [HP.out]
        exact HS3.out.told 3 (Below.refl _ _)
      clear h5
      go_wp2
      go_ret
      exact HF.out

end

end Go.Proofs.YtdgpbdedaafdiaaGreat

namespace Go.Proofs.YtdgpbdedaafdiaaGreat
open Go.RowKit



section
variable {w w' : World} {base SB R : Nat} {M : List Nat} {d : DS} {rs : List Pr} {s : Ss}

set_option maxRecDepth 100000 in
set_option maxHeartbeats 4000000 in
theorem stStage_any (c pos last : Int) (ma ea : Option Addr) (mc ec lm le : Nat) (m : List Int) (es : List Pe) (hlm : m.length = lm) (hle : es.length = le) (h : So w base SB R M d rs s) (hl : rs.length ≤ 100000) (hr : Kp M w fun x => RecAt x ma mc ea ec (recStage c m pos last es)) (h6 : es.length ≤ 6) :
    Calls Tryz.prog 21 #[.pointer (some ⟨SB, 0, none⟩), .agg #[.int .i64 c, .slice ma lm mc], .int .i64 pos, .int .i64 last, .slice ea le ec] w (RetMu w base SB R M (act d rs (preStage s c) (recStage c m pos last es) false).1 (act d rs (preStage s c) (recStage c m pos last es) false).2) := by
  have hlen := h.len
  have HLM := Lib.hid hlm
  have HLE := Lib.hid hle
  have H6 := Lib.hid h6
  have hbl := below_one w (.cells #[.int .i64 c, .slice ma lm mc] 32)
  have HB0 : Hid (Box (w.alloc (.cells #[.int .i64 c, .slice ma lm mc] 32)) w.heap.size #[.int .i64 c, .slice ma lm mc]) := box_new _ _ _ _ rfl
  have HE0 := Lib.hid hbl
  have HS := Lib.hid (h.below hbl)
  have HM := Lib.hid (hr.below hbl)
  have HW := Lib.hid hr.now.wf
  clear h hr hlm hle hbl h6
  go_enter Tryz.func21, Tryz.ntmps21
  go_wp2_with fail
  generalize (w.alloc (.cells #[.int .i64 c, .slice ma lm mc] 32)) = w0 at *
  obtain ⟨hrun, hg, L, rfl, hx⟩ := HS.out
  have HRUN := Lib.hid hrun
  have HG := Lib.hid hg
  have HX := Lib.hid hx
  have HC2 : Hid (w0.cell? ⟨SB, 2, none⟩ = some (.int .i64 s.now.epoch)) := hx.box.cell 2 _ rfl
  have HC9 : Hid (w0.cell? ⟨SB, 9, none⟩ = some (.int .i64 s.staged.epoch)) := hx.box.cell 9 _ rfl
  clear hx hg hrun
  refine wp_region_ext (by kernel_rfl) ?_
  have E0 : Hid (Ext w0 w0.drew) := (Below.refl _ w0).drew
  have hC2 : w0.drew.cell? ⟨SB, 2, none⟩ = some (.int .i64 s.now.epoch) := HC2.out
  have hC9 : w0.drew.cell? ⟨SB, 9, none⟩ = some (.int .i64 s.staged.epoch) := HC9.out
  have hY0 : w0.drew.cell? ⟨w.heap.size, 0, none⟩ = some (.int .i64 c) := (box2 HB0.out).1
  have HE2 : Hid (Below w.heap.size w w0.drew) := HE0.out.drew
  have HS2 := Lib.hid (HS.out.below E0.out)
  have HX2 := Lib.hid (HX.out.below E0.out)
  have HM2 := Lib.hid (HM.out.below E0.out)
  have HB2 := Lib.hid (HB0.out.below E0.out)
  clear HS HX HM HB0 HC2 HC9 HE0
  generalize w0.drew = w2 at *
  refine wpAnyH_tk (i := 0) 13 (v := ?_) rfl rfl (by kernel_rfl) (by kernel_rfl) (by kernel_rfl) (by rfl) (fun wq hwq => ?_) ?_
  rotate_left
  · (go_simp <;> with_reducible rfl)
  simp only [List.setIfInBounds_toArray, List.set_cons_zero, List.set_cons_succ]
  refine wpAnyH_tk (i := 1) 14 (v := ?_) rfl rfl (by kernel_rfl) (by kernel_rfl) (by kernel_rfl) (by rfl) (fun wq hwq => ?_) ?_
  rotate_left
  · (have hx := cell_later hwq hY0; go_simp <;> with_reducible rfl)
  simp only [List.setIfInBounds_toArray, List.set_cons_zero, List.set_cons_succ]
  refine wpAnyH_tk (i := 2) 15 (v := ?_) rfl rfl (by kernel_rfl) (by kernel_rfl) (by kernel_rfl) (by rfl) (fun wq hwq => ?_) ?_
  rotate_left
  · (go_simp <;> with_reducible rfl)
  simp only [List.setIfInBounds_toArray, List.set_cons_zero, List.set_cons_succ]
  refine wpAnyH_tk (i := 3) 16 (v := ?_) rfl rfl (by kernel_rfl) (by kernel_rfl) (by kernel_rfl) (by rfl) (fun wq hwq => ?_) ?_
  rotate_left
  · (go_simp <;> with_reducible rfl)
  simp only [List.setIfInBounds_toArray, List.set_cons_zero, List.set_cons_succ]
  refine wpAnyH_tk (i := 4) 17 (v := ?_) rfl rfl (by kernel_rfl) (by kernel_rfl) (by kernel_rfl) (by rfl) (fun wq hwq => ?_) ?_
  rotate_left
  · (go_simp <;> with_reducible rfl)
  simp only [List.setIfInBounds_toArray, List.set_cons_zero, List.set_cons_succ]
  refine wpAnyH_tk (i := 5) 18 (v := ?_) rfl rfl (by kernel_rfl) (by kernel_rfl) (by kernel_rfl) (by rfl) (fun wq hwq => ?_) ?_
  rotate_left
  · (go_simp <;> with_reducible rfl)
  simp only [List.setIfInBounds_toArray, List.set_cons_zero, List.set_cons_succ]
  refine wpAnyH_tk (i := 6) 19 (v := ?_) rfl rfl (by kernel_rfl) (by kernel_rfl) (by kernel_rfl) (by rfl) (fun wq hwq => ?_) ?_
  rotate_left
  · (go_simp <;> with_reducible rfl)
  simp only [List.setIfInBounds_toArray, List.set_cons_zero, List.set_cons_succ]
  refine wpAnyH_tk (i := 7) 20 (v := ?_) rfl rfl (by kernel_rfl) (by kernel_rfl) (by kernel_rfl) (by rfl) (fun wq hwq => ?_) ?_
  rotate_left
  · (have hx := cell_later hwq hC2; go_simp <;> with_reducible rfl)
  simp only [List.setIfInBounds_toArray, List.set_cons_zero, List.set_cons_succ]
  refine wpAnyH_tk (i := 8) 21 (v := ?_) rfl rfl (by kernel_rfl) (by kernel_rfl) (by kernel_rfl) (by rfl) (fun wq hwq => ?_) ?_
  rotate_left
  · (go_simp <;> with_reducible rfl)
  simp only [List.setIfInBounds_toArray, List.set_cons_zero, List.set_cons_succ]
  refine wpAnyH_tk (i := 9) 22 (v := ?_) rfl rfl (by kernel_rfl) (by kernel_rfl) (by kernel_rfl) (by rfl) (fun wq hwq => ?_) ?_
  rotate_left
  · (go_simp <;> with_reducible rfl)
  simp only [List.setIfInBounds_toArray, List.set_cons_zero, List.set_cons_succ]
  refine wpAnyH_tk (i := 10) 23 (v := ?_) rfl rfl (by kernel_rfl) (by kernel_rfl) (by kernel_rfl) (by rfl) (fun wq hwq => ?_) ?_
  rotate_left
  · (go_simp <;> with_reducible rfl)
  simp only [List.setIfInBounds_toArray, List.set_cons_zero, List.set_cons_succ]
  refine wpAnyH_tk (i := 11) 24 (v := ?_) rfl rfl (by kernel_rfl) (by kernel_rfl) (by kernel_rfl) (by rfl) (fun wq hwq => ?_) ?_
  rotate_left
  · (go_simp <;> with_reducible rfl)
  simp only [List.setIfInBounds_toArray, List.set_cons_zero, List.set_cons_succ]
  refine wpAnyH_tk (i := 12) 25 (v := ?_) rfl rfl (by kernel_rfl) (by kernel_rfl) (by kernel_rfl) (by rfl) (fun wq hwq => ?_) ?_
  rotate_left
  · (go_simp <;> with_reducible rfl)
  simp only [List.setIfInBounds_toArray, List.set_cons_zero, List.set_cons_succ]
  refine wpAnyH_tk (i := 13) 26 (v := ?_) rfl rfl (by kernel_rfl) (by kernel_rfl) (by kernel_rfl) (by rfl) (fun wq hwq => ?_) ?_
  rotate_left
  · (have hx := cell_later hwq hC9; go_simp <;> with_reducible rfl)
  simp only [List.setIfInBounds_toArray, List.set_cons_zero, List.set_cons_succ]
  have HPD : Hid (preStage s c = if c ≤ s.now.epoch ∨ c ≤ s.staged.epoch then some 8 else none) := rfl
  generalize s.now.epoch = q1 at *
  generalize s.staged.epoch = q2 at *
  obtain ⟨q, hq, hqv⟩ : ∃ q : Int, (∀ x : Int, x ≤ q ↔ x ≤ q1 ∨ x ≤ q2) ∧ q = (if q1 < q2 then q2 else q1) := ⟨_, fun x => by split <;> omega, rfl⟩
  have HQ := Lib.hid hq
  clear hq
  refine wpAnyH_tk (i := 14) 27 (v := .int .i64 q) rfl rfl (by kernel_rfl) (by kernel_rfl) (by kernel_rfl) (by rfl) (fun wq hwq => ?_) ?_
  · rw [hqv]
    go_simp
  simp only [List.setIfInBounds_toArray, List.set_cons_zero, List.set_cons_succ]
  clear hqv
  refine wpAnyH_tk (i := 15) 28 (v := ?_) rfl rfl (by kernel_rfl) (by kernel_rfl) (by kernel_rfl) (by rfl) (fun wq hwq => ?_) ?_
  rotate_left
  · (go_simp <;> with_reducible rfl)
  simp only [List.setIfInBounds_toArray, List.set_cons_zero, List.set_cons_succ]
  refine wpAnyH_done (by kernel_rfl) ?_ _
  refine NoPanic.normal ?_
  obtain ⟨y0, y1⟩ := box2 HB2.out
  clear hC2 hC9 hY0
  by_cases h0 : c ≤ q
  · have d0 : decide (c ≤ q) = true := decide_eq_true h0
    rw [d0]
    have HP : Hid (preStage s c = some 8) := by show _ = _; rw [HPD.out]; exact if_pos ((HQ.out c).1 h0)
    have HF : Hid (RetMu w base SB R (L.M SB R) (act d rs (preStage s c) (recStage c m pos last es) false).1 (act d rs (preStage s c) (recStage c m pos last es) false).2 (.returned (.int .i64 8)) w2) := by
      refine RetMu.bel ?_ HE2.out
      rw [HP.out]
      exact HS2.out.told 8 (Below.refl _ _)
    clear h0 d0
    go_wp2
    go_ret
    exact HF.out
  · have d0 : decide (c ≤ q) = false := decide_eq_false h0
    rw [d0]
    have HP : Hid (preStage s c = none) := by show _ = _; rw [HPD.out]; exact if_neg fun e => h0 ((HQ.out c).2 e)
    clear h0 d0
    go_wp2_with fail
    refine (stAdd_any (r := recStage c m pos last es) HX2.out HM2.out HLM.out HLE.out (by omega) (by rw [List.length_map]; omega)).mono ?_
    intro e w3 hw
    have HF : Hid (RetMu w base SB R (L.M SB R) (act d rs (preStage s c) (recStage c m pos last es) false).1 (act d rs (preStage s c) (recStage c m pos last es) false).2 e w3) := by
      refine RetMu.bel ?_ HE2.out
      rw [HP.out]
      exact hw.mu HRUN.out HG.out (fun h => ⟨h, HW.out, H6.out, fun e => by cases e⟩) (fun e => by cases e)
    obtain ⟨rfl, -⟩ := hw
    generalize wq d (recStage c m pos last es) false = p at *
    go_wp2
    go_ret
    exact HF.out

set_option maxRecDepth 100000 in
set_option maxHeartbeats 4000000 in
theorem stActivate_any (n : Int) (h : So w base SB R M d rs s) (hl : rs.length ≤ 100000) :
    Calls Tryz.prog 22 #[.pointer (some ⟨SB, 0, none⟩), .int .i64 n] w (RetMu w base SB R M (act d rs (preActivate s n) (recAct s) true).1 (act d rs (preActivate s n) (recAct s) true).2) := by
  have hlen := h.len
  have HOK := Lib.hid h.ok.stg
  have HS := Lib.hid h
  obtain ⟨hrun, hg, L, rfl, hx⟩ := h
  have HRUN := Lib.hid hrun
  have HG := Lib.hid hg
  have HX := Lib.hid hx
  obtain ⟨lm, hlm⟩ : ∃ q, s.staged.mem.length = q := ⟨_, rfl⟩
  obtain ⟨le, hle⟩ : ∃ q, s.staged.ents.length = q := ⟨_, rfl⟩
  have HLM := Lib.hid hlm
  have HLE := Lib.hid hle
  have c8 : w.cell? ⟨SB, 8, none⟩ = some (.int .i64 s.staged.kind) := hx.box.cell 8 _ rfl
  have c9 : w.cell? ⟨SB, 9, none⟩ = some (.int .i64 s.staged.epoch) := hx.box.cell 9 _ rfl
  have c10 : w.cell? ⟨SB, 10, none⟩ = some (.slice L.xa lm L.xc) := hx.box.cell 10 _ (by rw [← hlm]; rfl)
  have c11 : w.cell? ⟨SB, 11, none⟩ = some (.int .i64 s.staged.pos) := hx.box.cell 11 _ rfl
  have c12 : w.cell? ⟨SB, 12, none⟩ = some (.int .i64 s.staged.last) := hx.box.cell 12 _ rfl
  have c13 : w.cell? ⟨SB, 13, none⟩ = some (.slice L.ya le L.yc) := hx.box.cell 13 _ (by rw [← hle]; rfl)
  have HZ0 : Hid (Bx (w.alloc (.cells #[.int .i64 0, .int .i64 0, .slice none 0 0, .int .i64 0, .int .i64 0, .slice none 0 0] 35)) w.heap.size 35 #[.int .i64 0, .int .i64 0, .slice none 0 0, .int .i64 0, .int .i64 0, .slice none 0 0]) := bx_new8 _ _ _
  have HE0 := Lib.hid (below_one w (.cells #[.int .i64 0, .int .i64 0, .slice none 0 0, .int .i64 0, .int .i64 0, .slice none 0 0] 35))
  clear hx hg hrun hlm hle
  go_enter Tryz.func22, Tryz.ntmps22
  by_cases h0 : n < 1 ∨ n ≠ s.staged.epoch
  · have HP : Hid (preActivate s n = some 8) := if_pos h0
    have HF : Hid (RetMu w base SB R (L.M SB R) (act d rs (preActivate s n) (recAct s) true).1 (act d rs (preActivate s n) (recAct s) true).2 (.returned (.int .i64 8)) w) := by
      rw [HP.out]
      exact HS.out.told 8 (Below.refl _ _)
    by_cases h1 : n < 1
    · have d1 : decide (n < 1) = true := decide_eq_true h1
      clear h0 h1
      go_wp2
      go_ret
      exact HF.out
    · have d1 : decide (n < 1) = false := decide_eq_false h1
      have d2 : (n != s.staged.epoch) = true := by
        rcases h0 with h | h
        · exact absurd h h1
        · simp [h]
      clear h0 h1
      go_wp2
      go_ret
      exact HF.out
  · have h1 : ¬ n < 1 := fun e => h0 (.inl e)
    have h2 : n = s.staged.epoch := Decidable.byContradiction fun e => h0 (.inr e)
    have d1 : decide (n < 1) = false := decide_eq_false h1
    have d2 : (n != s.staged.epoch) = false := by simp [h2]
    have HP : Hid (preActivate s n = none) := if_neg h0
    have HGR : Hid (Gr s.staged) := by
      rcases HOK.out with e | e
      · rw [e] at h2
        exact absurd (show n < 1 by rw [h2]; decide) h1
      · exact e.1
    clear h0 h1 h2
    go_wp2_with (refine wpList_st 35 6 w.heap.size 0 35 #[.int .i64 s.staged.kind, .int .i64 s.staged.epoch, .slice L.xa lm L.xc, .int .i64 s.staged.pos, .int .i64 s.staged.last, .slice L.ya le L.yc] _ #[.int .i64 s.staged.kind, .int .i64 s.staged.epoch, .slice L.xa lm L.xc, .int .i64 s.staged.pos, .int .i64 s.staged.last, .slice L.ya le L.yc] (.tmp 5) (.tmp 23) rfl rfl rfl rfl rfl (by kernel_rfl) rfl HZ0.out (by show 6 ≤ 6; omega) (by simp [Value.oneCell']) rfl ?_; intro w2 hb2 hc2; have f0 := hb2.free 0; have k0 := hb2.cell 0 (.int .i64 s.staged.kind) rfl; have k1 := hb2.cell 1 (.int .i64 s.staged.epoch) rfl; have k2 := hb2.cell 2 (.slice L.xa lm L.xc) rfl; have k3 := hb2.cell 3 (.int .i64 s.staged.pos) rfl; have k4 := hb2.cell 4 (.int .i64 s.staged.last) rfl; have k5 := hb2.cell 5 (.slice L.ya le L.yc) rfl; have HB3 := Lib.hid (hb2.set (C' := #[.int .i64 4, .int .i64 s.staged.epoch, .slice L.xa lm L.xc, .int .i64 s.staged.pos, .int .i64 s.staged.last, .slice L.ya le L.yc]) 0 (.int .i64 4) rfl); have HE3 : Hid (Below w.heap.size w (w2.setCell ⟨w.heap.size, 0, none⟩ (.int .i64 4))) := (hc2.trans (chg_set1 w2 w.heap.size 0 (.int .i64 4))).below HE0.out HE0.out.size (by simp); have HX3 := Lib.hid (HX.out.below HE3.out); clear hc2 hb2 c8 c9 c10 c11 c12 c13)
    generalize (w2.setCell ⟨w.heap.size, 0, none⟩ (.int .i64 4)) = w3 at *
    refine (stRenew_any (r := recAct s) HX3.out (HX3.out.stg.imp fun x hx => ⟨hx.mem, hx.ents, (gr_four HGR.out).wf⟩) HLM.out HLE.out (by omega) HGR.out.few).mono ?_
    intro e w4 hw
    have HF : Hid (RetMu w base SB R (L.M SB R) (act d rs (preActivate s n) (recAct s) true).1 (act d rs (preActivate s n) (recAct s) true).2 e w4) := by
      refine RetMu.bel ?_ HE3.out
      rw [HP.out]
      exact hw.mu HRUN.out HG.out (fun _ => gr_four HGR.out) (fun _ => rfl)
    obtain ⟨rfl, -⟩ := hw
    generalize wq d (recAct s) true = p at *
    go_wp2
    go_ret
    exact HF.out

end

end Go.Proofs.YtdgpbdedaafdiaaGreat
