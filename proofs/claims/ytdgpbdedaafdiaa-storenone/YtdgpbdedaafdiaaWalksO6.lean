/-
  store: add, renew; Log, Seal, Stage, Activate, Begin.
-/
import Derived.Test.YtdgpbdedaafdiaaWalksO5
import Derived.Deep.DeepCutAuto
namespace Go.Proofs.Ytdgpbdedaafdiaa
open Go.RowKit



theorem RetWr.below {w w0 w' : World} {base SB R : Nat} {d : DS} {cs : List (List Nat)} {s : Ss} {L : Lay} {r : Pr} {rep : Bool} {e : Ending} (h : RetWr w0 base SB R d cs s L r rep e w') (hb : Below w.heap.size w w0) : RetWr w base SB R d cs s L r rep e w' := by
  obtain ⟨h1, L', h2, h3⟩ := h
  exact ⟨h1, L', h2, (Mv.of_below _ hb).trans h3⟩

section
variable {w : World} {base SB R : Nat} {d : DS} {cs : List (List Nat)} {s : Ss} {L : Lay} {ma ea : Option Addr} {mc ec lm le : Nat} {r : Pr}

set_option maxRecDepth 100000 in
set_option maxHeartbeats 4000000 in
theorem stAdd_any (h : SoX w base SB R d cs s L) (hr : Kp (L.M SB R) w fun x => RecAt x ma mc ea ec r) (hlm : r.mem.length = lm) (hle : r.ents.length = le) (hs : s.now.ents.length ≤ 900000) (hcl : cs.length ≤ 1000000) :
    Calls Try.prog 35 #[.pointer (some ⟨SB, 0, none⟩), .agg #[.int .i64 r.kind, .int .i64 r.epoch, .slice ma lm mc, .int .i64 r.pos, .int .i64 r.last, .slice ea le ec]] w (RetWr w base SB R d cs s L r false) := by
  have HLM := Lib.hid hlm
  have HLE := Lib.hid hle
  have HX := Lib.hid h
  have hbl := below_one w (.cells #[.int .i64 r.kind, .int .i64 r.epoch, .slice ma lm mc, .int .i64 r.pos, .int .i64 r.last, .slice ea le ec] 38)
  have HB0 : Hid (Box (w.alloc (.cells #[.int .i64 r.kind, .int .i64 r.epoch, .slice ma lm mc, .int .i64 r.pos, .int .i64 r.last, .slice ea le ec] 38)) w.heap.size #[.int .i64 r.kind, .int .i64 r.epoch, .slice ma lm mc, .int .i64 r.pos, .int .i64 r.last, .slice ea le ec]) := box_new _ _ _ _ rfl
  have HE0 := Lib.hid hbl
  have HX1 := Lib.hid (h.below hbl)
  have HK1 := Lib.hid (hr.below hbl)
  clear h hr hlm hle hbl
  go_enter Try.func35, Try.ntmps35
  go_wp2_with fail
  generalize (w.alloc (.cells #[.int .i64 r.kind, .int .i64 r.epoch, .slice ma lm mc, .int .i64 r.pos, .int .i64 r.last, .slice ea le ec] 38)) = w0 at *
  refine wp_region_S2 (fun x => Box x w.heap.size #[.int .i64 r.kind, .int .i64 r.epoch, .slice ma lm mc, .int .i64 r.pos, .int .i64 r.last, .slice ea le ec]) (by kernel_rfl) ?_
  have hSw : Box w0.drew w.heap.size #[.int .i64 r.kind, .int .i64 r.epoch, .slice ma lm mc, .int .i64 r.pos, .int .i64 r.last, .slice ea le ec] := HB0.out
  have hbd : Below w0.heap.size w0 w0.drew := Below.drew (Below.refl _ w0)
  have HX2 := Lib.hid (HX1.out.below hbd)
  have HK2 := Lib.hid (HK1.out.below hbd)
  have HE2 : Hid (Below w.heap.size w w0.drew) := HE0.out.drew
  clear hbd HX1 HK1 HB0
  generalize w0.drew = w2 at *
  refine wpAnyH_tkS2 (i := 0) 5 (v := ?_) rfl rfl (by kernel_rfl) (by kernel_rfl) (by kernel_rfl) (by rfl) hSw (fun wq hwq => ?_) ?_
  rotate_left
  · (have hx := True.intro; go_simp <;> with_reducible rfl)
  simp only [List.setIfInBounds_toArray, List.set_cons_zero, List.set_cons_succ]
  refine wpAnyH_tkS2 (i := 1) 6 (v := ?_) rfl rfl (by kernel_rfl) (by kernel_rfl) (by kernel_rfl) (by rfl) hSw (fun wq hwq => ?_) ?_
  rotate_left
  · (obtain ⟨y0, y1, y2, y3, y4, y5⟩ := box6 hwq; go_simp <;> with_reducible rfl)
  simp only [List.setIfInBounds_toArray, List.set_cons_zero, List.set_cons_succ]
  refine wpAnyH_tkS2 (i := 2) 7 (v := ?_) rfl rfl (by kernel_rfl) (by kernel_rfl) (by kernel_rfl) (by rfl) hSw (fun wq hwq => ?_) ?_
  rotate_left
  · (have hx := True.intro; go_simp <;> with_reducible rfl)
  simp only [List.setIfInBounds_toArray, List.set_cons_zero, List.set_cons_succ]
  refine wpAnyH_tkS2 (i := 3) 8 (v := ?_) rfl rfl (by kernel_rfl) (by kernel_rfl) (by kernel_rfl) (by rfl) hSw (fun wq hwq => ?_) ?_
  rotate_left
  · (have hx := True.intro; go_simp <;> with_reducible rfl)
  simp only [List.setIfInBounds_toArray, List.set_cons_zero, List.set_cons_succ]
  refine wpAnyH_tkS2 (i := 4) 9 (v := ?_) rfl rfl (by kernel_rfl) (by kernel_rfl) (by kernel_rfl) (by rfl) hSw (fun wq hwq => ?_) ?_
  rotate_left
  · (have hx := True.intro; go_simp <;> with_reducible rfl)
  simp only [List.setIfInBounds_toArray, List.set_cons_zero, List.set_cons_succ]
  have c0 : w2.cell? ⟨SB, 0, none⟩ = some (.pointer (some ⟨L.RB, 0, none⟩)) := HX2.out.box.cell 0 _ rfl
  refine wpAnyH_oneS2 (i := 5) rfl (by kernel_rfl) (by rfl) (fun K hK => ?_)
  go_simp
  refine hK.out _ _ (fun x => Box x w.heap.size #[.int .i64 r.kind, .int .i64 r.epoch, .slice ma lm mc, .int .i64 r.pos, .int .i64 r.last, .slice ea le ec]) (fun _ h => h) (hSw) ?_
  clear hK K
  refine wpAnyH_tkS2 (i := 6) 11 (v := ?_) rfl rfl (by kernel_rfl) (by kernel_rfl) (by kernel_rfl) (by rfl) hSw (fun wq hwq => ?_) ?_
  rotate_left
  · (have hx := True.intro; go_simp <;> with_reducible rfl)
  simp only [List.setIfInBounds_toArray, List.set_cons_zero, List.set_cons_succ]
  refine wpAnyH_oneS2 (i := 7) rfl (by kernel_rfl) (by rfl) (fun K hK => ?_)
  go_simp
  refine (write_app HX2.out HK2.out HLM.out HLE.out hs hcl).mono ?_
  intro e w3 hw
  have hS3 : Box w3 w.heap.size #[.int .i64 r.kind, .int .i64 r.epoch, .slice ma lm mc, .int .i64 r.pos, .int .i64 r.last, .slice ea le ec] := fun j v hv => by
    obtain ⟨_, L', _, hm⟩ := hw
    exact hm.chg.cell (hSw j v hv) fun e => Nat.lt_irrefl _ (HX.out.mLt (g := w.heap.size) e).2
  have HF := Lib.hid (hw.below HE2.out)
  obtain ⟨rfl, -⟩ := hw
  generalize wq d r false = p at *
  refine hK.out _ _ (fun x => Box x w.heap.size #[.int .i64 r.kind, .int .i64 r.epoch, .slice ma lm mc, .int .i64 r.pos, .int .i64 r.last, .slice ea le ec]) (fun _ h => h) (hS3) ?_
  clear hK K
  clear hSw c0
  have hSw := hS3
  refine wpAnyH_tkS2 (i := 8) 4 (v := ?_) rfl rfl (by kernel_rfl) (by kernel_rfl) (by kernel_rfl) (by rfl) hSw (fun wq hwq => ?_) ?_
  rotate_left
  · (have hx := True.intro; go_simp <;> with_reducible rfl)
  simp only [List.setIfInBounds_toArray, List.set_cons_zero, List.set_cons_succ]
  refine wpAnyH_done (by kernel_rfl) ?_ _
  refine NoPanic.normal ?_
  go_wp2
  go_ret
  exact HF.out

set_option maxRecDepth 100000 in
set_option maxHeartbeats 4000000 in
theorem stRenew_any (h : SoX w base SB R d cs s L) (hr : Kp (L.M SB R) w fun x => RecAt x ma mc ea ec r) (hlm : r.mem.length = lm) (hle : r.ents.length = le) (hs : s.now.ents.length ≤ 900000) (h6 : r.ents.length ≤ 6) :
    Calls Try.prog 36 #[.pointer (some ⟨SB, 0, none⟩), .agg #[.int .i64 r.kind, .int .i64 r.epoch, .slice ma lm mc, .int .i64 r.pos, .int .i64 r.last, .slice ea le ec]] w (RetWr w base SB R d cs s L r true) := by
  have HLM := Lib.hid hlm
  have HLE := Lib.hid hle
  have HX := Lib.hid h
  have hb1 := below_one w (.cells #[.pointer (some ⟨SB, 0, none⟩)] 23)
  have hb2 := below_one (w.alloc (.cells #[.pointer (some ⟨SB, 0, none⟩)] 23)) (.cells #[.int .i64 r.kind, .int .i64 r.epoch, .slice ma lm mc, .int .i64 r.pos, .int .i64 r.last, .slice ea le ec] 38)
  have HB0 : Hid (Box ((w.alloc (.cells #[.pointer (some ⟨SB, 0, none⟩)] 23)).alloc (.cells #[.int .i64 r.kind, .int .i64 r.epoch, .slice ma lm mc, .int .i64 r.pos, .int .i64 r.last, .slice ea le ec] 38)) (w.heap.size + 1) #[.int .i64 r.kind, .int .i64 r.epoch, .slice ma lm mc, .int .i64 r.pos, .int .i64 r.last, .slice ea le ec]) := box_new _ _ _ _ (by simp)
  have HCP : Hid (((w.alloc (.cells #[.pointer (some ⟨SB, 0, none⟩)] 23)).alloc (.cells #[.int .i64 r.kind, .int .i64 r.epoch, .slice ma lm mc, .int .i64 r.pos, .int .i64 r.last, .slice ea le ec] 38)).cell? ⟨w.heap.size, 0, none⟩ = some (.pointer (some ⟨SB, 0, none⟩))) := cell_later hb2 (by simp)
  have HE0 := Lib.hid (hb1.trans (hb2.mono hb1.size))
  have HX1 := Lib.hid ((h.below hb1).below hb2)
  have HK1 := Lib.hid ((hr.below hb1).below hb2)
  obtain ⟨y0, y1, y2, y3, y4, y5⟩ := box6 HB0.out
  have hcp := HCP.out
  clear h hr hlm hle hb1 hb2
  go_enter Try.func36, Try.ntmps36
  go_wp2_with fail
  generalize ((w.alloc (.cells #[.pointer (some ⟨SB, 0, none⟩)] 23)).alloc (.cells #[.int .i64 r.kind, .int .i64 r.epoch, .slice ma lm mc, .int .i64 r.pos, .int .i64 r.last, .slice ea le ec] 38)) = w0 at *
  refine (write_ren HX1.out HK1.out HLM.out HLE.out hs w.heap.size HCP.out (fun e => by have := (HX.out.bk.mLt e).2; omega) h6).mono ?_
  intro e w3 hw
  have HF := Lib.hid (hw.below HE0.out)
  obtain ⟨rfl, -⟩ := hw
  generalize wq d r true = p at *
  go_wp2
  go_ret
  exact HF.out

end

/-- What a write comes to, in records. -/
theorem RetWr.mu {w w' : World} {base SB R : Nat} {d : DS} {rs : List Pr} {s : Ss} {L : Lay} {r : Pr} {rep : Bool} {e : Ending} (hrun : runS rs = s) (hg : ∀ r ∈ rs, Gr r) (h : RetWr w base SB R d (rs.map encR) s L r rep e w') (hr : sndR r = true → Gr r) (h4 : rep = true → r.kind = 4) :
    RetMu w base SB R (L.M SB R) (wq d r rep) (nxt rs r rep (wq d r rep).1) e w' := by
  obtain ⟨h1, L', h2, h3⟩ := h
  refine ⟨h1, L'.M SB R, ?_, h3⟩
  by_cases hn : (wq d r rep).1 = 0
  · have hs : sndR r = true := by
      cases hs : sndR r
      · rw [wq_no d r rep hs] at hn; cases hn
      · rfl
    rw [if_pos hn, if_pos hn] at h2
    cases rep
    · rw [nxt_app _ _ _ hn]
      refine ⟨rfl, fun x hx => ?_, L', rfl, ?_⟩
      · rcases List.mem_append.mp hx with hx | hx
        · exact hg x hx
        · rw [List.mem_singleton.mp hx]; exact hr hs
      · rw [runS_snoc, hrun, List.map_append]
        exact h2
    · rw [nxt_rep _ _ _ hn]
      refine ⟨rfl, fun x hx => ?_, L', rfl, ?_⟩
      · rw [List.mem_singleton.mp hx]; exact hr hs
      · rw [runS_four r (h4 rfl), ← appS_four (s := s) (h4 rfl)]
        exact h2
  · rw [if_neg hn, if_neg hn] at h2
    rw [nxt_no _ _ _ _ hn]
    exact ⟨rfl, hg, L', rfl, by rw [hrun]; exact h2⟩

/-- A call: what it answers ahead of the disk, or the disk's answer. -/
def act (d : DS) (rs : List Pr) (pre : Option Int) (r : Pr) (rep : Bool) : (Int × DS) × List Pr :=
  match pre with
  | some n => ((n, d), rs)
  | none => (wq d r rep, nxt rs r rep (wq d r rep).1)

def preLog (s : Ss) (e : Pe) : Option Int := if s.now.epoch = 0 ∨ s.sealed = true then some 8 else if e.seq ≠ lastS s + 1 then some 3 else none
def preSeal (s : Ss) : Option Int := if s.now.epoch = 0 then some 8 else if s.sealed = true then some 0 else none
def preStage (s : Ss) (c : Int) : Option Int := if c ≤ s.now.epoch ∨ c ≤ s.staged.epoch then some 8 else none
def preActivate (s : Ss) (n : Int) : Option Int := if n < 1 ∨ n ≠ s.staged.epoch then some 8 else none
def preBegin (s : Ss) (c : Int) : Option Int := if c ≤ s.now.epoch then some 8 else none

def recLog (e : Pe) : Pr := ⟨1, 0, [], 0, 0, [e]⟩
def recSeal : Pr := ⟨2, 0, [], 0, 0, []⟩
def recStage (c : Int) (m : List Int) (pos last : Int) (es : List Pe) : Pr := ⟨3, c, m, pos, last, es⟩
def recAct (s : Ss) : Pr := { s.staged with kind := 4 }
def recBegin (c : Int) (m : List Int) (pos : Int) : Pr := ⟨4, c, m, pos, 0, []⟩

section
variable {w w' : World} {base SB R : Nat} {M : List Nat} {d : DS} {rs : List Pr} {s : Ss} {e : Ending}

/-- Nothing has been written. -/
theorem So.told (h : So w base SB R M d rs s) (n : Int) (hb : Below w.heap.size w w') : RetMu w base SB R M (n, d) rs (.returned (.int .i64 n)) w' :=
  ⟨rfl, M, by have := h.below hb; rw [h.1]; exact this, Mv.of_below _ hb⟩

set_option maxRecDepth 100000 in
set_option maxHeartbeats 2000000 in
theorem stSeal_any (h : So w base SB R M d rs s) (hl : rs.length ≤ 100000) : Calls Try.prog 17 #[.pointer (some ⟨SB, 0, none⟩)] w (RetMu w base SB R M (act d rs (preSeal s) recSeal false).1 (act d rs (preSeal s) recSeal false).2) := by
  have hlen := h.len
  have HS := Lib.hid h
  obtain ⟨hrun, hg, L, rfl, hx⟩ := h
  have HRUN := Lib.hid hrun
  have HG := Lib.hid hg
  have HX := Lib.hid hx
  have c2 : w.cell? ⟨SB, 2, none⟩ = some (.int .i64 s.now.epoch) := hx.box.cell 2 _ rfl
  have c7 : w.cell? ⟨SB, 7, none⟩ = some (.bool s.sealed) := hx.box.cell 7 _ rfl
  clear hx hg hrun
  go_enter Try.func17, Try.ntmps17
  by_cases h0 : s.now.epoch = 0
  · have d0 : (s.now.epoch == 0) = true := by simp [h0]
    have HP : Hid (preSeal s = some 8) := if_pos h0
    have HF : Hid (RetMu w base SB R (L.M SB R) (act d rs (preSeal s) recSeal false).1 (act d rs (preSeal s) recSeal false).2 (.returned (.int .i64 8)) w) := by
      rw [HP.out]
      exact HS.out.told 8 (Below.refl _ _)
    clear h0
    go_wp2
    go_ret
    exact HF.out
  · have d0 : (s.now.epoch == 0) = false := by simp [h0]
    cases hs : s.sealed
    · rw [hs] at c7
      have HP : Hid (preSeal s = none) := by unfold preSeal; rw [if_neg h0, if_neg (by rw [hs]; simp)]; exact rfl
      clear h0
      go_wp2_with fail
      refine (stAdd_any (r := recSeal) HX.out (fun _ x _ _ => sr_rec x) rfl rfl (by omega) (by rw [List.length_map]; omega)).mono ?_
      intro e w3 hw
      have HF : Hid (RetMu w base SB R (L.M SB R) (act d rs (preSeal s) recSeal false).1 (act d rs (preSeal s) recSeal false).2 e w3) := by
        rw [HP.out]
        exact hw.mu HRUN.out HG.out (fun h => ⟨h, sr_wf, by decide, fun e => by cases e⟩) (fun e => by cases e)
      obtain ⟨rfl, -⟩ := hw
      generalize wq d recSeal false = p at *
      go_wp2
      go_ret
      exact HF.out
    · rw [hs] at c7
      have HP : Hid (preSeal s = some 0) := by unfold preSeal; rw [if_neg h0, if_pos hs]; exact rfl
      have HF : Hid (RetMu w base SB R (L.M SB R) (act d rs (preSeal s) recSeal false).1 (act d rs (preSeal s) recSeal false).2 (.returned (.int .i64 0)) w) := by
        rw [HP.out]
        exact HS.out.told 0 (Below.refl _ _)
      clear h0
      go_wp2
      go_ret
      exact HF.out

set_option maxRecDepth 100000 in
set_option maxHeartbeats 2000000 in
theorem stBegin_any (c pos : Int) (ma : Option Addr) (mc lm : Nat) (m : List Int) (hlm : m.length = lm) (h : So w base SB R M d rs s) (hl : rs.length ≤ 100000) (hm : Kp M w fun x => IntsAt x ma mc m) (hw : (recBegin c m pos).Wf) :
    Calls Try.prog 20 #[.pointer (some ⟨SB, 0, none⟩), .agg #[.int .i64 c, .slice ma lm mc], .int .i64 pos] w (RetMu w base SB R M (act d rs (preBegin s c) (recBegin c m pos) true).1 (act d rs (preBegin s c) (recBegin c m pos) true).2) := by
  have hlen := h.len
  have HLM := Lib.hid hlm
  have hbl := below_one w (.cells #[.int .i64 c, .slice ma lm mc] 35)
  have HB0 : Hid (Box (w.alloc (.cells #[.int .i64 c, .slice ma lm mc] 35)) w.heap.size #[.int .i64 c, .slice ma lm mc]) := box_new _ _ _ _ rfl
  have HE0 := Lib.hid hbl
  have HS := Lib.hid (h.below hbl)
  have HM := Lib.hid (hm.below hbl)
  have HMU : Hid (∀ e w', RetMu (w.alloc (.cells #[.int .i64 c, .slice ma lm mc] 35)) base SB R M (act d rs (preBegin s c) (recBegin c m pos) true).1 (act d rs (preBegin s c) (recBegin c m pos) true).2 e w' → RetMu w base SB R M (act d rs (preBegin s c) (recBegin c m pos) true).1 (act d rs (preBegin s c) (recBegin c m pos) true).2 e w') := fun e w' ⟨h1, M', h2, h3⟩ => ⟨h1, M', h2, (Mv.of_below _ hbl).trans h3⟩
  have HW := Lib.hid hw
  clear h hm hlm hbl hw
  go_enter Try.func20, Try.ntmps20
  obtain ⟨y0, y1⟩ := box2 HB0.out
  go_wp2_with fail
  generalize (w.alloc (.cells #[.int .i64 c, .slice ma lm mc] 35)) = w0 at *
  obtain ⟨hrun, hg, L, rfl, hx⟩ := HS.out
  have HRUN := Lib.hid hrun
  have HG := Lib.hid hg
  have HX := Lib.hid hx
  have HC2 : Hid (w0.cell? ⟨SB, 2, none⟩ = some (.int .i64 s.now.epoch)) := hx.box.cell 2 _ rfl
  clear hx hg hrun
  refine wp_region_ext (by kernel_rfl) ?_
  have E0 : Hid (Ext w0 w0.drew) := (Below.refl _ w0).drew
  have hC2 : w0.drew.cell? ⟨SB, 2, none⟩ = some (.int .i64 s.now.epoch) := HC2.out
  have hY0 : w0.drew.cell? ⟨w.heap.size, 0, none⟩ = some (.int .i64 c) := y0
  have HS2 := Lib.hid (HS.out.below E0.out)
  have HX2 := Lib.hid (HX.out.below E0.out)
  have HM2 := Lib.hid (HM.out.below E0.out)
  have HB2 := Lib.hid (HB0.out.below E0.out)
  have HMU2 : Hid (∀ e w', RetMu w0.drew base SB R (L.M SB R) (act d rs (preBegin s c) (recBegin c m pos) true).1 (act d rs (preBegin s c) (recBegin c m pos) true).2 e w' → RetMu w base SB R (L.M SB R) (act d rs (preBegin s c) (recBegin c m pos) true).1 (act d rs (preBegin s c) (recBegin c m pos) true).2 e w') := fun e w' ⟨h1, M', h2, h3⟩ => HMU.out e w' ⟨h1, M', h2, (Mv.of_below _ E0.out).trans h3⟩
  clear HMU HS HX HM HB0 HC2 y0 y1
  generalize w0.drew = w2 at *
  refine wpAnyH_tk (i := 0) 9 (v := ?_) rfl rfl (by kernel_rfl) (by kernel_rfl) (by kernel_rfl) (by rfl) (fun wq hwq => ?_) ?_
  rotate_left
  · (go_simp <;> with_reducible rfl)
  simp only [List.setIfInBounds_toArray, List.set_cons_zero, List.set_cons_succ]
  refine wpAnyH_tk (i := 1) 10 (v := ?_) rfl rfl (by kernel_rfl) (by kernel_rfl) (by kernel_rfl) (by rfl) (fun wq hwq => ?_) ?_
  rotate_left
  · (have hx := cell_later hwq hY0; go_simp <;> with_reducible rfl)
  simp only [List.setIfInBounds_toArray, List.set_cons_zero, List.set_cons_succ]
  refine wpAnyH_tk (i := 2) 11 (v := ?_) rfl rfl (by kernel_rfl) (by kernel_rfl) (by kernel_rfl) (by rfl) (fun wq hwq => ?_) ?_
  rotate_left
  · (go_simp <;> with_reducible rfl)
  simp only [List.setIfInBounds_toArray, List.set_cons_zero, List.set_cons_succ]
  refine wpAnyH_tk (i := 3) 12 (v := ?_) rfl rfl (by kernel_rfl) (by kernel_rfl) (by kernel_rfl) (by rfl) (fun wq hwq => ?_) ?_
  rotate_left
  · (go_simp <;> with_reducible rfl)
  simp only [List.setIfInBounds_toArray, List.set_cons_zero, List.set_cons_succ]
  refine wpAnyH_tk (i := 4) 13 (v := ?_) rfl rfl (by kernel_rfl) (by kernel_rfl) (by kernel_rfl) (by rfl) (fun wq hwq => ?_) ?_
  rotate_left
  · (go_simp <;> with_reducible rfl)
  simp only [List.setIfInBounds_toArray, List.set_cons_zero, List.set_cons_succ]
  refine wpAnyH_tk (i := 5) 14 (v := ?_) rfl rfl (by kernel_rfl) (by kernel_rfl) (by kernel_rfl) (by rfl) (fun wq hwq => ?_) ?_
  rotate_left
  · (go_simp <;> with_reducible rfl)
  simp only [List.setIfInBounds_toArray, List.set_cons_zero, List.set_cons_succ]
  refine wpAnyH_tk (i := 6) 15 (v := ?_) rfl rfl (by kernel_rfl) (by kernel_rfl) (by kernel_rfl) (by rfl) (fun wq hwq => ?_) ?_
  rotate_left
  · (go_simp <;> with_reducible rfl)
  simp only [List.setIfInBounds_toArray, List.set_cons_zero, List.set_cons_succ]
  refine wpAnyH_tk (i := 7) 16 (v := ?_) rfl rfl (by kernel_rfl) (by kernel_rfl) (by kernel_rfl) (by rfl) (fun wq hwq => ?_) ?_
  rotate_left
  · (have hx := cell_later hwq hC2; go_simp <;> with_reducible rfl)
  simp only [List.setIfInBounds_toArray, List.set_cons_zero, List.set_cons_succ]
  refine wpAnyH_tk (i := 8) 17 (v := ?_) rfl rfl (by kernel_rfl) (by kernel_rfl) (by kernel_rfl) (by rfl) (fun wq hwq => ?_) ?_
  rotate_left
  · (go_simp <;> with_reducible rfl)
  simp only [List.setIfInBounds_toArray, List.set_cons_zero, List.set_cons_succ]
  refine wpAnyH_done (by kernel_rfl) ?_ _
  refine NoPanic.normal ?_
  obtain ⟨y0, y1⟩ := box2 HB2.out
  clear hC2 hY0
  by_cases h0 : c ≤ s.now.epoch
  · have d0 : decide (c ≤ s.now.epoch) = true := decide_eq_true h0
    rw [d0]
    have HP : Hid (preBegin s c = some 8) := if_pos h0
    have HF : Hid (RetMu w base SB R (L.M SB R) (act d rs (preBegin s c) (recBegin c m pos) true).1 (act d rs (preBegin s c) (recBegin c m pos) true).2 (.returned (.int .i64 8)) w2) := by
      refine HMU2.out _ _ ?_
      rw [HP.out]
      exact HS2.out.told 8 (Below.refl _ _)
    clear h0
    go_wp2
    go_ret
    exact HF.out
  · have d0 : decide (c ≤ s.now.epoch) = false := decide_eq_false h0
    rw [d0]
    have HP : Hid (preBegin s c = none) := if_neg h0
    clear h0
    go_wp2_with fail
    refine (stRenew_any (r := recBegin c m pos) HX2.out (HM2.out.imp fun x hx => ⟨hx, EnsAt.nil (Nat.zero_le _), HW.out⟩) HLM.out rfl (by omega) (Nat.zero_le _)).mono ?_
    intro e w3 hw
    have HF : Hid (RetMu w base SB R (L.M SB R) (act d rs (preBegin s c) (recBegin c m pos) true).1 (act d rs (preBegin s c) (recBegin c m pos) true).2 e w3) := by
      refine HMU2.out _ _ ?_
      rw [HP.out]
      exact hw.mu HRUN.out HG.out (fun h => ⟨h, HW.out, Nat.zero_le _, fun e => by cases e⟩) (fun _ => rfl)
    obtain ⟨rfl, -⟩ := hw
    generalize wq d (recBegin c m pos) true = p at *
    go_wp2
    go_ret
    exact HF.out

end

end Go.Proofs.Ytdgpbdedaafdiaa
