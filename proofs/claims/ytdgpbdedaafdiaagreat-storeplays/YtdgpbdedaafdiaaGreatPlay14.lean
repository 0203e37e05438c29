/-
  StorePlays, in plain words; the law's deed as one.
-/
import Derived.Test.YtdgpbdedaafdiaaGreatShown
import Derived.Deep.DeepCutAuto
namespace Go.Proofs.YtdgpbdedaafdiaaGreat
open Go.RowKit

/-- What an act writes: the record, whether all is written anew, the error ahead of the disk, and whether it writes. -/
def deedS (m : Ss) (what n : Int) (e : Pe) (r : Pr) : Pr × Bool × Int × Bool :=
  if what = 0 then (recLog e, false, if m.now.epoch = 0 ∨ m.sealed = true then 8 else if e.seq = lastS m + 1 then 0 else 3, true)
  else if what = 1 then (if m.now.epoch = 0 then (pr0, false, 8, true) else (recSeal, false, 0, !m.sealed))
  else if what = 2 then (recStage r.epoch r.mem r.pos r.last r.ents, false, if r.epoch ≤ m.now.epoch ∨ r.epoch ≤ m.staged.epoch then 8 else 0, true)
  else if what = 3 then (recAct m, true, if n < 1 ∨ m.staged.epoch ≠ n then 8 else 0, true)
  else (recBegin r.epoch r.mem r.pos, true, if r.epoch ≤ m.now.epoch then 8 else 0, true)

theorem deed_any {M : List Nat} {w : World} {B : Nat} {m : Ss} {e : Pe} {loc : Option Addr} {c lf lm le : Nat} {r : Pr} {yl : Ly} (what n : Int) (hin : DeIn M w B m e loc c r yl lf lm le) :
    Calls Tryz.prog 6 #[.pointer (some ⟨B, 0, none⟩), .agg #[.int .i64 what, .int .i64 n, .int .i64 e.seq, .int .i64 e.client, .int .i64 e.num, .int .i64 e.op, .string (strB e.key), .int .i64 e.size, .int .u32 (e.sum : Int), .slice loc lf c, .int .i64 r.kind, .int .i64 r.epoch, .slice yl.ma lm yl.mc, .int .i64 r.pos, .int .i64 r.last, .slice yl.ea le yl.ec]] w
      (RetDe M w (deedS m what n e r).1 (deedS m what n e r).2.1 (deedS m what n e r).2.2.1 (deedS m what n e r).2.2.2) := by
  have hlast := hin.last
  unfold deedS
  by_cases h0 : what = 0
  · simp only [if_pos h0]
    by_cases h1 : m.now.epoch = 0
    · rw [if_pos (.inl h1)]; exact deed_0a hin h0 h1
    · cases h2 : m.sealed
      · rw [if_neg (by simp [h1])]
        by_cases h3 : e.seq < 0
        · rw [if_neg (by omega)]; exact deed_0c hin h0 h1 h2 h3
        · by_cases h4 : e.seq = lastS m + 1
          · rw [if_pos h4]; exact deed_0e hin h0 h1 h2 h3 h4
          · rw [if_neg h4]; exact deed_0d hin h0 h1 h2 h3 h4
      · rw [if_pos (.inr rfl)]; exact deed_0b hin h0 h1 h2
  simp only [if_neg h0]
  by_cases h1 : what = 1
  · simp only [if_pos h1]
    by_cases h2 : m.now.epoch = 0
    · simp only [if_pos h2]; exact deed_1a hin h1 h2
    · simp only [if_neg h2]; exact deed_1b hin h1 h2
  simp only [if_neg h1]
  by_cases h2 : what = 2
  · simp only [if_pos h2]
    by_cases h3 : r.epoch ≤ m.now.epoch
    · rw [if_pos (.inl h3)]; exact deed_2a hin h2 h3
    · by_cases h4 : r.epoch ≤ m.staged.epoch
      · rw [if_pos (.inr h4)]; exact deed_2b hin h2 h3 h4
      · rw [if_neg (by omega)]; exact deed_2c hin h2 h3 h4
  simp only [if_neg h2]
  by_cases h3 : what = 3
  · simp only [if_pos h3]
    by_cases h4 : n < 1
    · rw [if_pos (.inl h4)]; exact deed_3a hin h3 h4
    · by_cases h5 : m.staged.epoch = n
      · rw [if_neg (by omega)]; exact deed_3c hin h3 h4 h5
      · rw [if_pos (.inr h5)]; exact deed_3b hin h3 h4 h5
  simp only [if_neg h3]
  by_cases h4 : r.epoch ≤ m.now.epoch
  · rw [if_pos h4]; exact deed_4a hin h0 h1 h2 h3 h4
  · rw [if_neg h4]; exact deed_4b hin h0 h1 h2 h3 h4

/-- The law's call is the deed. -/
theorem doA_deed (d : DS) (rs : List Pr) (m : Ss) (y : As) : doA d rs m y = act d rs (if (deedS m y.what y.n y.e y.r).2.2.1 = 0 then (if (deedS m y.what y.n y.e y.r).2.2.2 = true then none else some 0) else some (deedS m y.what y.n y.e y.r).2.2.1) (deedS m y.what y.n y.e y.r).1 (deedS m y.what y.n y.e y.r).2.1 := by
  unfold doA deedS
  by_cases h0 : y.what = 0
  · simp only [if_pos h0]
    unfold preLog
    by_cases h1 : m.now.epoch = 0 ∨ m.sealed = true
    · simp [if_pos h1]
    · by_cases h2 : y.e.seq = lastS m + 1
      · simp [if_neg h1, h2]
      · simp [if_neg h1, h2]
  simp only [if_neg h0]
  by_cases h1 : y.what = 1
  · simp only [if_pos h1]
    unfold preSeal
    by_cases h2 : m.now.epoch = 0
    · simp [if_pos h2, act]
    · cases h3 : m.sealed <;> simp [if_neg h2]
  simp only [if_neg h1]
  by_cases h2 : y.what = 2
  · simp only [if_pos h2]
    unfold preStage
    by_cases h3 : y.r.epoch ≤ m.now.epoch ∨ y.r.epoch ≤ m.staged.epoch
    · simp [if_pos h3]
    · simp [if_neg h3]
  simp only [if_neg h2]
  by_cases h3 : y.what = 3
  · simp only [if_pos h3]
    unfold preActivate
    by_cases h4 : y.n < 1 ∨ y.n ≠ m.staged.epoch
    · have h5 : y.n < 1 ∨ m.staged.epoch ≠ y.n := by omega
      simp only [if_pos h4, if_pos h5]
      simp
    · have h5 : ¬ (y.n < 1 ∨ m.staged.epoch ≠ y.n) := by omega
      simp only [if_neg h4, if_neg h5]
      simp
  simp only [if_neg h3]
  unfold preBegin
  by_cases h4 : y.r.epoch ≤ m.now.epoch
  · simp [if_pos h4]
  · simp [if_neg h4]

theorem frm_small {r : Pr} (h : Gr r) : (frm (encR r)).length ≤ 2340 := by
  have := encR_small6 r h.snd h.few
  rw [frm_len]
  omega

theorem frms_small {rs : List Pr} (h : ∀ r ∈ rs, Gr r) : (frms (rs.map encR)).length ≤ 2340 * rs.length := by
  have := encL_len frm 2340 (rs.map encR) (fun c hc => by
    obtain ⟨r, hr, rfl⟩ := List.mem_map.mp hc
    exact frm_small (h r hr))
  rwa [List.length_map] at this

/-- A deed that writes a sound record: it is one for the book, and the state behind it differs. -/
theorem deed_good {m : Ss} {what n : Int} {e : Pe} {r p : Pr} {rep : Bool} (hok : m.Ok) (hwe : e.Wf) (hwr : r.Wf) (h6 : r.ents.length ≤ 6) (h : deedS m what n e r = (p, rep, 0, true)) (hs : sndR p = true) :
    Gr p ∧ Dif (appS m p) m ∧ (rep = true → p.kind = 4) := by
  unfold deedS at h
  by_cases h0 : what = 0
  · simp only [if_pos h0] at h
    by_cases h1 : m.now.epoch = 0 ∨ m.sealed = true
    · simp [if_pos h1] at h
    · by_cases h2 : e.seq = lastS m + 1
      · simp only [if_neg h1, if_pos h2, Prod.mk.injEq, and_true] at h
        obtain ⟨rfl, rfl⟩ := h
        refine ⟨⟨hs, recLog_wf hwe, by simp [recLog], fun _ => by simp [recLog]⟩, ?_, fun e => by cases e⟩
        rw [appS_one rfl]
        exact .inr (.inl ⟨rfl, by show (m.now.ents ++ [e]).length ≠ _; rw [List.length_append]; simp⟩)
      · simp [if_neg h1, if_neg h2] at h
  simp only [if_neg h0] at h
  by_cases h1 : what = 1
  · simp only [if_pos h1] at h
    by_cases h2 : m.now.epoch = 0
    · simp [if_pos h2] at h
    · simp only [if_neg h2, Prod.mk.injEq, true_and] at h
      obtain ⟨rfl, rfl, h3⟩ := h
      refine ⟨⟨hs, sr_wf, by decide, fun e => by cases e⟩, ?_, fun e => by cases e⟩
      rw [appS_two rfl]
      refine .inr (.inr (.inl ?_))
      show true ≠ m.sealed
      cases hh : m.sealed
      · simp
      · rw [hh] at h3; cases h3
  simp only [if_neg h1] at h
  by_cases h2 : what = 2
  · simp only [if_pos h2] at h
    by_cases h3 : r.epoch ≤ m.now.epoch ∨ r.epoch ≤ m.staged.epoch
    · simp [if_pos h3] at h
    · simp only [if_neg h3, Prod.mk.injEq, and_true] at h
      obtain ⟨rfl, rfl⟩ := h
      refine ⟨⟨hs, recStage_wf hwr, h6, fun e => by cases e⟩, ?_, fun e => by cases e⟩
      rw [appS_three rfl]
      exact .inr (.inr (.inr (by show r.epoch ≠ _; omega)))
  simp only [if_neg h2] at h
  by_cases h3 : what = 3
  · simp only [if_pos h3] at h
    by_cases h4 : n < 1 ∨ m.staged.epoch ≠ n
    · simp [if_pos h4] at h
    · simp only [if_neg h4, Prod.mk.injEq, and_true] at h
      obtain ⟨rfl, rfl⟩ := h
      have hg : Gr m.staged := by
        rcases hok.stg with e | e
        · exfalso
          rw [e] at h4
          have : pr0.epoch = 0 := rfl
          omega
        · exact e.1
      refine ⟨gr_four hg, ?_, fun _ => rfl⟩
      rw [appS_four rfl]
      exact .inr (.inr (.inr (by show (0 : Int) ≠ _; omega)))
  simp only [if_neg h3] at h
  by_cases h4 : r.epoch ≤ m.now.epoch
  · simp [if_pos h4] at h
  · simp only [if_neg h4, Prod.mk.injEq, and_true] at h
    obtain ⟨rfl, rfl⟩ := h
    refine ⟨⟨hs, recBegin_wf hwr, Nat.zero_le _, fun e => by cases e⟩, ?_, fun _ => rfl⟩
    rw [appS_four rfl]
    exact .inl (by show r.epoch ≠ _; omega)

/-- Where the law stands: in step, or behind a write that was torn. -/
structure Ph (k : Nat) (d : DS) (rs : List Pr) (m W : Ss) (dn tn : Bool) : Prop where
  room : d.room = 1048576
  how : (dn = false ∧ d.off = false ∧ d.torn = tn ∧ d.ps = frms (rs.map encR) ∧ W = m) ∨
    (dn = true ∧ d.off = true ∧ ∃ rs2 : List Pr, (runS rs2 = m ∨ (runS rs2 = W ∧ Dif W m)) ∧ (∀ r ∈ rs2, Gr r) ∧ rs2.length ≤ k ∧ ∀ cs rest, Vld d.ps cs rest → cs = rs2.map encR)

section
variable {k : Nat} {d : DS} {rs : List Pr} {m W : Ss} {dn tn : Bool}

theorem Ph.next (h : Ph k d rs m W dn tn) : Ph (k + 1) d rs m W dn tn := ⟨h.room, by
  rcases h.how with h | ⟨h1, h2, rs2, h3, h4, h5, h6⟩
  · exact .inl h
  · exact .inr ⟨h1, h2, rs2, h3, h4, by omega, h6⟩⟩

theorem Ph.tear (h : Ph k d rs m W dn tn) (n : Nat) : Ph (k + 1) { d with torn := true, lim := n } rs m W dn true := ⟨h.room, by
  rcases h.how with ⟨h1, h2, h3, h4, h5⟩ | ⟨h1, h2, rs2, h3, h4, h5, h6⟩
  · exact .inl ⟨h1, h2, rfl, h4, h5⟩
  · exact .inr ⟨h1, h2, rs2, h3, h4, by omega, h6⟩⟩

theorem put_gr {rs : List Pr} {p : Pr} {rep : Bool} (hg : ∀ r ∈ rs, Gr r) (hp : Gr p) : ∀ r ∈ put rs p rep, Gr r := fun r hr => by
  unfold put at hr
  cases rep
  · rcases List.mem_append.mp hr with h | h
    · exact hg r h
    · rw [List.mem_singleton.mp h]; exact hp
  · have : r = p := by simpa using hr
    rw [this]; exact hp

theorem put_run {rs : List Pr} {p : Pr} {rep : Bool} (hr : runS rs = m) (h4 : rep = true → p.kind = 4) : runS (put rs p rep) = appS m p := by
  unfold put
  cases rep
  · show runS (rs ++ [p]) = _
    rw [runS_snoc, hr]
  · show runS [p] = _
    rw [runS_four p (h4 rfl), appS_four (h4 rfl)]

theorem put_len (rs : List Pr) (p : Pr) (rep : Bool) : (put rs p rep).length ≤ rs.length + 1 := by
  unfold put
  cases rep
  · show (rs ++ [p]).length ≤ _; rw [List.length_append]; simp
  · show [p].length ≤ _; simp

theorem frms_put (rs : List Pr) (p : Pr) : frms (rs.map encR) ++ frm (encR p) = frms ((rs ++ [p]).map encR) := by
  rw [List.map_append, List.map_cons, List.map_nil, frms_snoc]

/-- The power is off. -/
theorem Ph.off {p : Pr} {rep : Bool} (h : Ph k d rs m W true tn) (hs : sndR p = true) : wq d p rep = (6, d) := by
  rcases h.how with ⟨h1, _⟩ | ⟨_, h2, _⟩
  · cases h1
  · rw [wq_yes _ _ _ hs]
    unfold wrt
    rw [h2]
    rfl

theorem Ph.room_ok {p : Pr} {rep : Bool} (h : Ph k d rs m W false tn) (hg : ∀ r ∈ rs, Gr r) (hp : Gr p) (hl : rs.length ≤ 100) : ¬ d.room < (if rep = true then 0 else d.ps.length) + (frm (encR p)).length := by
  have h1 := frms_small hg
  have h2 := frm_small hp
  rcases h.how with ⟨_, _, _, h3, _⟩ | ⟨h1, _⟩
  · rw [h.room, h3]
    split <;> omega
  · cases h1

/-- A write that is done. -/
theorem Ph.done {p : Pr} {rep : Bool} (h : Ph k d rs m W false false) (hg : ∀ r ∈ rs, Gr r) (hp : Gr p) (hl : rs.length ≤ 100) :
    (wq d p rep).1 = 0 ∧ Ph (k + 1) (wq d p rep).2 (put rs p rep) (appS m p) (appS m p) false false := by
  have hroom := h.room_ok (rep := rep) hg hp hl
  rcases h.how with ⟨_, h2, h3, h4, _⟩ | ⟨h1, _⟩
  · have hr := h.room
    rw [wq_yes _ _ _ hp.snd]
    unfold wrt
    cases rep
    · simp only [h2, h3, Bool.false_eq_true, if_false] at hroom ⊢
      rw [if_neg hroom]
      exact ⟨rfl, hr, .inl ⟨rfl, rfl, rfl, by show d.ps ++ _ = _; rw [h4, frms_put]; rfl, rfl⟩⟩
    · simp only [h2, h3, Bool.false_eq_true, if_false, if_true] at hroom ⊢
      rw [if_neg hroom]
      exact ⟨rfl, hr, .inl ⟨rfl, rfl, rfl, by show [] ++ _ = frms ([p].map encR); rw [List.nil_append, List.map_cons, List.map_nil, frms_one], rfl⟩⟩
  · cases h1

/-- A write that is torn. -/
theorem Ph.tears {p : Pr} {rep : Bool} (h : Ph k d rs m W false true) (hm : runS rs = m) (hg : ∀ r ∈ rs, Gr r) (hp : Gr p) (hl : rs.length ≤ k) (hk : k ≤ 100) (h4 : rep = true → p.kind = 4) (hd : Dif (appS m p) m) :
    (wq d p rep).1 = 6 ∧ Ph (k + 1) (wq d p rep).2 rs m (appS m p) true false := by
  have hroom := h.room_ok (rep := rep) hg hp (by omega)
  have hps := put_gr (rep := rep) hg hp
  have hrun := put_run hm h4
  have hlen := put_len rs p rep
  have hwhole : ∀ (qs : List Pr), (∀ r ∈ qs, Gr r) → ∀ b, b = frms (qs.map encR) → ∀ cs rest, Vld b cs rest → cs = qs.map encR := fun qs hq b e cs rest hv => by
    rw [e] at hv
    exact (vld_whole _ _ _ (gr_good hq) hv).1
  rcases h.how with ⟨_, h2, h3, h5, _⟩ | ⟨h1, _⟩
  · have hr := h.room
    rw [wq_yes _ _ _ hp.snd]
    unfold wrt
    cases rep
    · simp only [h2, h3, Bool.false_eq_true, if_false, if_true] at hroom ⊢
      rw [if_neg hroom]
      refine ⟨rfl, hr, .inr ⟨rfl, rfl, ?_⟩⟩
      by_cases hlim : (frm (encR p)).length ≤ d.lim
      · refine ⟨put rs p false, .inr ⟨hrun, hd⟩, hps, by omega, hwhole _ hps _ ?_⟩
        show (if (frm (encR p)).length ≤ d.lim then d.ps ++ frm (encR p) else d.ps ++ (frm (encR p)).take d.lim) = _
        rw [if_pos hlim, h5, frms_put]
        rfl
      · refine ⟨rs, .inl hm, hg, by omega, fun cs rest hv => ?_⟩
        have hv' : Vld (frms (rs.map encR) ++ (frm (encR p)).take d.lim) cs rest := by
          have e : (if (frm (encR p)).length ≤ d.lim then d.ps ++ frm (encR p) else d.ps ++ (frm (encR p)).take d.lim) = frms (rs.map encR) ++ (frm (encR p)).take d.lim := by rw [if_neg hlim, h5]
          rw [← e]
          exact hv
        exact (vld_torn _ _ _ (encR p) d.lim (gr_good hg) (enc_good p hp.wf hp.snd).2 (by rw [frm_len] at hlim; omega) hv').1
    · simp only [h2, h3, Bool.false_eq_true, if_false, if_true] at hroom ⊢
      rw [if_neg hroom]
      refine ⟨rfl, hr, .inr ⟨rfl, rfl, ?_⟩⟩
      by_cases hlim : (frm (encR p)).length ≤ d.lim
      · refine ⟨put rs p true, .inr ⟨hrun, hd⟩, hps, by omega, hwhole _ hps _ ?_⟩
        show (if (frm (encR p)).length ≤ d.lim then [] ++ frm (encR p) else d.ps) = frms ([p].map encR)
        rw [if_pos hlim, List.nil_append, List.map_cons, List.map_nil, frms_one]
      · refine ⟨rs, .inl hm, hg, by omega, hwhole _ hg _ ?_⟩
        show (if (frm (encR p)).length ≤ d.lim then [] ++ frm (encR p) else d.ps) = _
        rw [if_neg hlim, h5]
  · cases h1

/-- The power comes back: the records that are there. -/
theorem Ph.start (h : Ph k d rs m W dn tn) (hm : runS rs = m) (hg : ∀ r ∈ rs, Gr r) (hl : rs.length ≤ k) :
    ∃ rs2 : List Pr, (runS rs2 = m ∨ (runS rs2 = W ∧ Dif W m)) ∧ (∀ r ∈ rs2, Gr r) ∧ rs2.length ≤ k ∧ (∀ cs rest, Vld d.ps cs rest → cs = rs2.map encR) ∧ ∀ t, Ph (k + 1) { d with off := false, torn := false, ps := frms (rs2.map encR) } rs2 t t false false := by
  rcases h.how with ⟨_, _, _, h4, _⟩ | ⟨h1, h2, rs2, h3, h4, h5, h6⟩
  · exact ⟨rs, .inl hm, hg, hl, fun cs rest hv => by rw [h4] at hv; exact (vld_whole _ _ _ (gr_good hg) hv).1, fun t => ⟨h.room, .inl ⟨rfl, rfl, rfl, rfl, rfl⟩⟩⟩
  · exact ⟨rs2, h3, h4, h5, h6, fun t => ⟨h.room, .inl ⟨rfl, rfl, rfl, rfl, rfl⟩⟩⟩

end

section
variable {w w' : World} {base SB R : Nat} {M : List Nat} {d : DS} {rs : List Pr} {s : Ss}

theorem So.fit (h : So w base SB R M d rs s) (hl : rs.length ≤ 50) : Fit s :=
  ⟨h.ok.wf, h.mem, by have := h.len; omega, fun e he => sndE_lens e (h.ok.ents e he)⟩

/-- A store's disk is opened anew. -/
theorem stOpen_ph (h : So w base SB R M d rs s) (ho : d.off = false) (ht : d.torn = false) {rs2 : List Pr} (hg : ∀ r ∈ rs2, Gr r) (hl : rs2.length ≤ 100000) (hv : ∀ cs rest, Vld d.ps cs rest → cs = rs2.map encR) :
    Calls Tryz.prog 5 #[.pointer (some ⟨R, 0, none⟩)] w fun e w' => ∃ TB M', e = .returned (.tuple #[.pointer (some ⟨TB, 0, none⟩), .int .i64 0]) ∧ So w' base TB R M' { d with ps := frms (rs2.map encR) } rs2 (runS rs2) ∧ Mv w w' M M' := by
  obtain ⟨hrun, hg0, L, rfl, hx⟩ := h
  refine (stOpen_any base R L.a d w hx.bk.dsk ho ht fun cs rest hv' => ?_).mono ?_
  · exact ⟨rs2, hv cs rest hv', hg, hl⟩
  · rintro e w' ⟨TB, rs', M', rest, rfl, hv', hs, hm⟩
    obtain rfl := gr_inj hg hs.2.1 (hv _ _ hv')
    have hsub : ∀ g ∈ R :: blk L.a, g ∈ L.M SB R := fun g hg => by
      refine Lay.mem.2 (.inr (.inl ?_))
      unfold bkM
      simp only [List.mem_cons, List.mem_append] at hg ⊢
      rcases hg with e | e
      · exact .inr (.inl e)
      · exact .inr (.inr (.inl e))
    refine ⟨TB, M', rfl, hs, ⟨hm.chg.mono hsub, fun g hg => ?_⟩⟩
    rcases hm.now g hg with e | e
    · exact .inl (hsub g e)
    · exact .inr e

end

end Go.Proofs.YtdgpbdedaafdiaaGreat
