/-
  store: Open.
  store: Entry; what no store answers.
-/
import Derived.Test.YtdgpbdedaafdiaaGreatWalksO6
import Derived.Deep.DeepCutAuto
namespace Go.Proofs.YtdgpbdedaafdiaaGreat
open Go.RowKit


theorem Bk.tight {w : World} {base RB R : Nat} {a ga : Option Addr} {s : DS} {cs : List (List Nat)} {F : List Nat} (h : Bk w base RB R a ga s cs F) : ∃ F', Bk w base RB R a ga s cs F' ∧ ∀ g ∈ F', g < w.heap.size := by
  obtain ⟨cap, xs, h1, h2, h3, h4⟩ := h.rows
  refine ⟨xs.flatMap fun x => blk x.loc, ⟨h.dsk, h.b0, ⟨cap, xs, h1, h2, h3, fun x hx g hg => ⟨(h4 x hx g hg).1, List.mem_flatMap.mpr ⟨x, hx, hg⟩⟩⟩, h.free, h.neR, h.neA, h.neG, h.rG, h.aG, h.base⟩, fun g hg => ?_⟩
  obtain ⟨x, hx, hg'⟩ := List.mem_flatMap.mp hg
  exact (h3.far x hx g hg').2

/-- The cells of records in a slice. -/
def RcC (w : World) (a : Option Addr) (xs : List Rl) : Prop := ∀ i, i < xs.length → ∃ b off, a = some ⟨b, off, none⟩ ∧ ∀ k u, (rlcells (xs.getD i rl0))[k]? = some u → w.cell? ⟨b, off + i * 6 + k, none⟩ = some u

theorem RcC.chg {w w' : World} {a : Option Addr} {xs : List Rl} {gs : List Nat} (h : RcC w a xs) (hc : Chg gs w w') (hn : ∀ g ∈ blk a, g ∉ gs) : RcC w' a xs := fun i hi => by
  obtain ⟨b, off, e, hk⟩ := h i hi
  exact ⟨b, off, e, fun k u hu => hc.cell (hk k u hu) (hn b (by rw [e]; simp [blk]))⟩

theorem RcC.one {w : World} {a : Option Addr} {xs : List Rl} (h : RcC w a xs) (k : Nat) (hk : k < xs.length) :
    ∃ b off, a = some ⟨b, off, none⟩ ∧ w.cell? ⟨b, off + k * 6, none⟩ = some (.int .i64 (xs.getD k rl0).r.kind) ∧ w.cell? ⟨b, off + k * 6 + 1, none⟩ = some (.int .i64 (xs.getD k rl0).r.epoch) ∧ w.cell? ⟨b, off + k * 6 + 2, none⟩ = some (.slice (xs.getD k rl0).ma (xs.getD k rl0).r.mem.length (xs.getD k rl0).mc) ∧
      w.cell? ⟨b, off + k * 6 + 3, none⟩ = some (.int .i64 (xs.getD k rl0).r.pos) ∧ w.cell? ⟨b, off + k * 6 + 4, none⟩ = some (.int .i64 (xs.getD k rl0).r.last) ∧ w.cell? ⟨b, off + k * 6 + 5, none⟩ = some (.slice (xs.getD k rl0).ea (xs.getD k rl0).r.ents.length (xs.getD k rl0).ec) := by
  obtain ⟨b, off, e, hc⟩ := h k hk
  exact ⟨b, off, e, hc 0 _ rfl, hc 1 _ rfl, hc 2 _ rfl, hc 3 _ rfl, hc 4 _ rfl, hc 5 _ rfl⟩

/-- Open's loop, k records far: w1 is the world behind the book's opening. -/
structure Opn (w1 ws : World) (base SB R : Nat) (M1 : List Nat) (d : DS) (cs : List (List Nat)) (F : List Nat) (va : Option Addr) (xs : List Rl) (rs : List Pr) (k : Nat) (L : Lay) : Prop where
  st : SoX ws base SB R d cs (runS (rs.take k)) L
  fE : L.F = F
  cells : RcC ws va xs
  vn : ∀ g ∈ blk va, g ∉ L.M SB R ∧ g < ws.heap.size
  vx : ∀ x ∈ xs, ∀ g ∈ blk va, g < x.lo ∨ x.hi ≤ g
  rest : ∀ x ∈ xs.drop k, RecO ws x.lo x.hi x.ma x.mc x.ea x.ec x.r ∧ x.hi ≤ ws.heap.size ∧ w1.heap.size < x.lo ∧ ∀ g ∈ L.M SB R, g < x.lo ∨ x.hi ≤ g
  apart : (xs.drop k).Pairwise fun x y => x.hi ≤ y.lo
  mv : Mv w1 ws M1 (L.M SB R)

theorem RecO.rowIn {w : World} {lo hi : Nat} {ma ea : Option Addr} {mc ec : Nat} {r : Pr} (h : RecO w lo hi ma mc ea ec r) : ∀ g ∈ blk ea, lo ≤ g ∧ g < hi := fun g hg => by
  obtain ⟨⟨mid, h1, h2, _, xs, _, hE, _, ho⟩, _⟩ := h
  have k1 := (World.ownsRow.lt hE.own g (blk_own hg)).1
  exact ⟨by omega, ho g (blk_own hg)⟩

/-- A record that has been read, for apply. -/
theorem RecO.ry {w : World} {base lo hi : Nat} {M F : List Nat} {ma ea : Option Addr} {mc ec : Nat} {r : Pr} (h : RecO w lo hi ma mc ea ec r) (hb : base ≤ lo) (hs : hi ≤ w.heap.size) (hM : ∀ g ∈ M, g < lo ∨ hi ≤ g) (hF : ∀ g ∈ F, g < lo) : Ry w base M F ma mc ea ec r := by
  have hr := h.rowIn
  obtain ⟨⟨mid, h1, h2, h3, h4⟩, hw⟩ := h
  have hmid : ∀ g ∈ blk ea, mid ≤ g ∧ g < hi := fun g hg => by
    obtain ⟨xs, _, hE, _, ho⟩ := h4
    exact ⟨(World.ownsRow.lt hE.own g (blk_own hg)).1, ho g (blk_own hg)⟩
  refine ⟨er_of h4 hw.ents (by omega) fun g hg => ?_, fun gs x hc hg => h3 gs x hc fun g hm => ?_, hw, fun g hg => ⟨fun e => ?_, fun e => ?_⟩⟩
  · rcases List.mem_append.mp hg with e | e
    · exact .inr (.inr e)
    · rcases hM g e with e | e
      · exact .inl (by omega)
      · exact .inr (.inl e)
  · rcases hg g hm with e | e
    · rcases List.mem_append.mp e with e | e
      · exact .inr (hmid g e).1
      · have := hM g e; omega
    · omega
  · have h5 := hM g e
    have h6 := hmid g hg
    omega
  · have h5 := hF g e
    have h6 := hr g hg
    omega

theorem drop_getD {α : Type} (xs : List α) (k : Nat) (d : α) (hk : k < xs.length) : xs.drop k = xs.getD k d :: xs.drop (k + 1) := by
  rw [List.drop_eq_getElem_cons hk, List.getD_eq_getElem?_getD, List.getElem?_eq_getElem hk]
  rfl

theorem Opn.step {w1 ws w2 w3 : World} {base SB R : Nat} {M1 : List Nat} {d : DS} {cs : List (List Nat)} {F : List Nat} {va : Option Addr} {xs : List Rl} {rs : List Pr} {k : Nat} {L L3 : Lay} (h : Opn w1 ws base SB R M1 d cs F va xs rs k L) (hk : k < xs.length) (hrs : xs.map Rl.r = rs)
    (hb : Below ws.heap.size ws w2) (hx : SoX w3 base SB R d cs (appS (runS (rs.take k)) (xs.getD k rl0).r) L3) (hc : Chg (L.M SB R) w2 w3) (hF : L3.F = L.F) (hM : ∀ g ∈ L3.M SB R, g ∈ L.M SB R ∨ g ∈ blk (xs.getD k rl0).ea ∨ w2.heap.size ≤ g) : Opn w1 w3 base SB R M1 d cs F va xs rs (k + 1) L3 := by
  have hd : xs.drop k = xs.getD k rl0 :: xs.drop (k + 1) := drop_getD xs k rl0 hk
  have hrd : rs.take (k + 1) = rs.take k ++ [(xs.getD k rl0).r] := by
    rw [← hrs, List.take_succ_eq_append_getElem (by rw [List.length_map]; exact hk), List.getElem_map, List.getD_eq_getElem?_getD, List.getElem?_eq_getElem hk]
    rfl
  have hbs := hb.size
  have hcs := hc.size
  obtain ⟨hK, hKh, hKl, hKM⟩ := h.rest (xs.getD k rl0) (by rw [hd]; simp)
  have hrow := hK.rowIn
  have hap := h.apart
  rw [hd, List.pairwise_cons] at hap
  have hcW : Chg (L.M SB R) ws w3 := (Chg.of_below hb).trans hc
  refine ⟨by rw [hrd, runS_snoc]; exact hx, hF.trans h.fE, h.cells.chg hcW (fun g hg => (h.vn g hg).1), fun g hg => ⟨fun e => ?_, by have := (h.vn g hg).2; omega⟩, h.vx, fun x hx' => ?_, hap.2, ?_⟩
  · rcases hM g e with e | e | e
    · exact (h.vn g hg).1 e
    · have h1 := hrow g e
      have h2 := h.vx (xs.getD k rl0) (getD_mem xs k rl0 hk) g hg
      omega
    · have := (h.vn g hg).2; omega
  · obtain ⟨m1, m2, m3, m4⟩ := h.rest x (by rw [hd]; exact List.mem_cons_of_mem _ hx')
    refine ⟨m1.chg hcW m4, by omega, m3, fun g hg => ?_⟩
    rcases hM g hg with e | e | e
    · exact m4 g e
    · have h1 := hrow g e
      have h2 := hap.1 x hx'
      omega
    · omega
  · have h1 : Mv w1 w2 M1 (blk (xs.getD k rl0).ea ++ L.M SB R) := ⟨(h.mv.trans (Mv.of_below _ hb)).chg, fun g hg => by
      rcases List.mem_append.mp hg with e | e
      · have := hrow g e; exact .inr (by omega)
      · exact h.mv.now g e⟩
    exact h1.trans ⟨hc.mono fun g hg => List.mem_append_right _ hg, fun g hg => by
      rcases hM g hg with e | e | e
      · exact .inl (List.mem_append_right _ e)
      · exact .inl (List.mem_append_left _ e)
      · exact .inr e⟩

theorem Opn.below {w1 ws w2 : World} {base SB R : Nat} {M1 : List Nat} {d : DS} {cs : List (List Nat)} {F : List Nat} {va : Option Addr} {xs : List Rl} {rs : List Pr} {k : Nat} {L : Lay} (h : Opn w1 ws base SB R M1 d cs F va xs rs k L) (hb : Below ws.heap.size ws w2) : Opn w1 w2 base SB R M1 d cs F va xs rs k L := by
  have hs := hb.size
  exact ⟨h.st.below hb, h.fE, h.cells.chg (gs := []) (Chg.of_below hb) (by simp), fun g hg => ⟨(h.vn g hg).1, by have := (h.vn g hg).2; omega⟩, h.vx, fun x hx => by
    obtain ⟨m1, m2, m3, m4⟩ := h.rest x hx
    exact ⟨m1.chg (gs := []) (Chg.of_below hb) (by simp), by omega, m3, m4⟩, h.apart, h.mv.trans (Mv.of_below _ hb)⟩

/-- A new store, ahead of its records. -/
theorem sox_new {w1 : World} {base RB R : Nat} {a ga : Option Addr} {d : DS} {cs : List (List Nat)} {F : List Nat} (h : Bk w1 base RB R a ga d cs F) (hF : ∀ g ∈ F, g < w1.heap.size) :
    SoX (w1.alloc (.cells (lay0.cellsB (.pointer (some ⟨RB, 0, none⟩)) ss0) 60)) base w1.heap.size R d cs ss0 ⟨RB, a, ga, F, none, 0, none, 0, none, 0, none, 0⟩ := by
  have hb := below_one w1 (.cells (lay0.cellsB (.pointer (some ⟨RB, 0, none⟩)) ss0) 60)
  refine ⟨h.below hb, bx_new8 _ _ _, er_nil _ _ _, fun _ _ _ _ => IntsAt.nil (Nat.zero_le _), fun _ _ _ _ => rec0_at _, ⟨fun e => ?_, by simp [blk], fun e => ?_⟩, by simp [blk], ?_, fun g hg => Nat.lt_of_lt_of_le (hF g hg) hb.size⟩
  · have := (h.mLt e).2; omega
  · have := hF _ e; omega
  · have := h.base; have := h.lt; omega

/-- What Open answers. -/
def RetSo (w : World) (base R : Nat) (a : Option Addr) (d : DS) (e : Ending) (w' : World) : Prop :=
  ∃ SB rs M' rest, e = .returned (.tuple #[.pointer (some ⟨SB, 0, none⟩), .int .i64 0]) ∧ Vld d.ps (rs.map encR) rest ∧ So w' base SB R M' { d with ps := frms (rs.map encR) } rs (runS rs) ∧ Mv w w' (R :: blk a) M'

set_option maxRecDepth 100000 in
set_option maxHeartbeats 4000000 in
theorem stOpen_any (base R : Nat) (a : Option Addr) (d : DS) (w : World) (h : Dsk w base R a d) (ho : d.off = false) (ht : d.torn = false) (hv : ∀ cs rest, Vld d.ps cs rest → ∃ rs : List Pr, cs = rs.map encR ∧ (∀ r ∈ rs, Gr r) ∧ rs.length ≤ 100000) :
    Calls Tryz.prog 5 #[.pointer (some ⟨R, 0, none⟩)] w (RetSo w base R a d) := by
  have HD := Lib.hid h
  have HO := Lib.hid ho
  have HT := Lib.hid ht
  have HV := Lib.hid hv
  clear h ho ht hv
  go_enter Tryz.func5, Tryz.ntmps5
  go_wp2_with fail
  refine (bkOpen_any base R a d _ HD.out HO.out HT.out).mono ?_
  rintro e w1 ⟨RB, a1, ga1, cs, rest, F0, rfl, hvl, hk0, hm1⟩
  obtain ⟨rs, rfl, hg, hl⟩ := HV.out cs rest hvl
  obtain ⟨F, hk1, hF⟩ := hk0.tight
  have HVL := Lib.hid hvl
  have HG := Lib.hid hg
  have HK1 := Lib.hid hk1
  have HM1 := Lib.hid hm1
  have HF1 := Lib.hid hF
  have HX2 := Lib.hid (sox_new hk1 hF)
  have hbl := below_one w1 (.cells (lay0.cellsB (.pointer (some ⟨RB, 0, none⟩)) ss0) 60)
  have HB2 := Lib.hid hbl
  clear hvl hg hk0 hk1 hm1 hF hbl
  obtain ⟨l, hll⟩ : ∃ l, rs.length = l := ⟨_, rfl⟩
  have HL := Lib.hid hll
  rw [hll] at hl
  clear hll
  have HCD : Hid (∀ c ∈ rs.map encR, decB c = true ∧ c.length ≤ 100000000) := fun c hc => by
    obtain ⟨r, hr, rfl⟩ := List.mem_map.mp hc
    have h1 := HG.out r hr
    have h2 := encR_len r h1.snd
    exact ⟨(dec_yes r h1.wf h1.snd).1, by omega⟩
  have HDD : Hid ((rs.map encR).map decR = rs) := by
    show _ = _
    rw [List.map_map]
    refine (List.map_congr_left (g := id) fun r hr => ?_).trans (List.map_id rs)
    exact (dec_yes r (HG.out r hr).wf (HG.out r hr).snd).2
  have HCL : Hid ((rs.map encR).length = l) := by show _ = _; rw [List.length_map]; exact HL.out
  unfold lay0 ss0 pr0 Lay.cellsB at HX2 HB2
  dsimp only at HX2 HB2
  have HQ : Hid ((w1.alloc (.cells #[.pointer (some ⟨RB, 0, none⟩), .int .i64 0, .int .i64 0, .slice none 0 0, .int .i64 0, .int .i64 0, .slice none 0 0, .bool false, .int .i64 0, .int .i64 0, .slice none 0 0, .int .i64 0, .int .i64 0, .slice none 0 0] 60)).heap.size = w1.heap.size + 1) := by show _ = _; simp
  go_wp2_with fail
  generalize (w1.alloc (.cells #[.pointer (some ⟨RB, 0, none⟩), .int .i64 0, .int .i64 0, .slice none 0 0, .int .i64 0, .int .i64 0, .slice none 0 0, .bool false, .int .i64 0, .int .i64 0, .slice none 0 0, .int .i64 0, .int .i64 0, .slice none 0 0] 60)) = w2 at *
  refine (bkRecords_own base RB R a1 ga1 _ (rs.map encR) F _ HX2.out.bk (by rw [HCL.out]; omega) HCD.out).mono ?_
  rintro e w3 ⟨va, vc, xs, rfl, hxs, hrc, hlo, hrn, hb3⟩
  rw [HDD.out] at hxs
  rw [HCL.out]
  have HXS := Lib.hid hxs
  have HXL : Hid (xs.length = l) := by show _ = _; rw [← HL.out, ← hxs, List.length_map]
  have HOP : Hid (Opn w1 w3 base w1.heap.size R (bkM RB R a1 ga1) { d with ps := frms (rs.map encR) } (rs.map encR) F va xs rs 0 ⟨RB, a1, ga1, F, none, 0, none, 0, none, 0, none, 0⟩) := by
    have hq := HQ.out
    have hM : ∀ g ∈ (⟨RB, a1, ga1, F, none, 0, none, 0, none, 0, none, 0⟩ : Lay).M w1.heap.size R, g < w2.heap.size := fun g hg => (HX2.out.mLt hg).2
    refine ⟨HX2.out.below hb3, rfl, hrc.at_.el, fun g hg => ⟨fun e => ?_, (hrc.lt hg).2⟩, fun x hx g hg => (hrc.off x hx).2 g hg, fun x hx => ?_, by rw [List.drop_zero]; exact hrn.apart, ?_⟩
    · have h1 := hM g e
      have h2 := (hrc.lt hg).1
      omega
    · rw [List.drop_zero] at hx
      have h1 := hlo x hx
      exact ⟨hrn.each x hx, (hrc.off x hx).1, by omega, fun g hg => .inl (by have := hM g hg; omega)⟩
    · refine ⟨(Chg.of_below (HB2.out.trans (hb3.mono HB2.out.size))).mono (fun g hg => absurd hg List.not_mem_nil), fun g hg => ?_⟩
      rcases Lay.mem.1 hg with e | e | e
      · exact .inr (by omega)
      · exact .inl e
      · simp [blk] at e
  clear hxs hrc hlo hrn hb3 HX2 HB2 HK1
  go_wp2
  go_loopw [23] (fun i ws => ∃ (k : Nat) (L : Lay), k ≤ l ∧ i = .int .i64 k ∧ Hid (Opn w1 ws base w1.heap.size R (bkM RB R a1 ga1) { d with ps := frms (rs.map encR) } (rs.map encR) F va xs rs k L)) (fun i _ => l - (intOf i).toNat)
  case atStart => exact ⟨0, _, Nat.zero_le _, rfl, HOP⟩
  case round =>
    obtain ⟨k, L, hk, rfl, HO⟩ := hrel
    by_cases hlt : k < l
    · have j0 : (0 : Int) ≤ (k : Int) := by omega
      have j1 : (k : Int) < (l : Int) := by omega
      have HKL : Hid (k < xs.length) := by show _ < _; rw [HXL.out]; exact hlt
      obtain ⟨b, off, rfl, x0, x1, x2, x3, x4, x5⟩ := HO.out.cells.one k HKL.out
      have HMEM : Hid (xs.getD k rl0 ∈ xs.drop k) := by
        show _ ∈ _
        rw [drop_getD xs k rl0 HKL.out]
        exact List.mem_cons_self
      have HGR : Hid (Gr (xs.getD k rl0).r) := by
        refine HG.out _ ?_
        rw [← HXS.out]
        exact List.mem_map_of_mem (getD_mem xs k rl0 HKL.out)
      have HST := Lib.hid (fun (v2 v3 : World) (L3 : Lay) => HO.out.step (w2 := v2) (w3 := v3) (L3 := L3) HKL.out HXS.out)
      generalize hxk : xs.getD k rl0 = x at *
      obtain ⟨r, ma, mc, ea, ec, lo, hi⟩ := x
      have HXK := Lib.hid hxk
      clear hxk
      dsimp only at x0 x1 x2 x3 x4 x5
      obtain ⟨lm, hlm⟩ : ∃ q, r.mem.length = q := ⟨_, rfl⟩
      obtain ⟨le, hle⟩ : ∃ q, r.ents.length = q := ⟨_, rfl⟩
      rw [hlm] at x2
      rw [hle] at x5
      have HLM := Lib.hid hlm
      have HLE := Lib.hid hle
      have hbl := below_one wr (.cells #[.int .i64 r.kind, .int .i64 r.epoch, .slice ma lm mc, .int .i64 r.pos, .int .i64 r.last, .slice ea le ec] 35)
      have HO4 := Lib.hid (HO.out.below hbl)
      have HB4 := Lib.hid hbl
      have HRY : Hid (Ry (wr.alloc (.cells #[.int .i64 r.kind, .int .i64 r.epoch, .slice ma lm mc, .int .i64 r.pos, .int .i64 r.last, .slice ea le ec] 35)) base (L.M w1.heap.size R) L.F ma mc ea ec r) := by
        obtain ⟨m1, m2, m3, m4⟩ := HO4.out.rest _ HMEM.out
        dsimp only at m1 m2 m3 m4
        have hbs : base ≤ w1.heap.size := HO4.out.st.base
        refine m1.ry (by omega) m2 m4 fun g hg => ?_
        rw [HO4.out.fE] at hg
        have := HF1.out g hg
        omega
      have HKD : Hid (1 ≤ r.kind ∧ r.kind ≤ 4) := sndR_kind HGR.out.snd
      have HLN : Hid ((runS (rs.take k)).now.ents.length ≤ 900000) := by
        have h1 := runS_len (rs.take k) (fun r hr => HG.out r (List.mem_of_mem_take hr))
        have h2 : (rs.take k).length ≤ k := by rw [List.length_take]; omega
        show _ ≤ _
        omega
      have hle6 : le ≤ 6 := by rw [← hle]; exact HGR.out.few
      clear hlm hle hbl
      go_wp2_with fail
      refine (apply_any HO4.out.st HRY.out HLM.out HLE.out HLN.out (by omega) HKD.out).mono ?_
      rintro e w5 ⟨rfl, L5, hx5, hc5, hf5, hm5⟩
      have HO5 := Lib.hid (HST.out _ _ _ HB4.out hx5 hc5 hf5 hm5)
      clear hx5 hc5 hf5 hm5
      go_wp2
      go_roundw
      case rel => exact ⟨k + 1, L5, by omega, by go_num, HO5⟩
      case measure => simp [intOf]; omega
    · obtain rfl : k = l := by omega
      have HF : Hid (RetSo w base R a d (.returned (.tuple #[.pointer (some ⟨w1.heap.size, 0, none⟩), .int .i64 0])) wr) := by
        have h1 := HO.out.st
        rw [List.take_of_length_le (by rw [HL.out]; exact Nat.le_refl _)] at h1
        exact ⟨w1.heap.size, rs, L.M w1.heap.size R, rest, rfl, HVL.out, ⟨rfl, HG.out, L, rfl, h1⟩, HM1.out.trans HO.out.mv⟩
      go_wp2
      go_ret2
      exact HF.out

end Go.Proofs.YtdgpbdedaafdiaaGreat

namespace Go.Proofs.YtdgpbdedaafdiaaGreat
open Go.RowKit






/-- Where the first entry of number n stands. -/
def IdxE (w : World) (es : List Pe) (n : Int) (e : Ending) (w' : World) : Prop :=
  ((e = .returned (.int .i64 (-1)) ∧ ∀ k, k < es.length → (es.getD k pe0).seq ≠ n) ∨ ∃ j : Nat, j < es.length ∧ e = .returned (.int .i64 (j : Int)) ∧ (es.getD j pe0).seq = n ∧ ∀ k, k < j → (es.getD k pe0).seq ≠ n) ∧ Below w.heap.size w w'

set_option maxHeartbeats 400000 in
theorem seqC_any (p : Pe) (loc : Option Addr) (c : Nat) (cp : Addr) (n : Int) (w : World) (hc : w.cell? cp = some (.int .i64 n)) :
    Calls Tryz.prog 49 #[.agg #[.int .i64 p.seq, .int .i64 p.client, .int .i64 p.num, .int .i64 p.op, .string (strB p.key), .int .i64 p.size, .int .u32 (p.sum : Int), .slice loc p.frag.length c], .pointer (some cp)] w fun e w' => e = .returned (.bool (p.seq == n)) ∧ Below w.heap.size w w' := by
  have hc := cell_later (below_one w (.cells #[.int .i64 p.seq, .int .i64 p.client, .int .i64 p.num, .int .i64 p.op, .string (strB p.key), .int .i64 p.size, .int .u32 (p.sum : Int), .slice loc p.frag.length c] 41)) hc
  have HB := Lib.hid (below_one w (.cells #[.int .i64 p.seq, .int .i64 p.client, .int .i64 p.num, .int .i64 p.op, .string (strB p.key), .int .i64 p.size, .int .u32 (p.sum : Int), .slice loc p.frag.length c] 41))
  go_enter Tryz.func49, Tryz.ntmps49
  go_wp2
  go_ret
  exact ⟨rfl, HB.out⟩

set_option maxRecDepth 100000 in
set_option maxHeartbeats 1000000 in
theorem idxE_any (a : Option Addr) (cap l : Nat) (cp : Addr) (n : Int) (xs : List Pe) (w : World) (hl : xs.length = l) (h : EnsAt w a cap xs) (hc : w.cell? cp = some (.int .i64 n)) :
    Calls Tryz.prog 48 #[.slice a l cap, .func (.func 49) #[] #[.pointer (some cp)]] w (IdxE w xs n) := by
  have hm : l ≤ maxLen := by have := h.le; have := h.max; omega
  unfold maxLen at hm
  have HE := Lib.hid h
  have HL := Lib.hid hl
  have HCP := Lib.hid hc
  clear h hl hc
  go_enter Tryz.func48, Tryz.ntmps48
  go_wp2
  go_loopw [5, 8] (fun _ i ws => ∃ k : Nat, k ≤ l ∧ i = .int .i64 k ∧ Hid (∀ j, j < k → (xs.getD j pe0).seq ≠ n) ∧ Hid (Below w.heap.size w ws)) (fun _ i _ => l - (intOf i).toNat)
  case atStart => exact ⟨0, Nat.zero_le _, rfl, fun j hj => by omega, Below.refl _ _⟩
  case round =>
    obtain ⟨k, hk, rfl, HU, HB⟩ := hrel
    by_cases hlt : k < l
    · have HCK := Lib.hid (cell_later HB.out HCP.out)
      obtain ⟨b, off, loc, c, rfl, hc⟩ := (HE.out.below HB.out).el k (by rw [HL.out]; exact hlt)
      have c0 := hc.c0
      have c1 := hc.c1
      have c2 := hc.c2
      have c3 := hc.c3
      have c4 := hc.c4
      have c5 := hc.c5
      have c6 := hc.c6
      have c7 := hc.c7
      clear hc
      have HNO : Hid ((xs.getD k pe0).seq ≠ n → ∀ j, j < k + 1 → (xs.getD j pe0).seq ≠ n) := fun hne j hj => by
        by_cases e : j = k
        · rw [e]; exact hne
        · exact HU.out j (by omega)
      generalize hp : xs.getD k pe0 = p at *
      have HPK := Lib.hid hp
      clear hp
      go_wp2_with fail
      refine (seqC_any p loc c _ n _ HCK.out).mono ?_
      rintro e w1 ⟨rfl, hb1⟩
      have HB1 := Lib.hid (HB.out.trans (hb1.mono HB.out.size))
      clear hb1
      by_cases hw : p.seq = n
      · have d : (p.seq == n) = true := by simp [hw]
        have HF : Hid (IdxE w xs n (.returned (.int .i64 (k : Int))) w1) := ⟨.inr ⟨k, by rw [HL.out]; exact hlt, rfl, by rw [HPK.out]; exact hw, HU.out⟩, HB1.out⟩
        rw [d]
        clear hw d
        go_wp2
        go_ret
        exact HF.out
      · have d : (p.seq == n) = false := by simp [hw]
        have HU' := Lib.hid (HNO.out hw)
        rw [d]
        clear hw d
        go_wp2
        go_roundw
        case rel => exact ⟨k + 1, by omega, by go_num, HU', HB1⟩
        case measure => simp [intOf]; omega
    · obtain rfl : k = l := by omega
      have HF : Hid (IdxE w xs n (.returned (.int .i64 (-1))) wr) := ⟨.inl ⟨rfl, by rw [HL.out]; exact HU.out⟩, HB.out⟩
      go_wp2
      go_ret
      exact HF.out

/-- What Entry answers. -/
def RetEn (w : World) (es : List Pe) (n : Int) (e : Ending) (w' : World) : Prop :=
  (((∀ k, k < es.length → (es.getD k pe0).seq ≠ n) ∧ e = .returned (.tuple #[.agg #[.int .i64 0, .int .i64 0, .int .i64 0, .int .i64 0, .string ⟨#[]⟩, .int .i64 0, .int .u32 0, .slice none 0 0], .bool false])) ∨
    ∃ (j : Nat) (p : Pe) (loc : Option Addr) (c : Nat), j < es.length ∧ es.getD j pe0 = p ∧ p.seq = n ∧ (∀ k, k < j → (es.getD k pe0).seq ≠ n) ∧ SeenAt w' loc c p.frag ∧
      e = .returned (.tuple #[.agg #[.int .i64 p.seq, .int .i64 p.client, .int .i64 p.num, .int .i64 p.op, .string (strB p.key), .int .i64 p.size, .int .u32 (p.sum : Int), .slice loc p.frag.length c], .bool true])) ∧ Below w.heap.size w w'

section
variable {v : Value} {bp : Value} {s : Ss} {L : Lay}

set_option maxRecDepth 100000 in
set_option maxHeartbeats 2000000 in
theorem stEntry_any (n : Int) (w : World) (h : SomeV v w bp s L) (hf : ∀ e ∈ s.now.ents, e.frag.length ≤ 1000000000) : Calls Tryz.prog 35 #[v, .int .i64 n] w (RetEn w s.now.ents n) := by
  have hmf : ∀ (fn : Fn) (first cap : Array Value) (w : World), (Instr.makeFunc fn first cap).run Tryz.prog w = .ok (.func fn first cap) w := fun _ _ _ _ => rfl
  obtain ⟨l, hl⟩ : ∃ l, s.now.ents.length = l := ⟨_, rfl⟩
  have HL := Lib.hid hl
  have HFR := Lib.hid hf
  have HZ0 : Hid (Bx ((w.alloc (.cells #[.int .i64 n] 3)).alloc (.cells #[.int .i64 0, .int .i64 0, .int .i64 0, .int .i64 0, .string ⟨#[]⟩, .int .i64 0, .int .u32 0, .slice none 0 0] 41)) (w.heap.size + 1) 41 #[.int .i64 0, .int .i64 0, .int .i64 0, .int .i64 0, .string ⟨#[]⟩, .int .i64 0, .int .u32 0, .slice none 0 0]) := by
    have := bx_new8 (w.alloc (.cells #[.int .i64 n] 3)) #[.int .i64 0, .int .i64 0, .int .i64 0, .int .i64 0, .string ⟨#[]⟩, .int .i64 0, .int .u32 0, .slice none 0 0] 41
    rw [World.size_alloc] at this
    exact this
  have HN0 : Hid (((w.alloc (.cells #[.int .i64 n] 3)).alloc (.cells #[.int .i64 0, .int .i64 0, .int .i64 0, .int .i64 0, .string ⟨#[]⟩, .int .i64 0, .int .u32 0, .slice none 0 0] 41)).cell? ⟨w.heap.size, 0, none⟩ = some (.int .i64 n)) :=
    cell_later (below_one _ _) (by rw [World.cell?_alloc_at (hn := rfl)]; rfl)
  have HE0 := Lib.hid ((below_one w (.cells #[.int .i64 n] 3)).alloc (by simp) (.cells #[.int .i64 0, .int .i64 0, .int .i64 0, .int .i64 0, .string ⟨#[]⟩, .int .i64 0, .int .u32 0, .slice none 0 0] 41))
  clear hf hl
  go_enter Tryz.func35, Tryz.ntmps35
  go_wp2_with fail
  generalize ((w.alloc (.cells #[.int .i64 n] 3)).alloc (.cells #[.int .i64 0, .int .i64 0, .int .i64 0, .int .i64 0, .string ⟨#[]⟩, .int .i64 0, .int .u32 0, .slice none 0 0] 41)) = w0 at *
  refine (h.call _ HE0.out).mono ?_
  rintro e w1 ⟨⟨SB, rfl, hx⟩, hb1⟩
  have HB1 := Lib.hid (HE0.out.trans (hb1.mono HE0.out.size))
  have HZ1 := Lib.hid (HZ0.out.chg (gs := []) (Chg.of_below hb1) (by simp))
  have HN1 := Lib.hid (cell_later hb1 HN0.out)
  have c6 := hx.cell 6 (.slice L.na l L.nc) (by rw [← HL.out]; rfl)
  have HE := Lib.hid (h.ents.below HB1.out)
  clear hx hb1 HZ0 HN0 h
  go_wp2_with fail
  refine (idxE_any _ _ _ _ n s.now.ents _ HL.out HE.out HN1.out).mono ?_
  rintro e w2 ⟨hi, hb2⟩
  have HB2 := Lib.hid (HB1.out.trans (hb2.mono HB1.out.size))
  have HZ2 := Lib.hid (HZ1.out.chg (gs := []) (Chg.of_below hb2) (by simp))
  have HE2 := Lib.hid (HE.out.below hb2)
  clear c6 hb2 HZ1 HN1 HE
  rcases hi with ⟨rfl, hno⟩ | ⟨j, hj, rfl, hjs, hjf⟩
  · have HNO := Lib.hid hno
    clear hno
    go_wp2_with (refine wpList_st 41 8 (w.heap.size + 1) 0 41 #[.int .i64 0, .int .i64 0, .int .i64 0, .int .i64 0, .string ⟨#[]⟩, .int .i64 0, .int .u32 0, .slice none 0 0] #[.int .i64 0, .int .i64 0, .int .i64 0, .int .i64 0, .string ⟨#[]⟩, .int .i64 0, .int .u32 0, .slice none 0 0] #[.int .i64 0, .int .i64 0, .int .i64 0, .int .i64 0, .string ⟨#[]⟩, .int .i64 0, .int .u32 0, .slice none 0 0] (.tmp 4) (.tmp 19) rfl rfl rfl rfl rfl (by kernel_rfl) rfl HZ2.out (by show 8 ≤ 8; omega) (by simp [Value.oneCell']) rfl ?_; intro w3 hb3 hc3; have HZ3 := Lib.hid hb3; have HC3 := Lib.hid hc3; clear hb3 hc3)
    have k0 := HZ3.out.cell 0 (.int .i64 0) rfl
    have k1 := HZ3.out.cell 1 (.int .i64 0) rfl
    have k2 := HZ3.out.cell 2 (.int .i64 0) rfl
    have k3 := HZ3.out.cell 3 (.int .i64 0) rfl
    have k4 := HZ3.out.cell 4 (.string ⟨#[]⟩) rfl
    have k5 := HZ3.out.cell 5 (.int .i64 0) rfl
    have k6 := HZ3.out.cell 6 (.int .u32 0) rfl
    have k7 := HZ3.out.cell 7 (.slice none 0 0) rfl
    refine bodyPost_ret (v := .tuple #[.agg #[.int .i64 0, .int .i64 0, .int .i64 0, .int .i64 0, .string ⟨#[]⟩, .int .i64 0, .int .u32 0, .slice none 0 0], .bool false]) (by simp [results, Tryz.results35, go_sem, k0, k1, k2, k3, k4, k5, k6, k7]) rfl ?_
    exact ⟨.inl ⟨HNO.out, rfl⟩, HC3.out.below HB2.out HB2.out.size (by simp)⟩
  · rw [HL.out] at hj
    have j0 : decide ((j : Int) < 0) = false := decide_eq_false (by omega)
    have j1 : (0 : Int) ≤ (j : Int) := by omega
    have j2 : (j : Int) < (l : Int) := by omega
    have HJF := Lib.hid hjf
    obtain ⟨b, off, loc, c, e, hc⟩ := HE2.out.el j (by rw [HL.out]; exact hj)
    rw [e]
    have HLEN : Hid ((s.now.ents.getD j pe0).frag.length ≤ 1000000000) := HFR.out _ (getD_mem _ _ _ (by rw [HL.out]; exact hj))
    generalize hp : s.now.ents.getD j pe0 = p at *
    have HP := Lib.hid hp
    have HJS := Lib.hid hjs
    have c0 := hc.c0
    have c1 := hc.c1
    have c2 := hc.c2
    have c3' := hc.c3
    have c4 := hc.c4
    have c5 := hc.c5
    have c6 := hc.c6
    have c7 := hc.c7
    have HS := Lib.hid hc.seen
    clear hc hp hjs hjf e
    go_wp2_with fail
    refine (copied_any p loc c _ HS.out HLEN.out).mono ?_
    rintro e w3 ⟨a3, c3, rfl, hs3, hf3, hb3⟩
    have HB3 := Lib.hid (HB2.out.trans (hb3.mono HB2.out.size))
    have HZ3 := Lib.hid (HZ2.out.chg (gs := []) (Chg.of_below hb3) (by simp))
    have HS3 := Lib.hid hs3
    have HF3 : Hid (∀ g ∈ blk a3, w2.heap.size ≤ g) := fun g hg => (fresh_blk hf3 g hg).1
    have HSZ : Hid (w.heap.size + 1 < w2.heap.size) := bx_lt HZ2.out
    clear hs3 hf3 hb3 c0 c1 c2 c3' c4 c5 c6 c7
    go_wp2_with (refine wpList_st 41 8 (w.heap.size + 1) 0 41 #[.int .i64 p.seq, .int .i64 p.client, .int .i64 p.num, .int .i64 p.op, .string (strB p.key), .int .i64 p.size, .int .u32 (p.sum : Int), .slice a3 p.frag.length c3] #[.int .i64 0, .int .i64 0, .int .i64 0, .int .i64 0, .string ⟨#[]⟩, .int .i64 0, .int .u32 0, .slice none 0 0] #[.int .i64 p.seq, .int .i64 p.client, .int .i64 p.num, .int .i64 p.op, .string (strB p.key), .int .i64 p.size, .int .u32 (p.sum : Int), .slice a3 p.frag.length c3] (.tmp 4) (.tmp 24) rfl rfl rfl rfl rfl (by kernel_rfl) rfl HZ3.out (by show 8 ≤ 8; omega) (by simp [Value.oneCell']) rfl ?_; intro w4 hb4 hc4; have HZ4 := Lib.hid hb4; have HC4 := Lib.hid hc4; clear hb4 hc4)
    have k0 := HZ4.out.cell 0 (.int .i64 p.seq) rfl
    have k1 := HZ4.out.cell 1 (.int .i64 p.client) rfl
    have k2 := HZ4.out.cell 2 (.int .i64 p.num) rfl
    have k3 := HZ4.out.cell 3 (.int .i64 p.op) rfl
    have k4 := HZ4.out.cell 4 (.string (strB p.key)) rfl
    have k5 := HZ4.out.cell 5 (.int .i64 p.size) rfl
    have k6 := HZ4.out.cell 6 (.int .u32 (p.sum : Int)) rfl
    have k7 := HZ4.out.cell 7 (.slice a3 p.frag.length c3) rfl
    refine bodyPost_ret (v := .tuple #[.agg #[.int .i64 p.seq, .int .i64 p.client, .int .i64 p.num, .int .i64 p.op, .string (strB p.key), .int .i64 p.size, .int .u32 (p.sum : Int), .slice a3 p.frag.length c3], .bool true]) (by simp [results, Tryz.results35, go_sem, k0, k1, k2, k3, k4, k5, k6, k7]) rfl ?_
    refine ⟨.inr ⟨j, p, a3, c3, by rw [HL.out]; exact hj, HP.out, HJS.out, HJF.out, HS3.out.chg HC4.out (fun b o e hm => ?_), rfl⟩, HC4.out.below HB3.out HB3.out.size (by simp)⟩
    have h1 := HF3.out b (by rw [e]; simp [blk])
    have h2 := HSZ.out
    have h3 : b = w.heap.size + 1 := by simpa using hm
    omega

end

/-! No store. -/

theorem stOpen_nil (w : World) : Calls Tryz.prog 5 #[.pointer none] w fun e w' => e = .returned (.tuple #[.pointer none, .int .i64 1]) ∧ w = w' := by
  go_enter Tryz.func5, Tryz.ntmps5
  go_wp2_with fail
  refine (bkOpen_nil _).mono ?_
  rintro e w' ⟨rfl, rfl⟩
  go_wp2
  go_ret2
  exact ⟨rfl, rfl⟩

theorem stLog_nil (a b c d f g : Int) (k : ByteArray) (z : Value) (w : World) : Calls Tryz.prog 19 #[.pointer none, .agg #[.int .i64 a, .int .i64 b, .int .i64 c, .int .i64 d, .string k, .int .i64 f, .int .u32 g, z]] w fun e w' => e = .returned (.int .i64 1) ∧ Below w.heap.size w w' := by
  have HB := Lib.hid (below_one w (.cells #[.int .i64 a, .int .i64 b, .int .i64 c, .int .i64 d, .string k, .int .i64 f, .int .u32 g, z] 41))
  go_enter Tryz.func19, Tryz.ntmps19
  go_wp2
  go_ret
  exact ⟨rfl, HB.out⟩

theorem stSeal_nil (w : World) : Calls Tryz.prog 20 #[.pointer none] w fun e w' => e = .returned (.int .i64 1) ∧ Below w.heap.size w w' := by
  go_enter Tryz.func20, Tryz.ntmps20
  go_wp2
  go_ret
  exact ⟨rfl, Below.refl _ _⟩

theorem stStage_nil (a b c : Int) (y z : Value) (w : World) : Calls Tryz.prog 21 #[.pointer none, .agg #[.int .i64 a, y], .int .i64 b, .int .i64 c, z] w fun e w' => e = .returned (.int .i64 1) ∧ Below w.heap.size w w' := by
  have HB := Lib.hid (below_one w (.cells #[.int .i64 a, y] 32))
  go_enter Tryz.func21, Tryz.ntmps21
  go_wp2
  go_ret
  exact ⟨rfl, HB.out⟩

theorem stActivate_nil (a : Int) (w : World) : Calls Tryz.prog 22 #[.pointer none, .int .i64 a] w fun e w' => e = .returned (.int .i64 1) ∧ Below w.heap.size w w' := by
  go_enter Tryz.func22, Tryz.ntmps22
  go_wp2
  go_ret
  exact ⟨rfl, Below.refl _ _⟩

theorem stBegin_nil (a b : Int) (y : Value) (w : World) : Calls Tryz.prog 23 #[.pointer none, .agg #[.int .i64 a, y], .int .i64 b] w fun e w' => e = .returned (.int .i64 1) ∧ Below w.heap.size w w' := by
  have HB := Lib.hid (below_one w (.cells #[.int .i64 a, y] 32))
  go_enter Tryz.func23, Tryz.ntmps23
  go_wp2
  go_ret
  exact ⟨rfl, HB.out⟩

end Go.Proofs.YtdgpbdedaafdiaaGreat
