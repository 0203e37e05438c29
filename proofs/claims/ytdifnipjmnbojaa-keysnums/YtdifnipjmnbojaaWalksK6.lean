/-
  keys.Live: the entries that count.
-/
import Derived.Test.YtdifnipjmnbojaaWalksK5
namespace Go.Proofs.Ytdifnipjmnbojaa
open Go.RowKit Go.Maps Go.Sort









/-- Entries handed back in a slice of the call's own. -/
def RetE (w : World) (es : List Pe) (e : Ending) (w' : World) : Prop :=
  ∃ (a : Option Addr) (c : Nat) (xs : List El), e = .returned (.slice a es.length c) ∧ xs.map (·.p) = es ∧ Eo w' w.heap.size (.slice a es.length c) xs ∧ Below w.heap.size w w'

theorem placesU_strict (es : List Pe) (last : Int) (k : Nat) : (placesU es last k).Pairwise (· < ·) := by
  unfold placesU
  exact List.Pairwise.filter _ List.pairwise_lt_range

theorem placesU_mem (es : List Pe) (last : Int) (k i : Nat) : i ∈ placesU es last k ↔ i < k ∧ (isPut es last i = true ∨ isNew es last i = true) := by
  unfold placesU
  rw [List.mem_filter, List.mem_range, Bool.or_eq_true]

theorem isPut_iff (es : List Pe) (last : Int) (i : Nat) : isPut es last i = true ↔ ∃ x, curU es last es.length x = some i := by
  unfold isPut
  rw [decide_eq_true_iff]
  exact ⟨fun h => ⟨_, h⟩, fun ⟨x, h⟩ => by rw [curU_key h]; exact h⟩

theorem isNew_iff (es : List Pe) (last : Int) (i : Nat) : isNew es last i = true ↔ ∃ x, newU es last es.length x = some i := by
  unfold isNew
  rw [decide_eq_true_iff]
  exact ⟨fun h => ⟨_, h⟩, fun ⟨x, h⟩ => by rw [newU_client h]; exact h⟩

/-- The places of both tables are the places that count. -/
theorem places_of (es : List Pe) (last : Int) {l : Nat} (hl : es.length = l) {vs us : List Nat} (h1 : ValsOf (curU es last l) vs) (h2 : ValsOf (newU es last l) us) : ∀ i, i ∈ vs ++ us ↔ i ∈ placesU es last l := fun i => by
  rw [List.mem_append, h1.mem, h2.mem, placesU_mem, isPut_iff, isNew_iff, hl]
  constructor
  · rintro (⟨x, h⟩ | ⟨x, h⟩)
    · exact ⟨curU_lt h, .inl ⟨x, h⟩⟩
    · exact ⟨newU_lt h, .inr ⟨x, h⟩⟩
  · exact fun h => h.2

theorem pvals_at (ps : List Nat) (k : Nat) (h : k < ps.length) : (pvals ps).getD k 0 = ((ps.getD k 0 : Nat) : Int) := by
  unfold pvals
  rw [List.getD_eq_getElem?_getD, List.getElem?_map, List.getElem?_eq_getElem h, List.getD_eq_getElem?_getD, List.getElem?_eq_getElem h]
  rfl

theorem pvals_wf (vs : List Nat) (h : ∀ i ∈ vs, i ≤ 1000000000) : ∀ z ∈ pvals vs, I64 z := fun z hz => by
  unfold pvals at hz
  obtain ⟨i, hi, rfl⟩ := List.mem_map.mp hz
  have := h i hi
  unfold I64
  omega

theorem pvals_cat (vs us : List Nat) : pvals vs ++ pvals us = pvals (vs ++ us) := by simp [pvals]

theorem take_map {α β : Type} (f : α → β) (ps : List α) (k : Nat) (d : α) (h : k < ps.length) : (ps.take (k + 1)).map f = (ps.take k).map f ++ [f (ps.getD k d)] := by
  rw [List.take_succ_eq_append_getElem h, List.map_append, List.getD_eq_getElem?_getD, List.getElem?_eq_getElem h]
  rfl

/-- The cells of a literal entry, laid in a block of its own. -/
theorem lit8 (w : World) (p : Pe) (loc : Option Addr) (cp B : Nat) (hB : w.heap.size = B) : ∀ j u, (ecells ⟨p, loc, cp⟩)[j]? = some u →
    (w.alloc (.cells #[.int .i64 p.seq, .int .i64 p.client, .int .i64 p.num, .int .i64 p.op, .string (strB p.key), .int .i64 p.size, .int .u32 (p.sum : Int), .slice loc p.frag.length cp] 26)).cell? ⟨B, j, none⟩ = some u := fun j u hj => by
  subst hB
  rw [World.cell?_alloc_mark, ← Array.getElem?_toList]
  exact hj

theorem liveAt_put {es : List Pe} {last : Int} {i : Nat} (h : isPut es last i = true) : liveAt es last i = es.getD i pe0 := by unfold liveAt; rw [if_pos h]
theorem liveAt_bare {es : List Pe} {last : Int} {i : Nat} (h : isPut es last i = false) : liveAt es last i = bareE (es.getD i pe0) := by unfold liveAt; rw [if_neg (by rw [h]; simp)]

set_option maxRecDepth 100000 in
set_option maxHeartbeats 4000000 in
theorem live_any (a : Option Addr) (cap l : Nat) (es : List Pe) (last : Int) (w : World) (hl : es.length = l) (h : EnsAt w a cap es) (hkl : ∀ e ∈ es, e.key.length ≤ 1000000000 ∧ e.frag.length ≤ 1000000000) (h9 : l ≤ 100000) :
    Calls Try.prog 18 #[.slice a l cap, .int .i64 last] w (RetE w (liveU es last l)) := by
  have HE := Lib.hid h
  have HL := Lib.hid hl
  have HK := Lib.hid hkl
  clear h hl hkl
  go_enter Try.func18, Try.ntmps18
  go_wp2_with fail
  refine (current_any a cap l es last _ HL.out HE.out (fun e he => (HK.out e he).1) (by omega)).mono ?_
  rintro e w1 ⟨rfl, hm1, hb1⟩
  have HM1 := Lib.hid hm1
  have HB1 := Lib.hid hb1
  clear hm1 hb1
  go_wp2_with fail
  refine (contentS_any w.heap.size l _ w1 HM1.out (by omega)).mono ?_
  rintro e w2 ⟨a2, c2, vs, rfl, hvl, hvs, ho2, hb2⟩
  have HM2 := Lib.hid (HM1.out.below hb2)
  have HB2 := Lib.hid (HB1.out.trans (hb2.mono HB1.out.size))
  have HVS := Lib.hid hvs
  have HVB : Hid (∀ i ∈ vs, i ≤ 1000000) := fun i hi => by obtain ⟨x, hx⟩ := (hvs.mem i).1 hi; have := curU_lt hx; omega
  have hp2 := pvals_wf vs (fun i hi => by have := HVB.out i hi; omega)
  have HI2 := Lib.hid (ints_own ho2 (pvals_len vs) hp2).1
  clear hvs ho2 hb2 hp2 HM1 HB1
  generalize hvn : vs.length = n2 at *
  have HVN := Lib.hid hvn
  clear hvn
  go_wp2_with fail
  refine (newest_any a cap l es last w2 HL.out (HE.out.below HB2.out) (by omega)).mono ?_
  rintro e w3 ⟨rfl, hm3, hb3⟩
  have HN3 := Lib.hid hm3
  have HM3 := Lib.hid (HM2.out.below hb3)
  have HB3 := Lib.hid (HB2.out.trans (hb3.mono HB2.out.size))
  have HI3 := Lib.hid (HI2.out.below hb3)
  clear hm3 hb3 HM2 HB2 HI2
  go_wp2_with fail
  refine (contentI_any w2.heap.size l _ w3 HN3.out (by omega)).mono ?_
  rintro e w4 ⟨a4, c4, us, rfl, hul, hus, ho4, hb4⟩
  have HM4 := Lib.hid (HM3.out.below hb4)
  have HB4 := Lib.hid (HB3.out.trans (hb4.mono HB3.out.size))
  have HI4 := Lib.hid (HI3.out.below hb4)
  have HUS := Lib.hid hus
  have HUB : Hid (∀ i ∈ us, i ≤ 1000000) := fun i hi => by obtain ⟨x, hx⟩ := (hus.mem i).1 hi; have := newU_lt hx; omega
  have hp4 := pvals_wf us (fun i hi => by have := HUB.out i hi; omega)
  have HJ4 := Lib.hid (ints_own ho4 (pvals_len us) hp4).1
  clear hus ho4 hb4 hp4 HM3 HB3 HI3 HN3
  generalize hun : us.length = n4 at *
  have HUN := Lib.hid hun
  clear hun
  have HLT : Hid (Bx (w4.alloc (.cells #[.slice a2 n2 c2, .slice a4 n4 c4] 48)) w4.heap.size 48 #[.slice a2 n2 c2, .slice a4 n4 c4]) := bx_new8 _ _ _
  have hb5 := below_one w4 (.cells #[.slice a2 n2 c2, .slice a4 n4 c4] 48)
  have HM5 := Lib.hid (HM4.out.below hb5)
  have HB5 := Lib.hid (HB4.out.trans (hb5.mono HB4.out.size))
  have HI5 := Lib.hid (HI4.out.below hb5)
  have HJ5 := Lib.hid (HJ4.out.below hb5)
  clear hb5 HM4 HB4 HI4 HJ4
  go_wp2_with fail
  generalize w4.alloc (.cells #[.slice a2 n2 c2, .slice a4 n4 c4] 48) = w5 at *
  refine (concat2_any w4.heap.size 0 2 a2 a4 n2 n4 c2 c4 (pvals vs) (pvals us) w5 (by rw [pvals_len]; exact HVN.out) (by rw [pvals_len]; exact HUN.out) HI5.out HJ5.out (HLT.out.cell 0 _ rfl) (HLT.out.cell 1 _ rfl) (by omega) (by omega)).mono ?_
  rw [pvals_cat]
  rintro e w6 ⟨a6, c6, rfl, ho6, hb6⟩
  rw [pvals_len, List.length_append, HVN.out, HUN.out] at ho6 ⊢
  have HO6 := Lib.hid ho6
  have HB6 := Lib.hid hb6
  clear ho6 hb6 HLT HI5 HJ5
  go_wp2_with fail
  refine (sortI_own a6 (n2 + n4) c6 w5.heap.size (pvals (vs ++ us)) w6 (by rw [pvals_len, List.length_append, HVN.out, HUN.out]) (by omega) HO6.out).mono ?_
  rintro e w7 ⟨rfl, ho7, hg7⟩
  have HO7 := Lib.hid ho7
  have HB7 := Lib.hid (HB6.out.grown hg7 HB6.out.size (fun j hj => (World.ownsRow.lt HO6.out j hj).1))
  clear ho7 hg7 HO6 HB6
  go_wp2_with fail
  have hwf7 : ∀ z ∈ ((pvals (vs ++ us)).mergeSort fun x y => decide (x ≤ y)), I64 z := fun z hz => pvals_wf (vs ++ us) (fun i hi => by rcases List.mem_append.mp hi with h | h; exact Nat.le_trans (HVB.out i h) (by omega); exact Nat.le_trans (HUB.out i h) (by omega)) z ((List.mergeSort_perm _ _).mem_iff.1 hz)
  refine (compactI_own a6 (n2 + n4) c6 w5.heap.size _ w7 (by rw [List.length_mergeSort, pvals_len, List.length_append, HVN.out, HUN.out]) hwf7 (by omega) HO7.out).mono ?_
  rw [compact_places (vs ++ us) (placesU es last l) (placesU_strict es last l) (places_of es last HL.out HVS.out HUS.out)]
  rintro e w8 ⟨P, rfl, hpl, hi8, hg8⟩
  have HB8 := Lib.hid (HB7.out.grown hg8 HB7.out.size (fun j hj => (World.ownsRow.lt HO7.out j hj).1))
  have HM8 := Lib.hid (HM5.out.below HB8.out)
  have HW8 := Lib.hid (HB5.out.trans (HB8.out.mono HB5.out.size))
  have HE8 := Lib.hid (HE.out.below HW8.out)
  have HI8 := Lib.hid hi8
  have HPL : Hid ((placesU es last l).length = P) := by show _ = _; rw [← hpl, pvals_len]
  have HPI : Hid (∀ i ∈ placesU es last l, i < l) := fun i hi => ((placesU_mem es last l i).1 hi).1
  have HRL : Hid (liveU es last l = (placesU es last l).map (liveAt es last)) := rfl
  have HPM : Hid (P ≤ l) := by
    show _ ≤ _
    rw [← HPL.out]
    unfold placesU
    exact Nat.le_trans (List.length_filter_le _ _) (by simp)
  have hPM := HPM.out
  clear hpl hi8 hg8 HO7 HB7 HB8 HM5 HB5 hwf7 HVS HUS HVB HUB HVN HUN hvl hul HE
  generalize placesU es last l = ps at *
  generalize liveU es last l = out at *
  go_wp2
  go_loopw [7, 10, 29] (fun v _ i ws => ∃ (k c : Nat) (x : Option Addr) (xs : List El), k ≤ P ∧ i = .int .i64 k ∧ v = .slice x k c ∧ Hid (xs.length = k) ∧ Hid (xs.map (·.p) = (ps.take k).map (liveAt es last)) ∧ Hid (Eo ws w8.heap.size (.slice x k c) xs) ∧ Hid (Below w8.heap.size w8 ws)) (fun _ _ i _ => P - (intOf i).toNat)
  case atStart => exact ⟨0, 0, none, [], Nat.zero_le _, rfl, rfl, rfl, rfl, eo_nil _ _, Below.refl _ _⟩
  case round =>
    obtain ⟨k, c, x, xs, hk, rfl, rfl, HX, HXM, HO, HB⟩ := hrel
    by_cases hlt : k < P
    · obtain ⟨b0, off0, rfl, hc0⟩ := (HI8.out.below HB.out).cell k (by rw [pvals_len, HPL.out]; exact hlt)
      rw [pvals_at ps k (by rw [HPL.out]; exact hlt)] at hc0
      have HTM := Lib.hid (take_map (liveAt es last) ps k 0 (by rw [HPL.out]; exact hlt))
      have hil := HPI.out _ (getD_mem ps k 0 (by rw [HPL.out]; exact hlt))
      generalize ps.getD k 0 = i at *
      obtain ⟨b, off, loc, cp, rfl, hc⟩ := (HE8.out.below HB.out).el i (by rw [HL.out]; exact hil)
      have c0 := hc.c0
      have c1 := hc.c1
      have c2 := hc.c2
      have c3 := hc.c3
      have c4 := hc.c4
      have c5 := hc.c5
      have c6 := hc.c6
      have c7 := hc.c7
      have HS0 := Lib.hid hc.seen
      clear hc
      have HWF := Lib.hid (HE8.out.wf _ (getD_mem es i pe0 (by rw [HL.out]; exact hil)))
      have HKP := Lib.hid (HK.out _ (getD_mem es i pe0 (by rw [HL.out]; exact hil)))
      have HIP : Hid (isPut es last i = decide (curU es last l (kb (es.getD i pe0)) = some i)) := by show _ = _; unfold isPut; rw [HL.out]
      have HLP : Hid (isPut es last i = true → liveAt es last i = es.getD i pe0) := liveAt_put
      have HLB : Hid (isPut es last i = false → liveAt es last i = bareE (es.getD i pe0)) := liveAt_bare
      generalize es.getD i pe0 = p at *
      have HB1 := Lib.hid (HB.out.alloc HB.out.size (.cells #[.int .i64 p.seq, .int .i64 p.client, .int .i64 p.num, .int .i64 p.op, .string (strB p.key), .int .i64 p.size, .int .u32 (p.sum : Int), .slice loc p.frag.length cp] 26))
      have HO1 := Lib.hid (HO.out.below (below_one wr (.cells #[.int .i64 p.seq, .int .i64 p.client, .int .i64 p.num, .int .i64 p.op, .string (strB p.key), .int .i64 p.size, .int .u32 (p.sum : Int), .slice loc p.frag.length cp] 26)))
      have HS1 := Lib.hid (HS0.out.below (below_one wr (.cells #[.int .i64 p.seq, .int .i64 p.client, .int .i64 p.num, .int .i64 p.op, .string (strB p.key), .int .i64 p.size, .int .u32 (p.sum : Int), .slice loc p.frag.length cp] 26)))
      have HM1 := Lib.hid (HM8.out.below HB1.out)
      have HOW : Hid (∀ g, Value.ownBlock (.slice x k c) = some g → g < wr.heap.size ∧ w8.heap.size ≤ g) := fun g hg => ⟨(World.ownsRow.lt HO.out.own g hg).2, (World.ownsRow.lt HO.out.own g hg).1⟩
      obtain ⟨at0, hat0⟩ : ∃ q, (curU es last l (kb p)).getD 0 = q := ⟨_, rfl⟩
      obtain ⟨ok0, hok0⟩ : ∃ q, (curU es last l (kb p)).isSome = q := ⟨_, rfl⟩
      have HPUT : Hid (isPut es last i = (ok0 && decide (at0 = i))) := by
        show _ = _
        rw [HIP.out, ← hat0, ← hok0]
        cases curU es last l (kb p) <;> simp
      have HAT := Lib.hid hat0
      have HOK := Lib.hid hok0
      clear hat0 hok0 HIP HB HO HS0
      go_upto_region 10 with (at_lookup; refine wpList_lookP rfl _ _ 9 50 mkS rfl string_kd Try.underlying50 w.heap.size l _ rfl HM1.out _ (kb p) rfl (key_str p HKP.out.1) at0 ok0 HAT.out HOK.out ?_; go_frame)
      have HSZ : Hid (wr.heap.size ≤ (wr.alloc (.cells #[.int .i64 p.seq, .int .i64 p.client, .int .i64 p.num, .int .i64 p.op, .string (strB p.key), .int .i64 p.size, .int .u32 (p.sum : Int), .slice loc p.frag.length cp] 26)).heap.size) := by show _ ≤ _; rw [World.size_alloc]; omega
      have HSX : Hid (Below wr.heap.size wr (wr.alloc (.cells #[.int .i64 p.seq, .int .i64 p.client, .int .i64 p.num, .int .i64 p.op, .string (strB p.key), .int .i64 p.size, .int .u32 (p.sum : Int), .slice loc p.frag.length cp] 26))) := below_one _ _
      by_cases hput : isPut es last i = true
      · have HL1 := Lib.hid (HLP.out hput)
        rw [hput] at HPUT
        have HQ : Hid (ok0 = true ∧ at0 = i) := by
          have := HPUT.out.symm
          show _ ∧ _
          simpa using this
        obtain ⟨rfl, rfl⟩ := HQ.out
        have d1 : ((at0 : Int) == (at0 : Int)) = true := by simp
        clear hput HLP HLB HPUT HQ HAT HOK HM1
        go_wp2_with fail
        generalize (wr.alloc (.cells #[.int .i64 p.seq, .int .i64 p.client, .int .i64 p.num, .int .i64 p.op, .string (strB p.key), .int .i64 p.size, .int .u32 (p.sum : Int), .slice loc p.frag.length cp] 26)) = wx at *
        refine (copied_any p loc cp wx HS1.out HKP.out.2).mono ?_
        rintro e wy ⟨la, lc, rfl, hsy, hfy, hby⟩
        have HFY : Hid (p.frag ≠ [] → ∀ b o, la = some ⟨b, o, none⟩ → b < (wy.alloc (.cells #[.int .i64 p.seq, .int .i64 p.client, .int .i64 p.num, .int .i64 p.op, .string (strB p.key), .int .i64 p.size, .int .u32 (p.sum : Int), .slice la p.frag.length lc] 26)).heap.size ∧ ∀ g, Value.ownBlock (.slice x k c) = some g → b ≠ g) := fun _ b1 o1 e1 => by
          rcases hfy with h | ⟨b2, o2, h, h2, h3⟩
          · rw [h] at e1; cases e1
          · rw [h] at e1
            cases e1
            exact ⟨by rw [World.size_alloc]; omega, fun g hg => by have := (HOW.out g hg).1; have := HSZ.out; omega⟩
        have HLI := Lib.hid (lit8 wy p la lc wy.heap.size rfl)
        have HBY := Lib.hid (HB1.out.trans (hby.mono HB1.out.size))
        have hbl := below_one wy (.cells #[.int .i64 p.seq, .int .i64 p.client, .int .i64 p.num, .int .i64 p.op, .string (strB p.key), .int .i64 p.size, .int .u32 (p.sum : Int), .slice la p.frag.length lc] 26)
        have HO2 := Lib.hid ((HO1.out.below hby).below hbl)
        have HB2 := Lib.hid (HBY.out.trans (hbl.mono HBY.out.size))
        have HS2 := Lib.hid (hsy.below hbl)
        have hsz2 := HB2.out.size
        have hkb : k ≤ 1000000 := by omega
        clear hsy hby hbl HO1 HB1 HBY HS1
        go_wp2_with (at_builtin; refine wpList_appO rfl (.tmp 50) (.tmp 53) rfl w8.heap.size _ xs k HX.out rfl HO2.out ⟨p, la, lc⟩ _ 1 rfl HLI.out hkb hsz2 HS2.out HFY.out (HWF.out) ?_; intro g3 c3' w3' ho3 hg3)
        have HO3 := Lib.hid ho3
        have HB3 := Lib.hid (HB2.out.grown hg3 hsz2 (fun j hj => (HOW.out j hj).2))
        have HX3 : Hid ((xs ++ [(⟨p, la, lc⟩ : El)]).length = k + 1) := by show _ = _; rw [List.length_append, HX.out]; rfl
        have HXM3 : Hid ((xs ++ [(⟨p, la, lc⟩ : El)]).map (·.p) = (ps.take (k + 1)).map (liveAt es last)) := by
          show _ = _
          rw [List.map_append, HXM.out, HTM.out, HL1.out]
          rfl
        clear ho3 hg3
        go_roundw
        case rel => exact ⟨k + 1, c3', some ⟨g3, 0, none⟩, _, by omega, by go_num, rfl, HX3, HXM3, HO3, HB3⟩
        case measure => simp [intOf]; omega
      · have hput' : isPut es last i = false := by simpa using hput
        have HL1 := Lib.hid (HLB.out hput')
        rw [hput'] at HPUT
        have HQ : Hid (ok0 = true → ¬ at0 = i) := fun e => by have := HPUT.out.symm; rw [e] at this; simpa using this
        have hsb : SeenAt wr none 0 (bareE p).frag := SeenAt.nil (Nat.zero_le _)
        have HSB := Lib.hid hsb
        clear hput hput' HLP HLB HPUT HAT HOK HM1 hsb
        cases ok0 with
        | true =>
          have d1 : ((at0 : Int) == (i : Int)) = false := by have := HQ.out rfl; simp; omega
          clear HQ
          go_wp2_with fail
          generalize (wr.alloc (.cells #[.int .i64 p.seq, .int .i64 p.client, .int .i64 p.num, .int .i64 p.op, .string (strB p.key), .int .i64 p.size, .int .u32 (p.sum : Int), .slice loc p.frag.length cp] 26)) = wx at *
          refine (bare_any _ _ _ _ _ _ _ _ wx).mono ?_
          rintro e wy ⟨rfl, hby⟩
          have hsy := HSB.out.below (w' := wy) (by have h1 := HSX.out; exact h1.trans (hby.mono h1.size))
          have HFY : Hid ((bareE p).frag ≠ [] → ∀ b o, (none : Option Addr) = some ⟨b, o, none⟩ → b < (wy.alloc (.cells #[.int .i64 p.seq, .int .i64 p.client, .int .i64 p.num, .int .i64 0, .string ⟨#[]⟩, .int .i64 0, .int .u32 0, .slice none 0 0] 26)).heap.size ∧ ∀ g, Value.ownBlock (.slice x k c) = some g → b ≠ g) := fun _ b1 o1 e1 => by cases e1
          have HLI := Lib.hid (lit8 wy (bareE p) none 0 wy.heap.size rfl)
          have HBY := Lib.hid (HB1.out.trans (hby.mono HB1.out.size))
          have hbl := below_one wy (.cells #[.int .i64 p.seq, .int .i64 p.client, .int .i64 p.num, .int .i64 0, .string ⟨#[]⟩, .int .i64 0, .int .u32 0, .slice none 0 0] 26)
          have HO2 := Lib.hid ((HO1.out.below hby).below hbl)
          have HB2 := Lib.hid (HBY.out.trans (hbl.mono HBY.out.size))
          have HS2 := Lib.hid (hsy.below hbl)
          have hsz2 := HB2.out.size
          have hkb : k ≤ 1000000 := by omega
          clear hsy hby hbl HO1 HB1 HBY HS1
          go_wp2_with (at_builtin; refine wpList_appO rfl (.tmp 55) (.tmp 58) rfl w8.heap.size _ xs k HX.out rfl HO2.out ⟨(bareE p), none, 0⟩ _ 1 rfl HLI.out hkb hsz2 HS2.out HFY.out (bareE_wf HWF.out) ?_; intro g3 c3' w3' ho3 hg3)
          have HO3 := Lib.hid ho3
          have HB3 := Lib.hid (HB2.out.grown hg3 hsz2 (fun j hj => (HOW.out j hj).2))
          have HX3 : Hid ((xs ++ [(⟨(bareE p), none, 0⟩ : El)]).length = k + 1) := by show _ = _; rw [List.length_append, HX.out]; rfl
          have HXM3 : Hid ((xs ++ [(⟨(bareE p), none, 0⟩ : El)]).map (·.p) = (ps.take (k + 1)).map (liveAt es last)) := by
            show _ = _
            rw [List.map_append, HXM.out, HTM.out, HL1.out]
            rfl
          clear ho3 hg3
          go_roundw
          case rel => exact ⟨k + 1, c3', some ⟨g3, 0, none⟩, _, by omega, by go_num, rfl, HX3, HXM3, HO3, HB3⟩
          case measure => simp [intOf]; omega
        | false =>
          clear HQ
          go_wp2_with fail
          generalize (wr.alloc (.cells #[.int .i64 p.seq, .int .i64 p.client, .int .i64 p.num, .int .i64 p.op, .string (strB p.key), .int .i64 p.size, .int .u32 (p.sum : Int), .slice loc p.frag.length cp] 26)) = wx at *
          refine (bare_any _ _ _ _ _ _ _ _ wx).mono ?_
          rintro e wy ⟨rfl, hby⟩
          have hsy := HSB.out.below (w' := wy) (by have h1 := HSX.out; exact h1.trans (hby.mono h1.size))
          have HFY : Hid ((bareE p).frag ≠ [] → ∀ b o, (none : Option Addr) = some ⟨b, o, none⟩ → b < (wy.alloc (.cells #[.int .i64 p.seq, .int .i64 p.client, .int .i64 p.num, .int .i64 0, .string ⟨#[]⟩, .int .i64 0, .int .u32 0, .slice none 0 0] 26)).heap.size ∧ ∀ g, Value.ownBlock (.slice x k c) = some g → b ≠ g) := fun _ b1 o1 e1 => by cases e1
          have HLI := Lib.hid (lit8 wy (bareE p) none 0 wy.heap.size rfl)
          have HBY := Lib.hid (HB1.out.trans (hby.mono HB1.out.size))
          have hbl := below_one wy (.cells #[.int .i64 p.seq, .int .i64 p.client, .int .i64 p.num, .int .i64 0, .string ⟨#[]⟩, .int .i64 0, .int .u32 0, .slice none 0 0] 26)
          have HO2 := Lib.hid ((HO1.out.below hby).below hbl)
          have HB2 := Lib.hid (HBY.out.trans (hbl.mono HBY.out.size))
          have HS2 := Lib.hid (hsy.below hbl)
          have hsz2 := HB2.out.size
          have hkb : k ≤ 1000000 := by omega
          clear hsy hby hbl HO1 HB1 HBY HS1
          go_wp2_with (at_builtin; refine wpList_appO rfl (.tmp 55) (.tmp 58) rfl w8.heap.size _ xs k HX.out rfl HO2.out ⟨(bareE p), none, 0⟩ _ 1 rfl HLI.out hkb hsz2 HS2.out HFY.out (bareE_wf HWF.out) ?_; intro g3 c3' w3' ho3 hg3)
          have HO3 := Lib.hid ho3
          have HB3 := Lib.hid (HB2.out.grown hg3 hsz2 (fun j hj => (HOW.out j hj).2))
          have HX3 : Hid ((xs ++ [(⟨(bareE p), none, 0⟩ : El)]).length = k + 1) := by show _ = _; rw [List.length_append, HX.out]; rfl
          have HXM3 : Hid ((xs ++ [(⟨(bareE p), none, 0⟩ : El)]).map (·.p) = (ps.take (k + 1)).map (liveAt es last)) := by
            show _ = _
            rw [List.map_append, HXM.out, HTM.out, HL1.out]
            rfl
          clear ho3 hg3
          go_roundw
          case rel => exact ⟨k + 1, c3', some ⟨g3, 0, none⟩, _, by omega, by go_num, rfl, HX3, HXM3, HO3, HB3⟩
          case measure => simp [intOf]; omega
    · obtain rfl : k = P := by omega
      have HF : Hid (RetE w out (.returned (.slice x k c)) wr) := by
        have e1 : out.length = k := by rw [HRL.out, List.length_map]; exact HPL.out
        have e2 : ps.take k = ps := List.take_of_length_le (by rw [HPL.out]; omega)
        refine ⟨x, c, xs, by rw [e1], by rw [HXM.out, e2, HRL.out], ?_, HW8.out.trans (HB.out.mono HW8.out.size)⟩
        rw [e1]
        exact ⟨owns_base HO.out.own HW8.out.size, HO.out.seen, HO.out.off, HO.out.wf⟩
      go_wp2
      go_ret
      exact HF.out

end Go.Proofs.Ytdifnipjmnbojaa
