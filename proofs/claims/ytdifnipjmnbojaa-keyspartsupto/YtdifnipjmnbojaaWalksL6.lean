/-
  The walk of the reference's Live.
-/
import Derived.Deep.DeepCutAuto
import Derived.Test.YtdifnipjmnbojaaWalksL5
namespace Go.Proofs.Ytdifnipjmnbojaa
open Go.RowKit









theorem latB_succ (es : List Pe) (last c : Int) (i k : Nat) : latB es last c i (k + 1) = (latB es last c i k || (decide (i < k) && mine c last (es.getD k pe0))) := rfl

set_option maxRecDepth 100000 in
set_option maxHeartbeats 8000000 in
theorem refLive_any (a : Option Addr) (cap l : Nat) (es : List Pe) (last : Int) (w : World) (hl : es.length = l) (h : EnsAt w a cap es) (h9 : l ≤ 1000) (hr : Ris es) :
    Calls Try.prog 19 #[.slice a l cap, .int .i64 last] w (RetE w (liveU es last l)) := by
  have HE := Lib.hid h
  have HL := Lib.hid hl
  have HRI := Lib.hid hr
  clear h hl hr
  have HO0 := Lib.hid (eo_made w w.heap.size (Nat.le_refl _))
  have HB0 : Hid (Below w.heap.size w (w.alloc (.cells #[] 26))) := below_one _ _
  go_enter Try.func19, Try.ntmps19
  go_wp2
  go_loopw [5, 6, 7] (fun v i _ ws => ∃ (k m c : Nat) (x : Option Addr) (xs : List El), k ≤ l ∧ m ≤ k ∧ i = .int .i64 k ∧ v = .slice x m c ∧ Hid (xs.length = m) ∧ Hid (xs.map (·.p) = liveU es last k) ∧ Hid (Eo ws w.heap.size (.slice x m c) xs) ∧ Hid (Below w.heap.size w ws)) (fun _ i _ _ => l - (intOf i).toNat)
  case atStart => exact ⟨0, 0, 0, _, [], Nat.zero_le _, Nat.zero_le _, rfl, rfl, rfl, rfl, HO0, HB0⟩
  case round =>
    obtain ⟨k, m, c, x, xs, hk, hmk, rfl, rfl, HX, HXM, HO, HB⟩ := hrel
    have HRL : Hid ((liveU es last k).length = m) := by show _ = _; rw [← HXM.out, List.length_map]; exact HX.out
    by_cases hlt : k < l
    · obtain ⟨b, off, loc, cp, rfl, hc0⟩ := HE.out.el k (by rw [HL.out]; exact hlt)
      have hc := hc0.below HB.out
      have c0 := hc.c0
      have c1 := hc.c1
      have c2 := hc.c2
      have c3 := hc.c3
      have c4 := hc.c4
      have c5 := hc.c5
      have c6 := hc.c6
      have c7 := hc.c7
      have HS := Lib.hid hc0.seen
      have HWF := Lib.hid (HE.out.wf _ (getD_mem es k pe0 (by rw [HL.out]; exact hlt)))
      have hke : k < es.length := by rw [HL.out]; exact hlt
      have HSK : Hid (last < (es.getD k pe0).seq → liveU es last (k + 1) = liveU es last k) := fun h => liveU_skip h hke
      have HPU : Hid ((es.getD k pe0).seq ≤ last → rput es last k → liveU es last (k + 1) = liveU es last k ++ [es.getD k pe0]) := fun h1 h2 => liveU_rput HRI.out h1 hke h2
      have HNE : Hid ((es.getD k pe0).seq ≤ last → ¬ rput es last k → latB es last (es.getD k pe0).client k l = false → liveU es last (k + 1) = liveU es last k ++ [bareE (es.getD k pe0)]) := fun h1 h2 h3 => liveU_new HRI.out h1 hke h2 (by rw [HL.out]; exact h3)
      have HOL : Hid ((es.getD k pe0).seq ≤ last → ¬ rput es last k → latB es last (es.getD k pe0).client k l = true → liveU es last (k + 1) = liveU es last k) := fun h1 h2 h3 => liveU_old HRI.out h1 hke h2 (by rw [HL.out]; exact h3)
      have HRP : Hid (rput es last k ↔ (ansF es (fndU es last (kb (es.getD k pe0)) l)).2 = true ∧ (ansF es (fndU es last (kb (es.getD k pe0)) l)).1.op = 1 ∧ (ansF es (fndU es last (kb (es.getD k pe0)) l)).1.seq = (es.getD k pe0).seq ∧ (es.getD k pe0).op = 1) := by show _ ↔ _; unfold rput; rw [HL.out]
      clear hc hc0 hke
      generalize es.getD k pe0 = p at *
      have hbl := below_one wr (.cells #[.int .i64 p.seq, .int .i64 p.client, .int .i64 p.num, .int .i64 p.op, .string (strB p.key), .int .i64 p.size, .int .u32 (p.sum : Int), .slice loc p.frag.length cp] 26)
      have HO1 := Lib.hid (HO.out.below hbl)
      have HB1 := Lib.hid (HB.out.trans (hbl.mono HB.out.size))
      have HX1 : Hid (Bx (wr.alloc (.cells #[.int .i64 p.seq, .int .i64 p.client, .int .i64 p.num, .int .i64 p.op, .string (strB p.key), .int .i64 p.size, .int .u32 (p.sum : Int), .slice loc p.frag.length cp] 26)) wr.heap.size 26 #[.int .i64 p.seq, .int .i64 p.client, .int .i64 p.num, .int .i64 p.op, .string (strB p.key), .int .i64 p.size, .int .u32 (p.sum : Int), .slice loc p.frag.length cp]) := bx_new8 _ _ _
      have j1 : (k : Int) < (l : Int) := by omega
      have j0 : (0 : Int) ≤ (k : Int) := by omega
      clear hbl HO HB
      by_cases hs : last < p.seq
      · have d1 : decide (last < p.seq) = true := by simp [hs]
        have HXM1 : Hid (xs.map (·.p) = liveU es last (k + 1)) := by show _ = _; rw [HSK.out hs]; exact HXM.out
        clear HSK HPU HNE HOL HRP hs
        go_wp2
        go_roundw
        case rel => exact ⟨k + 1, m, c, x, xs, by omega, by omega, by go_num, rfl, HX, HXM1, HO1, HB1⟩
        case measure => simp [intOf]; omega
      have d1 : decide (last < p.seq) = false := by simp; omega
      have HSQ : Hid (p.seq ≤ last) := by show _ ≤ _; omega
      clear HSK hs
      go_wp2_with fail
      generalize (wr.alloc (.cells #[.int .i64 p.seq, .int .i64 p.client, .int .i64 p.num, .int .i64 p.op, .string (strB p.key), .int .i64 p.size, .int .u32 (p.sum : Int), .slice loc p.frag.length cp] 26)) = w1 at *
      refine (refFind_any (some ⟨b, off, none⟩) cap l es (strB p.key) last w1 HL.out (HE.out.below HB1.out)).mono ?_
      rw [strB_list]
      rw [show p.key.map UInt8.ofNat = kb p from rfl]
      generalize ansF es (fndU es last (kb p) l) = fa at *
      obtain ⟨fp, fb⟩ := fa
      dsimp only at HRP
      dsimp only
      rintro e w2 ⟨fl, fc, rfl, hs2, hb2⟩
      have hbl2 := below_one w2 (.cells #[.int .i64 fp.seq, .int .i64 fp.client, .int .i64 fp.num, .int .i64 fp.op, .string (strB fp.key), .int .i64 fp.size, .int .u32 (fp.sum : Int), .slice fl fp.frag.length fc] 26)
      have HO2 := Lib.hid ((HO1.out.below hb2).below hbl2)
      have HB2 := Lib.hid (HB1.out.trans ((hb2.trans (hbl2.mono hb2.size)).mono HB1.out.size))
      have HX2 := Lib.hid ((HX1.out.chg (gs := []) (Chg.of_below hb2) (by simp)).chg (gs := []) (Chg.of_below hbl2) (by simp))
      have HY2 : Hid (Bx (w2.alloc (.cells #[.int .i64 fp.seq, .int .i64 fp.client, .int .i64 fp.num, .int .i64 fp.op, .string (strB fp.key), .int .i64 fp.size, .int .u32 (fp.sum : Int), .slice fl fp.frag.length fc] 26)) w2.heap.size 26 #[.int .i64 fp.seq, .int .i64 fp.client, .int .i64 fp.num, .int .i64 fp.op, .string (strB fp.key), .int .i64 fp.size, .int .u32 (fp.sum : Int), .slice fl fp.frag.length fc]) := bx_new8 _ _ _
      clear hs2 hb2 hbl2 HO1 HB1 HX1
      go_upto_region 8 with fail
      generalize (w2.alloc (.cells #[.int .i64 fp.seq, .int .i64 fp.client, .int .i64 fp.num, .int .i64 fp.op, .string (strB fp.key), .int .i64 fp.size, .int .u32 (fp.sum : Int), .slice fl fp.frag.length fc] 26)) = w3 at *
      clear c0 c1 c2 c3 c4 c5 c6 c7
      have e0 := HX2.out.cell 0 (.int .i64 p.seq) rfl
      have e1 := HX2.out.cell 1 (.int .i64 p.client) rfl
      have e2 := HX2.out.cell 2 (.int .i64 p.num) rfl
      have e3 := HX2.out.cell 3 (.int .i64 p.op) rfl
      have e4 := HX2.out.cell 4 (.string (strB p.key)) rfl
      have e5 := HX2.out.cell 5 (.int .i64 p.size) rfl
      have e6 := HX2.out.cell 6 (.int .u32 (p.sum : Int)) rfl
      have e7 := HX2.out.cell 7 (.slice loc p.frag.length cp) rfl
      have y0 := HY2.out.cell 0 (.int .i64 fp.seq) rfl
      have y1 := HY2.out.cell 1 (.int .i64 fp.client) rfl
      have y2 := HY2.out.cell 2 (.int .i64 fp.num) rfl
      have y3 := HY2.out.cell 3 (.int .i64 fp.op) rfl
      have y4 := HY2.out.cell 4 (.string (strB fp.key)) rfl
      have y5 := HY2.out.cell 5 (.int .i64 fp.size) rfl
      have y6 := HY2.out.cell 6 (.int .u32 (fp.sum : Int)) rfl
      have y7 := HY2.out.cell 7 (.slice fl fp.frag.length fc) rfl
      go_cut [52] (fun s wx => ∃ q : Bool, s = .bool q ∧ Hid (q = true ↔ rput es last k) ∧ wx = w3)
      case first =>
        cases fb with
        | false =>
          go_wp2_with fail
          go_meet
          exact ⟨false, rfl, (by show _ ↔ _; rw [HRP.out]; simp), rfl⟩
        | true =>
          by_cases h1 : fp.op = 1
          · have u1 : (fp.op == 1) = true := by simp [h1]
            by_cases h2 : fp.seq = p.seq
            · have u2 : (fp.seq == p.seq) = true := by simp [h2]
              by_cases h3 : p.op = 1
              · have u3 : (p.op == 1) = true := by simp [h3]
                have HQ : Hid (rput es last k) := by show rput es last k; exact HRP.out.2 ⟨rfl, h1, h2, h3⟩
                clear h1 h2 h3
                go_wp2_with fail
                go_meet
                exact ⟨true, rfl, (Lib.hid ⟨fun _ => HQ.out, fun _ => rfl⟩), rfl⟩
              · have u3 : (p.op == 1) = false := by simp [h3]
                have HQ : Hid (false = true ↔ rput es last k) := by show _ ↔ _; rw [HRP.out]; simp [h3]
                clear h1 h2 h3
                go_wp2_with fail
                go_meet
                exact ⟨false, rfl, HQ, rfl⟩
            · have u2 : (fp.seq == p.seq) = false := by simp [h2]
              have HQ : Hid (false = true ↔ rput es last k) := by show _ ↔ _; rw [HRP.out]; simp [h2]
              clear h1 h2
              go_wp2_with fail
              go_meet
              exact ⟨false, rfl, HQ, rfl⟩
          · have u1 : (fp.op == 1) = false := by simp [h1]
            have HQ : Hid (false = true ↔ rput es last k) := by show _ ↔ _; rw [HRP.out]; simp [h1]
            clear h1
            go_wp2_with fail
            go_meet
            exact ⟨false, rfl, HQ, rfl⟩
      case rest =>
      obtain ⟨q, rfl, HQ, hw⟩ := hcut
      obtain rfl := hw.symm
      clear hw
      clear y0 y1 y2 y3 y4 y5 y6 y7
      clear HY2 HRP
      cases q with
      | true =>
        have HR5 := Lib.hid (HPU.out HSQ.out (HQ.out.1 rfl))
        have HOY := HO2
        have HBY := HB2
        clear HPU HNE HOL HQ HO2 HB2
        have HLI := Lib.hid (lit8 w3 (p) loc cp (w3).heap.size rfl)
        have hbl := below_one w3 (.cells #[.int .i64 p.seq, .int .i64 p.client, .int .i64 p.num, .int .i64 p.op, .string (strB p.key), .int .i64 p.size, .int .u32 (p.sum : Int), .slice loc p.frag.length cp] 26)
        have HO4 := Lib.hid (HOY.out.below hbl)
        have HB4 := Lib.hid (HBY.out.trans (hbl.mono HBY.out.size))
        have HS4 := Lib.hid ((HS.out).below HB4.out)
        have hsz4 := HB4.out.size
        have hgo : ∀ gg, Value.ownBlock (.slice x m c) = some gg → w.heap.size ≤ gg := fun gg hg => (World.ownsRow.lt HO4.out.own gg hg).1
        have HGO := Lib.hid hgo
        have HFY : Hid ((p).frag ≠ [] → ∀ b o, loc = some ⟨b, o, none⟩ → b < ((w3).alloc (.cells #[.int .i64 p.seq, .int .i64 p.client, .int .i64 p.num, .int .i64 p.op, .string (strB p.key), .int .i64 p.size, .int .u32 (p.sum : Int), .slice loc p.frag.length cp] 26)).heap.size ∧ ∀ gg, Value.ownBlock (.slice x m c) = some gg → b ≠ gg) := fun h0 b1 o1 e1 => by
          have h1 := seen_lt (HS.out) h0 e1
          exact ⟨by omega, fun gg hg => by have := HGO.out gg hg; omega⟩
        clear hbl HOY HBY hgo
        have hmb : m ≤ 1000000 := by omega
        go_wp2_with (at_builtin; refine wpList_appO rfl (.tmp 53) (.tmp 55) rfl w.heap.size _ xs m HX.out rfl HO4.out ⟨p, loc, cp⟩ _ 1 rfl HLI.out hmb hsz4 HS4.out HFY.out (HWF.out) ?_; intro g3 c3' w3' ho3 hg3)
        have HO5 := Lib.hid ho3
        have HB5 := Lib.hid (HB4.out.grown hg3 hsz4 (fun j hj => HGO.out j hj))
        have HX5 : Hid ((xs ++ [(⟨p, loc, cp⟩ : El)]).length = m + 1) := by show _ = _; rw [List.length_append, HX.out]; rfl
        have HXM5 : Hid ((xs ++ [(⟨p, loc, cp⟩ : El)]).map (·.p) = liveU es last (k + 1)) := by
          show _ = _
          rw [List.map_append, HXM.out, HR5.out]
          rfl
        clear ho3 hg3
        go_roundw
        case rel => exact ⟨k + 1, m + 1, c3', some ⟨g3, 0, none⟩, _, by omega, by omega, by go_num, rfl, HX5, HXM5, HO5, HB5⟩
        case measure => simp [intOf]; omega
      | false =>
        have HNP : Hid (¬ rput es last k) := fun h => by have := HQ.out.2 h; cases this
        clear HPU HQ
        clear e0 e1 e2 e3 e4 e5 e6 e7
        go_wp2
        go_loopw [10, 11] (fun t i ws => ∃ (j : Nat) (lt : Bool), k + 1 ≤ j ∧ j ≤ l ∧ i = .int .i64 j ∧ t = .bool lt ∧ Hid (latB es last p.client k j = lt) ∧ Hid (Below w3.heap.size w3 ws)) (fun _ i _ => l - (intOf i).toNat)
        case atStart => exact ⟨k + 1, false, Nat.le_refl _, by omega, by go_num, rfl, latB_early _ _ _ _ _ (Nat.le_refl _), Below.refl _ _⟩
        case round =>
          obtain ⟨j, lt, hj1, hj2, rfl, rfl, HLT, HBR⟩ := hrel
          by_cases hjl : j < l
          · obtain ⟨b', off', loc', cp', hbb, hd0⟩ := HE.out.el j (by rw [HL.out]; exact hjl)
            simp only [Option.some.injEq, Addr.mk.injEq] at hbb
            obtain ⟨rfl, rfl, _⟩ := hbb
            have hd := hd0.below (HB2.out.trans (HBR.out.mono HB2.out.size))
            have d0 := hd.c0
            have d1 := hd.c1
            have d2 := hd.c2
            have d3 := hd.c3
            have d4 := hd.c4
            have d5 := hd.c5
            have d6 := hd.c6
            have d7 := hd.c7
            have e1 := (HX2.out.chg (gs := []) (Chg.of_below HBR.out) (by simp)).cell 1 (.int .i64 p.client) rfl
            have HSU : Hid (latB es last p.client k (j + 1) = (lt || (decide (k < j) && mine p.client last (es.getD j pe0)))) := by show _ = _; rw [latB_succ, HLT.out]
            clear hd hd0
            generalize es.getD j pe0 = r at *
            have j1 : (j : Int) < (l : Int) := by omega
            have j0 : (0 : Int) ≤ (j : Int) := by omega
            have hkj : decide (k < j) = true := by simp; omega
            rw [hkj, Bool.true_and] at HSU
            clear hkj
            cases lt with
            | true =>
              have HT1 : Hid (latB es last p.client k (j + 1) = true) := HSU.out
              clear HSU HLT
              go_wp2_with fail
              go_quiet (fail)
              go_wp2
              go_roundw
              case rel => exact ⟨j + 1, true, by omega, by omega, by go_num, rfl, HT1, HBR.out.trans ((below_drewN _ _).mono HBR.out.size)⟩
              case measure => simp [intOf]; omega
            | false =>
              by_cases h5 : r.seq ≤ last
              · have d5 : decide (r.seq ≤ last) = true := by simp [h5]
                by_cases h6 : r.client = p.client
                · have d6 : (r.client == p.client) = true := by simp [h6]
                  have HT1 : Hid (latB es last p.client k (j + 1) = true) := by show _ = _; rw [HSU.out, mine_iff.2 ⟨h5, h6⟩]; rfl
                  clear HSU HLT h5 h6
                  go_wp2_with fail
                  go_quiet (fail)
                  go_wp2
                  go_roundw
                  case rel => exact ⟨j + 1, true, by omega, by omega, by go_num, rfl, HT1, HBR.out.trans ((below_drewN _ _).mono HBR.out.size)⟩
                  case measure => simp [intOf]; omega
                · have d6 : (r.client == p.client) = false := by simp [h6]
                  have HT1 : Hid (latB es last p.client k (j + 1) = false) := by show _ = _; rw [HSU.out, mine_no.2 (fun h => h6 h.2)]; rfl
                  clear HSU HLT h5 h6
                  go_wp2_with fail
                  go_quiet (fail)
                  go_wp2
                  go_roundw
                  case rel => exact ⟨j + 1, false, by omega, by omega, by go_num, rfl, HT1, HBR.out.trans ((below_drewN _ _).mono HBR.out.size)⟩
                  case measure => simp [intOf]; omega
              · have d5 : decide (r.seq ≤ last) = false := by simp; omega
                have HT1 : Hid (latB es last p.client k (j + 1) = false) := by show _ = _; rw [HSU.out, mine_no.2 (fun h => h5 h.1)]; rfl
                clear HSU HLT h5
                go_wp2_with fail
                go_quiet (fail)
                go_wp2
                go_roundw
                case rel => exact ⟨j + 1, false, by omega, by omega, by go_num, rfl, HT1, HBR.out.trans ((below_drewN _ _).mono HBR.out.size)⟩
                case measure => simp [intOf]; omega
          · obtain rfl : j = l := by omega
            have HOY := Lib.hid (HO2.out.below HBR.out)
            have HBY := Lib.hid (HB2.out.trans (HBR.out.mono HB2.out.size))
            have HX3 := Lib.hid (HX2.out.chg (gs := []) (Chg.of_below HBR.out) (by simp))
            clear HO2 HB2 HBR HX2
            cases lt with
            | true =>
              have HXM5 : Hid (xs.map (·.p) = liveU es last (k + 1)) := by show _ = _; rw [HOL.out HSQ.out HNP.out HLT.out]; exact HXM.out
              clear HOL HNE
              go_wp2
              go_roundw
              case rel => exact ⟨k + 1, m, c, x, xs, by omega, by omega, by go_num, rfl, HX, HXM5, HOY, HBY⟩
              case measure => simp [intOf]; omega
            | false =>
              have HR5 := Lib.hid (HNE.out HSQ.out HNP.out HLT.out)
              have e0 := HX3.out.cell 0 (.int .i64 p.seq) rfl
              have e1 := HX3.out.cell 1 (.int .i64 p.client) rfl
              have e2 := HX3.out.cell 2 (.int .i64 p.num) rfl
              have HSN : Hid (SeenAt w none 0 (bareE p).frag) := SeenAt.nil (Nat.zero_le _)
              clear HOL HNE
              have HLI := Lib.hid (lit8 wr (bareE p) (none : Option Addr) 0 (wr).heap.size rfl)
              have hbl := below_one wr (.cells #[.int .i64 p.seq, .int .i64 p.client, .int .i64 p.num, .int .i64 0, .string ⟨#[]⟩, .int .i64 0, .int .u32 0, .slice none 0 0] 26)
              have HO4 := Lib.hid (HOY.out.below hbl)
              have HB4 := Lib.hid (HBY.out.trans (hbl.mono HBY.out.size))
              have HS4 := Lib.hid ((HSN.out).below HB4.out)
              have hsz4 := HB4.out.size
              have hgo : ∀ gg, Value.ownBlock (.slice x m c) = some gg → w.heap.size ≤ gg := fun gg hg => (World.ownsRow.lt HO4.out.own gg hg).1
              have HGO := Lib.hid hgo
              have HFY : Hid ((bareE p).frag ≠ [] → ∀ b o, (none : Option Addr) = some ⟨b, o, none⟩ → b < ((wr).alloc (.cells #[.int .i64 p.seq, .int .i64 p.client, .int .i64 p.num, .int .i64 0, .string ⟨#[]⟩, .int .i64 0, .int .u32 0, .slice none 0 0] 26)).heap.size ∧ ∀ gg, Value.ownBlock (.slice x m c) = some gg → b ≠ gg) := fun h0 b1 o1 e1 => by
                have h1 := seen_lt (HSN.out) h0 e1
                exact ⟨by omega, fun gg hg => by have := HGO.out gg hg; omega⟩
              clear hbl HOY HBY hgo
              have hmb : m ≤ 1000000 := by omega
              go_wp2_with (at_builtin; refine wpList_appO rfl (.tmp 87) (.tmp 95) rfl w.heap.size _ xs m HX.out rfl HO4.out ⟨bareE p, (none : Option Addr), 0⟩ _ 1 rfl HLI.out hmb hsz4 HS4.out HFY.out ((bareE_wf HWF.out)) ?_; intro g3 c3' w3' ho3 hg3)
              have HO5 := Lib.hid ho3
              have HB5 := Lib.hid (HB4.out.grown hg3 hsz4 (fun j hj => HGO.out j hj))
              have HX5 : Hid ((xs ++ [(⟨bareE p, (none : Option Addr), 0⟩ : El)]).length = m + 1) := by show _ = _; rw [List.length_append, HX.out]; rfl
              have HXM5 : Hid ((xs ++ [(⟨bareE p, (none : Option Addr), 0⟩ : El)]).map (·.p) = liveU es last (k + 1)) := by
                show _ = _
                rw [List.map_append, HXM.out, HR5.out]
                rfl
              clear ho3 hg3
              go_roundw
              case rel => exact ⟨k + 1, m + 1, c3', some ⟨g3, 0, none⟩, _, by omega, by omega, by go_num, rfl, HX5, HXM5, HO5, HB5⟩
              case measure => simp [intOf]; omega
    · obtain rfl : k = l := by omega
      have HF : Hid (RetE w (liveU es last k) (.returned (.slice x m c)) wr) := ⟨x, c, xs, by rw [HRL.out], HXM.out, by rw [HRL.out]; exact HO.out, HB.out⟩
      go_wp2
      go_ret
      exact HF.out

end Go.Proofs.Ytdifnipjmnbojaa
