/-
  The law's rising.
-/
import Derived.Test.YtdifnipjmnbojaaWalksL3
import Derived.BigQuiet
namespace Go.Proofs.Ytdifnipjmnbojaa
open Go.RowKit






theorem eo_at {w : World} {base n c : Nat} {a : Option Addr} {xs : List El} (h : Eo w base (.slice a n c) xs) (i : Nat) (hi : i < n) : ∃ g, a = some ⟨g, 0, none⟩ ∧ w.cell? ⟨g, i * 8, none⟩ = some (.int .i64 ((xs.map (·.p)).getD i pe0).seq) := by
  obtain ⟨h1, h2⟩ := h.at_
  obtain ⟨b, off, loc, cc, e, he⟩ := h2.el i (by rw [List.length_map, h1]; exact hi)
  rcases h.own.2 with ⟨hv, h0⟩ | ⟨g, cap', cur, hv, _⟩
  · cases hv; omega
  · rw [e] at hv
    simp only [Value.slice.injEq, Option.some.injEq, Addr.mk.injEq] at hv
    obtain ⟨⟨rfl, rfl, _⟩, _⟩ := hv
    have h0 := he.c0
    rw [Nat.zero_add] at h0
    exact ⟨_, e, h0⟩

theorem eo_made (w : World) (base : Nat) (hb : base ≤ w.heap.size) : Eo (w.alloc (.cells #[] 26)) base (.slice (some ⟨w.heap.size, 0, none⟩) 0 0) [] :=
  ⟨World.ownsRow_made w #[] 0 hb (Nat.zero_le _) rfl, by simp, by simp, by simp⟩

theorem wrap_nat (m : Nat) (h : m ≤ 1000000000) : IntKind.i64.wrap (m : Int) = (m : Int) := by
  simp [IntKind.wrap, IntKind.bits, IntKind.signed]
  omega


set_option maxRecDepth 100000 in
set_option maxHeartbeats 4000000 in
theorem rising_any (a : Option Addr) (cap l : Nat) (es : List Pe) (w : World) (hl : es.length = l) (h : EnsAt w a cap es) :
    Calls Try.prog 16 #[.slice a l cap] w (RetE w (risU es l)) := by
  have hm : l ≤ maxLen := by have := h.le; have := h.max; omega
  unfold maxLen at hm
  have HE := Lib.hid h
  have HL := Lib.hid hl
  clear h hl
  have HO0 := Lib.hid (eo_made w w.heap.size (Nat.le_refl _))
  have HB0 : Hid (Below w.heap.size w (w.alloc (.cells #[] 26))) := below_one _ _
  go_enter Try.func16, Try.ntmps16
  go_wp2
  go_loopw [3, 4] (fun v i ws => ∃ (k m c : Nat) (x : Option Addr) (xs : List El), k ≤ l ∧ m ≤ 60 ∧ i = .int .i64 k ∧ v = .slice x m c ∧ Hid (xs.length = m) ∧ Hid (xs.map (·.p) = risU es k) ∧ Hid (Eo ws w.heap.size (.slice x m c) xs) ∧ Hid (Below w.heap.size w ws)) (fun _ i _ => l - (intOf i).toNat)
  case atStart => exact ⟨0, 0, 0, _, [], Nat.zero_le _, Nat.zero_le _, rfl, rfl, rfl, rfl, HO0, HB0⟩
  case round =>
    obtain ⟨k, m, c, x, xs, hk, hm60, rfl, rfl, HX, HXM, HO, HB⟩ := hrel
    have HRL : Hid ((risU es k).length = m) := by show _ = _; rw [← HXM.out, List.length_map]; exact HX.out
    by_cases hlt : k < l
    · have e1 : decide ((k : Int) < (l : Int)) = true := by simp; omega
      by_cases h60 : m < 60
      · have e2 : decide ((m : Int) < 60) = true := by simp; omega
        obtain ⟨b, off, loc, cp, rfl, hc0⟩ := HE.out.el k (by rw [HL.out]; exact hlt)
        have hc := hc0.below HB.out
        have c0 := hc.c0
        have c1 := hc.c1
        have c2 := hc.c2
        have c3 := hc.c3
        have c4 := hc.c4
        have c5 := hc.c5
        have c6 := hc.c6
        have c7 := hc.c7
        have HS := Lib.hid hc0.seen
        have HWF := Lib.hid (HE.out.wf _ (getD_mem es k pe0 (by rw [HL.out]; exact hlt)))
        have HY : Hid ((m = 0 ∨ ((xs.map (·.p)).getD (m - 1) pe0).seq < (es.getD k pe0).seq) → risU es (k + 1) = risU es k ++ [es.getD k pe0]) := fun h => risU_yes ⟨by rw [HRL.out]; exact h60, by
          rw [HRL.out, ← HXM.out]
          rcases h with h | h
          · left; exact List.length_eq_zero_iff.mp (by rw [List.length_map, HX.out]; exact h)
          · exact .inr h⟩
        have HN : Hid (¬(m = 0 ∨ ((xs.map (·.p)).getD (m - 1) pe0).seq < (es.getD k pe0).seq) → risU es (k + 1) = risU es k) := fun h => risU_no (fun h' => h (by
          rw [HRL.out, ← HXM.out] at h'
          rcases h'.2 with h0 | h0
          · left; rw [← HX.out, ← List.length_map (f := fun y : El => y.p), h0]; rfl
          · exact .inr h0))
        have HCW := Lib.hid hc0
        clear hc hc0
        have HEO : Hid (∀ i, i < m → ∃ g, x = some ⟨g, 0, none⟩ ∧ wr.cell? ⟨g, i * 8, none⟩ = some (.int .i64 ((xs.map (·.p)).getD i pe0).seq)) := fun i hi => eo_at HO.out i hi
        generalize es.getD k pe0 = p at *
        have j1 : (k : Int) < (l : Int) := by omega
        have j0 : (0 : Int) ≤ (k : Int) := by omega
        by_cases h0 : m = 0
        · have d0 : ((m : Int) == 0) = true := by simp [h0]
          have HR1 := Lib.hid (HY.out (.inl h0))
          clear HY HN HEO h0
          go_wp2_with fail
          go_quiet (fail)
          have HOY := Lib.hid (HO.out.below (below_drewN wr nq))
          have HBY := Lib.hid (HB.out.trans ((below_drewN wr nq).mono HB.out.size))
          generalize wr.drewN nq = wy at *
          have hcy := HCW.out.below HBY.out
          have c0 := hcy.c0
          have c1 := hcy.c1
          have c2 := hcy.c2
          have c3 := hcy.c3
          have c4 := hcy.c4
          have c5 := hcy.c5
          have c6 := hcy.c6
          have c7 := hcy.c7
          clear hcy
          have HLI := Lib.hid (lit8 wy p loc cp wy.heap.size rfl)
          have hbl := below_one wy (.cells #[.int .i64 p.seq, .int .i64 p.client, .int .i64 p.num, .int .i64 p.op, .string (strB p.key), .int .i64 p.size, .int .u32 (p.sum : Int), .slice loc p.frag.length cp] 26)
          have HO2 := Lib.hid (HOY.out.below hbl)
          have HB2 := Lib.hid (HBY.out.trans (hbl.mono HBY.out.size))
          have HS2 := Lib.hid (HS.out.below HB2.out)
          have hsz2 := HB2.out.size
          have hgo : ∀ gg, Value.ownBlock (.slice (x) m c) = some gg → w.heap.size ≤ gg := fun gg hg => (World.ownsRow.lt HO2.out.own gg hg).1
          have HGO := Lib.hid hgo
          have HFY : Hid (p.frag ≠ [] → ∀ b o, loc = some ⟨b, o, none⟩ → b < (wy.alloc (.cells #[.int .i64 p.seq, .int .i64 p.client, .int .i64 p.num, .int .i64 p.op, .string (strB p.key), .int .i64 p.size, .int .u32 (p.sum : Int), .slice loc p.frag.length cp] 26)).heap.size ∧ ∀ gg, Value.ownBlock (.slice (x) m c) = some gg → b ≠ gg) := fun h0 b1 o1 e1 => by
            have h1 := seen_lt HS.out h0 e1
            exact ⟨by omega, fun gg hg => by have := HGO.out gg hg; omega⟩
          clear hbl HOY HBY hgo
          have hmb : m ≤ 1000000 := by omega
          go_wp2_with (at_builtin; refine wpList_appO rfl (.tmp 35) (.tmp 40) rfl w.heap.size _ xs m HX.out rfl HO2.out ⟨p, loc, cp⟩ _ 1 rfl HLI.out hmb hsz2 HS2.out HFY.out HWF.out ?_; intro g3 c3' w3' ho3 hg3)
          have HO3 := Lib.hid ho3
          have HB3 := Lib.hid (HB2.out.grown hg3 hsz2 (fun j hj => HGO.out j hj))
          have HX3 : Hid ((xs ++ [(⟨p, loc, cp⟩ : El)]).length = m + 1) := by show _ = _; rw [List.length_append, HX.out]; rfl
          have HXM3 : Hid ((xs ++ [(⟨p, loc, cp⟩ : El)]).map (·.p) = risU es (k + 1)) := by
            show _ = _
            rw [List.map_append, HXM.out, HR1.out]
            rfl
          clear ho3 hg3
          go_roundw
          case rel => exact ⟨k + 1, m + 1, c3', some ⟨g3, 0, none⟩, _, by omega, by omega, by go_num, rfl, HX3, HXM3, HO3, HB3⟩
          case measure => simp [intOf]; omega
        · obtain ⟨m', hm'⟩ : ∃ m', m - 1 = m' := ⟨_, rfl⟩
          have hq : (m : Int) - 1 = (m' : Int) := by omega
          have hw : IntKind.i64.wrap (m' : Int) = (m' : Int) := wrap_nat m' (by omega)
          obtain ⟨g, rfl, ce⟩ := HEO.out m' (by omega)
          rw [hm'] at HY HN
          have HSQ : Hid (∃ z, ((xs.map (·.p)).getD m' pe0).seq = z) := ⟨_, rfl⟩
          obtain ⟨z, hz⟩ := HSQ.out
          rw [hz] at ce HY HN
          clear hz HSQ HEO
          have d0 : ((m : Int) == 0) = false := by simp; omega
          have j2 : (0 : Int) ≤ (m' : Int) := by omega
          have j3 : (m' : Int) < (m : Int) := by omega
          by_cases h2 : z < p.seq
          · have d2 : decide (z < p.seq) = true := by simp [h2]
            have HR1 := Lib.hid (HY.out (.inr h2))
            clear HY HN h0 h2 hm'
            go_wp2_with fail
            go_quiet (fail)
            have HOY := Lib.hid (HO.out.below (below_drewN wr nq))
            have HBY := Lib.hid (HB.out.trans ((below_drewN wr nq).mono HB.out.size))
            clear ce hq hw
            generalize wr.drewN nq = wy at *
            have hcy := HCW.out.below HBY.out
            have c0 := hcy.c0
            have c1 := hcy.c1
            have c2 := hcy.c2
            have c3 := hcy.c3
            have c4 := hcy.c4
            have c5 := hcy.c5
            have c6 := hcy.c6
            have c7 := hcy.c7
            clear hcy
            have HLI := Lib.hid (lit8 wy p loc cp wy.heap.size rfl)
            have hbl := below_one wy (.cells #[.int .i64 p.seq, .int .i64 p.client, .int .i64 p.num, .int .i64 p.op, .string (strB p.key), .int .i64 p.size, .int .u32 (p.sum : Int), .slice loc p.frag.length cp] 26)
            have HO2 := Lib.hid (HOY.out.below hbl)
            have HB2 := Lib.hid (HBY.out.trans (hbl.mono HBY.out.size))
            have HS2 := Lib.hid (HS.out.below HB2.out)
            have hsz2 := HB2.out.size
            have hgo : ∀ gg, Value.ownBlock (.slice (some ⟨g, 0, none⟩) m c) = some gg → w.heap.size ≤ gg := fun gg hg => (World.ownsRow.lt HO2.out.own gg hg).1
            have HGO := Lib.hid hgo
            have HFY : Hid (p.frag ≠ [] → ∀ b o, loc = some ⟨b, o, none⟩ → b < (wy.alloc (.cells #[.int .i64 p.seq, .int .i64 p.client, .int .i64 p.num, .int .i64 p.op, .string (strB p.key), .int .i64 p.size, .int .u32 (p.sum : Int), .slice loc p.frag.length cp] 26)).heap.size ∧ ∀ gg, Value.ownBlock (.slice (some ⟨g, 0, none⟩) m c) = some gg → b ≠ gg) := fun h0 b1 o1 e1 => by
              have h1 := seen_lt HS.out h0 e1
              exact ⟨by omega, fun gg hg => by have := HGO.out gg hg; omega⟩
            clear hbl HOY HBY hgo
            have hmb : m ≤ 1000000 := by omega
            go_wp2_with (at_builtin; refine wpList_appO rfl (.tmp 35) (.tmp 40) rfl w.heap.size _ xs m HX.out rfl HO2.out ⟨p, loc, cp⟩ _ 1 rfl HLI.out hmb hsz2 HS2.out HFY.out HWF.out ?_; intro g3 c3' w3' ho3 hg3)
            have HO3 := Lib.hid ho3
            have HB3 := Lib.hid (HB2.out.grown hg3 hsz2 (fun j hj => HGO.out j hj))
            have HX3 : Hid ((xs ++ [(⟨p, loc, cp⟩ : El)]).length = m + 1) := by show _ = _; rw [List.length_append, HX.out]; rfl
            have HXM3 : Hid ((xs ++ [(⟨p, loc, cp⟩ : El)]).map (·.p) = risU es (k + 1)) := by
              show _ = _
              rw [List.map_append, HXM.out, HR1.out]
              rfl
            clear ho3 hg3
            go_roundw
            case rel => exact ⟨k + 1, m + 1, c3', some ⟨g3, 0, none⟩, _, by omega, by omega, by go_num, rfl, HX3, HXM3, HO3, HB3⟩
            case measure => simp [intOf]; omega
          · have d2 : decide (z < p.seq) = false := by simp; omega
            have HR1 := Lib.hid (HN.out (fun h => h.elim h0 h2))
            clear HY HN h0 h2 hm'
            go_wp2_with fail
            go_quiet (fail)
            have HOY := Lib.hid (HO.out.below (below_drewN wr nq))
            have HBY := Lib.hid (HB.out.trans ((below_drewN wr nq).mono HB.out.size))
            have HXM1 : Hid (xs.map (·.p) = risU es (k + 1)) := by show _ = _; rw [HR1.out]; exact HXM.out
            clear ce
            go_wp2
            go_roundw
            case rel => exact ⟨k + 1, m, c, _, xs, by omega, by omega, by go_num, rfl, HX, HXM1, HOY, HBY⟩
            case measure => simp [intOf]; omega
      · have e2 : decide ((m : Int) < 60) = false := by simp; omega
        have HF : Hid (RetE w (risU es l) (.returned (.slice x m c)) wr) := by
          have e3 : risU es l = risU es k := by
            have := risU_full es (k := k) (by rw [HRL.out]; omega) (l - k)
            rwa [show k + (l - k) = l by omega] at this
          rw [e3]
          exact ⟨x, c, xs, by rw [HRL.out], HXM.out, by rw [HRL.out]; exact HO.out, HB.out⟩
        go_wp2
        go_ret
        exact HF.out
    · obtain rfl : k = l := by omega
      have e1 : decide ((k : Int) < (k : Int)) = false := by simp
      have HF : Hid (RetE w (risU es k) (.returned (.slice x m c)) wr) := ⟨x, c, xs, by rw [HRL.out], HXM.out, by rw [HRL.out]; exact HO.out, HB.out⟩
      go_wp2
      go_ret
      exact HF.out

end Go.Proofs.Ytdifnipjmnbojaa
