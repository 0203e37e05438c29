/-
  fields.CopyEntries; what a store tells of itself.
-/
import Derived.Test.YtdgpbdedaafdiaaWalksO1
import Derived.Deep.DeepCutAuto
namespace Go.Proofs.Ytdgpbdedaafdiaa
open Go.RowKit






/-- Entries copied into new memory. -/
def RetCe (w : World) (es : List Pe) (e : Ending) (w' : World) : Prop :=
  ∃ a c, e = .returned (.slice a es.length c) ∧ RowE w' w.heap.size w'.heap.size a c es ∧ Below w.heap.size w w'

/-- The copying, k entries far: zs are the entries, xs the old ones. -/
structure Cpy (w ws : World) (va : Option Addr) (vc l k : Nat) (xs zs : List El) : Prop where
  own : ws.ownsRow w.heap.size 32 8 (.slice va l vc) l (evals zs)
  len : zs.length = l
  ps : zs.map (·.p) = xs.map (·.p)
  new : ∀ i, i < k → SeenAt ws (zs.getD i el0).loc (zs.getD i el0).cap (zs.getD i el0).p.frag ∧ ∀ b o, (zs.getD i el0).loc = some ⟨b, o, none⟩ → w.heap.size ≤ b ∧ b < ws.heap.size ∧ ∀ g ∈ blk va, b ≠ g
  old : ∀ i, k ≤ i → zs.getD i el0 = xs.getD i el0
  bel : Below w.heap.size w ws

theorem copied_at (e : Pe) (loc : Option Addr) (c n : Nat) (w : World) (hn : e.frag.length = n) (h : SeenAt w loc c e.frag) (hm : e.frag.length ≤ 1000000000) :
    Calls Try.prog 34 #[.agg #[.int .i64 e.seq, .int .i64 e.client, .int .i64 e.num, .int .i64 e.op, .string (strB e.key), .int .i64 e.size, .int .u32 (e.sum : Int), .slice loc n c]] w fun x w' =>
      ∃ loc' c', x = .returned (.agg #[.int .i64 e.seq, .int .i64 e.client, .int .i64 e.num, .int .i64 e.op, .string (strB e.key), .int .i64 e.size, .int .u32 (e.sum : Int), .slice loc' n c']) ∧ SeenAt w' loc' c' e.frag ∧ Fresh w w' loc' ∧ Below w.heap.size w w' := by
  subst hn
  exact copied_any e loc c w h hm

theorem getD_map_p (xs : List El) (i : Nat) (h : i < xs.length) : (xs.map (·.p)).getD i pe0 = (xs.getD i el0).p := by
  rw [List.getD_eq_getElem?_getD, List.getD_eq_getElem?_getD, List.getElem?_map, List.getElem?_eq_getElem h]; rfl

theorem map_p_set (zs : List El) (i : Nat) (y : El) (h : y.p = (zs.getD i el0).p) : (zs.set i y).map (·.p) = zs.map (·.p) := by
  rw [List.map_set, h]
  by_cases hi : i < zs.length
  · refine List.ext_getElem (by simp) fun j h1 h2 => ?_
    rw [List.getElem_set]
    split
    · rename_i e
      subst e
      rw [List.getD_eq_getElem?_getD, List.getElem?_eq_getElem hi, List.getElem_map]
      rfl
    · rfl
  · rw [List.set_eq_of_length_le (by simpa using hi)]

set_option maxRecDepth 100000 in
set_option maxHeartbeats 2000000 in
theorem copyEnts_any (a : Option Addr) (cap l : Nat) (es : List Pe) (w : World) (hl : es.length = l) (hm : l ≤ 1000000) (h : EnsAt w a cap es) (hf : ∀ e ∈ es, e.frag.length ≤ 1000000000) :
    Calls Try.prog 30 #[.slice a l cap] w (RetCe w es) := by
  obtain ⟨xs, hxs, hcell, hseen⟩ := ens_els h
  have HXL : Hid (xs.length = l) := by show _ = _; rw [← hl, ← hxs, List.length_map]
  have HC := Lib.hid hcell
  have HSN := Lib.hid hseen
  have HX := Lib.hid hxs
  have HL := Lib.hid hl
  have HW := Lib.hid h.wf
  have HF := Lib.hid hf
  clear hxs hcell hseen hl h hf
  go_enter Try.func30, Try.ntmps30
  go_wp2_with fail
  refine (cloneEnts_any a cap l xs _ HXL.out hm HC.out).mono ?_
  rintro e w1 ⟨va, vc, rfl, ho1, hb1⟩
  rw [HXL.out] at ho1 ⊢
  have HP1 : Hid (Cpy w w1 va vc l 0 xs xs) := ⟨ho1, HXL.out, rfl, fun i hi => by omega, fun _ _ => rfl, hb1⟩
  clear ho1 hb1
  go_wp2
  go_loopw [9] (fun i ws => ∃ (k : Nat) (zs : List El), k ≤ l ∧ i = .int .i64 k ∧ Hid (Cpy w ws va vc l k xs zs)) (fun i _ => l - (intOf i).toNat)
  case atStart => exact ⟨0, xs, Nat.zero_le _, rfl, HP1⟩
  case round =>
    obtain ⟨k, zs, hk, rfl, HP⟩ := hrel
    by_cases hlt : k < l
    · obtain ⟨g, rfl⟩ : ∃ g, va = some ⟨g, 0, none⟩ := by
        rcases HP.out.own.2 with ⟨e, h0⟩ | ⟨g, c, cur, e, _⟩
        · omega
        · injection e with e1; exact ⟨g, e1⟩
      have hcel : ∀ q u, (ecells (zs.getD k el0))[q]? = some u → wr.cell? ⟨g, k * 8 + q, none⟩ = some u := fun q u hq => by
        have hq8 : q < 8 := by
          rcases Nat.lt_or_ge q 8 with h | h
          · exact h
          · rw [List.getElem?_eq_none (by simpa [ecells] using h)] at hq; cases hq
        rw [World.ownsRow.cellAt HP.out.own (k * 8 + q) (by omega), evals_at zs k q (by rw [HP.out.len]; exact hlt) hq8]
        exact hq
      have HXK : Hid (zs.getD k el0 ∈ zs) := getD_mem zs k el0 (by rw [HP.out.len]; exact hlt)
      have HPK : Hid ((zs.getD k el0).p ∈ es) := by
        show _ ∈ _
        rw [← HX.out, ← HP.out.ps]
        exact List.mem_map_of_mem HXK.out
      have HSK : Hid (SeenAt wr (zs.getD k el0).loc (zs.getD k el0).cap (zs.getD k el0).p.frag) := by
        show SeenAt _ _ _ _
        rw [HP.out.old k (Nat.le_refl _)]
        exact (HSN.out _ (getD_mem xs k el0 (by rw [HXL.out]; exact hlt))).below HP.out.bel
      have HZK : Hid (zs.getD k el0 = zs.getD k el0) := rfl
      have HPE : Hid ((zs.getD k el0).p = (zs.getD k el0).p) := rfl
      generalize hz : zs.getD k el0 = z at hcel HSK HPK HZK HPE
      obtain ⟨p, loc, c⟩ := z
      have HZ : Hid (zs.getD k el0 = ⟨p, loc, c⟩) := hz
      have HPS : Hid (p ∈ es) := HPK.out
      have HS0 : Hid (SeenAt wr loc c p.frag) := HSK.out
      obtain ⟨n, hn⟩ : ∃ n, p.frag.length = n := ⟨_, rfl⟩
      have HN := Lib.hid hn
      have c0 : wr.cell? ⟨g, k * 8, none⟩ = some (.int .i64 p.seq) := hcel 0 (.int .i64 p.seq) rfl
      have c1 := hcel 1 (.int .i64 p.client) rfl
      have c2 := hcel 2 (.int .i64 p.num) rfl
      have c3 := hcel 3 (.int .i64 p.op) rfl
      have c4 := hcel 4 (.string (strB p.key)) rfl
      have c5 := hcel 5 (.int .i64 p.size) rfl
      have c6 := hcel 6 (.int .u32 (p.sum : Int)) rfl
      have c7 := hcel 7 (.slice loc n c) (by rw [← hn]; rfl)
      have j0 : (0 : Int) ≤ (k : Int) := by omega
      have j1 : (k : Int) < (l : Int) := by omega
      have hbl := below_one wr (.cells #[.int .i64 p.seq, .int .i64 p.client, .int .i64 p.num, .int .i64 p.op, .string (strB p.key), .int .i64 p.size, .int .u32 (p.sum : Int), .slice loc n c] 32)
      have HB2 := Lib.hid hbl
      clear hcel HSK HPK HZK HPE HXK hz hn hbl
      go_wp2_with fail
      refine (copied_at p loc c n _ HN.out (HS0.out.below HB2.out) (HF.out p HPS.out)).mono ?_
      rintro e w3 ⟨loc3, c3', rfl, hs3, hf3, hb3⟩
      have HE3 : Hid (Below wr.heap.size wr w3) := HB2.out.trans (hb3.mono HB2.out.size)
      have HS3 := Lib.hid hs3
      have HF3 : Hid (∀ b o, loc3 = some ⟨b, o, none⟩ → wr.heap.size ≤ b ∧ b < w3.heap.size) := fun b o e => by
        rcases hf3 with h | ⟨b', o', h, h2, h3⟩
        · rw [h] at e; cases e
        · rw [h] at e; cases e
          have := HB2.out.size
          omega
      have HO3 := Lib.hid ((Chg.of_below (gs := []) HE3.out).owns HP.out.own (by simp))
      clear hs3 hf3 hb3 c0 c1 c2 c3 c4 c5 c6 c7
      go_wp2_with (refine wpList_stE rfl (.tmp 18) (.tmp 17) rfl rfl w.heap.size g l vc k zs ⟨p, loc3, c3'⟩ HP.out.len HO3.out hlt rfl (by simp only [ecells, HN.out]; rfl) ?_; intro w4 ho4 hc4)
      have HP4 : Hid (Cpy w w4 (some ⟨g, 0, none⟩) vc l (k + 1) xs (zs.set k ⟨p, loc3, c3'⟩)) := by
        have hg := World.ownsRow.lt HP.out.own g rfl
        refine ⟨ho4, by rw [List.length_set]; exact HP.out.len, ?_, fun i hi => ?_, fun i hi => ?_, ?_⟩
        · rw [map_p_set zs k _ (by rw [HZ.out]), HP.out.ps]
        · by_cases e : i = k
          · subst e
            rw [getD_set_eq _ _ _ _ (by rw [HP.out.len]; exact hlt)]
            refine ⟨HS3.out.chg hc4 fun b o e hm => ?_, fun b o e => ?_⟩
            · have := HF3.out b o e
              simp at hm
              omega
            · have h1 := HF3.out b o e
              have h2 := hc4.size
              have h3 := HP.out.bel.size
              refine ⟨by omega, by omega, fun q hq => ?_⟩
              simp [blk] at hq
              omega
          · rw [getD_set_ne _ _ _ _ _ e]
            obtain ⟨k1, k2⟩ := HP.out.new i (by omega)
            refine ⟨(k1.below HE3.out).chg hc4 fun b o e hm => ?_, fun b o e => ?_⟩
            · simp at hm
              exact (k2 b o e).2.2 g (by simp [blk]) hm
            · obtain ⟨m1, m2, m3⟩ := k2 b o e
              have := HE3.out.size
              have := hc4.size
              exact ⟨m1, by omega, m3⟩
        · rw [getD_set_ne _ _ _ _ _ (by omega)]
          exact HP.out.old i (by omega)
        · exact hc4.below (HP.out.bel.trans (HE3.out.mono HP.out.bel.size)) (Nat.le_trans HP.out.bel.size HE3.out.size) (by simp; exact hg.1)
      clear ho4 hc4
      go_wp2
      go_roundw
      case rel => exact ⟨k + 1, _, by omega, by go_num, HP4⟩
      case measure => simp [intOf]; omega
    · obtain rfl : k = l := by omega
      have HR : Hid (RetCe w es (.returned (.slice va k vc)) wr) := by
        have hps : zs.map (·.p) = es := by rw [HP.out.ps, HX.out]
        refine ⟨va, vc, by rw [HL.out], ⟨zs, hps, ⟨?_, fun x hx => ?_, fun x hx b o e => ?_, fun x hx => HW.out _ (by rw [← hps]; exact List.mem_map_of_mem hx)⟩, fun x hx b o e => ?_, fun g e => ?_⟩, HP.out.bel⟩
        · rw [HP.out.len]; exact HP.out.own
        · obtain ⟨i, hi, rfl⟩ := List.mem_iff_getElem.mp hx
          have := (HP.out.new i (by rw [← HP.out.len]; exact hi)).1
          rwa [List.getD_eq_getElem?_getD, List.getElem?_eq_getElem hi] at this
        · obtain ⟨i, hi, rfl⟩ := List.mem_iff_getElem.mp hx
          have := (HP.out.new i (by rw [← HP.out.len]; exact hi)).2 b o
          rw [List.getD_eq_getElem?_getD, List.getElem?_eq_getElem hi] at this
          obtain ⟨h1, h2, h3⟩ := this e
          exact ⟨h1, h2, fun g hg => h3 g (own_blk hg)⟩
        · obtain ⟨i, hi, rfl⟩ := List.mem_iff_getElem.mp hx
          have := (HP.out.new i (by rw [← HP.out.len]; exact hi)).2 b o
          rw [List.getD_eq_getElem?_getD, List.getElem?_eq_getElem hi] at this
          exact (this e).2.1
        · rw [HP.out.len] at e
          exact (World.ownsRow.lt HP.out.own g e).2
      go_wp2
      go_ret
      exact HR.out

end Go.Proofs.Ytdgpbdedaafdiaa
