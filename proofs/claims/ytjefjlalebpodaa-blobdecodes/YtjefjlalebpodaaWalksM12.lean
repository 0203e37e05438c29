/-
  What mat's clearColumn does.
-/
import Derived.Test.YtjefjlalebpodaaWalksM9
namespace Go.Proofs.Ytjefjlalebpodaa
open Go.RowKit

theorem getD_drop {α : Type} (m : List α) (k i : Nat) (d : α) : (m.drop k).getD i d = m.getD (k + i) d := by
  rw [List.getD_eq_getElem?_getD, List.getElem?_drop, ← List.getD_eq_getElem?_getD]

theorem en_drop (m : List (List Nat)) (k i c : Nat) : Mt.en (m.drop k) i c = Mt.en m (k + i) c := by
  unfold Mt.en
  rw [getD_drop]

set_option maxRecDepth 100000 in
set_option maxHeartbeats 4000000 in
theorem clear_no (R tb lo mid n GL CL GR CR col : Nat) (L M : List (List Nat)) (w : World) (h : Red w R tb lo mid n GL CL GR CR L M) (hc : col < n) (hz : ∀ i, col ≤ i → i < n → Mt.en L i col = 0) :
    Calls Try.prog 75 #[.pointer (some ⟨R, 0, none⟩), .int .i64 (col : Int)] w fun e w' => e = .returned (.bool false) ∧ Below w.heap.size w w' := by
  obtain ⟨gl, cl, gr, cr, hL, hM, hgl, hgr⟩ := h.own
  have hlen := h.sL.len
  have hCL := hL.cap_le
  rw [hlen] at hCL
  unfold maxLen at hCL
  have HG := Lib.hid (((hL.below (below_one w (.cells #[.int .i64 (col : Int)] 3))).gridAt).drop col (by omega))
  rw [Nat.zero_add] at HG
  have HLL : Hid (∀ i, i < (L.drop col).length → ((L.drop col).getD i []).length = n) := fun i hi => by
    rw [List.length_drop] at hi; rw [getD_drop]; exact h.sL.row _ (by omega)
  have HDL : Hid ((L.drop col).length = n - col) := by show _ = _; rw [List.length_drop, hlen]
  have HZ : Hid (∀ i, i < n - col → Mt.en (L.drop col) i col = 0) := fun i hi => by rw [en_drop]; exact hz _ (by omega) (by omega)
  have hlt1 := World.block_lt_of_cell? w _ h.c1
  have c1 := cell_later (below_one w (.cells #[.int .i64 (col : Int)] 3)) h.c1
  have cV := cell_new w (.int .i64 (col : Int)) 3
  have HB := Lib.hid (below_one w (.cells #[.int .i64 (col : Int)] 3))
  have HV := Lib.hid cV
  clear h hz hL hM hgl hgr hlen
  have i0 : (0 : Int) ≤ (col : Int) := by omega
  have i1 : (col : Int) ≤ (n : Int) := by omega
  have i2 : (n : Int) ≤ (CL : Int) := by omega
  have hmf : ∀ (fn : Fn) (first cap : Array Value) (w : World), (Instr.makeFunc fn first cap).run Try.prog w = .ok (.func fn first cap) w := fun _ _ _ _ => rfl
  go_enter Try.func75, Try.ntmps75
  go_wp2
  go_quiet ((go_at_call 82; exact quiet_left' (idxc_none _ _ n col _ _ (L.drop col) _ (HG.out.below (below_drewN _ _)) HLL.out hc HV.out HDL.out HZ.out)))
  go_wp2
  go_ret
  exact ⟨rfl, HB.out.trans ((below_drewN _ _).mono HB.out.size)⟩

theorem swap_at (R tb lo mid n GL CL GR CR i j : Nat) (z : Int) (L M : List (List Nat)) (w : World) (h : Red w R tb lo mid n GL CL GR CR L M) (hi : i < n) (hj : j < n) (hz : z = (j : Int)) :
    Calls Try.prog 84 #[.pointer (some ⟨R, 0, none⟩), .int .i64 (i : Int), .int .i64 z] w fun e w' => e = .returned (.tuple #[]) ∧ Red w' R tb lo mid n GL CL GR CR (Mt.swp [] L i j) (Mt.swp [] M i j) ∧ Mid lo R w w' := by
  subst hz
  exact swap_any R tb lo mid n GL CL GR CR i j L M w h hi hj

theorem scale_at (tb g cap base f l : Nat) (row : List Nat) (w : World) (ht : IsTab w tb) (htg : tb ≠ g) (hown : OwnB w base g cap row) (hf : f < 256) (hl : row.length = l) :
    Calls Try.prog 86 #[.pointer (some ⟨tb, 0, none⟩), .slice (some ⟨g, 0, none⟩) l cap, .int .u8 (f : Int)] w fun e w' => e = .returned (.tuple #[]) ∧ OwnB w' base g cap (Mt.scale row f) ∧ Chg [g] w w' := by
  subst hl
  exact scale_any tb g cap base f row w ht htg hown hf

theorem cell_alike {w w' : World} (e : w'.heap = w.heap) (a : Addr) : w'.cell? a = w.cell? a := by simp [World.cell?, e]

theorem owns_alike {w w' : World} {base : Nat} {t : TypeId} {size n : Nat} {v : Value} {xs : List Value} (h : w.ownsRow base t size v n xs) (e : w'.heap = w.heap) : w'.ownsRow base t size v n xs := by
  refine ⟨h.1, ?_⟩
  rcases h.2 with h1 | ⟨g', cap', cur, hv, hb, hg, rest⟩
  · exact .inl h1
  · exact .inr ⟨g', cap', cur, hv, hb, by rw [e]; exact hg, rest⟩

theorem OwnM.alike {w w' : World} {base G C : Nat} {g c : Nat → Nat} {m : List (List Nat)} (h : OwnM w base G C g c m) (e : w'.heap = w.heap) : OwnM w' base G C g c m :=
  ⟨owns_alike h.outer e, fun i hi => (h.row i hi).alike e, h.inj⟩

theorem Red.same {w w' : World} {R tb lo mid n GL CL GR CR : Nat} {L M : List (List Nat)} (h : Red w R tb lo mid n GL CL GR CR L M) (e : w'.heap = w.heap) : Red w' R tb lo mid n GL CL GR CR L M := by
  obtain ⟨gl, cl, gr, cr, hL, hM, hgl, hgr⟩ := h.own
  exact ⟨h.tlt, by rw [cell_alike e]; exact h.c0, by rw [cell_alike e]; exact h.c1, by rw [cell_alike e]; exact h.c2, h.tab.alike e, h.hGL, h.hGR, h.lm, h.mR, h.sL, h.sM, ⟨gl, cl, gr, cr, hL.alike e, hM.alike e, hgl, hgr⟩⟩

theorem Mid.drewN {lo hi : Nat} {a b : World} (h : Mid lo hi a b) (q : Nat) : Mid lo hi a (b.drewN q) := h.trans (Mid.of_below (below_drewN _ _))
theorem Mid.drew {lo hi : Nat} {a b : World} (h : Mid lo hi a b) : Mid lo hi a b.drew := ⟨h.os, h.tape, h.output, h.size, h.block⟩

theorem Red.alike {w w' : World} {R tb lo mid n GL CL GR CR : Nat} {L M : List (List Nat)} (h : Red w R tb lo mid n GL CL GR CR L M) (q : Nat) (e : w' = w.drewN q) : Red w' R tb lo mid n GL CL GR CR L M := by
  subst e; exact h.below (below_drewN _ _)

set_option maxRecDepth 100000 in
set_option maxHeartbeats 4000000 in
theorem clear_yes (R tb lo mid n GL CL GR CR col j : Nat) (L M : List (List Nat)) (w : World) (h : Red w R tb lo mid n GL CL GR CR L M) (hc : col + j < n) (h0 : Mt.en L (col + j) col ≠ 0) (hq : ∀ i, i < j → Mt.en L (col + i) col = 0) :
    Calls Try.prog 75 #[.pointer (some ⟨R, 0, none⟩), .int .i64 (col : Int)] w fun e w' => e = .returned (.bool true) ∧ Red w' R tb lo mid n GL CL GR CR (Mt.clr L M n col (col + j)).1 (Mt.clr L M n col (col + j)).2 ∧ Mid lo R w w' := by
  obtain ⟨gl, cl, gr, cr, hL, hM, hgl, hgr⟩ := h.own
  have hlen := h.sL.len
  have hCL := hL.cap_le
  rw [hlen] at hCL
  unfold maxLen at hCL
  have HG := Lib.hid (((hL.below (below_one w (.cells #[.int .i64 (col : Int)] 3))).gridAt).drop col (by omega))
  rw [Nat.zero_add] at HG
  have HLL : Hid (∀ i, i < (L.drop col).length → ((L.drop col).getD i []).length = n) := fun i hi => by
    rw [List.length_drop] at hi; rw [getD_drop]; exact h.sL.row _ (by omega)
  have HDL : Hid ((L.drop col).length = n - col) := by show _ = _; rw [List.length_drop, hlen]
  have HZ : Hid (∀ i, i < j → Mt.en (L.drop col) i col = 0) := fun i hi => by rw [en_drop]; exact hq i hi
  have HP : Hid (Mt.en (L.drop col) j col ≠ 0) := by show _ ≠ _; rw [en_drop]; exact h0
  have hlt1 := World.block_lt_of_cell? w _ h.c1
  have c1 := cell_later (below_one w (.cells #[.int .i64 (col : Int)] 3)) h.c1
  have cV := cell_new w (.int .i64 (col : Int)) 3
  have HB := Lib.hid (below_one w (.cells #[.int .i64 (col : Int)] 3))
  have HRV := Lib.hid (h.below HB.out)
  have HV := Lib.hid cV
  clear h hq h0 hL hM hgl hgr hlen gl cl gr cr
  have i0 : (0 : Int) ≤ (col : Int) := by omega
  have i1 : (col : Int) ≤ (n : Int) := by omega
  have i2 : (n : Int) ≤ (CL : Int) := by omega
  have i3 : (0 : Int) ≤ (j : Int) := by omega
  have hmf : ∀ (fn : Fn) (first cap : Array Value) (w : World), (Instr.makeFunc fn first cap).run Try.prog w = .ok (.func fn first cap) w := fun _ _ _ _ => rfl
  go_enter Try.func75, Try.ntmps75
  go_wp2
  go_cut [5] (fun s wx => s = .int .i64 (j : Int) ∧ Hid (∃ q, wx = (w.alloc (.cells #[.int .i64 (col : Int)] 3)).drewN q))
  case first =>
    go_quiet ((go_at_call 82; exact quiet_left' (idxc_some _ _ n col j _ _ (L.drop col) _ (HG.out.below (below_drewN _ _)) HLL.out (by omega) HV.out HDL.out (by omega) HP.out HZ.out)))
    go_wp2_with fail
    go_meet
    exact ⟨rfl, _, rfl⟩
  case rest =>
  obtain ⟨rfl, hq⟩ := hcut
  have HR1 : Hid (Red wc R tb lo mid n GL CL GR CR L M) := by obtain ⟨q, e⟩ := hq.out; exact HRV.out.alike q e
  have HV1 : Hid (wc.cell? ⟨w.heap.size, 0, none⟩ = some (.int .i64 (col : Int))) := by obtain ⟨q, e⟩ := hq.out; show _ = _; rw [e]; exact HV.out
  have HB1 : Hid (Mid lo R w wc) := by obtain ⟨q, e⟩ := hq.out; show Mid _ _ _ _; rw [e]; exact Mid.of_below (HB.out.trans ((below_drewN _ _).mono HB.out.size))
  clear HRV HV HB hq HG HLL HDL HZ HP c1 cV hmf
  generalize w.heap.size = V at *
  have cV := HV1.out
  generalize wc = w1 at *
  go_wp2_with fail
  refine (swap_at R tb lo mid n GL CL GR CR col (col + j) _ L M _ HR1.out (by omega) hc (by omega)).mono ?_
  rintro e w2 ⟨rfl, hR2, hM2⟩
  have HCLR : Hid (Mt.clr L M n col (col + j) = Mt.subK ((Mt.swp [] L col (col + j)).set col (Mt.scale ((Mt.swp [] L col (col + j)).getD col []) (Gf.inv (Mt.en (Mt.swp [] L col (col + j)) col col)))) ((Mt.swp [] M col (col + j)).set col (Mt.scale ((Mt.swp [] M col (col + j)).getD col []) (Gf.inv (Mt.en (Mt.swp [] L col (col + j)) col col)))) col n) := rfl
  generalize Mt.swp [] L col (col + j) = A at *
  generalize Mt.swp [] M col (col + j) = B at *
  have cV2 := hM2.cell HV1.out (.inr (by simp; omega))
  have HV2 := Lib.hid cV2
  have HM2 := Lib.hid (HB1.out.trans hM2)
  obtain ⟨gl, cl, gr, cr, hL, hM, hgl, hgr⟩ := hR2.own
  have hcA : col < A.length := by rw [hR2.sL.len]; omega
  have c0 := hR2.c0
  have c1 := hR2.c1
  have cLc := hL.cell col hcA
  rw [hR2.sL.row col (by omega)] at cLc
  have cx : w2.cell? ⟨gl col, col, none⟩ = some (.int .u8 ((Mt.en A col col : Nat) : Int)) := (hL.row col hcA).cell col (by rw [hR2.sL.row col (by omega)]; omega)
  have hxl := hR2.sL.byte.lt col col
  have HT := Lib.hid hR2.tab
  have HR2 := Lib.hid hR2
  clear hR2 hM2 cV HV1 HR1 HB1 hL hM hgl hgr hcA gr cr
  have hfl := Gf.inv_lt (Mt.en A col col)
  have i4 : (col : Int) < (n : Int) := by omega
  generalize Mt.en A col col = x at *
  go_wp2
  go_cut [6] (fun s wx => s = .int .u8 ((Gf.inv x : Nat) : Int) ∧ Hid (∃ q, wx = w2.drewN q))
  case first =>
    go_quiet ((go_at_call 85; exact Calls.quiet_of (tinv_any _ _ _ (HT.out.alike rfl) hxl)))
    go_wp2_with fail
    go_meet
    exact ⟨rfl, _, rfl⟩
  case rest =>
  obtain ⟨rfl, hq⟩ := hcut
  generalize Gf.inv x = f at *
  have HR3 : Hid (Red wc R tb lo mid n GL CL GR CR A B) := by obtain ⟨q, e⟩ := hq.out; exact HR2.out.alike q e
  have HV3 : Hid (wc.cell? ⟨V, 0, none⟩ = some (.int .i64 (col : Int))) := by obtain ⟨q, e⟩ := hq.out; show _ = _; rw [e]; exact HV2.out
  have HM3 : Hid (Mid lo R w wc) := by obtain ⟨q, e⟩ := hq.out; show Mid _ _ _ _; rw [e]; exact HM2.out.drewN q
  clear HR2 HV2 HM2 hq c0 c1 cLc cx hxl HT cV2
  generalize wc = w3 at *
  clear gl cl
  obtain ⟨gl, cl, gr, cr, hL, hM, hgl, hgr⟩ := HR3.out.own
  have hcA : col < A.length := by rw [HR3.out.sL.len]; omega
  have c0 := HR3.out.c0
  have c1 := HR3.out.c1
  have cLc := hL.cell col hcA
  rw [HR3.out.sL.row col (by omega)] at cLc
  have cV := HV3.out
  have K0 := Lib.hid c0
  have K1 := Lib.hid c1
  have K2 := Lib.hid cLc
  have HO := Lib.hid (hL.row col hcA)
  have HLL := Lib.hid (HR3.out.sL.row col (by omega))
  have n1 : gl col ≠ GL := hL.ne col hcA
  have n3 : gl col < R := by have := hgl col (by omega); have := HR3.out.mR; omega
  have n4 : tb < gl col := by have := (hL.row col hcA).lt.1; have := HR3.out.tlt; omega
  have HWL : Hid (∀ w', Chg [gl col] w3 w' → OwnB w' lo (gl col) (cl col) (Mt.scale (A.getD col []) f) → Red w' R tb lo mid n GL CL GR CR (A.set col (Mt.scale (A.getD col []) f)) B ∧ Mid lo R w3 w') := fun w' hC hO => HR3.out.wroteL hL hM hgl hgr col (by omega) _ hC hO (by rw [Mt.scale_len]; exact HR3.out.sL.row col (by omega))
  have HT := Lib.hid HR3.out.tab
  clear hL hM hgl hgr hcA
  go_wp2
  go_cut [] (fun wx => Hid (Red wx R tb lo mid n GL CL GR CR (A.set col (Mt.scale (A.getD col []) f)) B ∧ Mid lo R w3 wx))
  case first =>
    go_region_held3 (fun w' => w'.cell? ⟨R, 0, none⟩ = some (.pointer (some ⟨tb, 0, none⟩)) ∧ w'.cell? ⟨R, 1, none⟩ = some (.slice (some ⟨GL, 0, none⟩) n CL) ∧ w'.cell? ⟨GL, col, none⟩ = some (.slice (some ⟨gl col, 0, none⟩) n (cl col)) ∧ w'.cell? ⟨V, 0, none⟩ = some (.int .i64 (col : Int)))
      (first | go_keep | exact ⟨hC2.cell K0.out (by simp; omega), hC2.cell K1.out (by simp; omega), hC2.cell K2.out (by simp; omega), hC2.cell HV3.out (by simp; omega)⟩)
      ((go_at_call 86; (with_reducible refine (scale_at _ _ _ lo _ _ (A.getD col []) _ ?_ ?_ ?_ ?_ ?_).mono ?_); (exact HT.out.alike rfl); omega; (exact HO.out.alike rfl); (exact hfl); (exact HLL.out); rintro e w5 ⟨rfl, hO2, hC2⟩))
    all_goals (go_wp2_with fail; go_meet; exact HWL.out _ (((Chg.refl _ _).drew).trans hC2) hO2)
  case rest =>
  have HR4 := Lib.hid hcut.out.1
  have HV4 := Lib.hid (hcut.out.2.cell HV3.out (.inr (by simp; omega)))
  have HM4 := Lib.hid (HM3.out.trans hcut.out.2)
  clear hcut HR3 HV3 HM3 c0 c1 cLc cV K0 K1 K2 HO HLL n1 n3 n4 HWL HT gl cl gr cr
  generalize wc = w4 at *
  generalize A.set col (Mt.scale (A.getD col []) f) = A2 at *
  obtain ⟨gl, cl, gr, cr, hL, hM, hgl, hgr⟩ := HR4.out.own
  have hcB : col < B.length := by rw [HR4.out.sM.len]; omega
  have c0 := HR4.out.c0
  have c2 := HR4.out.c2
  have cRc := hM.cell col hcB
  rw [HR4.out.sM.row col (by omega)] at cRc
  have cV := HV4.out
  have K0 := Lib.hid c0
  have K1 := Lib.hid c2
  have K2 := Lib.hid cRc
  have HO := Lib.hid (hM.row col hcB)
  have HLL := Lib.hid (HR4.out.sM.row col (by omega))
  have n1 : gr col ≠ GR := hM.ne col hcB
  have n3 : gr col < R := hgr col (by omega)
  have n4 : tb < gr col := by have := (hM.row col hcB).lt.1; have := HR4.out.tlt; have := HR4.out.lm; omega
  have HWL : Hid (∀ w', Chg [gr col] w4 w' → OwnB w' mid (gr col) (cr col) (Mt.scale (B.getD col []) f) → Red w' R tb lo mid n GL CL GR CR A2 (B.set col (Mt.scale (B.getD col []) f)) ∧ Mid lo R w4 w') := fun w' hC hO => HR4.out.wroteR hL hM hgl hgr col (by omega) _ hC hO (by rw [Mt.scale_len]; exact HR4.out.sM.row col (by omega))
  have HT := Lib.hid HR4.out.tab
  clear hL hM hgl hgr hcB
  go_wp2
  go_cut [] (fun wx => Hid (Red wx R tb lo mid n GL CL GR CR A2 (B.set col (Mt.scale (B.getD col []) f)) ∧ Mid lo R w4 wx))
  case first =>
    go_region_held3 (fun w' => w'.cell? ⟨R, 0, none⟩ = some (.pointer (some ⟨tb, 0, none⟩)) ∧ w'.cell? ⟨R, 2, none⟩ = some (.slice (some ⟨GR, 0, none⟩) n CR) ∧ w'.cell? ⟨GR, col, none⟩ = some (.slice (some ⟨gr col, 0, none⟩) n (cr col)) ∧ w'.cell? ⟨V, 0, none⟩ = some (.int .i64 (col : Int)))
      (first | go_keep | exact ⟨hC2.cell K0.out (by simp; omega), hC2.cell K1.out (by simp; omega), hC2.cell K2.out (by simp; omega), hC2.cell HV4.out (by simp; omega)⟩)
      ((go_at_call 86; (with_reducible refine (scale_at _ _ _ mid _ _ (B.getD col []) _ ?_ ?_ ?_ ?_ ?_).mono ?_); (exact HT.out.alike rfl); omega; (exact HO.out.alike rfl); (exact hfl); (exact HLL.out); rintro e w5 ⟨rfl, hO2, hC2⟩))
    all_goals (go_wp2_with fail; go_meet; exact HWL.out _ (((Chg.refl _ _).drew).trans hC2) hO2)
  case rest =>
  have HR5 := Lib.hid hcut.out.1
  have HV5 := Lib.hid (hcut.out.2.cell HV4.out (.inr (by simp; omega)))
  have HM5 := Lib.hid (HM4.out.trans hcut.out.2)
  clear hcut HR4 HV4 HM4 c0 c2 cRc cV K0 K1 K2 HO HLL n1 n3 n4 HWL HT gl cl gr cr
  generalize wc = w5 at *
  generalize B.set col (Mt.scale (B.getD col []) f) = B2 at *
  have c1 := HR5.out.c1
  have hRV : R < V := hlt1
  go_wp2
  clear c1
  go_loopw [7, 70] (fun _ i ws => ∃ k : Nat, k ≤ n ∧ i = .int .i64 k ∧ Hid (Red ws R tb lo mid n GL CL GR CR (Mt.subK A2 B2 col k).1 (Mt.subK A2 B2 col k).2) ∧ Hid (ws.cell? ⟨V, 0, none⟩ = some (.int .i64 (col : Int))) ∧ Hid (Mid lo R w ws)) (fun _ i _ => n - (intOf i).toNat)
  case atStart => exact ⟨0, Nat.zero_le _, rfl, HR5, HV5, HM5⟩
  case round =>
    obtain ⟨k, hk, rfl, hR, hV, hM⟩ := hrel
    have cV := hV.out
    by_cases hlt : k < n
    · by_cases hkc : k = col
      · have HS : Hid (Mt.subK A2 B2 col (k + 1) = Mt.subK A2 B2 col k) := by
          show Mt.sub1 _ _ _ _ = _
          unfold Mt.sub1
          rw [if_pos hkc]
        have t : ((k : Int) != (col : Int)) = false := by simp; omega
        clear hkc
        go_wp2
        go_round
        case rel => exact ⟨k + 1, by omega, by go_num, by rw [HS.out]; exact hR, hV, hM⟩
        case measure => simp [intOf]; omega
      · have HS : Hid (Mt.subK A2 B2 col (k + 1) = ((Mt.subK A2 B2 col k).1.set k (Mt.addMul ((Mt.subK A2 B2 col k).1.getD k []) ((Mt.subK A2 B2 col k).1.getD col []) (Mt.en (Mt.subK A2 B2 col k).1 k col)), (Mt.subK A2 B2 col k).2.set k (Mt.addMul ((Mt.subK A2 B2 col k).2.getD k []) ((Mt.subK A2 B2 col k).2.getD col []) (Mt.en (Mt.subK A2 B2 col k).1 k col)))) := by
          show Mt.sub1 _ _ _ _ = _
          unfold Mt.sub1
          rw [if_neg hkc]
        have t : ((k : Int) != (col : Int)) = true := by simp; omega
        generalize (Mt.subK A2 B2 col k).1 = A3 at *
        generalize (Mt.subK A2 B2 col k).2 = B3 at *
        obtain ⟨gl, cl, gr, cr, hL, _, _, _⟩ := hR.out.own
        have hkA : k < A3.length := by rw [hR.out.sL.len]; exact hlt
        have c1 := hR.out.c1
        have cLk := hL.cell k hkA
        rw [hR.out.sL.row k hlt] at cLk
        have cx : wr.cell? ⟨gl k, col, none⟩ = some (.int .u8 ((Mt.en A3 k col : Nat) : Int)) := (hL.row k hkA).cell col (by rw [hR.out.sL.row k hlt]; omega)
        have hxl := hR.out.sL.byte.lt k col
        clear hL hkA
        have k0 : (0 : Int) ≤ (k : Int) := by omega
        have k1 : (k : Int) < (n : Int) := by omega
        generalize Mt.en A3 k col = x at *
        go_wp2
        go_region_with (first | (go_at_call 87; (with_reducible refine (subtract_any R tb lo mid n GL CL GR CR k col x A3 B3 _ ?_ ?_ ?_ ?_ ?_).mono ?_); (exact hR.out.same rfl); (exact hlt); omega; omega; (exact hxl); rintro e w6 ⟨rfl, hR6, hM6⟩))
        all_goals go_wp2
        all_goals
          go_round
          case rel => exact ⟨k + 1, by omega, by go_num, by rw [HS.out]; exact hR6, hM6.cell (by exact hV.out) (.inr (by simp; omega)), (hM.out.drew).trans hM6⟩
          case measure => simp [intOf]; omega
    · obtain rfl : k = n := by omega
      rw [← HCLR.out] at hR
      go_wp2
      go_ret
      exact ⟨rfl, hR.out, hM.out⟩

end Go.Proofs.Ytjefjlalebpodaa
