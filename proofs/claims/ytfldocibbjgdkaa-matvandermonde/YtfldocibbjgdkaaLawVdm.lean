/-
  The walk of the law MatVandermonde.
-/
import Derived.Test.YtfldocibbjgdkaaLawChain
import Derived.Test.YtfldocibbjgdkaaPoly
import Derived.Test.YtfldocibbjgdkaaSetMap
namespace Go.Proofs.Ytfldocibbjgdkaa
open Go.RowKit

/-- Rows of powers of ks. -/
def vrows (ks : List Nat) (n : Nat) : List (List Nat) := ks.map fun k => pows k n

theorem vrows_row (ks : List Nat) (n i : Nat) (hi : i < ks.length) : (vrows ks n).getD i [] = pows (ks.getD i 0) n := by
  unfold vrows
  rw [List.getD_eq_getElem?_getD, List.getElem?_map, List.getD_eq_getElem?_getD, List.getElem?_eq_getElem hi]
  rfl

theorem pows_bytes (x n : Nat) : Gf.Bytes (pows x n) := by
  intro c hc
  obtain ⟨j, _, rfl⟩ := List.mem_map.mp hc
  exact Gf.ipow_lt x j

theorem vrows_sq (ks : List Nat) (n : Nat) (hl : ks.length = n) : Mt.Sq n (vrows ks n) where
  len := by simp [vrows, hl]
  row i hi := by rw [vrows_row ks n i (by omega), pows_len]
  byte := by
    intro i
    by_cases hi : i < ks.length
    · rw [vrows_row ks n i hi]; exact pows_bytes _ _
    · rw [show (vrows ks n).getD i [] = [] by rw [List.getD_eq_getElem?_getD, List.getElem?_eq_none (by simp [vrows]; omega)]; rfl]
      exact bytes_nil

/-- Unlike rows of powers don't hang together. -/
theorem vrows_ok (ks : List Nat) (n : Nat) (hl : ks.length = n) (hd : ks.Nodup) (hb : ∀ k ∈ ks, k < 40) : ¬ Mt.Sing n (vrows ks n) := by
  rintro ⟨x, hx, ⟨j, hj, hn⟩, h⟩
  have hz := Mt.roots ks ((List.range n).map x) (fun c hc => by obtain ⟨j, _, rfl⟩ := List.mem_map.mp hc; exact hx j) (fun k hk => by have := hb k hk; omega) hd (by simp [hl]) fun k hk => by
    have hk256 : k < 256 := by have := hb k hk; omega
    rw [Mt.eval_xs n k x hx hk256]
    obtain ⟨i, hi, e⟩ := List.mem_iff_getElem.mp hk
    have hd := h i (by omega)
    rw [vrows_row ks n i hi, show ks.getD i 0 = k by rw [List.getD_eq_getElem?_getD, List.getElem?_eq_getElem hi]; exact e] at hd
    rw [← hd]
    apply Mt.xs_congr
    intro l hl'
    rw [pows_get k n l hl', Gf.gm_comm _ _ (hx l) (Gf.ipow_lt k l)]
  exact hn (hz (x j) (List.mem_map.mpr ⟨j, by simpa using hj, rfl⟩))

theorem range_le : ∀ (m : Nat) (ks : List Nat), (∀ x, x < m → x ∈ ks) → m ≤ ks.length
  | 0, _, _ => Nat.zero_le _
  | m + 1, ks, h => by
    have hm := h m (by omega)
    have := range_le m (ks.erase m) fun x hx => by
      rw [List.mem_erase_of_ne (by omega)]
      exact h x (by omega)
    rw [List.length_erase_of_mem hm] at this
    have hp : 0 < ks.length := List.length_pos_of_mem hm
    omega

/-- The values of the chosen rows. -/
def pvals (g c : Nat → Nat) (n : Nat) (ks : List Nat) : List Value := ks.map fun k => .slice (some ⟨g k, 0, none⟩) n (c k)

theorem pvals_len (g c : Nat → Nat) (n : Nat) (ks : List Nat) : (pvals g c n ks).length = ks.length := by simp [pvals]

/-- What is known while rows are chosen: the matrix v in blocks g, the rows' slice, the set. -/
structure Pick (w : World) (base GV CV : Nat) (g c : Nat → Nat) (n G C : Nat) (ks : List Nat) : Prop where
  van : OwnM w base GV CV g c (vanK n 40)
  rows : w.ownsRow base 27 1 (.slice (some ⟨G, 0, none⟩) ks.length C) ks.length (pvals g c n ks)
  ne : G ≠ GV
  nodup : ks.Nodup
  lt : ∀ k ∈ ks, k < 40

theorem Pick.chg {gs : List Nat} {w w' : World} {base GV CV : Nat} {g c : Nat → Nat} {n G C : Nat} {ks : List Nat} (h : Pick w base GV CV g c n G C ks) (hb : Chg gs w w') (h1 : GV ∉ gs) (h2 : G ∉ gs) (h3 : ∀ i, i < 40 → g i ∉ gs) : Pick w' base GV CV g c n G C ks :=
  ⟨h.van.chg hb h1 (fun i hi => h3 i (by rw [vanK_len] at hi; exact hi)), hb.owns h.rows (by rintro k ⟨⟩; exact h2), h.ne, h.nodup, h.lt⟩

theorem Pick.grid {w : World} {base GV CV : Nat} {g c : Nat → Nat} {n G C : Nat} {ks : List Nat} (h : Pick w base GV CV g c n G C ks) : GridAt w (some ⟨G, 0, none⟩) C (vrows ks n) := by
  obtain ⟨cur, hg, hnc, hcm, hsz, hbg⟩ := heap_of_owns h.rows
  refine ⟨by simpa [vrows] using hnc, hcm, fun i hi => ?_⟩
  have hi' : i < ks.length := by simpa [vrows] using hi
  have hk : ks.getD i 0 < 40 := h.lt _ (getD_mem ks i 0 hi')
  have hr := h.van.row (ks.getD i 0) (by rw [vanK_len]; exact hk)
  rw [vanK_row n 40 _ hk] at hr
  rw [vrows_row ks n i hi']
  refine ⟨G, 0, _, rfl, ?_, ⟨_, _, rfl, hr.seenAt⟩⟩
  rw [Nat.zero_add, World.ownsRow.cellAt h.rows i (by omega), pows_len]
  unfold pvals
  rw [List.getElem?_map, List.getD_eq_getElem?_getD, List.getElem?_eq_getElem hi']
  rfl

/-- One row more. -/
theorem Pick.push {w w' : World} {base GV CV : Nat} {g c : Nat → Nat} {n G C G' C' : Nat} {ks : List Nat} {gs : List Nat} (h : Pick w base GV CV g c n G C ks) (k : Nat) (hk : k < 40) (hn : k ∉ ks) (hb : Chg gs w w') (h1 : GV ∉ gs) (h3 : ∀ i, i < 40 → g i ∉ gs) (hne : G' ≠ GV)
    (ho : w'.ownsRow base 27 1 (.slice (some ⟨G', 0, none⟩) (ks.length + 1) C') (ks.length + 1) (pvals g c n ks ++ [.slice (some ⟨g k, 0, none⟩) n (c k)])) : Pick w' base GV CV g c n G' C' (ks ++ [k]) where
  van := h.van.chg hb h1 (fun i hi => h3 i (by rw [vanK_len] at hi; exact hi))
  rows := by
    rw [List.length_append, List.length_singleton, show pvals g c n (ks ++ [k]) = pvals g c n ks ++ [.slice (some ⟨g k, 0, none⟩) n (c k)] by simp [pvals]]
    exact ho
  ne := hne
  nodup := by
    rw [List.nodup_append]
    refine ⟨h.nodup, by simp, fun a ha b hb' => ?_⟩
    obtain rfl : b = k := by simpa using hb'
    rintro rfl
    exact hn ha
  lt x hx := by
    rcases List.mem_append.mp hx with hx | hx
    · exact h.lt x hx
    · obtain rfl : x = k := by simpa using hx
      exact hk

theorem u8_byte {x : Int} (h : (Lit.int .u8 x).wf = true) : ∃ n : Nat, n < 256 ∧ x = (n : Int) := by
  have h1 : 0 ≤ x ∧ x ≤ 255 := by simpa [Lit.wf, IntKind.min, IntKind.max, IntKind.signed, IntKind.bits] using h
  exact ⟨x.toNat, by omega, by omega⟩

theorem set_ne {w : World} {b n G l C base : Nat} {S : Nat → Bool} {e : TypeId} {xs : List Value} (h : SetI w b n S) (ho : w.ownsRow base e 1 (.slice (some ⟨G, 0, none⟩) l C) l xs) : G ≠ b := by
  rintro rfl
  obtain ⟨cur, hg, _⟩ := heap_of_owns ho
  obtain ⟨D, _, ⟨es, clock, hg', _⟩, _⟩ := h
  rw [hg] at hg'
  cases hg'

theorem set_snoc (ks : List Nat) (k : Nat) : (fun j => if j = k then true else decide (j ∈ ks)) = fun j => decide (j ∈ ks ++ [k]) := by
  funext j
  by_cases e : j = k
  · subst e; simp
  · rw [if_neg e]; simp [e]

theorem Pick.cell {w : World} {base GV CV : Nat} {g c : Nat → Nat} {n G C : Nat} {ks : List Nat} (h : Pick w base GV CV g c n G C ks) (k : Nat) (hk : k < 40) : w.cell? ⟨GV, k, none⟩ = some (.slice (some ⟨g k, 0, none⟩) n (c k)) := by
  rw [h.van.cell k (by rw [vanK_len]; exact hk), vanK_row n 40 k hk, pows_len]



set_option maxRecDepth 100000 in
set_option maxHeartbeats 8000000 in
theorem matVandermonde_walk (a0 : Int) (a1 : Option Addr) (len1 cap1 : Nat) (m1 : List Nat) (w : World) (w0 : (Lit.int .u8 a0).wf = true) (w1 : m1.length = len1 ∧ SeenAt w a1 cap1 m1) :
    Calls Try.prog 7 #[.int .u8 a0, .slice a1 len1 cap1] w fun e w' => e = .returned (.bool true) ∧ Below w.heap.size w w' := by
  obtain ⟨a, ha, rfl⟩ := u8_byte w0
  have HL1 := Lib.hid w1.1
  have HS1 := Lib.hid w1.2
  have hlm := Nat.le_trans w1.2.le w1.2.max
  rw [w1.1] at hlm
  unfold maxLen at hlm
  clear w0 w1
  have HNZ : Hid ((a : Int) % 8 + 1 = ((a % 8 + 1 : Nat) : Int)) := by show _ = _; omega
  have hn1 : 1 ≤ a % 8 + 1 := by omega
  have hn8 : a % 8 + 1 ≤ 8 := by omega
  go_enter Try.func7, Try.ntmps7
  go_wp2_with fail
  rw [HNZ.out]
  clear HNZ
  generalize a % 8 + 1 = n at *
  refine (vander_any 40 n _ (by omega) (by omega) (by omega) (by omega)).mono ?_
  rintro e w2 ⟨_, GV, CV, g, c, rfl, hV, hb2⟩
  have HV := Lib.hid hV
  have HB2 := Lib.hid hb2
  have hz2 := hb2.size
  clear hV hb2
  have hmm := @run_makeMap Try.prog
  have HP3 : Hid (Pick ((w2.alloc (.cells #[] 27)).alloc (.map #[] 0)) w.heap.size GV CV g c n w2.heap.size 0 []) := by
    have h1 := (HV.out.below (below_one w2 (.cells #[] 27))).below (below_one _ (.map #[] 0))
    refine ⟨h1, ?_, by have := HV.out.lt.2; omega, by simp, by simp⟩
    exact World.ownsRow.alloc (World.ownsRow_lit (base := w.heap.size) (e := 27) (size := 1) w2 #[] 0 hz2 (by unfold maxLen; omega) rfl) _
  have HM3 : Hid (SetI ((w2.alloc (.cells #[] 27)).alloc (.map #[] 0)) (w2.heap.size + 1) 0 (fun k => decide (k ∈ ([] : List Nat)))) := by
    have := set_made (w2.alloc (.cells #[] 27))
    show SetI _ _ _ _
    simpa using this
  have HB3 : Hid (Below w.heap.size w ((w2.alloc (.cells #[] 27)).alloc (.map #[] 0))) := (HB2.out.alloc hz2 _).alloc (by simp; omega) _
  have HGB : Hid (∀ i, i < 40 → g i < w2.heap.size) := fun i hi => (HV.out.row i (by rw [vanK_len]; exact hi)).lt.2
  have hGVB := HV.out.lt.2
  clear HV
  obtain ⟨B, hB⟩ : ∃ B, B = w2.heap.size + 1 := ⟨_, rfl⟩
  rw [← hB] at HM3
  go_wp2
  rw [← hB]
  clear hmm
  have hB1 : w2.heap.size < B := by omega
  have hB2 : B ≤ w2.heap.size + 1 := by omega
  clear hB
  go_loopw [7, 9, 10] (fun s7 s9 _ ws => ∃ (i G C : Nat) (ks : List Nat), i ≤ len1 ∧ ks.length ≤ n ∧ s9 = .int .i64 i ∧ s7 = .slice (some ⟨G, 0, none⟩) ks.length C ∧ Hid (Pick ws w.heap.size GV CV g c n G C ks) ∧ Hid (SetI ws B ks.length (fun k => decide (k ∈ ks))) ∧ Hid (Below w.heap.size w ws) ∧ B < ws.heap.size) (fun _ s9 _ _ => len1 - (intOf s9).toNat)
  case atStart => exact ⟨0, _, _, [], Nat.zero_le _, Nat.zero_le _, rfl, rfl, HP3, HM3, HB3, by simp; omega⟩
  case round =>
    obtain ⟨i, G, C, ks, hi, hkn, rfl, rfl, hP, hM, hb, hBs⟩ := hrel
    have hbz := hb.out.size
    by_cases hlt : i < len1
    · by_cases hln : ks.length < n
      · obtain ⟨xb, xoff, e, hx0⟩ := HS1.out.cell i (by rw [HL1.out]; exact hlt)
        subst e
        have hx := cell_later hb.out hx0
        have hxb := bytes_get _ i HS1.out.byte
        clear hx0
        generalize m1.getD i 0 = x at *
        have hk40 : x % 40 < 40 := by omega
        have HKZ : Hid ((x : Int) % 40 = ((x % 40 : Nat) : Int)) := by show _ = _; omega
        have i0 : (0 : Int) ≤ (i : Int) := by omega
        have i1 : (i : Int) < (len1 : Int) := by omega
        go_upto_region 11 with fail
        rw [HKZ.out]
        clear HKZ
        generalize x % 40 = k at *
        by_cases hin : k ∈ ks
        · have HD : Hid (decide (k ∈ ks) = true) := by show _ = _; simpa using hin
          clear hin
          go_wp2_with (at_lookup; refine wpList_setLook rfl (.tmp 45) (.tmp 46) rfl B _ _ rfl hM.out k _ rfl rfl (by omega) ?_; rw [HD.out])
          go_round
          case rel => exact ⟨i + 1, G, C, ks, by omega, hkn, by go_num, rfl, hP, hM, hb, hBs⟩
          case measure => simp [intOf]; omega
        · have HD : Hid (decide (k ∈ ks) = false) := by show _ = _; simpa using hin
          have HNI := Lib.hid hin
          clear hin
          go_wp2_with (first | (at_lookup; refine wpList_setLook rfl (.tmp 45) (.tmp 46) rfl B _ _ rfl hM.out k _ rfl rfl (by omega) ?_; rw [HD.out]) | (at_mapUpdate; refine wpList_setPut rfl (.tmp 49) (.tmp 50) _ rfl B _ _ rfl hM.out k _ rfl rfl (by omega) rfl (by omega) ?_; intro w4 hM4 hC4; have HM4 := Lib.hid hM4; have HC4 := Lib.hid hC4; have HPP := Lib.hid (hP.out.chg hC4 (by simp; omega) (by simp; exact set_ne hM.out hP.out.rows) (fun j hj => by have := HGB.out j hj; simp; omega)); have HBB := Lib.hid (hC4.below hb.out hbz (by simp; omega)); have hcv := HPP.out.cell k hk40; have hBs4 := Nat.lt_of_lt_of_le hBs hC4.size; clear hM4 hC4) | (at_builtin; refine wpList_appV rfl (.tmp 51) (.tmp 56) rfl w.heap.size G C ks.length _ rfl (World.ownsRow.alloc HPP.out.rows _) _ _ _ rfl (cell_new' _ _ _ _ (by simp)) rfl (by omega) (by have := HBB.out.size; simp; omega) ?_; intro G2 C2 w5 hown5 hC5 hat5))
          have hG5 : G2 ≠ GV := by
            rcases hat5 with h | h
            · rw [h]; exact HPP.out.ne
            · have := HPP.out.van.lt.2
              simp at h
              omega
          have hCC : Chg [G] w4 w5 := ((Chg.refl _ _).alloc _).trans (by simpa using hC5)
          have HP5 : Hid (Pick w5 w.heap.size GV CV g c n G2 C2 (ks ++ [k])) := HPP.out.push k hk40 HNI.out hCC (by simp; exact fun e => HPP.out.ne e.symm) (fun i hi => by simp; exact owns_ne (HPP.out.van.row i (by rw [vanK_len]; exact hi)).own HPP.out.rows (by decide)) hG5 hown5
          have HG1 := Lib.hid (World.ownsRow.lt HPP.out.rows G rfl).1
          have HM5 : Hid (SetI w5 B (ks ++ [k]).length (fun j => decide (j ∈ ks ++ [k]))) := by
            show SetI _ _ _ _
            rw [← set_snoc, List.length_append]
            exact HM4.out.chg hCC (by simp; exact fun e => set_ne HM4.out HPP.out.rows e.symm)
          have hBs5 := Nat.lt_of_lt_of_le hBs4 hCC.size
          go_round
          case rel => exact ⟨i + 1, G2, C2, ks ++ [k], by omega, by simp; omega, by go_num, by rw [List.length_append]; rfl, HP5, HM5, hCC.below HBB.out HBB.out.size (by simp; exact HG1.out), hBs5⟩
          case measure => simp [intOf]; omega
      · have hd1 : decide ((ks.length : Int) < (n : Int)) = false := by simp; omega
        have hd2 : decide (ks.length < n) = false := by simp; omega
        go_wp2
        clear hd1 hd2
        go_loopw [7, 11] (fun s7 s11 ws => ∃ (k G C : Nat) (ls : List Nat), k ≤ 40 ∧ ls.length ≤ n ∧ s11 = .int .i64 k ∧ s7 = .slice (some ⟨G, 0, none⟩) ls.length C ∧ Hid (Pick ws w.heap.size GV CV g c n G C ls) ∧ Hid (SetI ws B ks.length (fun k => decide (k ∈ ks))) ∧ Hid (Below w.heap.size w ws) ∧ Hid ((∀ x, x < k → x ∈ ls) ∧ (∀ x, x ∈ ls → x ∈ ks ∨ x < k) ∧ ∀ x, x ∈ ks → x ∈ ls) ∧ B < ws.heap.size) (fun _ s11 _ => 40 - (intOf s11).toNat)
        case atStart => exact ⟨0, G, C, ks, Nat.zero_le _, hkn, rfl, rfl, hP, hM, hb, ⟨fun x hx => by omega, fun x hx => .inl hx, fun x hx => hx⟩, hBs⟩
        case round =>
          clear hP hb hbz hBs
          have hM0 := hM
          clear hM
          obtain ⟨k, G, C, ls, hk, hln2, rfl, rfl, hP, hM, hb, hA, hBs⟩ := hrel
          have hbz := hb.out.size
          by_cases hlk : k < 40
          · by_cases hll : ls.length < n
            · have hk40 := hlk
              have k0 : (0 : Int) ≤ (k : Int) := by omega
              have k1 : (k : Int) < 40 := by omega
              by_cases hin : k ∈ ks
              · have HD : Hid (decide (k ∈ ks) = true) := by show _ = _; simpa using hin
                have HIN := Lib.hid hin
                clear hin
                go_wp2_with (at_lookup; refine wpList_setLook rfl (.tmp 68) (.tmp 69) rfl B _ _ rfl hM.out k _ rfl rfl (by omega) ?_; rw [HD.out])
                go_round
                case rel =>
                  refine ⟨k + 1, G, C, ls, by omega, hln2, by go_num, rfl, hP, hM, hb, ⟨fun x hx => ?_, fun x hx => ?_, hA.out.2.2⟩, hBs⟩
                  · by_cases e : x = k
                    · rw [e]; exact hA.out.2.2 k HIN.out
                    · exact hA.out.1 x (by omega)
                  · rcases hA.out.2.1 x hx with h | h
                    · exact .inl h
                    · exact .inr (by omega)
                case measure => simp [intOf]; omega
              · have HD : Hid (decide (k ∈ ks) = false) := by show _ = _; simpa using hin
                have HNI : Hid (k ∉ ls) := fun h => by
                  rcases hA.out.2.1 k h with h' | h'
                  · exact hin h'
                  · omega
                have HPP := hP
                have HBB := hb
                have hcv := HPP.out.cell k hk40
                clear hin
                go_wp2_with (first | (at_lookup; refine wpList_setLook rfl (.tmp 68) (.tmp 69) rfl B _ _ rfl hM.out k _ rfl rfl (by omega) ?_; rw [HD.out]) | (at_builtin; refine wpList_appV rfl (.tmp 72) (.tmp 77) rfl w.heap.size G C ls.length _ rfl (World.ownsRow.alloc HPP.out.rows _) _ _ _ rfl (cell_new' _ _ _ _ (by simp)) rfl (by omega) (by have := HBB.out.size; simp; omega) ?_; intro G2 C2 w5 hown5 hC5 hat5))
                have hG5 : G2 ≠ GV := by
                  rcases hat5 with h | h
                  · rw [h]; exact HPP.out.ne
                  · have := HPP.out.van.lt.2
                    simp at h
                    omega
                have hCC : Chg [G] wr w5 := ((Chg.refl _ _).alloc _).trans (by simpa using hC5)
                have HP5 : Hid (Pick w5 w.heap.size GV CV g c n G2 C2 (ls ++ [k])) := HPP.out.push k hk40 HNI.out hCC (by simp; exact fun e => HPP.out.ne e.symm) (fun i hi => by simp; exact owns_ne (HPP.out.van.row i (by rw [vanK_len]; exact hi)).own HPP.out.rows (by decide)) hG5 hown5
                have HG1 := Lib.hid (World.ownsRow.lt HPP.out.rows G rfl).1
                have HM5 := Lib.hid (hM.out.chg hCC (by simp; exact fun e => set_ne hM.out HPP.out.rows e.symm))
                have hBs5 := Nat.lt_of_lt_of_le hBs hCC.size
                go_round
                case rel =>
                  refine ⟨k + 1, G2, C2, ls ++ [k], by omega, by simp; omega, by go_num, by rw [List.length_append]; rfl, HP5, HM5, hCC.below HBB.out HBB.out.size (by simp; exact HG1.out), ⟨fun x hx => ?_, fun x hx => ?_, fun x hx => List.mem_append_left _ (hA.out.2.2 x hx)⟩, hBs5⟩
                  · by_cases e : x = k
                    · rw [e]; simp
                    · exact List.mem_append_left _ (hA.out.1 x (by omega))
                  · rcases List.mem_append.mp hx with h | h
                    · rcases hA.out.2.1 x h with h' | h'
                      · exact .inl h'
                      · exact .inr (by omega)
                    · obtain rfl : x = k := by simpa using h
                      exact .inr (by omega)
                case measure => simp [intOf]; omega
            · have hd5 : decide ((ls.length : Int) < (n : Int)) = false := by simp; omega
              have hd6 : decide (ls.length < n) = false := by simp; omega
              have hle : ls.length = n := by omega
              have HGR := Lib.hid hP.out.grid
              have HSQ := Lib.hid (vrows_sq ls n hle)
              have HOK := Lib.hid (vrows_ok ls n hle hP.out.nodup hP.out.lt)
              clear hP hM hA hM0
              rw [hle]
              clear hle hd5 hd6
              have hd7 : decide ((n : Int) < (n : Int)) = false := by simp
              have hd8 : decide (n < n) = false := by simp
              go_wp2_with fail
              refine (inverse_any _ _ n (vrows ls n) _ HGR.out (Sd.of_sq HSQ.out (by omega)) HSQ.out.len (HSQ.out.row 0 (by omega)) (by omega)).mono ?_
              rintro e w6 ⟨hb6, ⟨GX, CX, gx, cx, X, rfl, hX, sX, iX⟩ | ⟨rfl, hS⟩⟩
              · have HX6 := Lib.hid hX.gridAt
                have HSX := Lib.hid sX
                have HIX := Lib.hid iX
                have HGR6 := Lib.hid (HGR.out.below hb6)
                have HB6 := Lib.hid (hb.out.trans (hb6.mono hb.out.size))
                clear hX sX iX hb6
                go_wp2_with fail
                refine (matMul_at _ _ _ _ n n (vrows ls n) X _ HGR6.out HX6.out (Sd.of_sq HSQ.out (by omega)) (Sd.of_sq HSX.out (by omega)) (by rw [HSQ.out.row 0 (by omega), HSX.out.len]) (by rw [HSQ.out.len]; omega) (by rw [HSX.out.row 0 (by omega)]; omega) HSQ.out.len HSX.out.len).mono ?_
                rintro e w7 ⟨hyl, GY, CY, gy, cy, rfl, hY, hb7⟩
                have HYL := Lib.hid hyl
                have HY7 := Lib.hid hY.gridAt
                have HB7 := Lib.hid (HB6.out.trans (hb7.mono HB6.out.size))
                clear hY hb7 hyl
                go_wp2_with fail
                refine (awake_any _).mono ?_
                rintro e w8 ⟨rfl, hb8⟩
                have HY8 := Lib.hid (HY7.out.below hb8)
                have HB8 := Lib.hid (HB7.out.trans (hb8.mono HB7.out.size))
                clear hb8
                go_wp2_with fail
                refine (rone_any n _ (by omega)).mono ?_
                rintro e w9 ⟨hol, GO, CO, go, co, rfl, hO9, hb9⟩
                have HOL := Lib.hid hol
                have HO9 := Lib.hid hO9.gridAt
                have HY9 := Lib.hid (HY8.out.below hb9)
                have HB9 := Lib.hid (HB8.out.trans (hb9.mono HB8.out.size))
                have HE : Hid (mprod (vrows ls n) X = roneK n n) := by
                  show _ = _
                  rw [prod_eq _ X (Sd.of_sq HSX.out (by omega)) HSQ.out.byte HSX.out.byte, HSX.out.row 0 (by omega), HSQ.out.len]
                  exact inv_prod_right HIX.out HSX.out.byte HSX.out.len
                clear hb9 hO9 hol
                go_wp2_with fail
                refine (same_at _ _ _ _ _ _ _ _ _ HY9.out HO9.out HE.out HYL.out HOL.out).mono ?_
                rintro e w10 ⟨rfl, hb10⟩
                go_wp2
                go_ret
                exact ⟨rfl, HB9.out.trans (hb10.mono HB9.out.size)⟩
              · exact absurd hS HOK.out
          · exfalso
            have := range_le 40 ls fun x hx => hA.out.1 x (by omega)
            omega
    · have hd0 : decide ((i : Int) < (len1 : Int)) = false := by simp; omega
      go_wp2
      clear hd0
      go_loopw [7, 11] (fun s7 s11 ws => ∃ (k G C : Nat) (ls : List Nat), k ≤ 40 ∧ ls.length ≤ n ∧ s11 = .int .i64 k ∧ s7 = .slice (some ⟨G, 0, none⟩) ls.length C ∧ Hid (Pick ws w.heap.size GV CV g c n G C ls) ∧ Hid (SetI ws B ks.length (fun k => decide (k ∈ ks))) ∧ Hid (Below w.heap.size w ws) ∧ Hid ((∀ x, x < k → x ∈ ls) ∧ (∀ x, x ∈ ls → x ∈ ks ∨ x < k) ∧ ∀ x, x ∈ ks → x ∈ ls) ∧ B < ws.heap.size) (fun _ s11 _ => 40 - (intOf s11).toNat)
      case atStart => exact ⟨0, G, C, ks, Nat.zero_le _, hkn, rfl, rfl, hP, hM, hb, ⟨fun x hx => by omega, fun x hx => .inl hx, fun x hx => hx⟩, hBs⟩
      case round =>
        clear hP hb hbz hBs
        have hM0 := hM
        clear hM
        obtain ⟨k, G, C, ls, hk, hln2, rfl, rfl, hP, hM, hb, hA, hBs⟩ := hrel
        have hbz := hb.out.size
        by_cases hlk : k < 40
        · by_cases hll : ls.length < n
          · have hk40 := hlk
            have k0 : (0 : Int) ≤ (k : Int) := by omega
            have k1 : (k : Int) < 40 := by omega
            by_cases hin : k ∈ ks
            · have HD : Hid (decide (k ∈ ks) = true) := by show _ = _; simpa using hin
              have HIN := Lib.hid hin
              clear hin
              go_wp2_with (at_lookup; refine wpList_setLook rfl (.tmp 68) (.tmp 69) rfl B _ _ rfl hM.out k _ rfl rfl (by omega) ?_; rw [HD.out])
              go_round
              case rel =>
                refine ⟨k + 1, G, C, ls, by omega, hln2, by go_num, rfl, hP, hM, hb, ⟨fun x hx => ?_, fun x hx => ?_, hA.out.2.2⟩, hBs⟩
                · by_cases e : x = k
                  · rw [e]; exact hA.out.2.2 k HIN.out
                  · exact hA.out.1 x (by omega)
                · rcases hA.out.2.1 x hx with h | h
                  · exact .inl h
                  · exact .inr (by omega)
              case measure => simp [intOf]; omega
            · have HD : Hid (decide (k ∈ ks) = false) := by show _ = _; simpa using hin
              have HNI : Hid (k ∉ ls) := fun h => by
                rcases hA.out.2.1 k h with h' | h'
                · exact hin h'
                · omega
              have HPP := hP
              have HBB := hb
              have hcv := HPP.out.cell k hk40
              clear hin
              go_wp2_with (first | (at_lookup; refine wpList_setLook rfl (.tmp 68) (.tmp 69) rfl B _ _ rfl hM.out k _ rfl rfl (by omega) ?_; rw [HD.out]) | (at_builtin; refine wpList_appV rfl (.tmp 72) (.tmp 77) rfl w.heap.size G C ls.length _ rfl (World.ownsRow.alloc HPP.out.rows _) _ _ _ rfl (cell_new' _ _ _ _ (by simp)) rfl (by omega) (by have := HBB.out.size; simp; omega) ?_; intro G2 C2 w5 hown5 hC5 hat5))
              have hG5 : G2 ≠ GV := by
                rcases hat5 with h | h
                · rw [h]; exact HPP.out.ne
                · have := HPP.out.van.lt.2
                  simp at h
                  omega
              have hCC : Chg [G] wr w5 := ((Chg.refl _ _).alloc _).trans (by simpa using hC5)
              have HP5 : Hid (Pick w5 w.heap.size GV CV g c n G2 C2 (ls ++ [k])) := HPP.out.push k hk40 HNI.out hCC (by simp; exact fun e => HPP.out.ne e.symm) (fun i hi => by simp; exact owns_ne (HPP.out.van.row i (by rw [vanK_len]; exact hi)).own HPP.out.rows (by decide)) hG5 hown5
              have HG1 := Lib.hid (World.ownsRow.lt HPP.out.rows G rfl).1
              have HM5 := Lib.hid (hM.out.chg hCC (by simp; exact fun e => set_ne hM.out HPP.out.rows e.symm))
              have hBs5 := Nat.lt_of_lt_of_le hBs hCC.size
              go_round
              case rel =>
                refine ⟨k + 1, G2, C2, ls ++ [k], by omega, by simp; omega, by go_num, by rw [List.length_append]; rfl, HP5, HM5, hCC.below HBB.out HBB.out.size (by simp; exact HG1.out), ⟨fun x hx => ?_, fun x hx => ?_, fun x hx => List.mem_append_left _ (hA.out.2.2 x hx)⟩, hBs5⟩
                · by_cases e : x = k
                  · rw [e]; simp
                  · exact List.mem_append_left _ (hA.out.1 x (by omega))
                · rcases List.mem_append.mp hx with h | h
                  · rcases hA.out.2.1 x h with h' | h'
                    · exact .inl h'
                    · exact .inr (by omega)
                  · obtain rfl : x = k := by simpa using h
                    exact .inr (by omega)
              case measure => simp [intOf]; omega
          · have hd5 : decide ((ls.length : Int) < (n : Int)) = false := by simp; omega
            have hd6 : decide (ls.length < n) = false := by simp; omega
            have hle : ls.length = n := by omega
            have HGR := Lib.hid hP.out.grid
            have HSQ := Lib.hid (vrows_sq ls n hle)
            have HOK := Lib.hid (vrows_ok ls n hle hP.out.nodup hP.out.lt)
            clear hP hM hA hM0
            rw [hle]
            clear hle hd5 hd6
            have hd7 : decide ((n : Int) < (n : Int)) = false := by simp
            have hd8 : decide (n < n) = false := by simp
            go_wp2_with fail
            refine (inverse_any _ _ n (vrows ls n) _ HGR.out (Sd.of_sq HSQ.out (by omega)) HSQ.out.len (HSQ.out.row 0 (by omega)) (by omega)).mono ?_
            rintro e w6 ⟨hb6, ⟨GX, CX, gx, cx, X, rfl, hX, sX, iX⟩ | ⟨rfl, hS⟩⟩
            · have HX6 := Lib.hid hX.gridAt
              have HSX := Lib.hid sX
              have HIX := Lib.hid iX
              have HGR6 := Lib.hid (HGR.out.below hb6)
              have HB6 := Lib.hid (hb.out.trans (hb6.mono hb.out.size))
              clear hX sX iX hb6
              go_wp2_with fail
              refine (matMul_at _ _ _ _ n n (vrows ls n) X _ HGR6.out HX6.out (Sd.of_sq HSQ.out (by omega)) (Sd.of_sq HSX.out (by omega)) (by rw [HSQ.out.row 0 (by omega), HSX.out.len]) (by rw [HSQ.out.len]; omega) (by rw [HSX.out.row 0 (by omega)]; omega) HSQ.out.len HSX.out.len).mono ?_
              rintro e w7 ⟨hyl, GY, CY, gy, cy, rfl, hY, hb7⟩
              have HYL := Lib.hid hyl
              have HY7 := Lib.hid hY.gridAt
              have HB7 := Lib.hid (HB6.out.trans (hb7.mono HB6.out.size))
              clear hY hb7 hyl
              go_wp2_with fail
              refine (awake_any _).mono ?_
              rintro e w8 ⟨rfl, hb8⟩
              have HY8 := Lib.hid (HY7.out.below hb8)
              have HB8 := Lib.hid (HB7.out.trans (hb8.mono HB7.out.size))
              clear hb8
              go_wp2_with fail
              refine (rone_any n _ (by omega)).mono ?_
              rintro e w9 ⟨hol, GO, CO, go, co, rfl, hO9, hb9⟩
              have HOL := Lib.hid hol
              have HO9 := Lib.hid hO9.gridAt
              have HY9 := Lib.hid (HY8.out.below hb9)
              have HB9 := Lib.hid (HB8.out.trans (hb9.mono HB8.out.size))
              have HE : Hid (mprod (vrows ls n) X = roneK n n) := by
                show _ = _
                rw [prod_eq _ X (Sd.of_sq HSX.out (by omega)) HSQ.out.byte HSX.out.byte, HSX.out.row 0 (by omega), HSQ.out.len]
                exact inv_prod_right HIX.out HSX.out.byte HSX.out.len
              clear hb9 hO9 hol
              go_wp2_with fail
              refine (same_at _ _ _ _ _ _ _ _ _ HY9.out HO9.out HE.out HYL.out HOL.out).mono ?_
              rintro e w10 ⟨rfl, hb10⟩
              go_wp2
              go_ret
              exact ⟨rfl, HB9.out.trans (hb10.mono HB9.out.size)⟩
            · exact absurd hS HOK.out
        · exfalso
          have := range_le 40 ls fun x hx => hA.out.1 x (by omega)
          omega

end Go.Proofs.Ytfldocibbjgdkaa
