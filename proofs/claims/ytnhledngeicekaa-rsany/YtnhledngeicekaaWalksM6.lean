/-
  What mat.Mul does.
-/
import Derived.Test.YtnhledngeicekaaWalksM5
namespace Go.Proofs.Ytnhledngeicekaa
open Go.RowKit

theorem addMul_at (tb g cap base f vc l l' : Nat) (row other : List Nat) (va : Option Addr) (w : World) (ht : IsTab w tb) (htg : tb ≠ g) (hown : OwnB w base g cap row) (hs : SeenAt w va vc other)
    (hva : ∀ b off, va = some ⟨b, off, none⟩ → b ≠ g) (hl : row.length = l) (hl' : other.length = l') (hll : l' ≤ l) (hf : f < 256) :
    Calls Try.prog 44 #[.pointer (some ⟨tb, 0, none⟩), .slice (some ⟨g, 0, none⟩) l cap, .slice va l' vc, .int .u8 (f : Int)] w fun e w' => e = .returned (.tuple #[]) ∧ OwnB w' base g cap (Mt.addMul row other f) ∧ Chg [g] w w' := by
  subst hl hl'
  exact addMul_any tb g cap base f vc row other va w ht htg hown hs hva hll hf

theorem SeenAt.block_lt {w : World} {a : Option Addr} {cap : Nat} {ps : List Nat} (h : SeenAt w a cap ps) (hp : 0 < ps.length) : ∀ b off, a = some ⟨b, off, none⟩ → b < w.heap.size := by
  intro b off e
  obtain ⟨b', off', e', hc⟩ := h.cell 0 hp
  rw [e] at e'
  cases e'
  exact World.block_lt_of_cell? w _ hc

/-- Row r times b (k columns), its first j terms done. -/
def mrowK (r : List Nat) (b : List (List Nat)) (k : Nat) : Nat → List Nat
  | 0 => List.replicate k 0
  | j + 1 => Mt.addMul (mrowK r b k j) (b.getD j []) (r.getD j 0)

/-- a times b (k columns), its first i rows done. -/
def mmulK (a b : List (List Nat)) (k : Nat) : Nat → List (List Nat)
  | 0 => List.replicate a.length (List.replicate k 0)
  | i + 1 => (mmulK a b k i).set i (mrowK (a.getD i []) b k b.length)

/-- The product. -/
def mprod (a b : List (List Nat)) : List (List Nat) := mmulK a b (b.getD 0 []).length a.length

theorem mrowK_len (r : List Nat) (b : List (List Nat)) (k j : Nat) : (mrowK r b k j).length = k := by
  induction j with
  | zero => simp [mrowK]
  | succ j ih => rw [mrowK, Mt.addMul_len, ih]

theorem mmulK_len (a b : List (List Nat)) (k i : Nat) : (mmulK a b k i).length = a.length := by
  induction i with
  | zero => simp [mmulK]
  | succ i ih => simp [mmulK, ih]

theorem mmulK_row (a b : List (List Nat)) (k i j : Nat) (hj : j < a.length) : (mmulK a b k i).getD j [] = if j < i then mrowK (a.getD j []) b k b.length else List.replicate k 0 := by
  induction i with
  | zero => show (List.replicate a.length (List.replicate k 0)).getD j [] = _; rw [getD_rep _ _ _ _ hj, if_neg (by omega)]
  | succ i ih =>
    by_cases e : j = i
    · subst e; rw [mmulK, getD_set_eq _ _ _ _ (by rw [mmulK_len]; exact hj), if_pos (by omega)]
    · rw [mmulK, getD_set_ne _ _ _ _ _ e, ih]
      by_cases h : j < i
      · rw [if_pos h, if_pos (by omega)]
      · rw [if_neg h, if_neg (by omega)]

theorem set_same {α : Type} (m : List α) (i : Nat) (x d : α) (h : i < m.length) (e : m.getD i d = x) : m.set i x = m := by
  refine getD_congr _ _ d (by simp) fun j hj => ?_
  by_cases ej : j = i
  · subst ej; rw [getD_set_eq _ _ _ _ h, e]
  · rw [getD_set_ne _ _ _ _ _ ej]

theorem set_set {α : Type} (m : List α) (i : Nat) (x y : α) : (m.set i x).set i y = m.set i y := List.set_set ..

/-- A matrix of the call's own and true are handed back; nothing that was there has turned. -/
def RetMT (w : World) (n : Nat) (m : List (List Nat)) (e : Ending) (w' : World) : Prop :=
  m.length = n ∧ ∃ G C g c, e = .returned (.tuple #[.slice (some ⟨G, 0, none⟩) n C, .bool true]) ∧ OwnM w' w.heap.size G C g c m ∧ Below w.heap.size w w'

set_option maxRecDepth 100000 in
set_option maxHeartbeats 2000000 in
theorem matMul_yes (va vb : Option Addr) (vc vd : Nat) (a b : List (List Nat)) (w : World) (hA : GridAt w va vc a) (hB : GridAt w vb vd b) (sa : Sd a) (sb : Sd b) (hf : (a.getD 0 []).length = b.length)
    (hn : a.length ≤ 1000000) (hk : (b.getD 0 []).length ≤ 1000000000) :
    Calls Try.prog 34 #[.slice va a.length vc, .slice vb b.length vd] w (RetMT w a.length (mprod a b)) := by
  have HSA := Lib.hid (fun w => fun h => sound_yes va vc a w h sa)
  have HSB := Lib.hid (fun w => fun h => sound_yes vb vd b w h sb)
  obtain ⟨b1, off1, ra1, rc1, e, hca, _⟩ := hA.at 0 sa.1
  obtain ⟨b2, off2, ra2, rc2, e2, hcb, _⟩ := hB.at 0 sb.1
  rw [Nat.add_zero] at hca hcb
  subst e e2
  rw [hf] at hca
  have HA := Lib.hid hA
  have HB := Lib.hid hB
  have HRA := Lib.hid sa.2.2
  have HRB := Lib.hid sb.2.2
  have ha0 := sa.1
  have hb0 := sb.1
  have hk0 := sb.2.1
  have hbm := Nat.le_trans hB.le hB.max
  unfold maxLen at hbm
  clear hA hB sa sb
  have HP : Hid (mprod a b = mmulK a b (b.getD 0 []).length a.length) := rfl
  generalize hkk : (b.getD 0 []).length = k at *
  clear hkk
  have HF := Lib.hid hf
  rw [hf] at HRA
  clear hf
  have t0 : ((b.length : Int) != (b.length : Int)) = false := by simp
  have HCA := Lib.hid hca
  have HCB := Lib.hid hcb
  clear hca hcb
  go_enter Try.func34, Try.ntmps34
  go_wp2_with fail
  refine (HSA.out _ HA.out).mono ?_
  rintro e w1 ⟨rfl, hb1⟩
  go_wp2_with fail
  refine (HSB.out _ (HB.out.below hb1)).mono ?_
  rintro e w2 ⟨rfl, hb2⟩
  replace hb2 := hb1.trans (hb2.mono hb1.size)
  clear hb1
  have hca := cell_later hb2 HCA.out
  have hcb := cell_later hb2 HCB.out
  have ha0' : (0 : Int) < (a.length : Int) := by omega
  have hb0' : (0 : Int) < (b.length : Int) := by omega
  go_wp2_with fail
  refine (made_ex _).mono ?_
  rintro e w3 ⟨rfl, cs, hcs, rfl⟩
  have ht := hcs.isTab w2 77
  have hb3 := hb2.alloc hb2.size (.cells cs 77)
  have hs3 : w2.heap.size < (w2.alloc (.cells cs 77)).heap.size := by simp
  have hz2 := hb2.size
  clear hcs hca hcb hb2
  generalize w2.alloc (.cells cs 77) = w3 at *
  generalize w2.heap.size = tb at *
  have hcb := cell_later hb3 HCB.out
  have HT3 := Lib.hid ht
  have HB3 := Lib.hid hb3
  clear ht hb3
  go_wp2_with fail
  refine (zeros_any a.length k _ hn hk).mono ?_
  rintro e w4 ⟨_, G, C, g, c, rfl, hO4, hb4⟩
  have hz3 := HB3.out.size
  have HT4 := Lib.hid (HT3.out.below hb4 hs3)
  have HB4 := Lib.hid (HB3.out.trans (hb4.mono hz3))
  have HO4 := Lib.hid hO4
  have hz4 := hb4.size
  clear hO4 hb4 hcb t0
  go_wp2
  go_loopw [8, 9, 10, 11, 39] (fun _ _ _ _ i ws => ∃ j : Nat, j ≤ a.length ∧ i = .int .i64 j ∧ Hid (OwnM ws w3.heap.size G C g c (mmulK a b k j)) ∧ Hid (Below w.heap.size w ws) ∧ Hid (IsTab ws tb) ∧ w3.heap.size ≤ ws.heap.size) (fun _ _ _ _ i _ => a.length - (intOf i).toNat)
  case atStart => exact ⟨0, Nat.zero_le _, rfl, HO4, HB4, HT4, hz4⟩
  case round =>
    obtain ⟨j, hj, rfl, hO, hb, hT, hz⟩ := hrel
    by_cases hlt : j < a.length
    · obtain ⟨b', off', ra', rc', e, hcj0, hSj0⟩ := HA.out.at j hlt
      cases e
      have hcj := cell_later hb.out hcj0
      rw [HRA.out j hlt] at hcj
      have HSJ := Lib.hid hSj0
      have HML := Lib.hid (HRA.out j hlt)
      have HO0 := Lib.hid (set_same (mmulK a b k j) j (List.replicate k 0) [] (by rw [mmulK_len]; exact hlt) (by rw [mmulK_row _ _ _ _ _ hlt, if_neg (by omega)]))
      clear hSj0 hcj0
      go_wp2
      go_loopw [10, 11, 46] (fun _ _ i ws => ∃ n : Nat, n ≤ b.length ∧ i = .int .i64 n ∧ Hid (OwnM ws w3.heap.size G C g c ((mmulK a b k j).set j (mrowK (a.getD j []) b k n))) ∧ Hid (Below w.heap.size w ws) ∧ Hid (IsTab ws tb) ∧ w3.heap.size ≤ ws.heap.size) (fun _ _ i _ => b.length - (intOf i).toNat)
      case atStart => exact ⟨0, Nat.zero_le _, rfl, by rw [mrowK, HO0.out]; exact hO, hb, hT, hz⟩
      case round =>
        clear hO hb hT hz hcj
        obtain ⟨n, hn', rfl, hO, hb, hT, hz⟩ := hrel
        by_cases hlt2 : n < b.length
        · obtain ⟨xb, xoff, e, hx0⟩ := HSJ.out.cell n (by rw [HML.out]; exact hlt2)
          subst e
          have hx := cell_later hb.out hx0
          have hxb := bytes_get _ n HSJ.out.byte
          obtain ⟨b', off', rb, rcb, e, hcn0, hSn0⟩ := HB.out.at n hlt2
          cases e
          have hcn := cell_later hb.out hcn0
          rw [HRB.out n hlt2] at hcn
          have HLB := Lib.hid (HRB.out n hlt2)
          have HSN := Lib.hid (hSn0.below hb.out)
          have hlm : ((mmulK a b k j).set j (mrowK (a.getD j []) b k n)).length = a.length := by rw [List.length_set, mmulK_len]
          have hrw : ((mmulK a b k j).set j (mrowK (a.getD j []) b k n)).getD j [] = mrowK (a.getD j []) b k n := getD_set_eq _ _ _ _ (by rw [mmulK_len]; exact hlt)
          have hcP := hO.out.cell j (by rw [hlm]; exact hlt)
          have hRP := hO.out.row j (by rw [hlm]; exact hlt)
          rw [hrw] at hcP hRP
          rw [mrowK_len] at hcP
          have HRP := Lib.hid hRP
          have hgj := hRP.lt.1
          have HGG := Lib.hid (hO.out.ne j (by rw [hlm]; exact hlt))
          have HLM := Lib.hid hlm
          have HRW := Lib.hid hrw
          have HST : Hid (mrowK (a.getD j []) b k (n + 1) = Mt.addMul (mrowK (a.getD j []) b k n) (b.getD n []) ((a.getD j []).getD n 0)) := rfl
          have HVA : Hid (∀ b' off', rb = some ⟨b', off', none⟩ → b' ≠ g j) := by
            intro b' off' e
            have := SeenAt.block_lt hSn0 (by rw [HLB.out]; exact hk0) b' off' e
            have hz3' := HB3.out.size
            omega
          have hxb2 : b2 ≠ g j := by have := World.block_lt_of_cell? w _ hcn0; have hz3' := HB3.out.size; simp at this; omega
          clear hRP hlm hrw hSn0 hcn0 hx0
          generalize (a.getD j []).getD n 0 = x at *
          have hj0 : (0 : Int) ≤ (j : Int) := by omega
          have hj1 : (j : Int) < (a.length : Int) := by omega
          have hn0 : (0 : Int) ≤ (n : Int) := by omega
          have hn1 : (n : Int) < (b.length : Int) := by omega
          have HCP := Lib.hid hcP
          have HCN := Lib.hid hcn
          go_wp2
          go_region_held3 (fun w' => w'.cell? ⟨G, j, none⟩ = some (.slice (some ⟨g j, 0, none⟩) k (c j)) ∧ w'.cell? ⟨b2, off2 + n, none⟩ = some (.slice rb k rcb))
            (first | go_keep | exact ⟨hC2.cell HCP.out (by simp; exact fun e => HGG.out e.symm), hC2.cell HCN.out (by simp; exact hxb2)⟩)
            ((go_at_call 44; (with_reducible refine (addMul_at _ _ _ w3.heap.size _ _ _ _ (mrowK (a.getD j []) b k n) (b.getD n []) _ _ ?_ ?_ ?_ ?_ ?_ ?_ ?_ ?_ ?_).mono ?_); (exact hT.out.alike rfl); omega; (exact HRP.out.alike rfl); (exact HSN.out.alike rfl); (exact HVA.out); (exact mrowK_len _ _ _ _); (exact HLB.out); omega; (exact hxb); rintro e w5 ⟨rfl, hO2, hC2⟩))
          all_goals go_wp2
          have hCC : Chg [g j] wr w5 := ((Chg.refl _ _).drew).trans hC2
          go_round
          case rel =>
            refine ⟨n + 1, by omega, by go_num, ?_, hCC.below hb.out hb.out.size (by simp; omega), hT.out.chg hCC (by simp; omega), Nat.le_trans hz hCC.size⟩
            rw [HST.out, ← set_set (mmulK a b k j) j (mrowK (a.getD j []) b k n)]
            exact hO.out.setRow j (by rw [HLM.out]; exact hlt) _ hCC hO2 (by rw [Mt.addMul_len, HRW.out])
          case measure => simp [intOf]; omega
        · obtain rfl : n = b.length := by omega
          go_wp2
          go_round
          case rel => exact ⟨j + 1, by omega, by go_num, hO, hb, hT, hz⟩
          case measure => simp [intOf]; omega
    · obtain rfl : j = a.length := by omega
      go_wp2
      go_ret2
      exact ⟨mmulK_len _ _ _ _, _, _, _, _, rfl, by rw [HP.out]; exact hO.out.base (by omega), hb.out⟩

set_option maxRecDepth 100000 in
set_option maxHeartbeats 2000000 in
theorem matMul_no (va vb : Option Addr) (vc vd : Nat) (a b : List (List Nat)) (w : World) (hA : GridAt w va vc a) (hB : GridAt w vb vd b) (h : ¬ (Sd a ∧ Sd b ∧ (a.getD 0 []).length = b.length)) :
    Calls Try.prog 34 #[.slice va a.length vc, .slice vb b.length vd] w fun e w' => e = .returned (.tuple #[.slice none 0 0, .bool false]) ∧ Below w.heap.size w w' := by
  by_cases sa : Sd a
  · have HSA := Lib.hid (fun w => fun h => sound_yes va vc a w h sa)
    have HA := Lib.hid hA
    have HB := Lib.hid hB
    by_cases sb : Sd b
    · have HSB := Lib.hid (fun w => fun h => sound_yes vb vd b w h sb)
      obtain ⟨b1, off1, ra1, rc1, e, hca, _⟩ := hA.at 0 sa.1
      rw [Nat.add_zero] at hca
      subst e
      have ha0 := sa.1
      have HF : Hid ((a.getD 0 []).length ≠ b.length) := fun hf => h ⟨sa, sb, hf⟩
      clear h sa sb hA hB
      generalize (a.getD 0 []).length = l at *
      have t0 : ((l : Int) != (b.length : Int)) = true := by have := HF.out; simp; omega
      have HCA := Lib.hid hca
      clear hca
      go_enter Try.func34, Try.ntmps34
      go_wp2_with fail
      refine (HSA.out _ HA.out).mono ?_
      rintro e w1 ⟨rfl, hb1⟩
      go_wp2_with fail
      refine (HSB.out _ (HB.out.below hb1)).mono ?_
      rintro e w2 ⟨rfl, hb2⟩
      replace hb2 := hb1.trans (hb2.mono hb1.size)
      clear hb1
      have hca := cell_later hb2 HCA.out
      have ha0' : (0 : Int) < (a.length : Int) := by omega
      go_wp2
      go_ret2
      exact ⟨rfl, hb2⟩
    · have HSB := Lib.hid (fun w => fun h => sound_no vb vd b w h sb)
      clear h sa sb hA hB
      go_enter Try.func34, Try.ntmps34
      go_wp2_with fail
      refine (HSA.out _ HA.out).mono ?_
      rintro e w1 ⟨rfl, hb1⟩
      go_wp2_with fail
      refine (HSB.out _ (HB.out.below hb1)).mono ?_
      rintro e w2 ⟨rfl, hb2⟩
      replace hb2 := hb1.trans (hb2.mono hb1.size)
      clear hb1
      go_wp2
      go_ret2
      exact ⟨rfl, hb2⟩
  · have HSA := Lib.hid (fun w => fun h => sound_no va vc a w h sa)
    have HA := Lib.hid hA
    clear h sa hA hB
    go_enter Try.func34, Try.ntmps34
    go_wp2_with fail
    refine (HSA.out _ HA.out).mono ?_
    rintro e w1 ⟨rfl, hb1⟩
    go_wp2
    go_ret2
    exact ⟨rfl, hb1⟩

end Go.Proofs.Ytnhledngeicekaa
