/-
  What mat.Mul does.
  What the reference's One, Vander and Product do; mat.Vander.
  What mat.Vander and the reference's Product do.
-/
import Derived.Test.YtjefjlalebpodaaWalksM1
namespace Go.Proofs.Ytjefjlalebpodaa
open Go.RowKit

theorem addMul_at (tb g cap base f vc l l' : Nat) (row other : List Nat) (va : Option Addr) (w : World) (ht : IsTab w tb) (htg : tb ≠ g) (hown : OwnB w base g cap row) (hs : SeenAt w va vc other)
    (hva : ∀ b off, va = some ⟨b, off, none⟩ → b ≠ g) (hl : row.length = l) (hl' : other.length = l') (hll : l' ≤ l) (hf : f < 256) :
    Calls Try.prog 70 #[.pointer (some ⟨tb, 0, none⟩), .slice (some ⟨g, 0, none⟩) l cap, .slice va l' vc, .int .u8 (f : Int)] w fun e w' => e = .returned (.tuple #[]) ∧ OwnB w' base g cap (Mt.addMul row other f) ∧ Chg [g] w w' := by
  subst hl hl'
  exact addMul_any tb g cap base f vc row other va w ht htg hown hs hva hll hf

theorem SeenAt.block_lt {w : World} {a : Option Addr} {cap : Nat} {ps : List Nat} (h : SeenAt w a cap ps) (hp : 0 < ps.length) : ∀ b off, a = some ⟨b, off, none⟩ → b < w.heap.size := by
  intro b off e
  obtain ⟨b', off', e', hc⟩ := h.cell 0 hp
  rw [e] at e'
  cases e'
  exact World.block_lt_of_cell? w _ hc

/-- Row r times b (k columns), its first j terms done. -/
def mrowK (r : List Nat) (b : List (List Nat)) (k : Nat) : Nat → List Nat
  | 0 => List.replicate k 0
  | j + 1 => Mt.addMul (mrowK r b k j) (b.getD j []) (r.getD j 0)

/-- a times b (k columns), its first i rows done. -/
def mmulK (a b : List (List Nat)) (k : Nat) : Nat → List (List Nat)
  | 0 => List.replicate a.length (List.replicate k 0)
  | i + 1 => (mmulK a b k i).set i (mrowK (a.getD i []) b k b.length)

/-- The product. -/
def mprod (a b : List (List Nat)) : List (List Nat) := mmulK a b (b.getD 0 []).length a.length

theorem mrowK_len (r : List Nat) (b : List (List Nat)) (k j : Nat) : (mrowK r b k j).length = k := by
  induction j with
  | zero => simp [mrowK]
  | succ j ih => rw [mrowK, Mt.addMul_len, ih]

theorem mmulK_len (a b : List (List Nat)) (k i : Nat) : (mmulK a b k i).length = a.length := by
  induction i with
  | zero => simp [mmulK]
  | succ i ih => simp [mmulK, ih]

theorem mmulK_row (a b : List (List Nat)) (k i j : Nat) (hj : j < a.length) : (mmulK a b k i).getD j [] = if j < i then mrowK (a.getD j []) b k b.length else List.replicate k 0 := by
  induction i with
  | zero => show (List.replicate a.length (List.replicate k 0)).getD j [] = _; rw [getD_rep _ _ _ _ hj, if_neg (by omega)]
  | succ i ih =>
    by_cases e : j = i
    · subst e; rw [mmulK, getD_set_eq _ _ _ _ (by rw [mmulK_len]; exact hj), if_pos (by omega)]
    · rw [mmulK, getD_set_ne _ _ _ _ _ e, ih]
      by_cases h : j < i
      · rw [if_pos h, if_pos (by omega)]
      · rw [if_neg h, if_neg (by omega)]

theorem set_same {α : Type} (m : List α) (i : Nat) (x d : α) (h : i < m.length) (e : m.getD i d = x) : m.set i x = m := by
  refine getD_congr _ _ d (by simp) fun j hj => ?_
  by_cases ej : j = i
  · subst ej; rw [getD_set_eq _ _ _ _ h, e]
  · rw [getD_set_ne _ _ _ _ _ ej]

theorem set_set {α : Type} (m : List α) (i : Nat) (x y : α) : (m.set i x).set i y = m.set i y := List.set_set ..

/-- A matrix of the call's own and true are handed back; nothing that was there has turned. -/
def RetMT (w : World) (n : Nat) (m : List (List Nat)) (e : Ending) (w' : World) : Prop :=
  m.length = n ∧ ∃ G C g c, e = .returned (.tuple #[.slice (some ⟨G, 0, none⟩) n C, .bool true]) ∧ OwnM w' w.heap.size G C g c m ∧ Below w.heap.size w w'

set_option maxRecDepth 100000 in
set_option maxHeartbeats 2000000 in
theorem matMul_yes (va vb : Option Addr) (vc vd : Nat) (a b : List (List Nat)) (w : World) (hA : GridAt w va vc a) (hB : GridAt w vb vd b) (sa : Sd a) (sb : Sd b) (hf : (a.getD 0 []).length = b.length)
    (hn : a.length ≤ 1000000) (hk : (b.getD 0 []).length ≤ 1000000000) :
    Calls Try.prog 61 #[.slice va a.length vc, .slice vb b.length vd] w (RetMT w a.length (mprod a b)) := by
  have HSA := Lib.hid (fun w => fun h => sound_yes va vc a w h sa)
  have HSB := Lib.hid (fun w => fun h => sound_yes vb vd b w h sb)
  obtain ⟨b1, off1, ra1, rc1, e, hca, _⟩ := hA.at 0 sa.1
  obtain ⟨b2, off2, ra2, rc2, e2, hcb, _⟩ := hB.at 0 sb.1
  rw [Nat.add_zero] at hca hcb
  subst e e2
  rw [hf] at hca
  have HA := Lib.hid hA
  have HB := Lib.hid hB
  have HRA := Lib.hid sa.2.2
  have HRB := Lib.hid sb.2.2
  have ha0 := sa.1
  have hb0 := sb.1
  have hk0 := sb.2.1
  have hbm := Nat.le_trans hB.le hB.max
  unfold maxLen at hbm
  clear hA hB sa sb
  have HP : Hid (mprod a b = mmulK a b (b.getD 0 []).length a.length) := rfl
  generalize hkk : (b.getD 0 []).length = k at *
  clear hkk
  have HF := Lib.hid hf
  rw [hf] at HRA
  clear hf
  have t0 : ((b.length : Int) != (b.length : Int)) = false := by simp
  have HCA := Lib.hid hca
  have HCB := Lib.hid hcb
  clear hca hcb
  go_enter Try.func61, Try.ntmps61
  go_wp2_with fail
  refine (HSA.out _ HA.out).mono ?_
  rintro e w1 ⟨rfl, hb1⟩
  go_wp2_with fail
  refine (HSB.out _ (HB.out.below hb1)).mono ?_
  rintro e w2 ⟨rfl, hb2⟩
  replace hb2 := hb1.trans (hb2.mono hb1.size)
  clear hb1
  have hca := cell_later hb2 HCA.out
  have hcb := cell_later hb2 HCB.out
  have ha0' : (0 : Int) < (a.length : Int) := by omega
  have hb0' : (0 : Int) < (b.length : Int) := by omega
  go_wp2_with fail
  refine (made_ex _).mono ?_
  rintro e w3 ⟨rfl, cs, hcs, rfl⟩
  have ht := hcs.isTab w2 108
  have hb3 := hb2.alloc hb2.size (.cells cs 108)
  have hs3 : w2.heap.size < (w2.alloc (.cells cs 108)).heap.size := by simp
  have hz2 := hb2.size
  clear hcs hca hcb hb2
  generalize w2.alloc (.cells cs 108) = w3 at *
  generalize w2.heap.size = tb at *
  have hcb := cell_later hb3 HCB.out
  have HT3 := Lib.hid ht
  have HB3 := Lib.hid hb3
  clear ht hb3
  go_wp2_with fail
  refine (zeros_any a.length k _ hn hk).mono ?_
  rintro e w4 ⟨_, G, C, g, c, rfl, hO4, hb4⟩
  have hz3 := HB3.out.size
  have HT4 := Lib.hid (HT3.out.below hb4 hs3)
  have HB4 := Lib.hid (HB3.out.trans (hb4.mono hz3))
  have HO4 := Lib.hid hO4
  have hz4 := hb4.size
  clear hO4 hb4 hcb t0
  go_wp2
  go_loopw [8, 9, 10, 11, 39] (fun _ _ _ _ i ws => ∃ j : Nat, j ≤ a.length ∧ i = .int .i64 j ∧ Hid (OwnM ws w3.heap.size G C g c (mmulK a b k j)) ∧ Hid (Below w.heap.size w ws) ∧ Hid (IsTab ws tb) ∧ w3.heap.size ≤ ws.heap.size) (fun _ _ _ _ i _ => a.length - (intOf i).toNat)
  case atStart => exact ⟨0, Nat.zero_le _, rfl, HO4, HB4, HT4, hz4⟩
  case round =>
    obtain ⟨j, hj, rfl, hO, hb, hT, hz⟩ := hrel
    by_cases hlt : j < a.length
    · obtain ⟨b', off', ra', rc', e, hcj0, hSj0⟩ := HA.out.at j hlt
      cases e
      have hcj := cell_later hb.out hcj0
      rw [HRA.out j hlt] at hcj
      have HSJ := Lib.hid hSj0
      have HML := Lib.hid (HRA.out j hlt)
      have HO0 := Lib.hid (set_same (mmulK a b k j) j (List.replicate k 0) [] (by rw [mmulK_len]; exact hlt) (by rw [mmulK_row _ _ _ _ _ hlt, if_neg (by omega)]))
      clear hSj0 hcj0
      go_wp2
      go_loopw [10, 11, 46] (fun _ _ i ws => ∃ n : Nat, n ≤ b.length ∧ i = .int .i64 n ∧ Hid (OwnM ws w3.heap.size G C g c ((mmulK a b k j).set j (mrowK (a.getD j []) b k n))) ∧ Hid (Below w.heap.size w ws) ∧ Hid (IsTab ws tb) ∧ w3.heap.size ≤ ws.heap.size) (fun _ _ i _ => b.length - (intOf i).toNat)
      case atStart => exact ⟨0, Nat.zero_le _, rfl, by rw [mrowK, HO0.out]; exact hO, hb, hT, hz⟩
      case round =>
        clear hO hb hT hz hcj
        obtain ⟨n, hn', rfl, hO, hb, hT, hz⟩ := hrel
        by_cases hlt2 : n < b.length
        · obtain ⟨xb, xoff, e, hx0⟩ := HSJ.out.cell n (by rw [HML.out]; exact hlt2)
          subst e
          have hx := cell_later hb.out hx0
          have hxb := bytes_get _ n HSJ.out.byte
          obtain ⟨b', off', rb, rcb, e, hcn0, hSn0⟩ := HB.out.at n hlt2
          cases e
          have hcn := cell_later hb.out hcn0
          rw [HRB.out n hlt2] at hcn
          have HLB := Lib.hid (HRB.out n hlt2)
          have HSN := Lib.hid (hSn0.below hb.out)
          have hlm : ((mmulK a b k j).set j (mrowK (a.getD j []) b k n)).length = a.length := by rw [List.length_set, mmulK_len]
          have hrw : ((mmulK a b k j).set j (mrowK (a.getD j []) b k n)).getD j [] = mrowK (a.getD j []) b k n := getD_set_eq _ _ _ _ (by rw [mmulK_len]; exact hlt)
          have hcP := hO.out.cell j (by rw [hlm]; exact hlt)
          have hRP := hO.out.row j (by rw [hlm]; exact hlt)
          rw [hrw] at hcP hRP
          rw [mrowK_len] at hcP
          have HRP := Lib.hid hRP
          have hgj := hRP.lt.1
          have HGG := Lib.hid (hO.out.ne j (by rw [hlm]; exact hlt))
          have HLM := Lib.hid hlm
          have HRW := Lib.hid hrw
          have HST : Hid (mrowK (a.getD j []) b k (n + 1) = Mt.addMul (mrowK (a.getD j []) b k n) (b.getD n []) ((a.getD j []).getD n 0)) := rfl
          have HVA : Hid (∀ b' off', rb = some ⟨b', off', none⟩ → b' ≠ g j) := by
            intro b' off' e
            have := SeenAt.block_lt hSn0 (by rw [HLB.out]; exact hk0) b' off' e
            have hz3' := HB3.out.size
            omega
          have hxb2 : b2 ≠ g j := by have := World.block_lt_of_cell? w _ hcn0; have hz3' := HB3.out.size; simp at this; omega
          clear hRP hlm hrw hSn0 hcn0 hx0
          generalize (a.getD j []).getD n 0 = x at *
          have hj0 : (0 : Int) ≤ (j : Int) := by omega
          have hj1 : (j : Int) < (a.length : Int) := by omega
          have hn0 : (0 : Int) ≤ (n : Int) := by omega
          have hn1 : (n : Int) < (b.length : Int) := by omega
          have HCP := Lib.hid hcP
          have HCN := Lib.hid hcn
          go_wp2
          go_region_held3 (fun w' => w'.cell? ⟨G, j, none⟩ = some (.slice (some ⟨g j, 0, none⟩) k (c j)) ∧ w'.cell? ⟨b2, off2 + n, none⟩ = some (.slice rb k rcb))
            (first | go_keep | exact ⟨hC2.cell HCP.out (by simp; exact fun e => HGG.out e.symm), hC2.cell HCN.out (by simp; exact hxb2)⟩)
            ((go_at_call 70; (with_reducible refine (addMul_at _ _ _ w3.heap.size _ _ _ _ (mrowK (a.getD j []) b k n) (b.getD n []) _ _ ?_ ?_ ?_ ?_ ?_ ?_ ?_ ?_ ?_).mono ?_); (exact hT.out.alike rfl); omega; (exact HRP.out.alike rfl); (exact HSN.out.alike rfl); (exact HVA.out); (exact mrowK_len _ _ _ _); (exact HLB.out); omega; (exact hxb); rintro e w5 ⟨rfl, hO2, hC2⟩))
          all_goals go_wp2
          have hCC : Chg [g j] wr w5 := ((Chg.refl _ _).drew).trans hC2
          go_round
          case rel =>
            refine ⟨n + 1, by omega, by go_num, ?_, hCC.below hb.out hb.out.size (by simp; omega), hT.out.chg hCC (by simp; omega), Nat.le_trans hz hCC.size⟩
            rw [HST.out, ← set_set (mmulK a b k j) j (mrowK (a.getD j []) b k n)]
            exact hO.out.setRow j (by rw [HLM.out]; exact hlt) _ hCC hO2 (by rw [Mt.addMul_len, HRW.out])
          case measure => simp [intOf]; omega
        · obtain rfl : n = b.length := by omega
          go_wp2
          go_round
          case rel => exact ⟨j + 1, by omega, by go_num, hO, hb, hT, hz⟩
          case measure => simp [intOf]; omega
    · obtain rfl : j = a.length := by omega
      go_wp2
      go_ret2
      exact ⟨mmulK_len _ _ _ _, _, _, _, _, rfl, by rw [HP.out]; exact hO.out.base (by omega), hb.out⟩

set_option maxRecDepth 100000 in
set_option maxHeartbeats 2000000 in
theorem matMul_no (va vb : Option Addr) (vc vd : Nat) (a b : List (List Nat)) (w : World) (hA : GridAt w va vc a) (hB : GridAt w vb vd b) (h : ¬ (Sd a ∧ Sd b ∧ (a.getD 0 []).length = b.length)) :
    Calls Try.prog 61 #[.slice va a.length vc, .slice vb b.length vd] w fun e w' => e = .returned (.tuple #[.slice none 0 0, .bool false]) ∧ Below w.heap.size w w' := by
  by_cases sa : Sd a
  · have HSA := Lib.hid (fun w => fun h => sound_yes va vc a w h sa)
    have HA := Lib.hid hA
    have HB := Lib.hid hB
    by_cases sb : Sd b
    · have HSB := Lib.hid (fun w => fun h => sound_yes vb vd b w h sb)
      obtain ⟨b1, off1, ra1, rc1, e, hca, _⟩ := hA.at 0 sa.1
      rw [Nat.add_zero] at hca
      subst e
      have ha0 := sa.1
      have HF : Hid ((a.getD 0 []).length ≠ b.length) := fun hf => h ⟨sa, sb, hf⟩
      clear h sa sb hA hB
      generalize (a.getD 0 []).length = l at *
      have t0 : ((l : Int) != (b.length : Int)) = true := by have := HF.out; simp; omega
      have HCA := Lib.hid hca
      clear hca
      go_enter Try.func61, Try.ntmps61
      go_wp2_with fail
      refine (HSA.out _ HA.out).mono ?_
      rintro e w1 ⟨rfl, hb1⟩
      go_wp2_with fail
      refine (HSB.out _ (HB.out.below hb1)).mono ?_
      rintro e w2 ⟨rfl, hb2⟩
      replace hb2 := hb1.trans (hb2.mono hb1.size)
      clear hb1
      have hca := cell_later hb2 HCA.out
      have ha0' : (0 : Int) < (a.length : Int) := by omega
      go_wp2
      go_ret2
      exact ⟨rfl, hb2⟩
    · have HSB := Lib.hid (fun w => fun h => sound_no vb vd b w h sb)
      clear h sa sb hA hB
      go_enter Try.func61, Try.ntmps61
      go_wp2_with fail
      refine (HSA.out _ HA.out).mono ?_
      rintro e w1 ⟨rfl, hb1⟩
      go_wp2_with fail
      refine (HSB.out _ (HB.out.below hb1)).mono ?_
      rintro e w2 ⟨rfl, hb2⟩
      replace hb2 := hb1.trans (hb2.mono hb1.size)
      clear hb1
      go_wp2
      go_ret2
      exact ⟨rfl, hb2⟩
  · have HSA := Lib.hid (fun w => fun h => sound_no va vc a w h sa)
    have HA := Lib.hid hA
    clear h sa hA hB
    go_enter Try.func61, Try.ntmps61
    go_wp2_with fail
    refine (HSA.out _ HA.out).mono ?_
    rintro e w1 ⟨rfl, hb1⟩
    go_wp2
    go_ret2
    exact ⟨rfl, hb1⟩

end Go.Proofs.Ytjefjlalebpodaa

namespace Go.Proofs.Ytjefjlalebpodaa
open Go.RowKit

theorem cell_new' (w : World) (v : Value) (t : TypeId) (n : Nat) (h : w.heap.size = n) : (w.alloc (.cells #[v] t)).cell? ⟨n, 0, none⟩ = some v := by
  subst h; exact cell_new w v t

/-- out = append(out, row), the row of the call's own and younger than out. -/
theorem OwnM.pushed {wr w5 w6 : World} {base G C G' C' x y : Nat} {g c : Nat → Nat} {m : List (List Nat)} {r : List Nat} (h : OwnM wr base G C g c m) (hb5 : Below wr.heap.size wr w5) (hr : OwnB w5 base x y r) (hx : wr.heap.size ≤ x) (o : Obj)
    (hC : Chg [G] (w5.alloc o) w6)
    (ho : w6.ownsRow base 22 1 (.slice (some ⟨G', 0, none⟩) (m.length + 1) C') (m.length + 1) (rvals g c m ++ [.slice (some ⟨x, 0, none⟩) r.length y])) :
    OwnM w6 base G' C' (snoc m.length x g) (snoc m.length y c) (m ++ [r]) ∧ Chg [G] wr w6 := by
  have hG := h.lt.2
  have hCC : Chg [G] wr w6 := ((Chg.of_below hb5).alloc o).trans hC
  refine ⟨h.push hCC x y r ?_ (fun i hi => ?_) ho, hCC⟩
  · exact (hr.chg (gs := []) ((Chg.refl _ _).alloc o) (by simp)).chg hC (by simp; omega)
  · have := (h.row i hi).lt.2
    omega

/-- The first i rows of the identity matrix with n columns. -/
def roneK (n i : Nat) : List (List Nat) := (List.range i).map fun j => (List.replicate n 0).set j 1
theorem roneK_len (n i : Nat) : (roneK n i).length = i := by simp [roneK]
theorem roneK_succ (n i : Nat) : roneK n (i + 1) = roneK n i ++ [(List.replicate n 0).set i 1] := by simp [roneK, List.range_succ]

/-- append(s, x...), the lengths by names of their own. -/
theorem wpList_appN {ops : Array Oper} {rest : List Oper} {o : Oper} {a : Act} {Q : Exit → Act → World → Prop} {w : World} (hgd : o.guard = none) (s x : Operand)
    (ho : o.op = .call { callee := .builtin .append, args := #[s, x], argTypes := #[22, 22] })
    (base g cap : Nat) (ps qs : List Nat) (n q : Nat) (hn : ps.length = n) (hqn : qs.length = q) (hs : a.eval s = .slice (some ⟨g, 0, none⟩) n cap) (hown : OwnB w base g cap ps)
    (xa : Option Addr) (xc : Nat) (hx : a.eval x = .slice xa q xc) (hq : SeenAt w xa xc qs) (hb : n + q ≤ 1000000000) (hbase : base ≤ w.heap.size)
    (h : ∀ g' cap' w', OwnB w' base g' cap' (ps ++ qs) → Chg [g] w w' → (g' = g ∨ w.heap.size ≤ g') → wpList Try.prog ops Q rest (a.put o.dst (.slice (some ⟨g', 0, none⟩) (n + q) cap')) w') :
    wpList Try.prog ops Q (o :: rest) a w := by
  subst hn hqn
  refine wpList_appB hgd s x ho base g cap ps qs hs hown xa xc hx hq hb hbase fun g' cap' w' h1 h2 h3 => ?_
  rw [List.length_append]
  exact h g' cap' w' h1 h2 h3

theorem seen_one (w : World) (c n : Nat) (hc : c < 256) (h : w.heap.size = n) : SeenAt (w.alloc (.cells #[.int .u8 (c : Int)] 5)) (some ⟨n, 0, none⟩) 1 [c] :=
  ⟨by simp, by unfold maxLen; omega, by intro x hx; simp at hx; omega, fun i hi => ⟨n, 0, rfl, by
    have : i = 0 := by simpa using hi
    subst this
    exact cell_new' w _ _ n h⟩⟩

/-- The powers of x from 0 on. -/
def pows (x n : Nat) : List Nat := (List.range n).map (Gf.ipow x)
theorem pows_len (x n : Nat) : (pows x n).length = n := by simp [pows]
theorem pows_succ (x n : Nat) : pows x (n + 1) = pows x n ++ [Gf.ipow x n] := by simp [pows, List.range_succ]

/-- The first i rows of powers. -/
def vanK (k i : Nat) : List (List Nat) := (List.range i).map fun j => pows j k
theorem vanK_len (k i : Nat) : (vanK k i).length = i := by simp [vanK]
theorem vanK_succ (k i : Nat) : vanK k (i + 1) = vanK k i ++ [pows i k] := by simp [vanK, List.range_succ]

theorem bytes_one (c : Nat) (h : c < 256) : Gf.Bytes [c] := by intro x hx; simp at hx; omega

end Go.Proofs.Ytjefjlalebpodaa

namespace Go.Proofs.Ytjefjlalebpodaa
open Go.RowKit

/-- A row of powers, the first q laid. -/
def vrK (x k : Nat) : Nat → List Nat
  | 0 => List.replicate k 0
  | q + 1 => (vrK x k q).set q (Gf.ipow x q)

theorem vrK_len (x k q : Nat) : (vrK x k q).length = k := by
  induction q with
  | zero => simp [vrK]
  | succ q ih => simp [vrK, ih]

theorem vrK_get (x k q j : Nat) (hj : j < k) : (vrK x k q).getD j 0 = if j < q then Gf.ipow x j else 0 := by
  induction q with
  | zero => show (List.replicate k 0).getD j 0 = _; rw [getD_rep _ _ _ _ hj, if_neg (by omega)]
  | succ q ih =>
    by_cases e : j = q
    · subst e; rw [vrK, getD_set_eq _ _ _ _ (by rw [vrK_len]; exact hj), if_pos (by omega)]
    · rw [vrK, getD_set_ne _ _ _ _ _ e, ih]
      by_cases h : j < q
      · rw [if_pos h, if_pos (by omega)]
      · rw [if_neg h, if_neg (by omega)]

theorem pows_get (x k j : Nat) (hj : j < k) : (pows x k).getD j 0 = Gf.ipow x j := by
  simp [pows, hj]

theorem vrK_all (x k : Nat) : vrK x k k = pows x k := by
  refine getD_congr _ _ 0 (by rw [vrK_len, pows_len]) fun i hi => ?_
  rw [vrK_len] at hi
  rw [vrK_get _ _ _ _ hi, if_pos hi, pows_get _ _ _ hi]

/-- Rows of powers, the first i done. -/
def vmK (n k : Nat) : Nat → List (List Nat)
  | 0 => List.replicate n (List.replicate k 0)
  | i + 1 => (vmK n k i).set i (pows i k)

theorem vmK_len (n k i : Nat) : (vmK n k i).length = n := by
  induction i with
  | zero => simp [vmK]
  | succ i ih => simp [vmK, ih]

theorem vmK_row (n k i j : Nat) (hj : j < n) : (vmK n k i).getD j [] = if j < i then pows j k else List.replicate k 0 := by
  induction i with
  | zero => show (List.replicate n (List.replicate k 0)).getD j [] = _; rw [getD_rep _ _ _ _ hj, if_neg (by omega)]
  | succ i ih =>
    by_cases e : j = i
    · subst e; rw [vmK, getD_set_eq _ _ _ _ (by rw [vmK_len]; exact hj), if_pos (by omega)]
    · rw [vmK, getD_set_ne _ _ _ _ _ e, ih]
      by_cases h : j < i
      · rw [if_pos h, if_pos (by omega)]
      · rw [if_neg h, if_neg (by omega)]

theorem vanK_row (k n j : Nat) (hj : j < n) : (vanK k n).getD j [] = pows j k := by simp [vanK, hj]

theorem vmK_all (n k : Nat) : vmK n k n = vanK k n := by
  refine getD_congr _ _ [] (by rw [vmK_len, vanK_len]) fun i hi => ?_
  rw [vmK_len] at hi
  rw [vmK_row _ _ _ _ hi, if_pos hi, vanK_row _ _ _ hi]

set_option maxRecDepth 100000 in
set_option maxHeartbeats 1000000 in
theorem vander_any (n k : Nat) (w : World) (hn : n ≤ 256) (hk : k ≤ 256) (hn1 : 1 ≤ n) (hk1 : 1 ≤ k) :
    Calls Try.prog 62 #[.int .i64 (n : Int), .int .i64 (k : Int)] w (RetM w n (vanK k n)) := by
  have hr := inRange_any n
  have hd : decide (1 ≤ (n : Int) ∧ (n : Int) ≤ 256) = true := by simp; omega
  rw [hd] at hr
  have HR := Lib.hid hr
  clear hr hd
  have hr := inRange_any k
  have hd : decide (1 ≤ (k : Int) ∧ (k : Int) ≤ 256) = true := by simp; omega
  rw [hd] at hr
  have HR2 := Lib.hid hr
  clear hr hd
  go_enter Try.func62, Try.ntmps62
  go_wp2_with fail
  refine (HR.out _).mono ?_
  rintro e w' ⟨rfl, rfl⟩
  go_wp2_with fail
  refine (HR2.out _).mono ?_
  rintro e w' ⟨rfl, rfl⟩
  go_wp2_with fail
  refine (made_ex _).mono ?_
  rintro e w3 ⟨rfl, cs, hcs, rfl⟩
  have ht := hcs.isTab w 108
  have hb3 := below_one w (.cells cs 108)
  have hs3 : w.heap.size < (w.alloc (.cells cs 108)).heap.size := by simp
  clear hcs
  generalize w.alloc (.cells cs 108) = w3 at *
  have HT3 := Lib.hid ht
  have HB3 := Lib.hid hb3
  clear ht hb3
  go_wp2_with fail
  refine (zeros_any n k _ (by omega) (by omega)).mono ?_
  rintro e w4 ⟨_, G, C, g, c, rfl, hO4, hb4⟩
  have hz3 := HB3.out.size
  have HT4 := Lib.hid (HT3.out.below hb4 hs3)
  have HB4 := Lib.hid (HB3.out.trans (hb4.mono hz3))
  have HO4 := Lib.hid hO4
  have hz4 := hb4.size
  clear hO4 hb4
  go_wp2
  go_loopw [7, 8, 9, 10, 25] (fun _ _ _ _ i ws => ∃ j : Nat, j ≤ n ∧ i = .int .i64 j ∧ Hid (OwnM ws w3.heap.size G C g c (vmK n k j)) ∧ Hid (Below w.heap.size w ws) ∧ Hid (IsTab ws w.heap.size) ∧ w3.heap.size ≤ ws.heap.size) (fun _ _ _ _ i _ => n - (intOf i).toNat)
  case atStart => exact ⟨0, Nat.zero_le _, rfl, HO4, HB4, HT4, hz4⟩
  case round =>
    obtain ⟨j, hj, rfl, hO, hb, hT, hz⟩ := hrel
    by_cases hlt : j < n
    · have hrl : ((vmK n k j).getD j []).length = k := by rw [vmK_row _ _ _ _ hlt, if_neg (by omega)]; simp
      have hcP := hO.out.cell j (by rw [vmK_len]; exact hlt)
      rw [hrl] at hcP
      have HO0 := Lib.hid (set_same (vmK n k j) j (vrK j k 0) [] (by rw [vmK_len]; exact hlt) (by rw [vmK_row _ _ _ _ hlt, if_neg (by omega)]; rfl))
      clear hrl
      go_wp2
      go_loopw [9, 10, 32] (fun p _ i ws => ∃ q : Nat, q ≤ k ∧ i = .int .i64 q ∧ p = .int .u8 ((Gf.ipow j q : Nat) : Int) ∧ Hid (OwnM ws w3.heap.size G C g c ((vmK n k j).set j (vrK j k q))) ∧ Hid (Below w.heap.size w ws) ∧ Hid (IsTab ws w.heap.size) ∧ w3.heap.size ≤ ws.heap.size) (fun _ _ i _ => k - (intOf i).toNat)
      case atStart => exact ⟨0, Nat.zero_le _, rfl, rfl, by rw [HO0.out]; exact hO, hb, hT, hz⟩
      case round =>
        clear hO hb hT hz hcP
        obtain ⟨q, hq, rfl, rfl, hO, hb, hT, hz⟩ := hrel
        by_cases hlq : q < k
        · have hlm : ((vmK n k j).set j (vrK j k q)).length = n := by rw [List.length_set, vmK_len]
          have hrw : ((vmK n k j).set j (vrK j k q)).getD j [] = vrK j k q := getD_set_eq _ _ _ _ (by rw [vmK_len]; exact hlt)
          have hRP := hO.out.row j (by rw [hlm]; exact hlt)
          rw [hrw] at hRP
          have hgj := hRP.lt.1
          have hcq := hRP.cell q (by rw [vrK_len]; exact hlq)
          have hfq := hRP.frozen q
          have hip := Gf.ipow_lt j q
          have HST := Lib.hid (hRP.stored q (Gf.ipow j q) hip)
          have HI : Hid (Gf.ipow j (q + 1) = Gf.gm (Gf.ipow j q) j) := rfl
          have HV : Hid (vrK j k (q + 1) = (vrK j k q).set q (Gf.ipow j q)) := rfl
          have HLM := Lib.hid hlm
          have HRW := Lib.hid hrw
          have HTT : Hid (∀ v, IsTab (wr.setCell ⟨g j, q, none⟩ v) w.heap.size) := fun v => hT.out.chg (gs := [g j]) (Chg.of_grown (World.ownsRow.stored hRP.own q v).2) (by simp; omega)
          clear hRP hlm hrw
          generalize (vrK j k q).getD q 0 = old at *
          generalize Gf.ipow j q = x at *
          go_wp2_with ((go_at_call 72; (with_reducible refine (tmul_any _ _ _ _ ?_ ?_ ?_).mono ?_); (exact HTT.out _); omega; omega; rintro e w' ⟨rfl, n5, rfl⟩))
          have hCC := HST.out.2.drewN n5
          go_round
          case rel =>
            refine ⟨q + 1, by omega, by go_num, by rw [HI.out], ?_, hCC.below hb.out hb.out.size (by simp; omega), hT.out.chg hCC (by simp; omega), Nat.le_trans hz hCC.size⟩
            rw [HV.out, ← set_set (vmK n k j) j (vrK j k q)]
            exact hO.out.setRow j (by rw [HLM.out]; exact hlt) _ hCC (HST.out.1.drewN n5) (by rw [List.length_set, HRW.out])
          case measure => simp [intOf]; omega
        · obtain rfl : q = k := by omega
          have HE := Lib.hid (vrK_all j q)
          have HV : Hid (vmK n q (j + 1) = (vmK n q j).set j (pows j q)) := rfl
          rw [HE.out, ← HV.out] at hO
          go_wp2
          go_round
          case rel => exact ⟨j + 1, by omega, by go_num, hO, hb, hT, hz⟩
          case measure => simp [intOf]; omega
    · obtain rfl : j = n := by omega
      have HE := Lib.hid (vmK_all j k)
      rw [HE.out] at hO
      go_wp2
      go_ret
      exact ⟨vanK_len _ _, _, _, _, _, rfl, hO.out.base (by omega), hb.out⟩

theorem vander_none (n k : Int) (w : World) (h : ¬ (1 ≤ n ∧ n ≤ 256 ∧ 1 ≤ k ∧ k ≤ 256)) :
    Calls Try.prog 62 #[.int .i64 n, .int .i64 k] w fun e w' => e = .returned (.slice none 0 0) ∧ w = w' := by
  by_cases h1 : 1 ≤ n ∧ n ≤ 256
  · have hr := inRange_any n
    have hd : decide (1 ≤ n ∧ n ≤ 256) = true := by simp; omega
    rw [hd] at hr
    have HR := Lib.hid hr
    clear hr hd
    have hr := inRange_any k
    have hd : decide (1 ≤ k ∧ k ≤ 256) = false := by simp; omega
    rw [hd] at hr
    have HR2 := Lib.hid hr
    clear hr hd h h1
    go_enter Try.func62, Try.ntmps62
    go_wp2_with fail
    refine (HR.out _).mono ?_
    rintro e w' ⟨rfl, rfl⟩
    go_wp2_with fail
    refine (HR2.out _).mono ?_
    rintro e w' ⟨rfl, rfl⟩
    go_wp2
    go_ret
    exact ⟨rfl, rfl⟩
  · have hr := inRange_any n
    have hd : decide (1 ≤ n ∧ n ≤ 256) = false := by simp; omega
    rw [hd] at hr
    have HR := Lib.hid hr
    clear hr hd h h1
    go_enter Try.func62, Try.ntmps62
    go_wp2_with fail
    refine (HR.out _).mono ?_
    rintro e w' ⟨rfl, rfl⟩
    go_wp2
    go_ret
    exact ⟨rfl, rfl⟩

/-- An element. -/
def ent (m : List (List Nat)) (i j : Nat) : Nat := (m.getD i []).getD j 0

/-- An element of the product, its first n terms done. -/
def pent (a b : List (List Nat)) (i k : Nat) : Nat → Nat
  | 0 => 0
  | n + 1 => pent a b i k n ^^^ Gf.gm (ent a i n) (ent b n k)

/-- A row of the product, its first q elements done. -/
def prow (a b : List (List Nat)) (i K : Nat) : Nat → List Nat
  | 0 => List.replicate K 0
  | q + 1 => (prow a b i K q).set q (pent a b i q b.length)

theorem prow_len (a b : List (List Nat)) (i K q : Nat) : (prow a b i K q).length = K := by
  induction q with
  | zero => simp [prow]
  | succ q ih => simp [prow, ih]

/-- The first i rows of the product. -/
def prK (a b : List (List Nat)) (K i : Nat) : List (List Nat) := (List.range i).map fun j => prow a b j K K
theorem prK_len (a b : List (List Nat)) (K i : Nat) : (prK a b K i).length = i := by simp [prK]
theorem prK_succ (a b : List (List Nat)) (K i : Nat) : prK a b K (i + 1) = prK a b K i ++ [prow a b i K K] := by simp [prK, List.range_succ]

theorem GridAt.ent_lt {w : World} {a : Option Addr} {cap : Nat} {m : List (List Nat)} (h : GridAt w a cap m) (i j : Nat) : ent m i j < 256 := by
  unfold ent
  by_cases hi : i < m.length
  · obtain ⟨_, _, _, _, _, _, hs⟩ := h.at i hi
    exact bytes_get _ _ hs.byte
  · rw [show m.getD i [] = [] by rw [List.getD_eq_getElem?_getD, List.getElem?_eq_none (by omega)]; rfl]
    simp

theorem pent_lt {w : World} {a : Option Addr} {cap : Nat} {m m' : List (List Nat)} (h : GridAt w a cap m) (i k n : Nat) : pent m m' i k n < 256 := by
  induction n with
  | zero => simp [pent]
  | succ n ih => exact Gf.x_lt _ _ ih (Gf.gm_lt _ _ (h.ent_lt i n))

end Go.Proofs.Ytjefjlalebpodaa
