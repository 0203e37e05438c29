/-
  net: New, Len, place, link, linked, isCut, add.
-/
import Derived.Test.YtggjpjpemgpeeaaNtM
import Derived.Test.YtggjpjpemgpeeaaWalksH1
import Derived.Laws.Cover2
import Derived.Laws.Cover3
namespace Go.Proofs.Ytggjpjpemgpeeaa
open Go.RowKit

theorem nt_new (w : World) : Nt (w.alloc (.cells #[.slice none 0 0, .map none] 99)) w.heap.size w.heap.size [w.heap.size] [] [] :=
  ⟨none, none, ⟨⟨0, [], by simp, rws_nil _ _, rfl, by simp⟩, by simp, rfl, fun k => by simp, by simp, by simp, by simp, by simp [blk], by simp, by simp [blk], by simp, by simp [blk], by simp, fun g hg => by
    simp at hg
    subst hg
    simp⟩⟩

theorem ntNew_any (w : World) : Calls Try.prog 20 #[] w fun e w' => ∃ R N, e = .returned (.pointer (some ⟨R, 0, none⟩)) ∧ Nt w' w.heap.size R N [] [] ∧ Below w.heap.size w w' := by
  have HF := Lib.hid (nt_new w)
  have HB := Lib.hid (below_one w (.cells #[.slice none 0 0, .map none] 99))
  go_enter Try.func20, Try.ntmps20
  go_wp2
  go_ret
  exact ⟨_, _, rfl, HF.out, HB.out⟩

theorem ntLen_nil (w : World) : Calls Try.prog 23 #[.pointer none] w fun e w' => e = .returned (.int .i64 0) ∧ w = w' := by
  go_enter Try.func23, Try.ntmps23
  go_wp2
  go_ret
  exact ⟨rfl, rfl⟩

section
variable {w : World} {base R : Nat} {ga : Option Addr} {o : Option Nat} {N : List Nat} {ms : List Pm} {ks : List (Int × Int)}

theorem NtA.count (h : NtA w base R ga o N ms ks) : ∃ cap xs, w.cell? ⟨R, 0, none⟩ = some (.slice ga ms.length cap) ∧ Rws w base ga cap xs ∧ xs.map Rw.ps = ms.map encMg ∧ (∀ x ∈ xs, ∀ g ∈ blk x.loc, g ∈ N ∧ g ≠ R ∧ o ≠ some g) ∧ xs.length = ms.length := by
  obtain ⟨cap, xs, h1, h2, h3, h4⟩ := h.rows
  have e : xs.length = ms.length := by simpa using congrArg List.length h3
  exact ⟨cap, xs, by rw [← e]; exact h1, h2, h3, h4, e⟩

theorem ntLen_any (h : NtA w base R ga o N ms ks) (n : Nat) (hn : ms.length = n) : Calls Try.prog 23 #[.pointer (some ⟨R, 0, none⟩)] w fun e w' => e = .returned (.int .i64 (n : Int)) ∧ w = w' := by
  obtain ⟨cap, xs, hc, _⟩ := h.count
  rw [hn] at hc
  clear h
  go_enter Try.func23, Try.ntmps23
  go_wp2
  go_ret
  exact ⟨rfl, rfl⟩

end

/-- The place that i stands for among n. -/
def posI (i : Int) (n : Nat) : Nat := (i % (n : Int)).toNat

theorem posI_lt (i : Int) (n : Nat) (h : 0 < n) : posI i n < n := by
  unfold posI
  have h1 := Int.emod_nonneg i (b := (n : Int)) (by omega)
  have h2 := Int.emod_lt_of_pos i (b := (n : Int)) (by omega)
  omega

theorem tmod_low (i : Int) (n : Nat) (h : 0 < n) : -(n : Int) < i.tmod n := by
  have := Int.tmod_lt_of_pos (-i) (b := (n : Int)) (by omega)
  rw [Int.neg_tmod] at this
  omega

theorem posI_tmod (i : Int) (n : Nat) (h : 0 < n) : (i.tmod (n : Int) + (n : Int)).tmod (n : Int) = (posI i n : Nat) := by
  have h1 := Int.emod_nonneg i (b := (n : Int)) (by omega)
  have h3 := Int.emod_lt_of_pos i (b := (n : Int)) (by omega)
  have h2 := tmod_low i n h
  have h4 : (i.tmod (n : Int) + (n : Int)) % (n : Int) = i % (n : Int) := by
    have := Int.tmod_eq_emod (a := i) (b := (n : Int))
    rw [this]
    split
    · rw [show i % (n : Int) - ((0 : Nat) : Int) + (n : Int) = i % (n : Int) + (n : Int) by omega, Int.add_emod_right, Int.emod_emod]
    · rw [show i % (n : Int) - ((n : Int).natAbs : Int) + (n : Int) = i % (n : Int) by omega, Int.emod_emod]
  rw [Int.tmod_eq_emod_of_nonneg (by omega), h4]
  unfold posI
  omega

theorem plc_nil (i : Int) (w : World) : Calls Try.prog 68 #[.pointer none, .int .i64 i] w fun e w' => e = .returned (.tuple #[.int .i64 0, .bool false]) ∧ w = w' := by
  go_enter Try.func68, Try.ntmps68
  go_wp2_with fail
  refine (ntLen_nil _).mono ?_
  rintro e w' ⟨rfl, rfl⟩
  go_wp2
  go_ret2
  exact ⟨rfl, rfl⟩

theorem plc_no {w : World} {base R : Nat} {ga : Option Addr} {o : Option Nat} {N : List Nat} {ks : List (Int × Int)} (h : NtA w base R ga o N [] ks) (i : Int) : Calls Try.prog 68 #[.pointer (some ⟨R, 0, none⟩), .int .i64 i] w fun e w' => e = .returned (.tuple #[.int .i64 0, .bool false]) ∧ w = w' := by
  have H := Lib.hid h
  clear h
  go_enter Try.func68, Try.ntmps68
  go_wp2_with fail
  refine (ntLen_any H.out 0 rfl).mono ?_
  rintro e w' ⟨rfl, rfl⟩
  go_wp2
  go_ret2
  exact ⟨rfl, rfl⟩

theorem plc_any {w : World} {base R : Nat} {ga : Option Addr} {o : Option Nat} {N : List Nat} {ms : List Pm} {ks : List (Int × Int)} (h : NtA w base R ga o N ms ks) (n : Nat) (hn : ms.length = n) (h0 : 0 < n) (i : Int) (p : Nat) (hp : posI i n = p) :
    Calls Try.prog 68 #[.pointer (some ⟨R, 0, none⟩), .int .i64 i] w fun e w' => e = .returned (.tuple #[.int .i64 (p : Int), .bool true]) ∧ w = w' := by
  have H := Lib.hid h
  have HN := Lib.hid hn
  have hm : n ≤ 1024 := by have := h.most; omega
  clear h hn
  have e1 := posI_tmod i n h0
  rw [hp] at e1
  have hb1 : -(n : Int) < i.tmod n := tmod_low i n h0
  have hb2 : i.tmod n < (n : Int) := Int.tmod_lt_of_pos i (by omega)
  obtain ⟨z, hz⟩ : ∃ z, i.tmod (n : Int) = z := ⟨_, rfl⟩
  rw [hz] at e1 hb1 hb2
  clear hp
  go_enter Try.func68, Try.ntmps68
  go_wp2_with fail
  refine (ntLen_any H.out n HN.out).mono ?_
  rintro e w' ⟨rfl, rfl⟩
  go_wp2
  go_ret2
  exact ⟨rfl, rfl⟩

/-- The pair of a link. -/
def lkP (a b : Int) : Int × Int := (min a b, max a b)

theorem link_any (a b : Int) (w : World) : Calls Try.prog 71 #[.int .i64 a, .int .i64 b] w fun e w' => e = .returned (lkV (lkP a b)) ∧ w = w' := by
  by_cases h : b < a
  · have e : lkP a b = (b, a) := by unfold lkP; rw [Int.min_eq_right (by omega), Int.max_eq_left (by omega)]
    have h' : ¬ a < b := by omega
    rw [e]
    clear e
    go_enter Try.func71, Try.ntmps71
    go_wp2
    go_ret
    exact ⟨rfl, rfl⟩
  · by_cases h2 : a < b
    · have e : lkP a b = (a, b) := by unfold lkP; rw [Int.min_eq_left (by omega), Int.max_eq_right (by omega)]
      rw [e]
      clear e
      go_enter Try.func71, Try.ntmps71
      go_wp2
      go_ret
      exact ⟨rfl, rfl⟩
    · obtain rfl : a = b := by omega
      have e : lkP a a = (a, a) := by unfold lkP; rw [Int.min_self, Int.max_self]
      rw [e]
      clear e
      go_enter Try.func71, Try.ntmps71
      go_wp2
      go_ret
      exact ⟨rfl, rfl⟩

/-- May there be a link between a and b? -/
def lkd (a b : Int) : Bool := decide (a ≠ b) && win2 a (-5) 15 && win2 b (-5) 15

theorem linked_any (a b : Int) (w : World) : Calls Try.prog 72 #[.int .i64 a, .int .i64 b] w fun e w' => e = .returned (.bool (lkd a b)) ∧ w = w' := by
  have HL : Hid (lkd a b = (decide (a ≠ b) && win2 a (-5) 15 && win2 b (-5) 15)) := rfl
  generalize lkd a b = L at *
  by_cases h : a = b
  · subst h
    obtain rfl : L = false := by rw [HL.out]; simp
    go_enter Try.func72, Try.ntmps72
    go_wp2
    go_ret
    exact ⟨rfl, rfl⟩
  · have hd : decide (a ≠ b) = true := by simpa using h
    rw [hd] at HL
    clear hd
    have hd1 : (a != b) = true := by simpa using h
    go_enter Try.func72, Try.ntmps72
    go_wp2_with fail
    refine (party_any a _).mono ?_
    rintro e w' ⟨rfl, rfl⟩
    cases hx : win2 a (-5) 15
    · obtain rfl : L = false := by rw [HL.out, hx]; simp
      go_wp2
      go_ret
      exact ⟨rfl, rfl⟩
    · obtain rfl : L = win2 b (-5) 15 := by rw [HL.out, hx]; simp
      clear hx HL
      go_wp2_with fail
      refine (party_any b _).mono ?_
      rintro e w' ⟨rfl, rfl⟩
      go_wp2
      go_ret
      exact ⟨rfl, rfl⟩

/-- _, ok := n.cut[k]. -/
theorem wpList_lookC {ops : Array Oper} {rest : List Oper} {o : Oper} {a : Act} {Q : Exit → Act → World → Prop} {w : World} (hgd : o.guard = none) (m x : Operand)
    (ho : o.op = Op.lookup 97 m x true) (ob : Option Nat) (ks : List (Int × Int)) (hm : a.eval m = .map ob) (hown : SetN w ob ks) (p : Int × Int) (hp : BigP p) (hx : a.eval x = lkV p)
    (h : wpList Try.prog ops Q rest (a.put o.dst (.tuple #[.agg #[], .bool (decide (p ∈ ks))])) w) : wpList Try.prog ops Q (o :: rest) a w := by
  have hrun := run_lookC (P := Try.prog) Try.underlying97 Try.underlying105 (w := w) (by kernel_rfl) ob ks hown p hp
  refine wpList_plain hgd fun K hK => ?_
  unfold Oper.wp
  simp [execOp, ho, hm, hx, hrun, Result.andThen]
  exact hK _ _ h

theorem isCut_any {w : World} {base R : Nat} {ga : Option Addr} {o : Option Nat} {N : List Nat} {ms : List Pm} {ks : List (Int × Int)} (h : NtA w base R ga o N ms ks) (p : Int × Int) (hp : BigP p) :
    Calls Try.prog 70 #[.pointer (some ⟨R, 0, none⟩), lkV p] w fun e w' => e = .returned (.bool (decide (p ∈ ks))) ∧ Below w.heap.size w w' := by
  have hc := h.c1
  have HS := Lib.hid h.links
  have HP := Lib.hid hp
  have HB := Lib.hid (fun (x : World) => below_one x (.cells #[] 107))
  clear h hp
  have e0 : ∃ v, v = lkV p := ⟨_, rfl⟩
  obtain ⟨v, hv⟩ := e0
  have HV := Lib.hid hv
  rw [← hv]
  clear hv
  go_enter Try.func70, Try.ntmps70
  go_wp2_with (refine wpList_lookC rfl _ _ rfl _ _ rfl HS.out p HP.out HV.out ?_)
  go_ret
  exact ⟨rfl, HB.out _⟩

end Go.Proofs.Ytggjpjpemgpeeaa
