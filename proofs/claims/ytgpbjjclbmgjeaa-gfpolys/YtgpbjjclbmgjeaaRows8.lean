/-
  Slices of bytes as lists of plain numbers: those that are only read ('Seen'), those that the call itself has made ('OwnB'), and what an append does.
-/
import Derived.Test.YtgpbjjclbmgjeaaLaws3
import Derived.Laws.AppendOwnNone
import Derived.Deep.AppendLies
namespace Go.Proofs.Ytgpbjjclbmgjeaa
open Go.RowKit

/-- The bytes as the cells hold them. -/
def vals (ps : List Nat) : List Value := ps.map fun (c : Nat) => .int .u8 (c : Int)

theorem vals_len (ps : List Nat) : (vals ps).length = ps.length := by simp [vals]
theorem vals_get (ps : List Nat) (i : Nat) : (vals ps)[i]? = ps[i]?.map fun (c : Nat) => .int .u8 (c : Int) := by simp [vals]
theorem vals_at (ps : List Nat) (i : Nat) (h : i < ps.length) : (vals ps)[i]? = some (.int .u8 ((ps.getD i 0 : Nat) : Int)) := by
  rw [vals_get, List.getD_eq_getElem?_getD, List.getElem?_eq_getElem h]; rfl
theorem vals_app (ps qs : List Nat) : vals (ps ++ qs) = vals ps ++ vals qs := by simp [vals]
theorem vals_one (ps : List Nat) : ∀ u ∈ vals ps, u.oneCell' = true := by
  intro u hu
  obtain ⟨c, _, rfl⟩ := List.mem_map.mp hu
  rfl

/-- A slice of bytes that reads as ps. -/
def Seen (w : World) (v : Value) (ps : List Nat) : Prop :=
  (ps = [] ∧ v = .slice none 0 0) ∨ ∃ ad cap, v = .slice (some ad) ps.length cap ∧ ∀ i, i < ps.length → w.cell? (ad.add i) = some (.int .u8 ((ps.getD i 0 : Nat) : Int))

theorem Seen.below {w w' : World} {v : Value} {ps : List Nat} (h : Seen w v ps) (hb : Below w.heap.size w w') : Seen w' v ps := by
  rcases h with h | ⟨ad, cap, hv, hc⟩
  · exact .inl h
  · exact .inr ⟨ad, cap, hv, fun i hi => cell_later hb (hc i hi)⟩

theorem Seen.drewN {w : World} {v : Value} {ps : List Nat} (h : Seen w v ps) (n : Nat) : Seen (w.drewN n) v ps := h.below (below_drewN w n)

/-- What came in, as 'Seen'. -/
theorem seen_of {w : World} {a : Option Addr} {len cap : Nat} {zs : List Int} (h : IsRow .u8 w a len cap zs) :
    ∃ ps : List Nat, ps.length = len ∧ Gf.Bytes ps ∧ Seen w (.slice a len cap) ps := by
  have h' := h
  rcases h with ⟨rfl, rfl, rfl, _⟩ | ⟨x, rfl, hl, hm, hz, hc, hw⟩
  · exact ⟨[], rfl, by intro c hc; simp at hc, .inl ⟨rfl, rfl⟩⟩
  · obtain ⟨ps, hL, hB, hP⟩ := row_of h' len (Nat.le_refl _)
    refine ⟨ps, hL, hB, .inr ⟨x, cap, by rw [hL], fun i hi => ?_⟩⟩
    obtain ⟨b, off, e, hcell⟩ := hP (by omega)
    obtain rfl : x = ⟨b, off, none⟩ := Option.some.inj e
    rw [Go.WideShapes.add_plain]
    exact hcell i (by omega)

/-- gf.Eval at whatever slice of bytes. -/
theorem eval_seen {w : World} {v : Value} {ps : List Nat} (x : Nat) (h : Seen w v ps) (hB : Gf.Bytes ps) (hm : ps.length ≤ maxLen) (hx : x < 256) :
    Calls Try.prog 22 #[v, .int .u8 (x : Int)] w fun e w' => e = .returned (.int .u8 ((Gf.eval ps x : Nat) : Int)) ∧ ∃ n, w' = w.drewN n := by
  rcases h with ⟨rfl, rfl⟩ | ⟨ad, cap, rfl, hc⟩
  · exact (eval_none none 0 x w).mono fun e w' h => ⟨h.1, 0, h.2.symm⟩
  · by_cases h0 : ps = []
    · subst h0
      exact (eval_none (some ad) cap x w).mono fun e w' h => ⟨h.1, 0, h.2.symm⟩
    · have hp : 0 < ps.length := by cases ps with | nil => exact absurd rfl h0 | cons c p => simp
      obtain ⟨b, off, spot⟩ := ad
      have hspot : spot = none := by simpa [Addr.add] using World.cell?_spot (hc 0 hp)
      subst hspot
      exact eval_row b off ps.length cap x ps w rfl hm hB hx fun i hi => by rw [← Go.WideShapes.add_plain]; exact hc i hi

/-- A slice of bytes in memory of the call's own. -/
def OwnB (w : World) (base g cap : Nat) (ps : List Nat) : Prop :=
  w.ownsRow base 5 1 (.slice (some ⟨g, 0, none⟩) ps.length cap) ps.length (vals ps)

theorem OwnB.seen {w : World} {base g cap : Nat} {ps : List Nat} (h : OwnB w base g cap ps) : Seen w (.slice (some ⟨g, 0, none⟩) ps.length cap) ps :=
  .inr ⟨_, _, rfl, fun i hi => by
    rw [Go.WideShapes.add_plain, Nat.zero_add, World.ownsRow.cellAt h i (by omega)]
    exact vals_at ps i hi⟩

theorem OwnB.lt {w : World} {base g cap : Nat} {ps : List Nat} (h : OwnB w base g cap ps) : base ≤ g ∧ g < w.heap.size := World.ownsRow.lt h g rfl

theorem OwnB.kept {w w' : World} {base g cap : Nat} {ps : List Nat} {row : Option Nat} (h : OwnB w base g cap ps) (hg : w.grownBy w' row) (hne : row ≠ some g) : OwnB w' base g cap ps :=
  World.ownsRow.kept h hg (.inr fun e => hne e.symm)

theorem OwnB.cap_le {w : World} {base g cap : Nat} {ps : List Nat} (h : OwnB w base g cap ps) : ps.length ≤ cap ∧ cap ≤ maxLen := by
  rcases h.2 with ⟨h', _⟩ | ⟨g', cap', cur, h', hb, hg, hnc, hcm, _⟩
  · cases h'
  · cases h'; exact ⟨hnc, hcm⟩

theorem info8 : ∃ i, Try.prog.info? 5 = some i ∧ i.zero = some (.int .u8 0) ∧ i.size = 1 ∧ i.bytes = 1 := ⟨_, rfl, by kernel_rfl, by kernel_rfl, by kernel_rfl⟩

/-- append(s, x...): s of the call's own, x whatever. -/
theorem wpList_appB {ops : Array Oper} {rest : List Oper} {o : Oper} {a : Act} {Q : Exit → Act → World → Prop} {w : World} (hgd : o.guard = none) (s x : Operand)
    (ho : o.op = .call { callee := .builtin .append, args := #[s, x], argTypes := #[34, 34] })
    (base g cap : Nat) (ps qs : List Nat) (hs : a.eval s = .slice (some ⟨g, 0, none⟩) ps.length cap) (hown : OwnB w base g cap ps)
    (xv : Value) (hx : a.eval x = xv) (hq : Seen w xv qs) (hb : ps.length + qs.length ≤ 1000000000) (hbase : base ≤ w.heap.size)
    (h : ∀ g' cap' w', OwnB w' base g' cap' (ps ++ qs) → w.grownBy w' (some g) → wpList Try.prog ops Q rest (a.put o.dst (.slice (some ⟨g', 0, none⟩) (ps ++ qs).length cap')) w') :
    wpList Try.prog ops Q (o :: rest) a w := by
  obtain ⟨i, hi, hz, hsz, hby⟩ := info8
  rcases hq with ⟨rfl, rfl⟩ | ⟨ad, c, rfl, hc⟩
  · refine wpList_append_own_none hgd s x 34 ho base 5 i 1 Try.underlying34 hi _ _ _ hs hown hx ?_
    have := h g cap w (by rw [List.append_nil]; exact hown) ⟨rfl, rfl, rfl, Nat.le_refl _, fun _ _ _ => rfl⟩
    rw [List.append_nil] at this
    exact this
  · refine wpList_append_own w hgd s x 34 ho base 5 i (.int .u8 0) 1 1 Try.underlying34 hi hz hsz hby rfl (by omega) _ _ _ hs hown ad qs.length c (vals qs) hx (by rw [vals_len]; omega)
      (fun j u hj => ?_) (vals_one qs) (by unfold maxLen; omega) (by omega) hbase ?_
    · have hl : j < qs.length := by
        rcases Nat.lt_or_ge j qs.length with hlt | hge
        · exact hlt
        · rw [List.getElem?_eq_none (by rw [vals_len]; exact hge)] at hj; cases hj
      rw [vals_at qs j hl] at hj
      rw [← hj]
      exact hc j hl
    · intro v' w' hown' hg hnil
      rcases hown'.2 with ⟨hv, _⟩ | ⟨g', cap', cur, hv, _⟩
      · exact absurd (hnil.mp hv).1 (by simp)
      · subst hv
        rw [← List.length_append]
        refine h g' cap' w' ?_ hg
        unfold OwnB
        rw [vals_app, List.length_append]
        exact hown'

end Go.Proofs.Ytgpbjjclbmgjeaa
