/-
  What pack's writers do: folded, number, slices.Grow and slices.Concat, Num, Text; bytes.Clone.
-/
import Derived.Test.YtdifnipjmnbojaaStr
import Derived.Test.YtdifnipjmnbojaaPk
import Derived.Lib.AppendZerosOnto
import Derived.Lib.AppendZeros
namespace Go.Proofs.Ytdifnipjmnbojaa
open Go.RowKit

theorem ret_u64 {a b : Int} (h : a = b) : Ending.returned (.int .u64 a) = .returned (.int .u64 b) := by rw [h]

/-- A slice of bytes in memory of the call's own, or none. -/
structure RowB (w : World) (base : Nat) (v : Value) (ps : List Nat) : Prop where
  own : w.ownsRow base 5 1 v ps.length (vals ps)
  byte : Gf.Bytes ps

theorem RowB.none (w : World) (base : Nat) : RowB w base (.slice Option.none 0 0) [] := ⟨World.ownsRow_nil _ _ _ _, bytes_nil⟩

theorem OwnB.row {w : World} {base g cap : Nat} {ps : List Nat} (h : OwnB w base g cap ps) : RowB w base (.slice (some ⟨g, 0, Option.none⟩) ps.length cap) ps := ⟨h.own, h.byte⟩

theorem RowB.below {w w' : World} {base : Nat} {v : Value} {ps : List Nat} (h : RowB w base v ps) (hb : Below w.heap.size w w') : RowB w' base v ps :=
  ⟨(Chg.of_below (gs := []) hb).owns h.own (by simp), h.byte⟩

/-- append(s, x...): s of the call's own, or nil; x not empty. -/
theorem wpList_appR {ops : Array Oper} {rest : List Oper} {o : Oper} {a : Act} {Q : Exit → Act → World → Prop} {w : World} (hgd : o.guard = none) (s x : Operand)
    (ho : o.op = .call { callee := .builtin .append, args := #[s, x], argTypes := #[24, 24] })
    (base : Nat) (v : Value) (ps qs : List Nat) (hs : a.eval s = v) (hown : RowB w base v ps)
    (xa : Option Addr) (xc : Nat) (hx : a.eval x = .slice xa qs.length xc) (hq : SeenAt w xa xc qs) (hpos : 0 < qs.length) (hb : ps.length + qs.length ≤ 1000000000) (hbase : base ≤ w.heap.size)
    (h : ∀ g' cap' w', OwnB w' base g' cap' (ps ++ qs) → (∀ B w0, Below B w0 w → B ≤ base → Below B w0 w') → wpList Try.prog ops Q rest (a.put o.dst (.slice (some ⟨g', 0, none⟩) (ps ++ qs).length cap')) w') :
    wpList Try.prog ops Q (o :: rest) a w := by
  obtain ⟨i, hi, hz, hsz, hby⟩ := info8
  obtain ⟨b, off, rfl, _⟩ := hq.cell 0 hpos
  refine wpList_append_lies w hgd s x 24 ho base 5 i (.int .u8 0) 1 1 Try.underlying24 hi hz hsz hby rfl (by omega) _ _ _ hs hown.own ⟨b, off, none⟩ qs.length xc (vals qs) hx (by rw [vals_len]; omega)
    (fun j u hj => ?_) (vals_one qs) hpos (by unfold maxLen; omega) (by omega) hbase w.heap.size rfl ?_
  · have hl : j < qs.length := by
      rcases Nat.lt_or_ge j qs.length with hlt | hge
      · exact hlt
      · rw [List.getElem?_eq_none (by rw [vals_len]; exact hge)] at hj; cases hj
    rw [vals_at qs j hl] at hj
    rw [← hj, Go.WideShapes.add_plain]
    obtain ⟨b', off', e, hc⟩ := hq.cell j hl
    cases e
    exact hc
  · intro g' cap' w' hown' hg hat hlt
    rw [← List.length_append]
    refine h g' cap' w' ⟨?_, bytes_app hown.byte hq.byte⟩ (fun B w0 hB hBb => hB.grown hg (by omega) fun k hk => ?_)
    · rw [vals_app, List.length_append]
      exact hown'
    · have := World.ownsRow.lt hown.own k hk
      omega

/-- A new address, or none. -/
def Fresh (w w' : World) (a : Option Addr) : Prop := a = none ∨ ∃ b off, a = some ⟨b, off, none⟩ ∧ w.heap.size ≤ b ∧ b < w'.heap.size

/-- Bytes handed back, in new memory (or none). -/
def RetB (w : World) (ps : List Nat) (e : Ending) (w' : World) : Prop :=
  ∃ a cap, e = .returned (.slice a ps.length cap) ∧ SeenAt w' a cap ps ∧ Fresh w w' a ∧ Below w.heap.size w w'

theorem RetB.of {w w' : World} {g cap : Nat} {ps : List Nat} (h : OwnB w' w.heap.size g cap ps) (hb : Below w.heap.size w w') : RetB w ps (.returned (.slice (some ⟨g, 0, none⟩) ps.length cap)) w' :=
  ⟨_, _, rfl, h.seenAt, .inr ⟨g, 0, rfl, h.lt⟩, hb⟩

/-- Bytes handed back, in memory of the call's own. -/
def RetO (w : World) (ps : List Nat) (e : Ending) (w' : World) : Prop :=
  ∃ g cap, e = .returned (.slice (some ⟨g, 0, none⟩) ps.length cap) ∧ OwnB w' w.heap.size g cap ps ∧ Below w.heap.size w w'

theorem RetO.toB {w w' : World} {ps : List Nat} {e : Ending} (h : RetO w ps e w') : RetB w ps e w' := by
  obtain ⟨g, cap, rfl, ho, hb⟩ := h
  exact RetB.of ho hb

theorem RetO.later {w w1 : World} {ps qs : List Nat} {e : Ending} {w' : World} (h : RetO w1 ps e w') (hb : Below w.heap.size w w1) (he : ps = qs) : RetO w qs e w' := by
  subst he
  obtain ⟨g, cap, rfl, ho, hb'⟩ := h
  exact ⟨g, cap, rfl, ho.base hb.size, hb.trans (hb'.mono hb.size)⟩

set_option maxHeartbeats 1000000 in
theorem clone_any (a : Option Addr) (cap l : Nat) (ps : List Nat) (w : World) (hl : ps.length = l) (hm : l ≤ 1000000000) (h : SeenAt w a cap ps) :
    Calls Try.prog 34 #[.slice a l cap] w (RetB w ps) := by
  have q22 : ∀ (w : World) (a : Option Addr) (n c n' c' : Nat), (binOp .eql 24 (.slice a n c) (.slice none n' c')).run Try.prog w = .ok (.bool a.isNone) w := fun w a n c n' c' => Lib.run_eql_slice_nil w _ _ a n c n' c' Try.underlying24
  have HL := Lib.hid hl
  have HS := Lib.hid h
  rcases a with _ | ad
  · have h0 : ps = [] := by
      cases ps with
      | nil => rfl
      | cons c p => obtain ⟨b, off, e, _⟩ := h.cell 0 (by simp); cases e
    subst h0
    obtain rfl : l = 0 := by simpa using hl.symm
    clear hl h HL
    go_enter Try.func34, Try.ntmps34
    go_wp2
    go_ret
    exact ⟨none, 0, rfl, SeenAt.nil (Nat.zero_le _), .inl rfl, Below.refl _ _⟩
  · clear hl h
    go_enter Try.func34, Try.ntmps34
    go_wp2_with (at_builtin; refine wpList_appB rfl (.tmp 5) (.tmp 6) rfl w.heap.size w.heap.size 0 [] ps rfl (ownB_lit w _ [] #[] rfl bytes_nil (Nat.le_refl _) (by simp)) _ _ (by rw [HL.out]; rfl) (HS.out.below (below_one _ _)) (by rw [HL.out]; simp; omega) (by simp) ?_; intro g cap2 w2 own2 chg2 hg2)
    have HR : Hid (RetB w ps (.returned (.slice (some ⟨g, 0, none⟩) ps.length cap2)) w2) := RetB.of own2 (chg2.below (below_one w _) (by simp) (by simp))
    clear own2 chg2 hg2
    go_ret
    exact HR.out

theorem zeros_len (k : Nat) : (Builtin.zeroCells #[Value.int .u8 0] k).size = k := by simp [Builtin.zeroCells]

/-- Bytes to be, in new memory: a slice of none of them. -/
def RetG0 (w : World) (e : Ending) (w' : World) : Prop :=
  ∃ g cap, e = .returned (.slice (some ⟨g, 0, none⟩) 0 cap) ∧ OwnB w' w.heap.size g cap [] ∧ Below w.heap.size w w'

theorem take_flat (m : List (List Nat)) (k : Nat) (h : k < m.length) : (m.take (k + 1)).flatten = (m.take k).flatten ++ m.getD k [] := by
  rw [List.take_succ_eq_append_getElem h, List.flatten_append, List.getD_eq_getElem?_getD, List.getElem?_eq_getElem h]
  simp

theorem flat_le (m : List (List Nat)) (k : Nat) : (m.take k).flatten.length ≤ m.flatten.length := by
  have : m.flatten = (m.take k).flatten ++ (m.drop k).flatten := by rw [← List.flatten_append, List.take_append_drop]
  rw [this, List.length_append]
  omega

theorem fold_chain {u0 k U : Nat} {cs : List Nat} (h : Pk.encN 9 u0 = cs ++ Pk.encN (k + 1) U) (hU : ¬ U < 128) : Pk.encN 9 u0 = (cs ++ [U % 128 + 128]) ++ Pk.encN k (U / 128) := by
  rw [h, Pk.encN_big k U hU, List.append_assoc]
  rfl

theorem seen_byte (w : World) (c : Nat) (hc : c < 256) : SeenAt (w.alloc (.cells #[.int .u8 (c : Int)] 5)) (some ⟨w.heap.size, 0, none⟩) 1 [c] :=
  (ownB_lit w w.heap.size [c] #[.int .u8 (c : Int)] rfl (by intro x hx; simp at hx; omega) (Nat.le_refl _) (by unfold maxLen; simp)).seenAt

theorem SeenAt.lit {w : World} {a : Option Addr} {cap : Nat} {ps : List Nat} (h : SeenAt w a cap ps) (o : Obj) : SeenAt (w.alloc o) a cap ps := h.below (below_one w o)

theorem rows_two {w : World} {a0 a1 : Option Addr} {c0 c1 : Nat} {ps qs : List Nat} (h0 : SeenAt w a0 c0 ps) (h1 : SeenAt w a1 c1 qs) :
    GridAt (w.alloc (.cells #[.slice a0 ps.length c0, .slice a1 qs.length c1] 24)) (some ⟨w.heap.size, 0, none⟩) 2 [ps, qs] where
  le := Nat.le_refl _
  max := by unfold maxLen; omega
  row i hi := by
    match i, hi with
    | 0, _ => exact ⟨_, 0, _, rfl, by rw [World.cell?_alloc_mark]; rfl, _, _, rfl, h0.lit _⟩
    | 1, _ => exact ⟨_, 0, _, rfl, by rw [World.cell?_alloc_mark]; rfl, _, _, rfl, h1.lit _⟩

theorem rows_three {w : World} {a0 a1 a2 : Option Addr} {c0 c1 c2 : Nat} {ps qs rs : List Nat} (h0 : SeenAt w a0 c0 ps) (h1 : SeenAt w a1 c1 qs) (h2 : SeenAt w a2 c2 rs) :
    GridAt (w.alloc (.cells #[.slice a0 ps.length c0, .slice a1 qs.length c1, .slice a2 rs.length c2] 24)) (some ⟨w.heap.size, 0, none⟩) 3 [ps, qs, rs] where
  le := Nat.le_refl _
  max := by unfold maxLen; omega
  row i hi := by
    match i, hi with
    | 0, _ => exact ⟨_, 0, _, rfl, by rw [World.cell?_alloc_mark]; rfl, _, _, rfl, h0.lit _⟩
    | 1, _ => exact ⟨_, 0, _, rfl, by rw [World.cell?_alloc_mark]; rfl, _, _, rfl, h1.lit _⟩
    | 2, _ => exact ⟨_, 0, _, rfl, by rw [World.cell?_alloc_mark]; rfl, _, _, rfl, h2.lit _⟩

theorem RetB.later {w w1 : World} {ps qs : List Nat} {e : Ending} {w' : World} (h : RetB w1 ps e w') (hb : Below w.heap.size w w1) (he : ps = qs) : RetB w qs e w' := by
  subst he
  obtain ⟨a, cap, rfl, hs, hn, hb'⟩ := h
  refine ⟨a, cap, rfl, hs, ?_, hb.trans (hb'.mono hb.size)⟩
  rcases hn with e | ⟨b, off, e, h1, h2⟩
  · exact .inl e
  · exact .inr ⟨b, off, e, Nat.le_trans hb.size h1, h2⟩

theorem txt_bytes (ps : List Nat) (h : Gf.Bytes ps) (hl : ps.length ≤ 1000000000) : Gf.Bytes (Pk.txt ps) := bytes_app (Pk.num_bytes _ (by omega) (by omega)) h

end Go.Proofs.Ytdifnipjmnbojaa
