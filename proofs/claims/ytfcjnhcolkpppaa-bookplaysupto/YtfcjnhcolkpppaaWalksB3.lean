/-
  book: slices of encodings in memory ('Rws'); valid.
-/
import Derived.Test.YtfcjnhcolkpppaaWalksB2
import Derived.ScopeJumps
import Derived.WalkMore
namespace Go.Proofs.Ytfcjnhcolkpppaa
open Go.RowKit

/-- A row of bytes as it lies in memory. -/
structure Rw where
  loc : Option Addr
  cap : Nat
  ps : List Nat

def Rw.val (x : Rw) : Value := .slice x.loc x.ps.length x.cap

/-- A slice of rows of the call's own (or nil); the rows are only read, and lie in other blocks. -/
structure Rws (w : World) (base : Nat) (ga : Option Addr) (cap : Nat) (xs : List Rw) : Prop where
  own : w.ownsRow base 40 1 (.slice ga xs.length cap) xs.length (xs.map Rw.val)
  seen : ∀ x ∈ xs, SeenAt w x.loc x.cap x.ps
  far : ∀ x ∈ xs, ∀ g ∈ blk x.loc, g ∉ blk ga ∧ g < w.heap.size

theorem rws_nil (w : World) (base : Nat) : Rws w base none 0 [] := ⟨World.ownsRow_nil _ _ _ _, by simp, by simp⟩

theorem seen_chg {w w' : World} {a : Option Addr} {cap : Nat} {ps : List Nat} {gs : List Nat} (h : SeenAt w a cap ps) (hb : Chg gs w w') (hn : ∀ g ∈ blk a, g ∉ gs) : SeenAt w' a cap ps :=
  h.chg hb fun b off e => by subst e; exact hn b (by simp [blk])

theorem Rws.cases {w : World} {base cap : Nat} {ga : Option Addr} {xs : List Rw} (h : Rws w base ga cap xs) : (ga = none ∧ xs = [] ∧ cap = 0) ∨ ∃ g, ga = some ⟨g, 0, none⟩ := by
  rcases h.own.2 with ⟨e, h0⟩ | ⟨g, c, cur, e, hb, rest⟩
  · left
    injection e with e1 e2 e3
    exact ⟨e1, List.eq_nil_of_length_eq_zero h0, e3⟩
  · right
    injection e with e1 e2 e3
    exact ⟨g, e1⟩

theorem Rws.lt {w : World} {base cap g : Nat} {ga : Option Addr} {xs : List Rw} (h : Rws w base ga cap xs) (hg : g ∈ blk ga) : base ≤ g ∧ g < w.heap.size := by
  rcases h.cases with ⟨rfl, _, _⟩ | ⟨g', rfl⟩
  · simp [blk] at hg
  · simp [blk] at hg
    subst hg
    exact World.ownsRow.lt h.own g rfl

theorem Rws.chg {w w' : World} {base cap : Nat} {ga : Option Addr} {xs : List Rw} {gs : List Nat} (h : Rws w base ga cap xs) (hb : Chg gs w w') (hg : ∀ g ∈ blk ga, g ∉ gs) (hx : ∀ x ∈ xs, ∀ g ∈ blk x.loc, g ∉ gs) : Rws w' base ga cap xs :=
  ⟨hb.owns h.own (fun g e => hg g (by rcases ga with _ | ad <;> simp [Value.ownBlock, blk] at e ⊢; exact e.symm)), fun x hx' => seen_chg (h.seen x hx') hb (hx x hx'), fun x hx' g hg' => ⟨(h.far x hx' g hg').1, Nat.lt_of_lt_of_le (h.far x hx' g hg').2 hb.size⟩⟩

theorem Rws.below {w w' : World} {base cap : Nat} {ga : Option Addr} {xs : List Rw} (h : Rws w base ga cap xs) (hb : Below w.heap.size w w') : Rws w' base ga cap xs := h.chg (gs := []) (Chg.of_below hb) (by simp) (by simp)

/-- What a row of the slice is. -/
theorem Rws.row {w : World} {base cap : Nat} {ga : Option Addr} {xs : List Rw} (h : Rws w base ga cap xs) (d : Rw) (i : Nat) (hi : i < xs.length) : ∃ g, ga = some ⟨g, 0, none⟩ ∧ w.cell? ⟨g, i, none⟩ = some (xs.getD i d).val := by
  rcases h.cases with ⟨_, rfl, _⟩ | ⟨g, rfl⟩
  · simp at hi
  · refine ⟨g, rfl, ?_⟩
    rw [World.ownsRow.cellAt h.own i (by omega), List.getElem?_map, List.getElem?_eq_getElem hi, List.getD_eq_getElem?_getD, List.getElem?_eq_getElem hi]
    rfl

theorem Rws.le {w : World} {base cap : Nat} {ga : Option Addr} {xs : List Rw} (h : Rws w base ga cap xs) : xs.length ≤ cap ∧ cap ≤ maxLen := by
  rcases h.own.2 with ⟨e, h0⟩ | ⟨g, c, cur, e, hb, hg, hnc, hcm, _⟩
  · injection e with e1 e2 e3
    unfold maxLen
    omega
  · injection e with e1 e2 e3
    subst e3
    exact ⟨hnc, hcm⟩

/-- append(rows, row), the row laid in a block of its own. -/
theorem wpList_appRw {ops : Array Oper} {rest : List Oper} {o : Oper} {a : Act} {Q : Exit → Act → World → Prop} {w : World} (hgd : o.guard = none) (s x : Operand)
    (ho : o.op = .call { callee := .builtin .append, args := #[s, x], argTypes := #[57, 57] })
    (base : Nat) (ga : Option Addr) (cap : Nat) (xs : List Rw) (n : Nat) (hn : xs.length = n) (hs : a.eval s = .slice ga n cap) (hown : Rws w base ga cap xs) (y : Rw)
    (B xc : Nat) (hx : a.eval x = .slice (some ⟨B, 0, none⟩) 1 xc) (hc : w.cell? ⟨B, 0, none⟩ = some y.val) (hb : n ≤ 1000000000) (hbase : base ≤ w.heap.size)
    (hsy : SeenAt w y.loc y.cap y.ps) (hfy : ∀ g ∈ blk y.loc, g ∉ blk ga ∧ g < w.heap.size)
    (h : ∀ g' cap' w', Rws w' base (some ⟨g', 0, none⟩) cap' (xs ++ [y]) → Chg (blk ga) w w' → (g' ∈ blk ga ∨ w.heap.size ≤ g') → wpList Try.prog ops Q rest (a.put o.dst (.slice (some ⟨g', 0, none⟩) (n + 1) cap')) w') :
    wpList Try.prog ops Q (o :: rest) a w := by
  obtain ⟨i, hi, hz, hsz, hby⟩ := infoS
  subst hn
  refine wpList_append_lies w hgd s x 57 ho base 40 i _ 1 24 Try.underlying57 hi hz hsz hby rfl (by omega) _ _ _ hs hown.own ⟨B, 0, none⟩ 1 xc [y.val] hx rfl
    (fun j u hj => ?_) (by simp [Rw.val, Value.oneCell']) (by omega) (by unfold maxLen; omega) (by omega) hbase w.heap.size rfl ?_
  · cases j with
    | zero =>
      simp at hj
      subst hj
      rw [Go.WideShapes.add_plain]
      exact hc
    | succ j => simp at hj
  · intro g' cap' w' hown' hg hat hlt
    have hat' : g' ∈ blk ga ∨ w.heap.size ≤ g' := by
      rcases hat with hat | hat
      · left
        rcases ga with _ | ad
        · simp [Value.ownBlock] at hat
        · simpa [Value.ownBlock, blk] using hat.symm
      · right; omega
    have hchg : Chg (blk ga) w w' := by
      rcases ga with _ | ad
      · exact Chg.of_new hg
      · exact Chg.of_grown hg
    refine h g' cap' w' ⟨?_, fun z hz' => ?_, fun z hz' g hgz => ?_⟩ hchg hat'
    · rw [List.map_append, List.length_append]
      exact hown'
    · rcases List.mem_append.mp hz' with hz' | hz'
      · exact seen_chg (hown.seen z hz') hchg fun g hgz => (hown.far z hz' g hgz).1
      · rw [List.mem_singleton.mp hz'] at *
        exact seen_chg hsy hchg fun g hgz => (hfy g hgz).1
    · have key : g ∉ blk ga ∧ g < w.heap.size := by
        rcases List.mem_append.mp hz' with hz' | hz'
        · exact hown.far z hz' g hgz
        · rw [List.mem_singleton.mp hz'] at hgz
          exact hfy g hgz
      refine ⟨?_, Nat.lt_of_lt_of_le key.2 hchg.size⟩
      simp only [blk, List.mem_singleton]
      rintro rfl
      rcases hat' with h1 | h1
      · exact key.1 h1
      · omega

/-- What valid answers: the encodings in the valid part, rows of it, and its size. -/
def RetV (w : World) (a : Option Addr) (b : List Nat) (e : Ending) (w' : World) : Prop :=
  ∃ ga gc xs rest, e = .returned (.tuple #[.slice ga xs.length gc, .int .i64 ((frms (xs.map (·.ps))).length : Nat)]) ∧ Vld b (xs.map (·.ps)) rest ∧ Rws w' w.heap.size ga gc xs ∧ (∀ x ∈ xs, blk x.loc = blk a) ∧ Below w.heap.size w w'

/-- A scope in which the run jumps back to one label, the first pass as all others. -/
theorem wp_scope_back {P : Program} {a : Act} {w : World} {Q : Exit → Act → World → Prop} {c X : Code} (l : Nat) (J : Act → World → Prop) (μ : Act → World → Nat) (hf : findLabel c l = some (Code.seq Code.skip X))
    (first : (∀ a w, J a w → X.wp P (Exit.jump l J Q) a w) → c.wp P (Exit.jump l J Q) a w)
    (pass : ∀ a w, J a w → X.wp P (Exit.jump l (fun a' w' => J a' w' ∧ μ a' w' < μ a w) Q) a w) : (Code.scope c).wp P Q a w := by
  refine wp_scope_jumps l J μ hf (first fun a w h => wp_mono (pass a w h) ?_) fun a w h => wp_seq (wp_skip (pass a w h))
  intro e a' w' hq
  cases e <;> first | exact ⟨hq.1, hq.2.1⟩ | exact hq

/-- What holds at each jump. -/
def VldJ (w : World) (a : Option Addr) (cap l : Nat) (b : List Nat) (a' : Act) (w' : World) : Prop :=
  ∃ (ga : Option Addr) (gc n z : Nat) (xs : List Rw) (rest : List Nat) (u6 u7 u8 u9 u10 u11 u12 u13 u14 u15 u16 u17 u18 u19 u20 u21 u22 u23 u24 u25 u26 : Value),
    a' = { tmps := #[.slice a l cap, undef, .slice none 0 0, .int .i64 0, .slice ga n gc, .int .i64 (z : Int), u6, u7, u8, u9, u10, u11, u12, u13, u14, u15, u16, u17, u18, u19, u20, u21, u22, u23, u24, u25, u26], defers := [] }
    ∧ Hid (xs.length = n) ∧ Hid ((frms (xs.map (·.ps))).length = z) ∧ Hid (b = frms (xs.map (·.ps)) ++ rest) ∧ Hid (∀ x ∈ xs, decB x.ps = true ∧ x.ps.length < 4294967296 ∧ blk x.loc = blk a) ∧ Hid (Rws w' w.heap.size ga gc xs) ∧ Hid (Ext w w')

def VldM (l : Nat) (a' : Act) (_ : World) : Nat := l - (intOf (a'.tmps.getD 5 undef)).toNat

theorem rws_len (xs : List Rw) : xs.length ≤ (frms (xs.map (·.ps))).length := by
  induction xs with
  | nil => simp
  | cons x xs ih =>
    rw [List.map_cons, frms_cons, List.length_append, frm_len, List.length_cons]
    omega

set_option maxRecDepth 100000 in
set_option maxHeartbeats 1000000 in
theorem valid_any (a : Option Addr) (cap l : Nat) (b : List Nat) (w : World) (hl : b.length = l) (h : SeenAt w a cap b) (hm : l ≤ 100000000) :
    Calls Try.prog 22 #[.slice a l cap] w (RetV w a b) := by
  have HS := Lib.hid h
  have HL := Lib.hid hl
  clear h hl
  go_enter Try.func22, Try.ntmps22
  go_wp2
  refine wp_scope_back 0 (VldJ w a cap l b) (VldM l) rfl (fun pass => ?_) ?_
  · go_wp2
    go_step3
    rename_i K hK
    refine hK _ _ (pass _ _ ?_)
    · exact ⟨none, 0, 0, 0, [], b, _, _, _, _, _, _, _, _, _, _, _, _, _, _, _, _, _, _, _, _, _, rfl, rfl, rfl, rfl, by intro x hx; simp at hx, rws_nil _ _, Ext.refl _⟩
  · rintro a' w1 ⟨ga, gc, n, z, xs, rest, u6, u7, u8, u9, u10, u11, u12, u13, u14, u15, u16, u17, u18, u19, u20, u21, u22, u23, u24, u25, u26, rfl, HN, HZ, HE, HD, HR, E1⟩
    have hsz := vld_size b (xs.map (·.ps)) rest HE.out
    rw [HZ.out, HL.out] at hsz
    have hsl := slice_from a l cap z (by omega) w1
    have hsl' := slice_from' a l cap z (by omega) w1
    have HS1 : Hid (SeenAt w1 (fromA a cap z) (cap - z) rest) := by have := (HS.out.below E1.out).from z (by rw [HL.out]; omega); rw [hsz.1] at this; exact this
    have HBL := Lib.hid (blk_from a cap z)
    have HRL : Hid (rest.length = l - z) := by show _ = _; omega
    have hzl : z ≤ l := by omega
    have hnz : n ≤ z := by rw [← HN.out, ← HZ.out]; exact rws_len xs
    clear hsz
    generalize fromA a cap z = x at *
    cases hF : isF rest with
    | false =>
      have HF : Hid (isF rest = false) := hF
      clear hF
      go_wp2_with fail
      refine (first_no _ _ _ rest _ HRL.out HS1.out (by omega) HF.out).mono ?_
      rintro e w2 ⟨rfl, hb2⟩
      have HFIN : Hid (RetV w a b (.returned (.tuple #[.slice ga n gc, .int .i64 (z : Int)])) w2) :=
        ⟨ga, gc, xs, rest, by rw [HN.out, HZ.out], ⟨HE.out, fun c hc => by obtain ⟨y, hy, rfl⟩ := List.mem_map.mp hc; exact (HD.out y hy).1, fun c hc => by obtain ⟨y, hy, rfl⟩ := List.mem_map.mp hc; exact (HD.out y hy).2.1, HF.out⟩, HR.out.below hb2, fun y hy => (HD.out y hy).2.2, E1.out.trans hb2⟩
      go_wp2
      simp only [Exit.jump]
      go_ret2
      exact HFIN.out
    | true =>
      have HF : Hid (isF rest = true) := hF
      clear hF
      go_wp2_with fail
      refine (first_yes _ _ _ rest _ HRL.out HS1.out (by omega) HF.out).mono ?_
      rintro e w2 ⟨y, q, rfl, hby, hsy, hb2⟩
      obtain ⟨i1, i2, i3, i4⟩ := isF_is rest HF.out
      have HMORE := Lib.hid (vld_more b (xs.map (·.ps)) rest HE.out HF.out)
      have HDC := Lib.hid i2
      obtain ⟨lc, hlc⟩ : ∃ q, (inn rest).length = q := ⟨_, rfl⟩
      have hfit : 8 + lc ≤ rest.length := by omega
      rw [HRL.out] at hfit
      rw [hlc]
      have HLC := Lib.hid hlc
      clear i1 i2 i3 i4 hlc
      generalize inn rest = C at *
      have hbl := hby.trans HBL.out
      have HBY : Hid (∀ g ∈ blk y, g ∉ blk ga ∧ g < w2.heap.size) := by
        intro g hg
        rw [hbl] at hg
        obtain ⟨b0, o0, ea, hc0⟩ := HS.out.cell 0 (by rw [HL.out]; omega)
        have hlt := World.block_lt_of_cell? w _ hc0
        subst ea
        simp [blk] at hg
        subst hg
        have hlt' : g < w.heap.size := hlt
        have h2 := E1.out.size
        have h3 := hb2.size
        exact ⟨fun hga => by have := (HR.out.lt hga).1; omega, by omega⟩
      have HR2 := Lib.hid ((HR.out.below hb2).below (below_one w2 (.cells #[.slice y lc q] 40)))
      have HSY := Lib.hid (hsy.below (below_one w2 (.cells #[.slice y lc q] 40)))
      have E2 := Lib.hid ((E1.out.trans hb2).trans (below_one w2 (.cells #[.slice y lc q] 40)))
      clear hsy hb2
      go_wp2_with (at_builtin; refine wpList_appRw rfl (.tmp 16) (.tmp 18) rfl w.heap.size ga gc xs n HN.out rfl HR2.out ⟨y, q, C⟩ w2.heap.size 1 rfl (by rw [World.cell?_alloc_mark]; rw [Rw.val, HLC.out]; rfl) (by omega) E2.out.size HSY.out (fun g hg => ⟨(HBY.out g hg).1, by have := (HBY.out g hg).2; simp; omega⟩) ?_; intro g3 c3 w3 hr3 chg3 hg3)
      have E3 : Hid (Ext w w3) := chg3.below E2.out E2.out.size fun g hg => (HR2.out.lt hg).1
      have HR3 := Lib.hid hr3
      have HD3 : Hid (∀ v ∈ xs ++ [(⟨y, q, C⟩ : Rw)], decB v.ps = true ∧ v.ps.length < 4294967296 ∧ blk v.loc = blk a) := by
        intro v hv
        rcases List.mem_append.mp hv with hv | hv
        · exact HD.out v hv
        · rw [List.mem_singleton.mp hv]
          exact ⟨HDC.out, by show C.length < _; rw [HLC.out]; omega, hbl⟩
      have HN3 : Hid ((xs ++ [(⟨y, q, C⟩ : Rw)]).length = n + 1) := by show _ = _; rw [List.length_append, HN.out]; rfl
      have HZ3 : Hid ((frms ((xs ++ [(⟨y, q, C⟩ : Rw)]).map (·.ps))).length = z + (8 + lc)) := by
        show _ = _
        rw [List.map_append, List.map_cons, List.map_nil, frms_snoc, List.length_append, HZ.out, frm_len, HLC.out]
      have HE3 : Hid (b = frms ((xs ++ [(⟨y, q, C⟩ : Rw)]).map (·.ps)) ++ List.drop (8 + C.length) rest) := by
        show _ = _
        rw [List.map_append, List.map_cons, List.map_nil]
        exact HMORE.out
      clear hr3 chg3 hg3
      go_step3
      refine ⟨rfl, ⟨_, _, _, _, _, _, _, _, _, _, _, _, _, _, _, _, _, _, _, _, _, _, _, _, _, _, _, by congr 1, HN3, HZ3, HE3, HD3, HR3, E3⟩, ?_⟩
      simp [VldM, intOf]
      omega

end Go.Proofs.Ytfcjnhcolkpppaa
