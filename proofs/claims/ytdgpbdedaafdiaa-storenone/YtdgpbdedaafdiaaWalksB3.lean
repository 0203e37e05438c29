/-
  book: valid.
-/
import Derived.Test.YtdgpbdedaafdiaaWalksB2
import Derived.Test.YtdgpbdedaafdiaaDk
import Derived.ScopeJumps
import Derived.WalkMore
namespace Go.Proofs.Ytdgpbdedaafdiaa
open Go.RowKit

/-- What valid answers: the encodings in the valid part, rows of it, and its size. -/
def RetV (w : World) (a : Option Addr) (b : List Nat) (e : Ending) (w' : World) : Prop :=
  ∃ ga gc xs rest, e = .returned (.tuple #[.slice ga xs.length gc, .int .i64 ((frms (xs.map (·.ps))).length : Nat)]) ∧ Vld b (xs.map (·.ps)) rest ∧ Rws w' w.heap.size ga gc xs ∧ (∀ x ∈ xs, blk x.loc = blk a) ∧ Below w.heap.size w w'

/-- A scope in which the run jumps back to one label, the first pass as all others. -/
theorem wp_scope_back {P : Program} {a : Act} {w : World} {Q : Exit → Act → World → Prop} {c X : Code} (l : Nat) (J : Act → World → Prop) (μ : Act → World → Nat) (hf : findLabel c l = some (Code.seq Code.skip X))
    (first : (∀ a w, J a w → X.wp P (Exit.jump l J Q) a w) → c.wp P (Exit.jump l J Q) a w)
    (pass : ∀ a w, J a w → X.wp P (Exit.jump l (fun a' w' => J a' w' ∧ μ a' w' < μ a w) Q) a w) : (Code.scope c).wp P Q a w := by
  refine wp_scope_jumps l J μ hf (first fun a w h => wp_mono (pass a w h) ?_) fun a w h => wp_seq (wp_skip (pass a w h))
  intro e a' w' hq
  cases e <;> first | exact ⟨hq.1, hq.2.1⟩ | exact hq

/-- What holds at each jump. -/
def VldJ (w : World) (a : Option Addr) (cap l : Nat) (b : List Nat) (a' : Act) (w' : World) : Prop :=
  ∃ (ga : Option Addr) (gc n z : Nat) (xs : List Rw) (rest : List Nat) (u6 u7 u8 u9 u10 u11 u12 u13 u14 u15 u16 u17 u18 u19 u20 u21 u22 u23 u24 u25 u26 : Value),
    a' = { tmps := #[.slice a l cap, undef, .slice none 0 0, .int .i64 0, .slice ga n gc, .int .i64 (z : Int), u6, u7, u8, u9, u10, u11, u12, u13, u14, u15, u16, u17, u18, u19, u20, u21, u22, u23, u24, u25, u26], defers := [] }
    ∧ Hid (xs.length = n) ∧ Hid ((frms (xs.map (·.ps))).length = z) ∧ Hid (b = frms (xs.map (·.ps)) ++ rest) ∧ Hid (∀ x ∈ xs, decB x.ps = true ∧ x.ps.length < 4294967296 ∧ blk x.loc = blk a) ∧ Hid (Rws w' w.heap.size ga gc xs) ∧ Hid (Ext w w')

def VldM (l : Nat) (a' : Act) (_ : World) : Nat := l - (intOf (a'.tmps.getD 5 undef)).toNat

theorem rws_len (xs : List Rw) : xs.length ≤ (frms (xs.map (·.ps))).length := by
  induction xs with
  | nil => simp
  | cons x xs ih =>
    rw [List.map_cons, frms_cons, List.length_append, frm_len, List.length_cons]
    omega

set_option maxRecDepth 100000 in
set_option maxHeartbeats 1000000 in
theorem valid_any (a : Option Addr) (cap l : Nat) (b : List Nat) (w : World) (hl : b.length = l) (h : SeenAt w a cap b) (hm : l ≤ 100000000) :
    Calls Try.prog 38 #[.slice a l cap] w (RetV w a b) := by
  have HS := Lib.hid h
  have HL := Lib.hid hl
  clear h hl
  go_enter Try.func38, Try.ntmps38
  go_wp2
  refine wp_scope_back 0 (VldJ w a cap l b) (VldM l) rfl (fun pass => ?_) ?_
  · go_wp2
    go_step3
    rename_i K hK
    refine hK _ _ (pass _ _ ?_)
    · exact ⟨none, 0, 0, 0, [], b, _, _, _, _, _, _, _, _, _, _, _, _, _, _, _, _, _, _, _, _, _, rfl, rfl, rfl, rfl, by intro x hx; simp at hx, rws_nil _ _, Ext.refl _⟩
  · rintro a' w1 ⟨ga, gc, n, z, xs, rest, u6, u7, u8, u9, u10, u11, u12, u13, u14, u15, u16, u17, u18, u19, u20, u21, u22, u23, u24, u25, u26, rfl, HN, HZ, HE, HD, HR, E1⟩
    have hsz := vld_size b (xs.map (·.ps)) rest HE.out
    rw [HZ.out, HL.out] at hsz
    have hsl := slice_from a l cap z (by omega) w1
    have hsl' := slice_from' a l cap z (by omega) w1
    have HS1 : Hid (SeenAt w1 (fromA a cap z) (cap - z) rest) := by have := (HS.out.below E1.out).from z (by rw [HL.out]; omega); rw [hsz.1] at this; exact this
    have HBL := Lib.hid (blk_from a cap z)
    have HRL : Hid (rest.length = l - z) := by show _ = _; omega
    have hzl : z ≤ l := by omega
    have hnz : n ≤ z := by rw [← HN.out, ← HZ.out]; exact rws_len xs
    clear hsz
    generalize fromA a cap z = x at *
    cases hF : isF rest with
    | false =>
      have HF : Hid (isF rest = false) := hF
      clear hF
      go_wp2_with fail
      refine (first_no _ _ _ rest _ HRL.out HS1.out (by omega) HF.out).mono ?_
      rintro e w2 ⟨rfl, hb2⟩
      have HFIN : Hid (RetV w a b (.returned (.tuple #[.slice ga n gc, .int .i64 (z : Int)])) w2) :=
        ⟨ga, gc, xs, rest, by rw [HN.out, HZ.out], ⟨HE.out, fun c hc => by obtain ⟨y, hy, rfl⟩ := List.mem_map.mp hc; exact (HD.out y hy).1, fun c hc => by obtain ⟨y, hy, rfl⟩ := List.mem_map.mp hc; exact (HD.out y hy).2.1, HF.out⟩, HR.out.below hb2, fun y hy => (HD.out y hy).2.2, E1.out.trans hb2⟩
      go_wp2
      simp only [Exit.jump]
      go_ret2
      exact HFIN.out
    | true =>
      have HF : Hid (isF rest = true) := hF
      clear hF
      go_wp2_with fail
      refine (first_yes _ _ _ rest _ HRL.out HS1.out (by omega) HF.out).mono ?_
      rintro e w2 ⟨y, q, rfl, hby, hsy, hb2⟩
      obtain ⟨i1, i2, i3, i4⟩ := isF_is rest HF.out
      have HMORE := Lib.hid (vld_more b (xs.map (·.ps)) rest HE.out HF.out)
      have HDC := Lib.hid i2
      obtain ⟨lc, hlc⟩ : ∃ q, (inn rest).length = q := ⟨_, rfl⟩
      have hfit : 8 + lc ≤ rest.length := by omega
      rw [HRL.out] at hfit
      rw [hlc]
      have HLC := Lib.hid hlc
      clear i1 i2 i3 i4 hlc
      generalize inn rest = C at *
      have hbl := hby.trans HBL.out
      have HBY : Hid (∀ g ∈ blk y, g ∉ blk ga ∧ g < w2.heap.size) := by
        intro g hg
        rw [hbl] at hg
        obtain ⟨b0, o0, ea, hc0⟩ := HS.out.cell 0 (by rw [HL.out]; omega)
        have hlt := World.block_lt_of_cell? w _ hc0
        subst ea
        simp [blk] at hg
        subst hg
        have hlt' : g < w.heap.size := hlt
        have h2 := E1.out.size
        have h3 := hb2.size
        exact ⟨fun hga => by have := (HR.out.lt hga).1; omega, by omega⟩
      have HR2 := Lib.hid ((HR.out.below hb2).below (below_one w2 (.cells #[.slice y lc q] 30)))
      have HSY := Lib.hid (hsy.below (below_one w2 (.cells #[.slice y lc q] 30)))
      have E2 := Lib.hid ((E1.out.trans hb2).trans (below_one w2 (.cells #[.slice y lc q] 30)))
      clear hsy hb2
      go_wp2_with (at_builtin; refine wpList_appRw rfl (.tmp 16) (.tmp 18) rfl w.heap.size ga gc xs n HN.out rfl HR2.out ⟨y, q, C⟩ w2.heap.size 1 rfl (by rw [World.cell?_alloc_mark]; rw [Rw.val, HLC.out]; rfl) (by omega) E2.out.size HSY.out (fun g hg => ⟨(HBY.out g hg).1, by have := (HBY.out g hg).2; simp; omega⟩) ?_; intro g3 c3 w3 hr3 chg3 hg3)
      have E3 : Hid (Ext w w3) := chg3.below E2.out E2.out.size fun g hg => (HR2.out.lt hg).1
      have HR3 := Lib.hid hr3
      have HD3 : Hid (∀ v ∈ xs ++ [(⟨y, q, C⟩ : Rw)], decB v.ps = true ∧ v.ps.length < 4294967296 ∧ blk v.loc = blk a) := by
        intro v hv
        rcases List.mem_append.mp hv with hv | hv
        · exact HD.out v hv
        · rw [List.mem_singleton.mp hv]
          exact ⟨HDC.out, by show C.length < _; rw [HLC.out]; omega, hbl⟩
      have HN3 : Hid ((xs ++ [(⟨y, q, C⟩ : Rw)]).length = n + 1) := by show _ = _; rw [List.length_append, HN.out]; rfl
      have HZ3 : Hid ((frms ((xs ++ [(⟨y, q, C⟩ : Rw)]).map (·.ps))).length = z + (8 + lc)) := by
        show _ = _
        rw [List.map_append, List.map_cons, List.map_nil, frms_snoc, List.length_append, HZ.out, frm_len, HLC.out]
      have HE3 : Hid (b = frms ((xs ++ [(⟨y, q, C⟩ : Rw)]).map (·.ps)) ++ List.drop (8 + C.length) rest) := by
        show _ = _
        rw [List.map_append, List.map_cons, List.map_nil]
        exact HMORE.out
      clear hr3 chg3 hg3
      go_step3
      refine ⟨rfl, ⟨_, _, _, _, _, _, _, _, _, _, _, _, _, _, _, _, _, _, _, _, _, _, _, _, _, _, _, by congr 1, HN3, HZ3, HE3, HD3, HR3, E3⟩, ?_⟩
      simp [VldM, intOf]
      omega

end Go.Proofs.Ytdgpbdedaafdiaa
