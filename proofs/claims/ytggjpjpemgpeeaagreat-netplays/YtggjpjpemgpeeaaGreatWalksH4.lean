/-
  What the program reads of a message: readFrag, readKey, readSource, fields.ReadList of them.
-/
import Derived.Test.YtggjpjpemgpeeaaGreatLd
import Derived.Test.YtggjpjpemgpeeaaGreatWalksY9
namespace Go.Proofs.YtggjpjpemgpeeaaGreat
open Go.RowKit

/-- What holds, whatever the blocks below L turn to. -/
def Kept (L : Nat) (w : World) (F : World → Prop) : Prop := ∀ gs w2, Chg gs w w2 → (∀ g ∈ gs, g < L) → F w2

theorem Kept.step {L : Nat} {w w' : World} {F : World → Prop} {hs : List Nat} (h : Kept L w F) (hb : Chg hs w w') (hl : ∀ g ∈ hs, g < L) : Kept L w' F := fun gs w2 hc hg =>
  h (hs ++ gs) w2 ((hb.mono fun g hm => List.mem_append_left _ hm).trans (hc.mono fun g hm => List.mem_append_right _ hm)) fun g hm => by
    rcases List.mem_append.mp hm with hm | hm
    · exact hl g hm
    · exact hg g hm

theorem Kept.now {L : Nat} {w : World} {F : World → Prop} (h : Kept L w F) : F w := h [] w (Chg.refl _ _) (by simp)
theorem Kept.low {L L' : Nat} {w : World} {F : World → Prop} (h : Kept L w F) (hL : L' ≤ L) : Kept L' w F := fun gs w2 hc hg => h gs w2 hc fun g hm => Nat.lt_of_lt_of_le (hg g hm) hL

theorem kept_seen {L : Nat} {w0 w : World} {a : Option Addr} {c : Nat} {ps : List Nat} (h : SeenAt w a c ps) (hf : Fresh w0 w a) (hL : L ≤ w0.heap.size) : Kept L w fun w2 => SeenAt w2 a c ps := fun gs w2 hc hg => h.chg hc fun b off e hm => by
  rcases hf with e' | ⟨b', off', e', h1, _⟩
  · rw [e'] at e; cases e
  · rw [e'] at e
    cases e
    have := hg _ hm
    omega

/-- append(list, y), y laid in a block of its own. -/
theorem wpList_app1 {ops : Array Oper} {rest : List Oper} {o : Oper} {a : Act} {Q : Exit → Act → World → Prop} {w : World} (hgd : o.guard = none) (s x : Operand) (t e : TypeId) (z : Value) (k b : Nat)
    (ho : o.op = .call { callee := .builtin .append, args := #[s, x], argTypes := #[t, t] }) (ht : Tryz.prog.underlying t = some (.slice e)) (hinfo : (Tryz.prog.info? e).map (fun i => (i.zero, i.size, i.bytes)) = some (some z, k, b)) (hzs : z.cells.size = k) (hk : 0 < k) (hkb : b ≤ 100)
    (base : Nat) (v : Value) (n : Nat) (xs : List Value) (hs : a.eval s = v) (hown : w.ownsRow base e k v n xs) (news : List Value) (B xc : Nat) (hx : a.eval x = .slice (some ⟨B, 0, none⟩) 1 xc) (hl : news.length = k) (hc : ∀ j u, news[j]? = some u → w.cell? ⟨B, j, none⟩ = some u)
    (h1 : ∀ u ∈ news, u.oneCell' = true) (hb : n ≤ 1000000) (hbase : base ≤ w.heap.size)
    (h : ∀ g' cap' w', w'.ownsRow base e k (.slice (some ⟨g', 0, none⟩) (n + 1) cap') (n + 1) (xs ++ news) → w.grownBy w' v.ownBlock → (v.ownBlock = some g' ∨ w.heap.size ≤ g') → wpList Tryz.prog ops Q rest (a.put o.dst (.slice (some ⟨g', 0, none⟩) (n + 1) cap')) w') :
    wpList Tryz.prog ops Q (o :: rest) a w := by
  obtain ⟨i, hi, hz, hsz, hby⟩ := info_parts hinfo
  have hm : (n + 1) * b ≤ 1000001 * 100 := Nat.mul_le_mul (by omega) hkb
  refine wpList_append_lies w hgd s x t ho base e i _ k b ht hi hz hsz hby hzs hk v n xs hs hown ⟨B, 0, none⟩ 1 xc news hx (by omega)
    (fun j u hj => by rw [Go.WideShapes.add_plain, Nat.zero_add]; exact hc j u hj) h1 (by omega) (by unfold maxLen; omega) (by omega) hbase w.heap.size rfl ?_
  intro g' cap' w' hown' hg hat _
  exact h g' cap' w' hown' hg (hat.imp id fun e => by omega)

/-! ## Texts -/

theorem infoStr : (Tryz.prog.info? 9).map (fun i => (i.zero, i.size, i.bytes)) = some (some (.string ⟨#[]⟩), 1, 16) := by kernel_rfl

def svals (ks : List (List Nat)) : List Value := ks.map fun k => .string (strB k)
theorem svals_app (xs : List (List Nat)) (y : List Nat) : svals (xs ++ [y]) = svals xs ++ [.string (strB y)] := by simp [svals]

theorem strs_own {w : World} {base n c : Nat} {a : Option Addr} {ks : List (List Nat)} (h : w.ownsRow base 9 1 (.slice a n c) n (svals ks)) (hn : ks.length = n) :
    StrAt w a c ks ∧ ∀ b off, a = some ⟨b, off, none⟩ → base ≤ b := by
  rcases h.2 with ⟨hv, h0⟩ | ⟨g, cap', cur, hv, hgb, hg, hnc, hcm, _⟩
  · have e0 : ks = [] := List.length_eq_zero_iff.mp (by omega)
    cases hv
    subst e0
    exact ⟨StrAt.nil (Nat.zero_le _), fun b off e => by cases e⟩
  · cases hv
    refine ⟨⟨by omega, hcm, fun i hi => ⟨g, 0, rfl, ?_⟩⟩, fun b off e => by cases e; exact hgb⟩
    rw [Nat.zero_add, World.ownsRow.cellAt h i (by omega), List.getD_eq_getElem?_getD, List.getElem?_eq_getElem hi]
    simp [svals, hi]

theorem StrAt.chg {gs : List Nat} {w w' : World} {a : Option Addr} {cap : Nat} {ks : List (List Nat)} (h : StrAt w a cap ks) (hb : Chg gs w w') (hn : ∀ b off, a = some ⟨b, off, none⟩ → b ∉ gs) : StrAt w' a cap ks :=
  ⟨h.le, h.max, fun i hi => by obtain ⟨b, off, e, hc⟩ := h.cell i hi; exact ⟨b, off, e, hb.cell hc (hn b off e)⟩⟩

/-- Texts read by the Reader at R, in new memory. -/
def RLstr (H : Nat) (w : World) (R : Nat) (ks : List (List Nat)) (s : Pk.St) (e : Ending) (w' : World) : Prop :=
  ∃ a c, e = .returned (.slice a ks.length c) ∧ Kept w.heap.size w' (fun w2 => StrAt w2 a c ks) ∧ RdrH H w' R s ∧ Chg [R] w w'

theorem readKey_any {H : Nat} (R : Nat) (s : Pk.St) (w : World) (h : RdrH H w R s) (hl : s.1.length ≤ 100000000) :
    Calls Tryz.prog 80 #[.pointer (some ⟨R, 0, none⟩)] w fun e w' => e = .returned (.string (strB (rdT s).1)) ∧ RdrH H w' R (rdT s).2 ∧ Chg [R] w w' := by
  have HH := Lib.hid h
  show Calls Tryz.prog 80 #[.pointer (some ⟨R, 0, none⟩)] w fun e w' => e = .returned (.string (strB (Pk.vT s))) ∧ RdrH H w' R (Pk.nT s) ∧ Chg [R] w w'
  clear h
  go_enter Tryz.func80, Tryz.ntmps80
  go_wp2_with fail
  refine (rTextH R s _ HH.out hl).mono ?_
  rintro e w1 ⟨a, c, rfl, hs, hr, hb, _⟩
  have hst := str_of hs
  have HR := Lib.hid hr
  have HB := Lib.hid hb
  clear hs hr hb
  generalize hz : Pk.vT s = t7 at *
  have HZ := Lib.hid hz
  clear hz
  go_wp2
  go_ret
  exact ⟨by rw [HZ.out]; rfl, HR.out, HB.out⟩

set_option maxRecDepth 100000 in
set_option maxHeartbeats 1000000 in
theorem readL_str {H : Nat} (R : Nat) (m : Int) (s : Pk.St) (w : World) (h : RdrH H w R s) (hB : Gf.Bytes s.1) (hl : s.1.length ≤ 100000000) (hm0 : 0 ≤ m) (hm : m ≤ 1000000) :
    Calls Tryz.prog 79 #[.pointer (some ⟨R, 0, none⟩), .int .i64 m, .func (.func 80) #[] #[]] w (RLstr H w R (rdL m rdT s).1 (rdL m rdT s).2) := by
  show Calls Tryz.prog _ _ w (RLstr H w R (rdS rdT (Pk.vC s m).toNat (Pk.nC s m)).1 (rdS rdT (Pk.vC s m).toNat (Pk.nC s m)).2)
  have hc := vC_range s m hm0
  have hk := nC_keep s m hB
  have hRl := h.lt
  have hHl := h.home
  have HH := Lib.hid h
  clear h hB
  go_enter Tryz.func79, Tryz.ntmps79
  go_wp2_with fail
  refine (rCountH R m s _ HH.out).mono ?_
  rintro e w1 ⟨rfl, hr1, hb1⟩
  generalize Pk.vC s m = z at *
  generalize Pk.nC s m = s1 at *
  obtain ⟨n, rfl⟩ : ∃ n : Nat, z = (n : Int) := ⟨z.toNat, by omega⟩
  rw [Int.toNat_natCast]
  have HR1 := Lib.hid hr1
  have HB1 := Lib.hid hb1
  have HKB := Lib.hid hk.1
  have hkl := hk.2
  clear hr1 hb1 hk
  go_wp2
  go_loopw [7, 11] (fun v i ws => ∃ (k c : Nat) (a : Option Addr), k ≤ n ∧ i = .int .i64 k ∧ v = .slice a k c ∧ Hid (ws.ownsRow w.heap.size 9 1 (.slice a k c) k (svals (rdS rdT k s1).1)) ∧ Hid (RdrH H ws R (rdS rdT k s1).2) ∧ Hid (Chg [R] w ws)) (fun _ i _ => n - (intOf i).toNat)
  case atStart => exact ⟨0, 0, none, Nat.zero_le _, rfl, rfl, World.ownsRow_nil _ _ _ _, HR1, HB1⟩
  case round =>
    obtain ⟨k, c, a, hk, rfl, rfl, HO, HR, HC⟩ := hrel
    by_cases hlt : k < n
    · have HL := Lib.hid (rdS_len rdT s1 k)
      have HN1 : Hid ((rdS rdT (k + 1) s1).1 = (rdS rdT k s1).1 ++ [(rdT (rdS rdT k s1).2).1]) := by show _ = _; rw [rdS_succ]
      have HN2 : Hid ((rdS rdT (k + 1) s1).2 = (rdT (rdS rdT k s1).2).2) := by show _ = _; rw [rdS_succ]
      have hkk := rdS_keep rdT_can s1 HKB.out k
      generalize (rdS rdT k s1).1 = zs at *
      generalize (rdS rdT k s1).2 = sk at *
      go_wp2_with fail
      refine (readKey_any R sk _ HR.out (by omega)).mono ?_
      rintro e w2 ⟨rfl, hr2, hb2⟩
      generalize (rdT sk).1 = p at *
      generalize (rdT sk).2 = sk1 at *
      have hoR : ∀ g, Value.ownBlock (.slice a k c) = some g → R ≠ g ∧ H ≠ g ∧ w.heap.size ≤ g := fun g hg => by
        have := (World.ownsRow.lt HO.out g hg).1
        omega
      have hb3 := below_one w2 (.cells #[.string (strB p)] 9)
      have HO2 := Lib.hid ((Chg.of_below (gs := []) hb3).owns (hb2.owns HO.out (fun g hg => by have := hoR g hg; simp; omega)) (by simp))
      have HR2 := Lib.hid (hr2.below hb3)
      have HC2 := Lib.hid ((HC.out.trans hb2).alloc (.cells #[.string (strB p)] 9))
      have HOR := Lib.hid hoR
      have hz2 := HC2.out.size
      have HX : Hid (∀ j u, ([.string (strB p)] : List Value)[j]? = some u → (w2.alloc (.cells #[.string (strB p)] 9)).cell? ⟨w2.heap.size, j, none⟩ = some u) := fun j u hj => by
        rw [World.cell?_alloc_mark, ← Array.getElem?_toList]
        exact hj
      clear hr2 hb2 hoR hb3
      go_wp2_with (at_builtin; refine wpList_app1 rfl (.tmp 13) (.tmp 17) 33 9 _ 1 16 rfl Tryz.underlying33 infoStr rfl (by omega) (by omega) w.heap.size _ k _ rfl HO2.out [.string (strB p)] _ 1 rfl rfl HX.out (by intro u hu; simp at hu; subst hu; rfl) (by omega) hz2 ?_; intro g3 c3 w3 ho3 hg3 _)
      have HO3 : Hid (w3.ownsRow w.heap.size 9 1 (.slice (some ⟨g3, 0, none⟩) (k + 1) c3) (k + 1) (svals (rdS rdT (k + 1) s1).1)) := by
        show World.ownsRow _ _ _ _ _ _ _
        rw [HN1.out, svals_app]
        exact ho3
      have HR3 : Hid (RdrH H w3 R (rdS rdT (k + 1) s1).2) := by
        show RdrH _ _ _ _
        rw [HN2.out]
        exact HR2.out.grown hg3 (fun g hg => by have := HOR.out g hg; omega)
      have HC3 := Lib.hid (chg_grown HC2.out hg3 (fun g hg => (HOR.out g hg).2.2))
      clear ho3 hg3
      go_roundw
      case rel => exact ⟨k + 1, c3, some ⟨g3, 0, none⟩, by omega, by go_num, rfl, HO3, HR3, HC3⟩
      case measure => simp [intOf]; omega
    · obtain rfl : k = n := by omega
      have HF : Hid (RLstr H w R (rdS rdT k s1).1 (rdS rdT k s1).2 (.returned (.slice a k c)) wr) := by
        obtain ⟨h1, h2⟩ := strs_own HO.out (rdS_len rdT s1 k)
        refine ⟨a, c, by rw [rdS_len], fun gs w2 hb hg => h1.chg hb (fun b off e hm => ?_), HR.out, HC.out⟩
        have := h2 b off e
        have := hg b hm
        omega
      go_wp2
      go_ret
      exact HF.out

/-! ## Sources -/

theorem infoSrc : (Tryz.prog.info? 72).map (fun i => (i.zero, i.size, i.bytes)) = some (some (.agg #[.int .i64 0, .int .i64 0]), 2, 16) := by kernel_rfl

def pvals : List (Int × Int) → List Value
  | [] => []
  | s :: ss => .int .i64 s.1 :: .int .i64 s.2 :: pvals ss

theorem pvals_app (xs : List (Int × Int)) (y : Int × Int) : pvals (xs ++ [y]) = pvals xs ++ [.int .i64 y.1, .int .i64 y.2] := by
  induction xs with
  | nil => rfl
  | cons x xs ih => simp [pvals, ih]

theorem pvals_one : ∀ (ss : List (Int × Int)) (i : Nat), i < ss.length → (pvals ss)[i * 2]? = some (.int .i64 (ss.getD i (0, 0)).1)
  | [], i, h => by simp at h
  | f :: fs, 0, _ => rfl
  | f :: fs, i + 1, h => by
    have := pvals_one fs i (by simpa using h)
    rw [show (i + 1) * 2 = i * 2 + 1 + 1 by omega]
    simpa [pvals] using this

theorem pvals_two : ∀ (ss : List (Int × Int)) (i : Nat), i < ss.length → (pvals ss)[i * 2 + 1]? = some (.int .i64 (ss.getD i (0, 0)).2)
  | [], i, h => by simp at h
  | f :: fs, 0, _ => rfl
  | f :: fs, i + 1, h => by
    have := pvals_two fs i (by simpa using h)
    rw [show (i + 1) * 2 + 1 = i * 2 + 1 + 1 + 1 by omega]
    simpa [pvals] using this

theorem srcs_own {w : World} {base n c : Nat} {a : Option Addr} {ss : List (Int × Int)} (h : w.ownsRow base 72 2 (.slice a n c) n (pvals ss)) (hn : ss.length = n) :
    SrcAt w a c ss ∧ ∀ b off, a = some ⟨b, off, none⟩ → base ≤ b := by
  rcases h.2 with ⟨hv, h0⟩ | ⟨g, cap', cur, hv, hgb, hg, hnc, hcm, _⟩
  · have e0 : ss = [] := List.length_eq_zero_iff.mp (by omega)
    cases hv
    subst e0
    exact ⟨SrcAt.nil (Nat.zero_le _), fun b off e => by cases e⟩
  · cases hv
    refine ⟨⟨by omega, hcm, fun i hi => ⟨g, 0, rfl, ?_, ?_⟩⟩, fun b off e => by cases e; exact hgb⟩
    · rw [Nat.zero_add, World.ownsRow.cellAt h (i * 2) (by omega)]; exact pvals_one ss i hi
    · rw [Nat.zero_add, World.ownsRow.cellAt h (i * 2 + 1) (by omega)]; exact pvals_two ss i hi

theorem SrcAt.chg {gs : List Nat} {w w' : World} {a : Option Addr} {cap : Nat} {ss : List (Int × Int)} (h : SrcAt w a cap ss) (hb : Chg gs w w') (hn : ∀ b off, a = some ⟨b, off, none⟩ → b ∉ gs) : SrcAt w' a cap ss :=
  ⟨h.le, h.max, fun i hi => by obtain ⟨b, off, e, h1, h2⟩ := h.cell i hi; exact ⟨b, off, e, hb.cell h1 (hn b off e), hb.cell h2 (hn b off e)⟩⟩

/-- Sources read by the Reader at R, in new memory. -/
def RLsrc (H : Nat) (w : World) (R : Nat) (ss : List (Int × Int)) (s : Pk.St) (e : Ending) (w' : World) : Prop :=
  ∃ a c, e = .returned (.slice a ss.length c) ∧ Kept w.heap.size w' (fun w2 => SrcAt w2 a c ss) ∧ RdrH H w' R s ∧ Chg [R] w w'

theorem Bx.set2 {w : World} {B : Nat} {t : TypeId} {C : Array Value} (h : Bx w B t C) (k : Nat) (v : Value) {C' : Array Value} (hC : C.setIfInBounds k v = C') : Bx (w.setCell ⟨B, k, none⟩ v) B t C' := by
  subst hC
  exact heap_setCell_same w B k C t v h

theorem bx_new (w : World) (C : Array Value) (t : TypeId) : Bx (w.alloc (.cells C t)) w.heap.size t C := by
  show (w.heap.push _)[w.heap.size]? = _
  simp

set_option maxRecDepth 100000 in
set_option maxHeartbeats 1000000 in
theorem readSource_any {H : Nat} (R : Nat) (s : Pk.St) (w : World) (h : RdrH H w R s) (_hl : s.1.length ≤ 100000000) :
    Calls Tryz.prog 82 #[.pointer (some ⟨R, 0, none⟩)] w fun e w' => e = .returned (.agg #[.int .i64 (rd2 rdN rdN s).1.1, .int .i64 (rd2 rdN rdN s).1.2]) ∧ RdrH H w' R (rd2 rdN rdN s).2 ∧ Chg [R] w w' := by
  show Calls Tryz.prog 82 #[.pointer (some ⟨R, 0, none⟩)] w fun e w' => e = .returned (.agg #[.int .i64 (Pk.vN s), .int .i64 (Pk.vN (Pk.nN s))]) ∧ RdrH H w' R (Pk.nN (Pk.nN s)) ∧ Chg [R] w w'
  have hRl := h.lt
  have hHl := h.home
  have HB0 : Hid (Below w.heap.size w (w.alloc (.cells #[.int .i64 0, .int .i64 0] 72))) := below_one w _
  have HR0 := Lib.hid (h.below HB0.out)
  have HX0 := Lib.hid (bx_new w #[.int .i64 0, .int .i64 0] 72)
  clear h
  go_enter Tryz.func82, Tryz.ntmps82
  go_wp2_with fail
  generalize w.alloc (.cells #[.int .i64 0, .int .i64 0] 72) = w0 at *
  refine (rNumH R s _ HR0.out).mono ?_
  rintro e w1 ⟨rfl, hr1, hb1⟩
  have HX1 := Lib.hid (HX0.out.chg hb1 (by simp; omega))
  have HR1 := Lib.hid hr1
  have HC1 : Hid (Chg [R] w w1) := (Chg.of_below HB0.out).trans hb1
  clear hr1 hb1 HX0 HR0 HB0
  generalize hz1 : Pk.vN s = z1 at *
  generalize hn1 : Pk.nN s = s1 at *
  have HZ1 := Lib.hid hz1
  have HN1 := Lib.hid hn1
  clear hz1 hn1
  go_wp2_with fail
  refine (rNumH R s1 _ HR1.out).mono ?_
  rintro e w2 ⟨rfl, hr2, hb2⟩
  have HX2 := Lib.hid (HX1.out.chg hb2 (by simp; omega))
  have HC2 := Lib.hid (HC1.out.trans hb2)
  have HR2 := Lib.hid hr2
  clear hr2 hb2 HX1 HR1 HC1
  generalize hz2 : Pk.vN s1 = z2 at *
  generalize hn2 : Pk.nN s1 = s2 at *
  have HZ2 := Lib.hid hz2
  have HN2 := Lib.hid hn2
  clear hz2 hn2
  have k0 := HX2.out.cell 0 (.int .i64 0) rfl
  have k1 := HX2.out.cell 1 (.int .i64 0) rfl
  have f0 := HX2.out.free 0
  have f1 := HX2.out.free 1
  have HX4 : Hid (Bx ((w2.setCell ⟨w.heap.size, 0, none⟩ (.int .i64 z1)).setCell ⟨w.heap.size, 1, none⟩ (.int .i64 z2)) w.heap.size 72 #[.int .i64 z1, .int .i64 z2]) := (HX2.out.set2 0 (.int .i64 z1) (C' := #[.int .i64 z1, .int .i64 0]) (by simp)).set2 1 (.int .i64 z2) (by simp)
  have HC4 : Hid (Chg [w.heap.size] w2 ((w2.setCell ⟨w.heap.size, 0, none⟩ (.int .i64 z1)).setCell ⟨w.heap.size, 1, none⟩ (.int .i64 z2))) := (chg_set _ _ _ _).trans (chg_set _ _ _ _)
  have HR4 := Lib.hid (HR2.out.other HC4.out (by omega) (by omega))
  have HCF := Lib.hid (HC2.out.wide HC4.out (by simp))
  go_wp2_with fail
  generalize (w2.setCell ⟨w.heap.size, 0, none⟩ (.int .i64 z1)).setCell ⟨w.heap.size, 1, none⟩ (.int .i64 z2) = w4 at *
  have q0 := HX4.out.cell 0 (.int .i64 z1) rfl
  have q1 := HX4.out.cell 1 (.int .i64 z2) rfl
  refine bodyPost_ret (v := .agg #[.int .i64 z1, .int .i64 z2]) (by simp [results, Tryz.results82, go_sem, q0, q1]) rfl ?_
  rw [HZ1.out, HN1.out, HZ2.out, HN2.out]
  exact ⟨rfl, HR4.out, HCF.out⟩

set_option maxRecDepth 100000 in
set_option maxHeartbeats 1000000 in
theorem readL_src {H : Nat} (R : Nat) (m : Int) (s : Pk.St) (w : World) (h : RdrH H w R s) (hB : Gf.Bytes s.1) (hl : s.1.length ≤ 100000000) (hm0 : 0 ≤ m) (hm : m ≤ 1000000) :
    Calls Tryz.prog 81 #[.pointer (some ⟨R, 0, none⟩), .int .i64 m, .func (.func 82) #[] #[]] w (RLsrc H w R (rdL m (rd2 rdN rdN) s).1 (rdL m (rd2 rdN rdN) s).2) := by
  show Calls Tryz.prog _ _ w (RLsrc H w R (rdS (rd2 rdN rdN) (Pk.vC s m).toNat (Pk.nC s m)).1 (rdS (rd2 rdN rdN) (Pk.vC s m).toNat (Pk.nC s m)).2)
  have hc := vC_range s m hm0
  have hk := nC_keep s m hB
  have hRl := h.lt
  have hHl := h.home
  have HH := Lib.hid h
  clear h hB
  go_enter Tryz.func81, Tryz.ntmps81
  go_wp2_with fail
  refine (rCountH R m s _ HH.out).mono ?_
  rintro e w1 ⟨rfl, hr1, hb1⟩
  generalize Pk.vC s m = z at *
  generalize Pk.nC s m = s1 at *
  obtain ⟨n, rfl⟩ : ∃ n : Nat, z = (n : Int) := ⟨z.toNat, by omega⟩
  rw [Int.toNat_natCast]
  have HR1 := Lib.hid hr1
  have HB1 := Lib.hid hb1
  have HKB := Lib.hid hk.1
  have hkl := hk.2
  clear hr1 hb1 hk
  go_wp2
  go_loopw [7, 11] (fun v i ws => ∃ (k c : Nat) (a : Option Addr), k ≤ n ∧ i = .int .i64 k ∧ v = .slice a k c ∧ Hid (ws.ownsRow w.heap.size 72 2 (.slice a k c) k (pvals (rdS (rd2 rdN rdN) k s1).1)) ∧ Hid (RdrH H ws R (rdS (rd2 rdN rdN) k s1).2) ∧ Hid (Chg [R] w ws)) (fun _ i _ => n - (intOf i).toNat)
  case atStart => exact ⟨0, 0, none, Nat.zero_le _, rfl, rfl, World.ownsRow_nil _ _ _ _, HR1, HB1⟩
  case round =>
    obtain ⟨k, c, a, hk, rfl, rfl, HO, HR, HC⟩ := hrel
    by_cases hlt : k < n
    · have HL := Lib.hid (rdS_len (rd2 rdN rdN) s1 k)
      have HN1 : Hid ((rdS (rd2 rdN rdN) (k + 1) s1).1 = (rdS (rd2 rdN rdN) k s1).1 ++ [((rd2 rdN rdN) (rdS (rd2 rdN rdN) k s1).2).1]) := by show _ = _; rw [rdS_succ]
      have HN2 : Hid ((rdS (rd2 rdN rdN) (k + 1) s1).2 = ((rd2 rdN rdN) (rdS (rd2 rdN rdN) k s1).2).2) := by show _ = _; rw [rdS_succ]
      have hkk := rdS_keep (rd2_can rdN_can rdN_can) s1 HKB.out k
      generalize (rdS (rd2 rdN rdN) k s1).1 = zs at *
      generalize (rdS (rd2 rdN rdN) k s1).2 = sk at *
      go_wp2_with fail
      refine (readSource_any R sk _ HR.out (by omega)).mono ?_
      rintro e w2 ⟨rfl, hr2, hb2⟩
      generalize ((rd2 rdN rdN) sk).1 = p at *
      generalize ((rd2 rdN rdN) sk).2 = sk1 at *
      have hoR : ∀ g, Value.ownBlock (.slice a k c) = some g → R ≠ g ∧ H ≠ g ∧ w.heap.size ≤ g := fun g hg => by
        have := (World.ownsRow.lt HO.out g hg).1
        omega
      have hb3 := below_one w2 (.cells #[.int .i64 p.1, .int .i64 p.2] 72)
      have HO2 := Lib.hid ((Chg.of_below (gs := []) hb3).owns (hb2.owns HO.out (fun g hg => by have := hoR g hg; simp; omega)) (by simp))
      have HR2 := Lib.hid (hr2.below hb3)
      have HC2 := Lib.hid ((HC.out.trans hb2).alloc (.cells #[.int .i64 p.1, .int .i64 p.2] 72))
      have HOR := Lib.hid hoR
      have hz2 := HC2.out.size
      have HX : Hid (∀ j u, ([.int .i64 p.1, .int .i64 p.2] : List Value)[j]? = some u → (w2.alloc (.cells #[.int .i64 p.1, .int .i64 p.2] 72)).cell? ⟨w2.heap.size, j, none⟩ = some u) := fun j u hj => by
        rw [World.cell?_alloc_mark, ← Array.getElem?_toList]
        exact hj
      clear hr2 hb2 hoR hb3
      go_wp2_with (at_builtin; refine wpList_app1 rfl (.tmp 13) (.tmp 17) 37 72 _ 2 16 rfl Tryz.underlying37 infoSrc rfl (by omega) (by omega) w.heap.size _ k _ rfl HO2.out [.int .i64 p.1, .int .i64 p.2] _ 1 rfl rfl HX.out (by intro u hu; simp at hu; rcases hu with rfl | rfl <;> rfl) (by omega) hz2 ?_; intro g3 c3 w3 ho3 hg3 _)
      have HO3 : Hid (w3.ownsRow w.heap.size 72 2 (.slice (some ⟨g3, 0, none⟩) (k + 1) c3) (k + 1) (pvals (rdS (rd2 rdN rdN) (k + 1) s1).1)) := by
        show World.ownsRow _ _ _ _ _ _ _
        rw [HN1.out, pvals_app]
        exact ho3
      have HR3 : Hid (RdrH H w3 R (rdS (rd2 rdN rdN) (k + 1) s1).2) := by
        show RdrH _ _ _ _
        rw [HN2.out]
        exact HR2.out.grown hg3 (fun g hg => by have := HOR.out g hg; omega)
      have HC3 := Lib.hid (chg_grown HC2.out hg3 (fun g hg => (HOR.out g hg).2.2))
      clear ho3 hg3
      go_roundw
      case rel => exact ⟨k + 1, c3, some ⟨g3, 0, none⟩, by omega, by go_num, rfl, HO3, HR3, HC3⟩
      case measure => simp [intOf]; omega
    · obtain rfl : k = n := by omega
      have HF : Hid (RLsrc H w R (rdS (rd2 rdN rdN) k s1).1 (rdS (rd2 rdN rdN) k s1).2 (.returned (.slice a k c)) wr) := by
        obtain ⟨h1, h2⟩ := srcs_own HO.out (rdS_len (rd2 rdN rdN) s1 k)
        refine ⟨a, c, by rw [rdS_len], fun gs w2 hb hg => h1.chg hb (fun b off e hm => ?_), HR.out, HC.out⟩
        have := h2 b off e
        have := hg b hm
        omega
      go_wp2
      go_ret
      exact HF.out

end Go.Proofs.YtggjpjpemgpeeaaGreat
