/-
  readFrag, fields.ReadList of it, readMessage.
-/
import Derived.Test.YtggjpjpemgpeeaaWalksH4
import Derived.Test.YtggjpjpemgpeeaaArgE
import Derived.Test.YtggjpjpemgpeeaaMgM
namespace Go.Proofs.Ytggjpjpemgpeeaa
open Go.RowKit

theorem i64_wf {z : Int} (h : I64 z) : (Lit.int .i64 z).wf = true := by
  have : -9223372036854775808 ≤ z ∧ z ≤ 9223372036854775807 := h
  simpa [Lit.wf, IntKind.min, IntKind.max, IntKind.signed, IntKind.bits] using this

/-- A fragment read by the Reader at R. -/
def RFr (H : Nat) (w : World) (R : Nat) (f : Int × List Nat) (s : Pk.St) (e : Ending) (w' : World) : Prop :=
  ∃ loc cap, e = .returned (.agg #[.int .i64 f.1, .slice loc f.2.length cap]) ∧ SeenAt w' loc cap f.2 ∧ Fresh w w' loc ∧ RdrH H w' R s ∧ Chg [R] w w'

set_option maxRecDepth 100000 in
set_option maxHeartbeats 1000000 in
theorem readFrag_any {H : Nat} (R : Nat) (s : Pk.St) (w : World) (h : RdrH H w R s) (hB : Gf.Bytes s.1) (hl : s.1.length ≤ 100000000) :
    Calls Try.prog 93 #[.pointer (some ⟨R, 0, none⟩)] w (RFr H w R (rd2 rdN rdT s).1 (rd2 rdN rdT s).2) := by
  show Calls Try.prog 93 #[.pointer (some ⟨R, 0, none⟩)] w (RFr H w R (Pk.vN s, Pk.vT (Pk.nN s)) (Pk.nT (Pk.nN s)))
  have hRl := h.lt
  have hHl := h.home
  have hk := nN_keep s hB
  have HB0 : Hid (Below w.heap.size w (w.alloc (.cells #[.int .i64 0, .slice none 0 0] 62))) := below_one w _
  have HR0 := Lib.hid (h.below HB0.out)
  have HX0 := Lib.hid (bx_new w #[.int .i64 0, .slice none 0 0] 62)
  clear h hB
  go_enter Try.func93, Try.ntmps93
  go_wp2_with fail
  generalize w.alloc (.cells #[.int .i64 0, .slice none 0 0] 62) = w0 at *
  refine (rNumH R s _ HR0.out).mono ?_
  rintro e w1 ⟨rfl, hr1, hb1⟩
  have HX1 := Lib.hid (HX0.out.chg hb1 (by simp; omega))
  have HR1 := Lib.hid hr1
  have HC1 : Hid (Chg [R] w w1) := (Chg.of_below HB0.out).trans hb1
  have hs1 : w.heap.size ≤ w1.heap.size := HC1.out.size
  clear hr1 hb1 HX0 HR0 HB0
  generalize hz1 : Pk.vN s = z1 at *
  generalize hn1 : Pk.nN s = s1 at *
  have HZ1 := Lib.hid hz1
  have HN1 := Lib.hid hn1
  clear hz1 hn1
  go_wp2_with fail
  refine (rTextH R s1 _ HR1.out (by omega)).mono ?_
  rintro e w2 ⟨a, c, rfl, hs2, hr2, hb2, hf2⟩
  have HX2 := Lib.hid (HX1.out.chg hb2 (by simp; omega))
  have HC2 := Lib.hid (HC1.out.trans hb2)
  have HR2 := Lib.hid hr2
  have HS2 := Lib.hid hs2
  have HF2 := Lib.hid hf2
  clear hr2 hb2 HX1 HR1 HC1 hs2 hf2
  generalize hz2 : Pk.vT s1 = z2 at *
  generalize hn2 : Pk.nT s1 = s2 at *
  have HZ2 := Lib.hid hz2
  have HN2 := Lib.hid hn2
  clear hz2 hn2
  obtain ⟨lz, hlz⟩ : ∃ q, z2.length = q := ⟨_, rfl⟩
  have HLZ := Lib.hid hlz
  rw [hlz]
  clear hlz
  have k0 := HX2.out.cell 0 (.int .i64 0) rfl
  have k1 := HX2.out.cell 1 (.slice none 0 0) rfl
  have f0 := HX2.out.free 0
  have f1 := HX2.out.free 1
  have HX4 : Hid (Bx ((w2.setCell ⟨w.heap.size, 0, none⟩ (.int .i64 z1)).setCell ⟨w.heap.size, 1, none⟩ (.slice a lz c)) w.heap.size 62 #[.int .i64 z1, .slice a lz c]) := (HX2.out.set2 0 (.int .i64 z1) (C' := #[.int .i64 z1, .slice none 0 0]) (by simp)).set2 1 (.slice a lz c) (by simp)
  have HC4 : Hid (Chg [w.heap.size] w2 ((w2.setCell ⟨w.heap.size, 0, none⟩ (.int .i64 z1)).setCell ⟨w.heap.size, 1, none⟩ (.slice a lz c))) := (chg_set _ _ _ _).trans (chg_set _ _ _ _)
  have HR4 := Lib.hid (HR2.out.other HC4.out (by omega) (by omega))
  have HCF := Lib.hid (HC2.out.wide HC4.out (by simp))
  have HS4 := Lib.hid (HS2.out.other HC4.out (HX2.out.no rfl))
  have HF4 := Lib.hid (Fresh.widen HF2.out hs1 HC4.out.size)
  go_wp2_with fail
  generalize (w2.setCell ⟨w.heap.size, 0, none⟩ (.int .i64 z1)).setCell ⟨w.heap.size, 1, none⟩ (.slice a lz c) = w4 at *
  have q0 := HX4.out.cell 0 (.int .i64 z1) rfl
  have q1 := HX4.out.cell 1 (.slice a lz c) rfl
  refine bodyPost_ret (v := .agg #[.int .i64 z1, .slice a lz c]) (by simp [results, Try.results93, go_sem, q0, q1]) rfl ?_
  exact ⟨a, c, by rw [HLZ.out], HS4.out, HF4.out, HR4.out, HCF.out⟩

/-- A slice of fragments of the call's own (or nil), their bytes in other blocks that are new too. -/
structure Fls (w : World) (base : Nat) (v : Value) (xs : List Fr) : Prop where
  own : w.ownsRow base 62 2 v xs.length (fvals xs)
  seen : ∀ x ∈ xs, SeenAt w x.loc x.cap x.data
  off : ∀ x ∈ xs, ∀ b o, x.loc = some ⟨b, o, none⟩ → base ≤ b ∧ b < w.heap.size ∧ ∀ g, v.ownBlock = some g → b ≠ g
  wf : ∀ x ∈ xs, I64 x.pos

theorem fls_nil (w : World) (base : Nat) : Fls w base (.slice none 0 0) [] := ⟨World.ownsRow_nil _ _ _ _, by simp, by simp, by simp⟩

theorem Fls.chg {w w' : World} {base : Nat} {v : Value} {xs : List Fr} {gs : List Nat} (h : Fls w base v xs) (hb : Chg gs w w') (hg : ∀ g ∈ gs, g < base) : Fls w' base v xs := by
  refine ⟨hb.owns h.own (fun g e hm => ?_), fun x hx => (h.seen x hx).chg hb (fun b o e hm => ?_), fun x hx b o e => ?_, h.wf⟩
  · have := (World.ownsRow.lt h.own g e).1
    have := hg g hm
    omega
  · have := (h.off x hx b o e).1
    have := hg b hm
    omega
  · obtain ⟨h1, h2, h3⟩ := h.off x hx b o e
    exact ⟨h1, Nat.lt_of_lt_of_le h2 hb.size, h3⟩

theorem Fls.push {w w' : World} {base g' c' n : Nat} {v : Value} {xs : List Fr} {x : Fr} (h : Fls w base v xs) (hn : xs.length = n) (hg : w.grownBy w' v.ownBlock) (ho : w'.ownsRow base 62 2 (.slice (some ⟨g', 0, none⟩) (n + 1) c') (n + 1) (fvals xs ++ [.int .i64 x.pos, .slice x.loc x.data.length x.cap]))
    (hat : v.ownBlock = some g' ∨ w.heap.size ≤ g') (hs : SeenAt w x.loc x.cap x.data) (hf : ∀ b o, x.loc = some ⟨b, o, none⟩ → base ≤ b ∧ b < w.heap.size ∧ ∀ g, v.ownBlock = some g → b ≠ g) (hw : I64 x.pos) :
    Fls w' base (.slice (some ⟨g', 0, none⟩) (n + 1) c') (xs ++ [x]) := by
  have each : ∀ y : Fr, SeenAt w y.loc y.cap y.data → (∀ b o, y.loc = some ⟨b, o, none⟩ → base ≤ b ∧ b < w.heap.size ∧ ∀ g, v.ownBlock = some g → b ≠ g) →
      SeenAt w' y.loc y.cap y.data ∧ ∀ b o, y.loc = some ⟨b, o, none⟩ → base ≤ b ∧ b < w'.heap.size ∧ ∀ g, Value.ownBlock (.slice (some ⟨g', 0, none⟩) (n + 1) c') = some g → b ≠ g := by
    intro y hy hyf
    refine ⟨?_, fun b o e => ?_⟩
    · cases hv : v.ownBlock with
      | none => rw [hv] at hg; exact hy.below (below_grow hg)
      | some g =>
        rw [hv] at hg
        refine hy.chg (Chg.of_grown hg) (fun b o e hm => ?_)
        have : b = g := by simpa using hm
        exact (hyf b o e).2.2 g hv this
    · obtain ⟨h1, h2, h3⟩ := hyf b o e
      refine ⟨h1, Nat.lt_of_lt_of_le h2 hg.size, fun g e' => ?_⟩
      have : g' = g := by simpa [Value.ownBlock] using e'
      subst this
      rcases hat with hat | hat
      · exact h3 g' hat
      · omega
  refine ⟨by rw [List.length_append, hn, fvals_app]; exact ho, fun y hy => ?_, fun y hy => ?_, fun y hy => ?_⟩
  · rcases List.mem_append.mp hy with hy | hy
    · exact (each y (h.seen y hy) (h.off y hy)).1
    · rw [List.mem_singleton.mp hy]; exact (each x hs hf).1
  · rcases List.mem_append.mp hy with hy | hy
    · exact (each y (h.seen y hy) (h.off y hy)).2
    · rw [List.mem_singleton.mp hy]; exact (each x hs hf).2
  · rcases List.mem_append.mp hy with hy | hy
    · exact h.wf y hy
    · rw [List.mem_singleton.mp hy]; exact hw

theorem Fls.at_ {w : World} {base n c : Nat} {a : Option Addr} {xs : List Fr} (h : Fls w base (.slice a n c) xs) : xs.length = n ∧ FrsAt w a c xs := by
  have hx := h.own
  rcases hx.2 with ⟨hv, h0⟩ | ⟨g, cap', cur, hv, _, hg, hnc, hcm, _⟩
  · have e0 : xs = [] := List.length_eq_zero_iff.mp h0
    subst e0
    cases hv
    exact ⟨rfl, FrsAt.nil (Nat.zero_le _)⟩
  · cases hv
    refine ⟨rfl, ⟨hnc, hcm, fun i hi => ⟨g, 0, rfl, ?_, ?_, h.seen _ (getD_mem xs i fr0 hi)⟩, fun f hf => i64_wf (h.wf f hf)⟩⟩
    · rw [Nat.zero_add, World.ownsRow.cellAt h.own (i * 2) (by omega)]; exact fvals_pos xs i hi
    · rw [Nat.zero_add, World.ownsRow.cellAt h.own (i * 2 + 1) (by omega)]; exact fvals_data xs i hi

/-- Fragments read by the Reader at R, in new memory. -/
def RLfrg (H : Nat) (w : World) (R : Nat) (ps : List (Int × List Nat)) (s : Pk.St) (e : Ending) (w' : World) : Prop :=
  ∃ (fs : List Fr) (a : Option Addr) (c : Nat), e = .returned (.slice a fs.length c) ∧ ps = fs.map (fun f => (f.pos, f.data)) ∧ Kept w.heap.size w' (fun w2 => FrsAt w2 a c fs) ∧ RdrH H w' R s ∧ Chg [R] w w'

set_option maxRecDepth 100000 in
set_option maxHeartbeats 1000000 in
theorem readL_frg {H : Nat} (R : Nat) (m : Int) (s : Pk.St) (w : World) (h : RdrH H w R s) (hB : Gf.Bytes s.1) (hl : s.1.length ≤ 100000000) (hm0 : 0 ≤ m) (hm : m ≤ 1000000) :
    Calls Try.prog 92 #[.pointer (some ⟨R, 0, none⟩), .int .i64 m, .func (.func 93) #[] #[]] w (RLfrg H w R (rdL m (rd2 rdN rdT) s).1 (rdL m (rd2 rdN rdT) s).2) := by
  show Calls Try.prog _ _ w (RLfrg H w R (rdS (rd2 rdN rdT) (Pk.vC s m).toNat (Pk.nC s m)).1 (rdS (rd2 rdN rdT) (Pk.vC s m).toNat (Pk.nC s m)).2)
  have hc := vC_range s m hm0
  have hk := nC_keep s m hB
  have hRl := h.lt
  have hHl := h.home
  have HH := Lib.hid h
  clear h hB
  go_enter Try.func92, Try.ntmps92
  go_wp2_with fail
  refine (rCountH R m s _ HH.out).mono ?_
  rintro e w1 ⟨rfl, hr1, hb1⟩
  generalize Pk.vC s m = z at *
  generalize Pk.nC s m = s1 at *
  obtain ⟨n, rfl⟩ : ∃ n : Nat, z = (n : Int) := ⟨z.toNat, by omega⟩
  rw [Int.toNat_natCast]
  have HR1 := Lib.hid hr1
  have HB1 := Lib.hid hb1
  have HKB := Lib.hid hk.1
  have hkl := hk.2
  clear hr1 hb1 hk
  go_wp2
  go_loopw [7, 11] (fun v i ws => ∃ (k c : Nat) (a : Option Addr) (xs : List Fr), k ≤ n ∧ i = .int .i64 k ∧ v = .slice a k c ∧ Hid (xs.map (fun f => (f.pos, f.data)) = (rdS (rd2 rdN rdT) k s1).1) ∧ Hid (Fls ws w.heap.size (.slice a k c) xs) ∧ Hid (RdrH H ws R (rdS (rd2 rdN rdT) k s1).2) ∧ Hid (Chg [R] w ws)) (fun _ i _ => n - (intOf i).toNat)
  case atStart => exact ⟨0, 0, none, [], Nat.zero_le _, rfl, rfl, rfl, fls_nil _ _, HR1, HB1⟩
  case round =>
    obtain ⟨k, c, a, xs, hk, rfl, rfl, HM, HO, HR, HC⟩ := hrel
    by_cases hlt : k < n
    · have HL : Hid (xs.length = k) := HO.out.at_.1
      have HN1 : Hid ((rdS (rd2 rdN rdT) (k + 1) s1).1 = (rdS (rd2 rdN rdT) k s1).1 ++ [((rd2 rdN rdT) (rdS (rd2 rdN rdT) k s1).2).1]) := by show _ = _; rw [rdS_succ]
      have HN2 : Hid ((rdS (rd2 rdN rdT) (k + 1) s1).2 = ((rd2 rdN rdT) (rdS (rd2 rdN rdT) k s1).2).2) := by show _ = _; rw [rdS_succ]
      have hkk := rdS_keep (rd2_can rdN_can rdT_can) s1 HKB.out k
      generalize (rdS (rd2 rdN rdT) k s1).1 = es at *
      generalize (rdS (rd2 rdN rdT) k s1).2 = sk at *
      have HWF : Hid (I64 (rd2 rdN rdT sk).1.1) := vN_i64 sk
      go_wp2_with fail
      refine (readFrag_any R sk _ HR.out hkk.1 (by omega)).mono ?_
      rintro e w2 ⟨loc, cp, rfl, hs2, hf2, hr2, hb2⟩
      generalize (rd2 rdN rdT sk).1 = p at *
      generalize (rd2 rdN rdT sk).2 = sk1 at *
      have hoR : ∀ g, Value.ownBlock (.slice a k c) = some g → R ≠ g ∧ H ≠ g ∧ w.heap.size ≤ g ∧ g < wr.heap.size := fun g hg => by
        have := World.ownsRow.lt HO.out.own g hg
        omega
      have hb3 := below_one w2 (.cells #[.int .i64 p.1, .slice loc p.2.length cp] 62)
      have HO2 := Lib.hid ((HO.out.chg hb2 (by simpa using hRl)).chg (gs := []) (Chg.of_below hb3) (by simp))
      have HR2 := Lib.hid (hr2.below hb3)
      have HC2 := Lib.hid ((HC.out.trans hb2).wide (Chg.of_below (gs := []) hb3) (by simp))
      have HS2 := Lib.hid (hs2.below hb3)
      have HF2 : Hid (∀ b o, loc = some ⟨b, o, none⟩ → w.heap.size ≤ b ∧ b < (w2.alloc (.cells #[.int .i64 p.1, .slice loc p.2.length cp] 62)).heap.size ∧ ∀ g, Value.ownBlock (.slice a k c) = some g → b ≠ g) := fun b o e => by
        have h0 := HC.out.size
        have h1 := hb3.size
        rcases hf2 with e' | ⟨b', o', e', h2, h3⟩
        · rw [e'] at e; cases e
        · rw [e'] at e
          cases e
          exact ⟨by omega, by omega, fun g hg => by have := (hoR g hg).2.2.2; omega⟩
      have HX : Hid (∀ j u, ([.int .i64 p.1, .slice loc p.2.length cp] : List Value)[j]? = some u → (w2.alloc (.cells #[.int .i64 p.1, .slice loc p.2.length cp] 62)).cell? ⟨w2.heap.size, j, none⟩ = some u) := fun j u hj => by
        rw [World.cell?_alloc_mark, ← Array.getElem?_toList]
        exact hj
      have HOR := Lib.hid hoR
      have hz2 := HC2.out.size
      have HOW : Hid ((w2.alloc (.cells #[.int .i64 p.1, .slice loc p.2.length cp] 62)).ownsRow w.heap.size 62 2 (.slice a k c) k (fvals xs)) := by have h := HO2.out.own; rw [HL.out] at h; exact h
      clear hs2 hf2 hr2 hb2 hoR hb3
      go_wp2_with (at_builtin; refine wpList_app1 rfl (.tmp 13) (.tmp 17) 27 62 _ 2 32 rfl Try.underlying27 infoF rfl (by omega) (by omega) w.heap.size _ k _ rfl HOW.out [.int .i64 p.1, .slice loc p.2.length cp] _ 1 rfl rfl HX.out (by intro u hu; simp at hu; rcases hu with rfl | rfl <;> rfl) (by omega) hz2 ?_; intro g3 c3 w3 ho3 hg3 hat3)
      have HO3 := Lib.hid (HO2.out.push (x := ⟨p.1, loc, cp, p.2⟩) HL.out hg3 ho3 hat3 HS2.out HF2.out HWF.out)
      have HM3 : Hid ((xs ++ [(⟨p.1, loc, cp, p.2⟩ : Fr)]).map (fun f => (f.pos, f.data)) = (rdS (rd2 rdN rdT) (k + 1) s1).1) := by
        show _ = _
        rw [HN1.out, List.map_append, HM.out]
        rfl
      have HR3 : Hid (RdrH H w3 R (rdS (rd2 rdN rdT) (k + 1) s1).2) := by
        show RdrH _ _ _ _
        rw [HN2.out]
        exact HR2.out.grown hg3 (fun g hg => by have := HOR.out g hg; omega)
      have HC3 := Lib.hid (chg_grown HC2.out hg3 (fun g hg => (HOR.out g hg).2.2.1))
      clear ho3 hg3 hat3
      go_roundw
      case rel => exact ⟨k + 1, c3, some ⟨g3, 0, none⟩, _, by omega, by go_num, rfl, HM3, HO3, HR3, HC3⟩
      case measure => simp [intOf]; omega
    · obtain rfl : k = n := by omega
      have HF : Hid (RLfrg H w R (rdS (rd2 rdN rdT) k s1).1 (rdS (rd2 rdN rdT) k s1).2 (.returned (.slice a k c)) wr) :=
        ⟨xs, a, c, by rw [HO.out.at_.1], HM.out.symm, fun gs w2 hb hg => (HO.out.chg hb hg).at_.2, HR.out, HC.out⟩
      go_wp2
      go_ret
      exact HF.out

end Go.Proofs.Ytggjpjpemgpeeaa
