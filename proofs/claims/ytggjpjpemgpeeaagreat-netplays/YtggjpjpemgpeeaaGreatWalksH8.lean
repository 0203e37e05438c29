/-
  readFrag, fields.ReadList of it, readMessage.
  readMessage.
-/
import Derived.Test.YtggjpjpemgpeeaaGreatWalksH4
import Derived.Test.YtggjpjpemgpeeaaGreatArgE
import Derived.Test.YtggjpjpemgpeeaaGreatMgM
import Derived.Test.YtggjpjpemgpeeaaGreatWalksH1
import Derived.Test.YtggjpjpemgpeeaaGreatLd2
namespace Go.Proofs.YtggjpjpemgpeeaaGreat
open Go.RowKit

theorem i64_wf {z : Int} (h : I64 z) : (Lit.int .i64 z).wf = true := by
  have : -9223372036854775808 ≤ z ∧ z ≤ 9223372036854775807 := h
  simpa [Lit.wf, IntKind.min, IntKind.max, IntKind.signed, IntKind.bits] using this

/-- A fragment read by the Reader at R. -/
def RFr (H : Nat) (w : World) (R : Nat) (f : Int × List Nat) (s : Pk.St) (e : Ending) (w' : World) : Prop :=
  ∃ loc cap, e = .returned (.agg #[.int .i64 f.1, .slice loc f.2.length cap]) ∧ SeenAt w' loc cap f.2 ∧ Fresh w w' loc ∧ RdrH H w' R s ∧ Chg [R] w w'

set_option maxRecDepth 100000 in
set_option maxHeartbeats 1000000 in
theorem readFrag_any {H : Nat} (R : Nat) (s : Pk.St) (w : World) (h : RdrH H w R s) (hB : Gf.Bytes s.1) (hl : s.1.length ≤ 100000000) :
    Calls Tryz.prog 78 #[.pointer (some ⟨R, 0, none⟩)] w (RFr H w R (rd2 rdN rdT s).1 (rd2 rdN rdT s).2) := by
  show Calls Tryz.prog 78 #[.pointer (some ⟨R, 0, none⟩)] w (RFr H w R (Pk.vN s, Pk.vT (Pk.nN s)) (Pk.nT (Pk.nN s)))
  have hRl := h.lt
  have hHl := h.home
  have hk := nN_keep s hB
  have HB0 : Hid (Below w.heap.size w (w.alloc (.cells #[.int .i64 0, .slice none 0 0] 70))) := below_one w _
  have HR0 := Lib.hid (h.below HB0.out)
  have HX0 := Lib.hid (bx_new w #[.int .i64 0, .slice none 0 0] 70)
  clear h hB
  go_enter Tryz.func78, Tryz.ntmps78
  go_wp2_with fail
  generalize w.alloc (.cells #[.int .i64 0, .slice none 0 0] 70) = w0 at *
  refine (rNumH R s _ HR0.out).mono ?_
  rintro e w1 ⟨rfl, hr1, hb1⟩
  have HX1 := Lib.hid (HX0.out.chg hb1 (by simp; omega))
  have HR1 := Lib.hid hr1
  have HC1 : Hid (Chg [R] w w1) := (Chg.of_below HB0.out).trans hb1
  have hs1 : w.heap.size ≤ w1.heap.size := HC1.out.size
  clear hr1 hb1 HX0 HR0 HB0
  generalize hz1 : Pk.vN s = z1 at *
  generalize hn1 : Pk.nN s = s1 at *
  have HZ1 := Lib.hid hz1
  have HN1 := Lib.hid hn1
  clear hz1 hn1
  go_wp2_with fail
  refine (rTextH R s1 _ HR1.out (by omega)).mono ?_
  rintro e w2 ⟨a, c, rfl, hs2, hr2, hb2, hf2⟩
  have HX2 := Lib.hid (HX1.out.chg hb2 (by simp; omega))
  have HC2 := Lib.hid (HC1.out.trans hb2)
  have HR2 := Lib.hid hr2
  have HS2 := Lib.hid hs2
  have HF2 := Lib.hid hf2
  clear hr2 hb2 HX1 HR1 HC1 hs2 hf2
  generalize hz2 : Pk.vT s1 = z2 at *
  generalize hn2 : Pk.nT s1 = s2 at *
  have HZ2 := Lib.hid hz2
  have HN2 := Lib.hid hn2
  clear hz2 hn2
  obtain ⟨lz, hlz⟩ : ∃ q, z2.length = q := ⟨_, rfl⟩
  have HLZ := Lib.hid hlz
  rw [hlz]
  clear hlz
  have k0 := HX2.out.cell 0 (.int .i64 0) rfl
  have k1 := HX2.out.cell 1 (.slice none 0 0) rfl
  have f0 := HX2.out.free 0
  have f1 := HX2.out.free 1
  have HX4 : Hid (Bx ((w2.setCell ⟨w.heap.size, 0, none⟩ (.int .i64 z1)).setCell ⟨w.heap.size, 1, none⟩ (.slice a lz c)) w.heap.size 70 #[.int .i64 z1, .slice a lz c]) := (HX2.out.set2 0 (.int .i64 z1) (C' := #[.int .i64 z1, .slice none 0 0]) (by simp)).set2 1 (.slice a lz c) (by simp)
  have HC4 : Hid (Chg [w.heap.size] w2 ((w2.setCell ⟨w.heap.size, 0, none⟩ (.int .i64 z1)).setCell ⟨w.heap.size, 1, none⟩ (.slice a lz c))) := (chg_set _ _ _ _).trans (chg_set _ _ _ _)
  have HR4 := Lib.hid (HR2.out.other HC4.out (by omega) (by omega))
  have HCF := Lib.hid (HC2.out.wide HC4.out (by simp))
  have HS4 := Lib.hid (HS2.out.other HC4.out (HX2.out.no rfl))
  have HF4 := Lib.hid (Fresh.widen HF2.out hs1 HC4.out.size)
  go_wp2_with fail
  generalize (w2.setCell ⟨w.heap.size, 0, none⟩ (.int .i64 z1)).setCell ⟨w.heap.size, 1, none⟩ (.slice a lz c) = w4 at *
  have q0 := HX4.out.cell 0 (.int .i64 z1) rfl
  have q1 := HX4.out.cell 1 (.slice a lz c) rfl
  refine bodyPost_ret (v := .agg #[.int .i64 z1, .slice a lz c]) (by simp [results, Tryz.results78, go_sem, q0, q1]) rfl ?_
  exact ⟨a, c, by rw [HLZ.out], HS4.out, HF4.out, HR4.out, HCF.out⟩

/-- A slice of fragments of the call's own (or nil), their bytes in other blocks that are new too. -/
structure Fls (w : World) (base : Nat) (v : Value) (xs : List Fr) : Prop where
  own : w.ownsRow base 70 2 v xs.length (fvals xs)
  seen : ∀ x ∈ xs, SeenAt w x.loc x.cap x.data
  off : ∀ x ∈ xs, ∀ b o, x.loc = some ⟨b, o, none⟩ → base ≤ b ∧ b < w.heap.size ∧ ∀ g, v.ownBlock = some g → b ≠ g
  wf : ∀ x ∈ xs, I64 x.pos

theorem fls_nil (w : World) (base : Nat) : Fls w base (.slice none 0 0) [] := ⟨World.ownsRow_nil _ _ _ _, by simp, by simp, by simp⟩

theorem Fls.chg {w w' : World} {base : Nat} {v : Value} {xs : List Fr} {gs : List Nat} (h : Fls w base v xs) (hb : Chg gs w w') (hg : ∀ g ∈ gs, g < base) : Fls w' base v xs := by
  refine ⟨hb.owns h.own (fun g e hm => ?_), fun x hx => (h.seen x hx).chg hb (fun b o e hm => ?_), fun x hx b o e => ?_, h.wf⟩
  · have := (World.ownsRow.lt h.own g e).1
    have := hg g hm
    omega
  · have := (h.off x hx b o e).1
    have := hg b hm
    omega
  · obtain ⟨h1, h2, h3⟩ := h.off x hx b o e
    exact ⟨h1, Nat.lt_of_lt_of_le h2 hb.size, h3⟩

theorem Fls.push {w w' : World} {base g' c' n : Nat} {v : Value} {xs : List Fr} {x : Fr} (h : Fls w base v xs) (hn : xs.length = n) (hg : w.grownBy w' v.ownBlock) (ho : w'.ownsRow base 70 2 (.slice (some ⟨g', 0, none⟩) (n + 1) c') (n + 1) (fvals xs ++ [.int .i64 x.pos, .slice x.loc x.data.length x.cap]))
    (hat : v.ownBlock = some g' ∨ w.heap.size ≤ g') (hs : SeenAt w x.loc x.cap x.data) (hf : ∀ b o, x.loc = some ⟨b, o, none⟩ → base ≤ b ∧ b < w.heap.size ∧ ∀ g, v.ownBlock = some g → b ≠ g) (hw : I64 x.pos) :
    Fls w' base (.slice (some ⟨g', 0, none⟩) (n + 1) c') (xs ++ [x]) := by
  have each : ∀ y : Fr, SeenAt w y.loc y.cap y.data → (∀ b o, y.loc = some ⟨b, o, none⟩ → base ≤ b ∧ b < w.heap.size ∧ ∀ g, v.ownBlock = some g → b ≠ g) →
      SeenAt w' y.loc y.cap y.data ∧ ∀ b o, y.loc = some ⟨b, o, none⟩ → base ≤ b ∧ b < w'.heap.size ∧ ∀ g, Value.ownBlock (.slice (some ⟨g', 0, none⟩) (n + 1) c') = some g → b ≠ g := by
    intro y hy hyf
    refine ⟨?_, fun b o e => ?_⟩
    · cases hv : v.ownBlock with
      | none => rw [hv] at hg; exact hy.below (below_grow hg)
      | some g =>
        rw [hv] at hg
        refine hy.chg (Chg.of_grown hg) (fun b o e hm => ?_)
        have : b = g := by simpa using hm
        exact (hyf b o e).2.2 g hv this
    · obtain ⟨h1, h2, h3⟩ := hyf b o e
      refine ⟨h1, Nat.lt_of_lt_of_le h2 hg.size, fun g e' => ?_⟩
      have : g' = g := by simpa [Value.ownBlock] using e'
      subst this
      rcases hat with hat | hat
      · exact h3 g' hat
      · omega
  refine ⟨by rw [List.length_append, hn, fvals_app]; exact ho, fun y hy => ?_, fun y hy => ?_, fun y hy => ?_⟩
  · rcases List.mem_append.mp hy with hy | hy
    · exact (each y (h.seen y hy) (h.off y hy)).1
    · rw [List.mem_singleton.mp hy]; exact (each x hs hf).1
  · rcases List.mem_append.mp hy with hy | hy
    · exact (each y (h.seen y hy) (h.off y hy)).2
    · rw [List.mem_singleton.mp hy]; exact (each x hs hf).2
  · rcases List.mem_append.mp hy with hy | hy
    · exact h.wf y hy
    · rw [List.mem_singleton.mp hy]; exact hw

theorem Fls.at_ {w : World} {base n c : Nat} {a : Option Addr} {xs : List Fr} (h : Fls w base (.slice a n c) xs) : xs.length = n ∧ FrsAt w a c xs := by
  have hx := h.own
  rcases hx.2 with ⟨hv, h0⟩ | ⟨g, cap', cur, hv, _, hg, hnc, hcm, _⟩
  · have e0 : xs = [] := List.length_eq_zero_iff.mp h0
    subst e0
    cases hv
    exact ⟨rfl, FrsAt.nil (Nat.zero_le _)⟩
  · cases hv
    refine ⟨rfl, ⟨hnc, hcm, fun i hi => ⟨g, 0, rfl, ?_, ?_, h.seen _ (getD_mem xs i fr0 hi)⟩, fun f hf => i64_wf (h.wf f hf)⟩⟩
    · rw [Nat.zero_add, World.ownsRow.cellAt h.own (i * 2) (by omega)]; exact fvals_pos xs i hi
    · rw [Nat.zero_add, World.ownsRow.cellAt h.own (i * 2 + 1) (by omega)]; exact fvals_data xs i hi

/-- Fragments read by the Reader at R, in new memory. -/
def RLfrg (H : Nat) (w : World) (R : Nat) (ps : List (Int × List Nat)) (s : Pk.St) (e : Ending) (w' : World) : Prop :=
  ∃ (fs : List Fr) (a : Option Addr) (c : Nat), e = .returned (.slice a fs.length c) ∧ ps = fs.map (fun f => (f.pos, f.data)) ∧ Kept w.heap.size w' (fun w2 => FrsAt w2 a c fs) ∧ RdrH H w' R s ∧ Chg [R] w w'

set_option maxRecDepth 100000 in
set_option maxHeartbeats 1000000 in
theorem readL_frg {H : Nat} (R : Nat) (m : Int) (s : Pk.St) (w : World) (h : RdrH H w R s) (hB : Gf.Bytes s.1) (hl : s.1.length ≤ 100000000) (hm0 : 0 ≤ m) (hm : m ≤ 1000000) :
    Calls Tryz.prog 77 #[.pointer (some ⟨R, 0, none⟩), .int .i64 m, .func (.func 78) #[] #[]] w (RLfrg H w R (rdL m (rd2 rdN rdT) s).1 (rdL m (rd2 rdN rdT) s).2) := by
  show Calls Tryz.prog _ _ w (RLfrg H w R (rdS (rd2 rdN rdT) (Pk.vC s m).toNat (Pk.nC s m)).1 (rdS (rd2 rdN rdT) (Pk.vC s m).toNat (Pk.nC s m)).2)
  have hc := vC_range s m hm0
  have hk := nC_keep s m hB
  have hRl := h.lt
  have hHl := h.home
  have HH := Lib.hid h
  clear h hB
  go_enter Tryz.func77, Tryz.ntmps77
  go_wp2_with fail
  refine (rCountH R m s _ HH.out).mono ?_
  rintro e w1 ⟨rfl, hr1, hb1⟩
  generalize Pk.vC s m = z at *
  generalize Pk.nC s m = s1 at *
  obtain ⟨n, rfl⟩ : ∃ n : Nat, z = (n : Int) := ⟨z.toNat, by omega⟩
  rw [Int.toNat_natCast]
  have HR1 := Lib.hid hr1
  have HB1 := Lib.hid hb1
  have HKB := Lib.hid hk.1
  have hkl := hk.2
  clear hr1 hb1 hk
  go_wp2
  go_loopw [7, 11] (fun v i ws => ∃ (k c : Nat) (a : Option Addr) (xs : List Fr), k ≤ n ∧ i = .int .i64 k ∧ v = .slice a k c ∧ Hid (xs.map (fun f => (f.pos, f.data)) = (rdS (rd2 rdN rdT) k s1).1) ∧ Hid (Fls ws w.heap.size (.slice a k c) xs) ∧ Hid (RdrH H ws R (rdS (rd2 rdN rdT) k s1).2) ∧ Hid (Chg [R] w ws)) (fun _ i _ => n - (intOf i).toNat)
  case atStart => exact ⟨0, 0, none, [], Nat.zero_le _, rfl, rfl, rfl, fls_nil _ _, HR1, HB1⟩
  case round =>
    obtain ⟨k, c, a, xs, hk, rfl, rfl, HM, HO, HR, HC⟩ := hrel
    by_cases hlt : k < n
    · have HL : Hid (xs.length = k) := HO.out.at_.1
      have HN1 : Hid ((rdS (rd2 rdN rdT) (k + 1) s1).1 = (rdS (rd2 rdN rdT) k s1).1 ++ [((rd2 rdN rdT) (rdS (rd2 rdN rdT) k s1).2).1]) := by show _ = _; rw [rdS_succ]
      have HN2 : Hid ((rdS (rd2 rdN rdT) (k + 1) s1).2 = ((rd2 rdN rdT) (rdS (rd2 rdN rdT) k s1).2).2) := by show _ = _; rw [rdS_succ]
      have hkk := rdS_keep (rd2_can rdN_can rdT_can) s1 HKB.out k
      generalize (rdS (rd2 rdN rdT) k s1).1 = es at *
      generalize (rdS (rd2 rdN rdT) k s1).2 = sk at *
      have HWF : Hid (I64 (rd2 rdN rdT sk).1.1) := vN_i64 sk
      go_wp2_with fail
      refine (readFrag_any R sk _ HR.out hkk.1 (by omega)).mono ?_
      rintro e w2 ⟨loc, cp, rfl, hs2, hf2, hr2, hb2⟩
      generalize (rd2 rdN rdT sk).1 = p at *
      generalize (rd2 rdN rdT sk).2 = sk1 at *
      have hoR : ∀ g, Value.ownBlock (.slice a k c) = some g → R ≠ g ∧ H ≠ g ∧ w.heap.size ≤ g ∧ g < wr.heap.size := fun g hg => by
        have := World.ownsRow.lt HO.out.own g hg
        omega
      have hb3 := below_one w2 (.cells #[.int .i64 p.1, .slice loc p.2.length cp] 70)
      have HO2 := Lib.hid ((HO.out.chg hb2 (by simpa using hRl)).chg (gs := []) (Chg.of_below hb3) (by simp))
      have HR2 := Lib.hid (hr2.below hb3)
      have HC2 := Lib.hid ((HC.out.trans hb2).wide (Chg.of_below (gs := []) hb3) (by simp))
      have HS2 := Lib.hid (hs2.below hb3)
      have HF2 : Hid (∀ b o, loc = some ⟨b, o, none⟩ → w.heap.size ≤ b ∧ b < (w2.alloc (.cells #[.int .i64 p.1, .slice loc p.2.length cp] 70)).heap.size ∧ ∀ g, Value.ownBlock (.slice a k c) = some g → b ≠ g) := fun b o e => by
        have h0 := HC.out.size
        have h1 := hb3.size
        rcases hf2 with e' | ⟨b', o', e', h2, h3⟩
        · rw [e'] at e; cases e
        · rw [e'] at e
          cases e
          exact ⟨by omega, by omega, fun g hg => by have := (hoR g hg).2.2.2; omega⟩
      have HX : Hid (∀ j u, ([.int .i64 p.1, .slice loc p.2.length cp] : List Value)[j]? = some u → (w2.alloc (.cells #[.int .i64 p.1, .slice loc p.2.length cp] 70)).cell? ⟨w2.heap.size, j, none⟩ = some u) := fun j u hj => by
        rw [World.cell?_alloc_mark, ← Array.getElem?_toList]
        exact hj
      have HOR := Lib.hid hoR
      have hz2 := HC2.out.size
      have HOW : Hid ((w2.alloc (.cells #[.int .i64 p.1, .slice loc p.2.length cp] 70)).ownsRow w.heap.size 70 2 (.slice a k c) k (fvals xs)) := by have h := HO2.out.own; rw [HL.out] at h; exact h
      clear hs2 hf2 hr2 hb2 hoR hb3
      go_wp2_with (at_builtin; refine wpList_app1 rfl (.tmp 13) (.tmp 17) 32 70 _ 2 32 rfl Tryz.underlying32 infoF rfl (by omega) (by omega) w.heap.size _ k _ rfl HOW.out [.int .i64 p.1, .slice loc p.2.length cp] _ 1 rfl rfl HX.out (by intro u hu; simp at hu; rcases hu with rfl | rfl <;> rfl) (by omega) hz2 ?_; intro g3 c3 w3 ho3 hg3 hat3)
      have HO3 := Lib.hid (HO2.out.push (x := ⟨p.1, loc, cp, p.2⟩) HL.out hg3 ho3 hat3 HS2.out HF2.out HWF.out)
      have HM3 : Hid ((xs ++ [(⟨p.1, loc, cp, p.2⟩ : Fr)]).map (fun f => (f.pos, f.data)) = (rdS (rd2 rdN rdT) (k + 1) s1).1) := by
        show _ = _
        rw [HN1.out, List.map_append, HM.out]
        rfl
      have HR3 : Hid (RdrH H w3 R (rdS (rd2 rdN rdT) (k + 1) s1).2) := by
        show RdrH _ _ _ _
        rw [HN2.out]
        exact HR2.out.grown hg3 (fun g hg => by have := HOR.out g hg; omega)
      have HC3 := Lib.hid (chg_grown HC2.out hg3 (fun g hg => (HOR.out g hg).2.2.1))
      clear ho3 hg3 hat3
      go_roundw
      case rel => exact ⟨k + 1, c3, some ⟨g3, 0, none⟩, _, by omega, by go_num, rfl, HM3, HO3, HR3, HC3⟩
      case measure => simp [intOf]; omega
    · obtain rfl : k = n := by omega
      have HF : Hid (RLfrg H w R (rdS (rd2 rdN rdT) k s1).1 (rdS (rd2 rdN rdT) k s1).2 (.returned (.slice a k c)) wr) :=
        ⟨xs, a, c, by rw [HO.out.at_.1], HM.out.symm, fun gs w2 hb hg => (HO.out.chg hb hg).at_.2, HR.out, HC.out⟩
      go_wp2
      go_ret
      exact HF.out

end Go.Proofs.YtggjpjpemgpeeaaGreat

namespace Go.Proofs.YtggjpjpemgpeeaaGreat
open Go.RowKit

theorem RdI.storeN {H : Nat} {w0 w w' : World} {R : Nat} {s : Pk.St} {t : TypeId} {Z C C' : Array Value} (h : RdI H w0 w R s t Z C) (hx : Bx w' (w0.heap.size + 1) t C') (hc : Chg [w0.heap.size + 1] w w') (hn : C'.toList.all notU8 = true) : RdI H w0 w' R s t Z C' :=
  ⟨h.rdr.other hc (by have := h.lt; omega) (by have := h.home; omega), h.z.chg hc (by simp), hx, h.chg.wide hc (by simp), h.lt, h.home, hn, h.noz⟩

theorem keepC {α : Type} {f : Pk.St → α × Pk.St} {enc : α → List Nat} (hc : Can f enc) {s s' : Pk.St} {N : Nat} (hn : (f s).2 = s') (K : Gf.Bytes s.1 ∧ s.1.length ≤ N) : Gf.Bytes s'.1 ∧ s'.1.length ≤ N := by
  subst hn
  have := hc.keep s K.1
  exact ⟨this.1, Nat.le_trans this.2 K.2⟩

theorem rd2_eq {α β : Type} {f : Pk.St → α × Pk.St} {g : Pk.St → β × Pk.St} {s s1 s2 : Pk.St} {x : α} {y : β} (h1 : (f s).1 = x) (h2 : (f s).2 = s1) (h3 : g s1 = (y, s2)) : rd2 f g s = ((x, y), s2) := by
  unfold rd2
  rw [h1, h2, h3]

section
variable {H : Nat} {R : Nat} {s s' : Pk.St} {w : World}

theorem at_num {z : Int} (h : RdrH H w R s) (hv : Pk.vN s = z) (hn : Pk.nN s = s') : Calls Tryz.prog 74 #[.pointer (some ⟨R, 0, none⟩)] w (RIntH H w R z s') := by
  subst hv hn
  exact rNumH R s w h

theorem at_ints {M : List Int} (h : RdrH H w R s) (hv : (rdL 16 rdN s).1 = M) (hn : (rdL 16 rdN s).2 = s') :
    Calls Tryz.prog 75 #[.pointer (some ⟨R, 0, none⟩), .int .i64 16, .func (.func 74) #[] #[]] w (RLi H w R M s') := by
  subst hv hn
  exact readInts_any R 16 s w h (by omega) (by omega)

theorem at_ent {E : Pe} (h : RdrH H w R s) (K : Gf.Bytes s.1 ∧ s.1.length ≤ 100000000) (hv : (rdE s).1 = E) (hn : (rdE s).2 = s') :
    Calls Tryz.prog 76 #[.pointer (some ⟨R, 0, none⟩)] w (REn H w R E s') := by
  subst hv hn
  exact readEntry_any R s w h K.2

theorem at_frs {F : List (Int × List Nat)} (h : RdrH H w R s) (K : Gf.Bytes s.1 ∧ s.1.length ≤ 100000000) (hv : (rdL 16 (rd2 rdN rdT) s).1 = F) (hn : (rdL 16 (rd2 rdN rdT) s).2 = s') :
    Calls Tryz.prog 77 #[.pointer (some ⟨R, 0, none⟩), .int .i64 16, .func (.func 78) #[] #[]] w (RLfrg H w R F s') := by
  subst hv hn
  exact readL_frg R 16 s w h K.1 K.2 (by omega) (by omega)

theorem at_keys {F : List (List Nat)} (h : RdrH H w R s) (K : Gf.Bytes s.1 ∧ s.1.length ≤ 100000000) (hv : (rdL 4096 rdT s).1 = F) (hn : (rdL 4096 rdT s).2 = s') :
    Calls Tryz.prog 79 #[.pointer (some ⟨R, 0, none⟩), .int .i64 4096, .func (.func 80) #[] #[]] w (RLstr H w R F s') := by
  subst hv hn
  exact readL_str R 4096 s w h K.1 K.2 (by omega) (by omega)

theorem at_srcs {F : List (Int × Int)} (h : RdrH H w R s) (K : Gf.Bytes s.1 ∧ s.1.length ≤ 100000000) (hv : (rdL 16 (rd2 rdN rdN) s).1 = F) (hn : (rdL 16 (rd2 rdN rdN) s).2 = s') :
    Calls Tryz.prog 81 #[.pointer (some ⟨R, 0, none⟩), .int .i64 16, .func (.func 82) #[] #[]] w (RLsrc H w R F s') := by
  subst hv hn
  exact readL_src R 16 s w h K.1 K.2 (by omega) (by omega)

theorem at_ents {F : List Pe} (h : RdrH H w R s) (K : Gf.Bytes s.1 ∧ s.1.length ≤ 100000000) (hv : (rdL 4096 rdE s).1 = F) (hn : (rdL 4096 rdE s).2 = s') :
    Calls Tryz.prog 83 #[.pointer (some ⟨R, 0, none⟩), .int .i64 4096, .func (.func 76) #[] #[]] w (RLe H w R F s') := by
  subst hv hn
  exact readEnts_any R 4096 s w h K.1 K.2 (by omega) (by omega)

end

/-- A message read by the Reader at R, in new memory. -/
def RMsg (H : Nat) (w : World) (R : Nat) (m : Pm) (s : Pk.St) (e : Ending) (w' : World) : Prop :=
  ∃ r : Rm, r.m = m ∧ e = .returned (.agg r.cells) ∧ Kept w.heap.size w' (fun w2 => MsgAt w2 r) ∧ RdrH H w' R s ∧ Chg [R] w w'

set_option maxRecDepth 100000 in
set_option maxHeartbeats 8000000 in
theorem readMessage_any {H : Nat} (R : Nat) (s : Pk.St) (w : World) (h : RdrH H w R s) (K : Gf.Bytes s.1 ∧ s.1.length ≤ 100000000) :
    Calls Tryz.prog 52 #[.pointer (some ⟨R, 0, none⟩)] w (RMsg H w R (ofTup (rdTM s).1) (rdTM s).2) := by
  have HI0 := Lib.hid (rdI_new w R s 40 #[.int .i64 0, .int .i64 0, .int .i64 0, .int .i64 0, .int .i64 0, .int .i64 0, .int .i64 0, .int .i64 0, .string ⟨#[]⟩, .int .i64 0, .int .u32 0, .slice none 0 0, .int .i64 0, .slice none 0 0, .slice none 0 0, .int .i64 0, .slice none 0 0, .slice none 0 0, .slice none 0 0] h rfl)
  have hRl := h.lt
  have hHl := h.home
  have HWF0 := Lib.hid (wf_of (rdTM_ok s K.1 (by have := K.2; omega)))
  have K0 := Lib.hid K
  clear h K
  obtain ⟨z1, e1⟩ : ∃ q, Pk.vN s = q := ⟨_, rfl⟩
  obtain ⟨s1, n1⟩ : ∃ q, Pk.nN s = q := ⟨_, rfl⟩
  have K1 := Lib.hid (keepC (s := s) (s' := s1) rdN_can n1 K0.out)
  obtain ⟨z2, e2⟩ : ∃ q, Pk.vN s1 = q := ⟨_, rfl⟩
  obtain ⟨s2, n2⟩ : ∃ q, Pk.nN s1 = q := ⟨_, rfl⟩
  have K2 := Lib.hid (keepC (s := s1) (s' := s2) rdN_can n2 K1.out)
  obtain ⟨z3, e3⟩ : ∃ q, Pk.vN s2 = q := ⟨_, rfl⟩
  obtain ⟨s3, n3⟩ : ∃ q, Pk.nN s2 = q := ⟨_, rfl⟩
  have K3 := Lib.hid (keepC (s := s2) (s' := s3) rdN_can n3 K2.out)
  obtain ⟨z4, e4⟩ : ∃ q, Pk.vN s3 = q := ⟨_, rfl⟩
  obtain ⟨s4, n4⟩ : ∃ q, Pk.nN s3 = q := ⟨_, rfl⟩
  have K4 := Lib.hid (keepC (s := s3) (s' := s4) rdN_can n4 K3.out)
  obtain ⟨z5, e5⟩ : ∃ q, Pk.vN s4 = q := ⟨_, rfl⟩
  obtain ⟨s5, n5⟩ : ∃ q, Pk.nN s4 = q := ⟨_, rfl⟩
  have K5 := Lib.hid (keepC (s := s4) (s' := s5) rdN_can n5 K4.out)
  obtain ⟨z6, e6⟩ : ∃ q, Pk.vN s5 = q := ⟨_, rfl⟩
  obtain ⟨s6, n6⟩ : ∃ q, Pk.nN s5 = q := ⟨_, rfl⟩
  have K6 := Lib.hid (keepC (s := s5) (s' := s6) rdN_can n6 K5.out)
  obtain ⟨M, e7⟩ : ∃ q, (rdL 16 rdN s6).1 = q := ⟨_, rfl⟩
  obtain ⟨s7, n7⟩ : ∃ q, (rdL 16 rdN s6).2 = q := ⟨_, rfl⟩
  have K7 := Lib.hid (keepC (s := s6) (s' := s7) (rdL_can 16 rdN_can) n7 K6.out)
  obtain ⟨E, e8⟩ : ∃ q, (rdE s7).1 = q := ⟨_, rfl⟩
  obtain ⟨s8, n8⟩ : ∃ q, (rdE s7).2 = q := ⟨_, rfl⟩
  have K8 := Lib.hid (keepC (s := s7) (s' := s8) rdE_can n8 K7.out)
  obtain ⟨F, e9⟩ : ∃ q, (rdL 16 (rd2 rdN rdT) s8).1 = q := ⟨_, rfl⟩
  obtain ⟨s9, n9⟩ : ∃ q, (rdL 16 (rd2 rdN rdT) s8).2 = q := ⟨_, rfl⟩
  have K9 := Lib.hid (keepC (s := s8) (s' := s9) (rdL_can 16 (rd2_can rdN_can rdT_can)) n9 K8.out)
  obtain ⟨K, e10⟩ : ∃ q, (rdL 4096 rdT s9).1 = q := ⟨_, rfl⟩
  obtain ⟨s10, n10⟩ : ∃ q, (rdL 4096 rdT s9).2 = q := ⟨_, rfl⟩
  have K10 := Lib.hid (keepC (s := s9) (s' := s10) (rdL_can 4096 rdT_can) n10 K9.out)
  obtain ⟨S, e11⟩ : ∃ q, (rdL 16 (rd2 rdN rdN) s10).1 = q := ⟨_, rfl⟩
  obtain ⟨s11, n11⟩ : ∃ q, (rdL 16 (rd2 rdN rdN) s10).2 = q := ⟨_, rfl⟩
  have K11 := Lib.hid (keepC (s := s10) (s' := s11) (rdL_can 16 (rd2_can rdN_can rdN_can)) n11 K10.out)
  obtain ⟨N, e12⟩ : ∃ q, (rdL 4096 rdE s11).1 = q := ⟨_, rfl⟩
  obtain ⟨s12, n12⟩ : ∃ q, (rdL 4096 rdE s11).2 = q := ⟨_, rfl⟩
  have K12 := Lib.hid (keepC (s := s11) (s' := s12) (rdL_can 4096 rdE_can) n12 K11.out)
  have HE : Hid (rdTM s = ((z1, z2, z3, z4, z5, z6, M, E, F, K, S, N), s12)) := by
    exact rd2_eq e1 n1 (rd2_eq e2 n2 (rd2_eq e3 n3 (rd2_eq e4 n4 (rd2_eq e5 n5 (rd2_eq e6 n6 (rd2_eq e7 n7 (rd2_eq e8 n8 (rd2_eq e9 n9 (rd2_eq e10 n10 (rd2_eq e11 n11 (Prod.ext e12 n12)))))))))))
  rw [HE.out] at HWF0
  have E1 := Lib.hid e1
  have N1 := Lib.hid n1
  have E2 := Lib.hid e2
  have N2 := Lib.hid n2
  have E3 := Lib.hid e3
  have N3 := Lib.hid n3
  have E4 := Lib.hid e4
  have N4 := Lib.hid n4
  have E5 := Lib.hid e5
  have N5 := Lib.hid n5
  have E6 := Lib.hid e6
  have N6 := Lib.hid n6
  have E7 := Lib.hid e7
  have N7 := Lib.hid n7
  have E8 := Lib.hid e8
  have N8 := Lib.hid n8
  have E9 := Lib.hid e9
  have N9 := Lib.hid n9
  have E10 := Lib.hid e10
  have N10 := Lib.hid n10
  have E11 := Lib.hid e11
  have N11 := Lib.hid n11
  have E12 := Lib.hid e12
  have N12 := Lib.hid n12
  clear e1 n1 e2 n2 e3 n3 e4 n4 e5 n5 e6 n6 e7 n7 e8 n8 e9 n9 e10 n10 e11 n11 e12 n12
  rw [HE.out]
  clear HE
  go_enter Tryz.func52, Tryz.ntmps52
  go_wp2_with fail
  generalize (w.alloc (.cells #[.int .i64 0, .int .i64 0, .int .i64 0, .int .i64 0, .int .i64 0, .int .i64 0, .int .i64 0, .int .i64 0, .string ⟨#[]⟩, .int .i64 0, .int .u32 0, .slice none 0 0, .int .i64 0, .slice none 0 0, .slice none 0 0, .int .i64 0, .slice none 0 0, .slice none 0 0, .slice none 0 0] 40)).alloc (.cells #[.int .i64 0, .int .i64 0, .int .i64 0, .int .i64 0, .int .i64 0, .int .i64 0, .int .i64 0, .int .i64 0, .string ⟨#[]⟩, .int .i64 0, .int .u32 0, .slice none 0 0, .int .i64 0, .slice none 0 0, .slice none 0 0, .int .i64 0, .slice none 0 0, .slice none 0 0, .slice none 0 0] 40) = w0 at *
  refine (at_num (s := s) HI0.out.rdr E1.out N1.out).mono ?_
  rintro e w1 ⟨rfl, hr1, hb1⟩
  have HJ := Lib.hid (HI0.out.read hr1 hb1)
  have k0 := HJ.out.cell 0 (.int .i64 0) rfl
  have f0 := HJ.out.free 0
  clear hr1 hb1 HI0
  go_wp2_with fail
  have HI1 : Hid (RdI H w (w1.setCell ⟨w.heap.size + 1, 0, none⟩ (.int .i64 z1)) R s1 40 #[.int .i64 0, .int .i64 0, .int .i64 0, .int .i64 0, .int .i64 0, .int .i64 0, .int .i64 0, .int .i64 0, .string ⟨#[]⟩, .int .i64 0, .int .u32 0, .slice none 0 0, .int .i64 0, .slice none 0 0, .slice none 0 0, .int .i64 0, .slice none 0 0, .slice none 0 0, .slice none 0 0] #[.int .i64 z1, .int .i64 0, .int .i64 0, .int .i64 0, .int .i64 0, .int .i64 0, .int .i64 0, .int .i64 0, .string ⟨#[]⟩, .int .i64 0, .int .u32 0, .slice none 0 0, .int .i64 0, .slice none 0 0, .slice none 0 0, .int .i64 0, .slice none 0 0, .slice none 0 0, .slice none 0 0]) := HJ.out.store 0 (.int .i64 z1) rfl
  generalize (w1.setCell ⟨w.heap.size + 1, 0, none⟩ (.int .i64 z1)) = x1 at *
  clear k0 f0 HJ 
  refine (at_num (s := s1) HI1.out.rdr E2.out N2.out).mono ?_
  rintro e w1 ⟨rfl, hr1, hb1⟩
  have HJ := Lib.hid (HI1.out.read hr1 hb1)
  have k0 := HJ.out.cell 1 (.int .i64 0) rfl
  have f0 := HJ.out.free 1
  clear hr1 hb1 HI1
  go_wp2_with fail
  have HI2 : Hid (RdI H w (w1.setCell ⟨w.heap.size + 1, 1, none⟩ (.int .i64 z2)) R s2 40 #[.int .i64 0, .int .i64 0, .int .i64 0, .int .i64 0, .int .i64 0, .int .i64 0, .int .i64 0, .int .i64 0, .string ⟨#[]⟩, .int .i64 0, .int .u32 0, .slice none 0 0, .int .i64 0, .slice none 0 0, .slice none 0 0, .int .i64 0, .slice none 0 0, .slice none 0 0, .slice none 0 0] #[.int .i64 z1, .int .i64 z2, .int .i64 0, .int .i64 0, .int .i64 0, .int .i64 0, .int .i64 0, .int .i64 0, .string ⟨#[]⟩, .int .i64 0, .int .u32 0, .slice none 0 0, .int .i64 0, .slice none 0 0, .slice none 0 0, .int .i64 0, .slice none 0 0, .slice none 0 0, .slice none 0 0]) := HJ.out.store 1 (.int .i64 z2) rfl
  generalize (w1.setCell ⟨w.heap.size + 1, 1, none⟩ (.int .i64 z2)) = x2 at *
  clear k0 f0 HJ 
  refine (at_num (s := s2) HI2.out.rdr E3.out N3.out).mono ?_
  rintro e w1 ⟨rfl, hr1, hb1⟩
  have HJ := Lib.hid (HI2.out.read hr1 hb1)
  have k0 := HJ.out.cell 2 (.int .i64 0) rfl
  have f0 := HJ.out.free 2
  clear hr1 hb1 HI2
  go_wp2_with fail
  have HI3 : Hid (RdI H w (w1.setCell ⟨w.heap.size + 1, 2, none⟩ (.int .i64 z3)) R s3 40 #[.int .i64 0, .int .i64 0, .int .i64 0, .int .i64 0, .int .i64 0, .int .i64 0, .int .i64 0, .int .i64 0, .string ⟨#[]⟩, .int .i64 0, .int .u32 0, .slice none 0 0, .int .i64 0, .slice none 0 0, .slice none 0 0, .int .i64 0, .slice none 0 0, .slice none 0 0, .slice none 0 0] #[.int .i64 z1, .int .i64 z2, .int .i64 z3, .int .i64 0, .int .i64 0, .int .i64 0, .int .i64 0, .int .i64 0, .string ⟨#[]⟩, .int .i64 0, .int .u32 0, .slice none 0 0, .int .i64 0, .slice none 0 0, .slice none 0 0, .int .i64 0, .slice none 0 0, .slice none 0 0, .slice none 0 0]) := HJ.out.store 2 (.int .i64 z3) rfl
  generalize (w1.setCell ⟨w.heap.size + 1, 2, none⟩ (.int .i64 z3)) = x3 at *
  clear k0 f0 HJ 
  refine (at_num (s := s3) HI3.out.rdr E4.out N4.out).mono ?_
  rintro e w1 ⟨rfl, hr1, hb1⟩
  have HJ := Lib.hid (HI3.out.read hr1 hb1)
  have k0 := HJ.out.cell 3 (.int .i64 0) rfl
  have f0 := HJ.out.free 3
  clear hr1 hb1 HI3
  go_wp2_with fail
  have HI4 : Hid (RdI H w (w1.setCell ⟨w.heap.size + 1, 3, none⟩ (.int .i64 z4)) R s4 40 #[.int .i64 0, .int .i64 0, .int .i64 0, .int .i64 0, .int .i64 0, .int .i64 0, .int .i64 0, .int .i64 0, .string ⟨#[]⟩, .int .i64 0, .int .u32 0, .slice none 0 0, .int .i64 0, .slice none 0 0, .slice none 0 0, .int .i64 0, .slice none 0 0, .slice none 0 0, .slice none 0 0] #[.int .i64 z1, .int .i64 z2, .int .i64 z3, .int .i64 z4, .int .i64 0, .int .i64 0, .int .i64 0, .int .i64 0, .string ⟨#[]⟩, .int .i64 0, .int .u32 0, .slice none 0 0, .int .i64 0, .slice none 0 0, .slice none 0 0, .int .i64 0, .slice none 0 0, .slice none 0 0, .slice none 0 0]) := HJ.out.store 3 (.int .i64 z4) rfl
  generalize (w1.setCell ⟨w.heap.size + 1, 3, none⟩ (.int .i64 z4)) = x4 at *
  clear k0 f0 HJ 
  refine (at_num (s := s4) HI4.out.rdr E5.out N5.out).mono ?_
  rintro e w1 ⟨rfl, hr1, hb1⟩
  have HJ := Lib.hid (HI4.out.read hr1 hb1)
  have k0 := HJ.out.cell 12 (.int .i64 0) rfl
  have f0 := HJ.out.free 12
  clear hr1 hb1 HI4
  go_wp2_with fail
  have HI5 : Hid (RdI H w (w1.setCell ⟨w.heap.size + 1, 12, none⟩ (.int .i64 z5)) R s5 40 #[.int .i64 0, .int .i64 0, .int .i64 0, .int .i64 0, .int .i64 0, .int .i64 0, .int .i64 0, .int .i64 0, .string ⟨#[]⟩, .int .i64 0, .int .u32 0, .slice none 0 0, .int .i64 0, .slice none 0 0, .slice none 0 0, .int .i64 0, .slice none 0 0, .slice none 0 0, .slice none 0 0] #[.int .i64 z1, .int .i64 z2, .int .i64 z3, .int .i64 z4, .int .i64 0, .int .i64 0, .int .i64 0, .int .i64 0, .string ⟨#[]⟩, .int .i64 0, .int .u32 0, .slice none 0 0, .int .i64 z5, .slice none 0 0, .slice none 0 0, .int .i64 0, .slice none 0 0, .slice none 0 0, .slice none 0 0]) := HJ.out.store 12 (.int .i64 z5) rfl
  generalize (w1.setCell ⟨w.heap.size + 1, 12, none⟩ (.int .i64 z5)) = x5 at *
  clear k0 f0 HJ 
  refine (at_num (s := s5) HI5.out.rdr E6.out N6.out).mono ?_
  rintro e w1 ⟨rfl, hr1, hb1⟩
  have HJ := Lib.hid (HI5.out.read hr1 hb1)
  have k0 := HJ.out.cell 15 (.int .i64 0) rfl
  have f0 := HJ.out.free 15
  clear hr1 hb1 HI5
  go_wp2_with fail
  have HI6 : Hid (RdI H w (w1.setCell ⟨w.heap.size + 1, 15, none⟩ (.int .i64 z6)) R s6 40 #[.int .i64 0, .int .i64 0, .int .i64 0, .int .i64 0, .int .i64 0, .int .i64 0, .int .i64 0, .int .i64 0, .string ⟨#[]⟩, .int .i64 0, .int .u32 0, .slice none 0 0, .int .i64 0, .slice none 0 0, .slice none 0 0, .int .i64 0, .slice none 0 0, .slice none 0 0, .slice none 0 0] #[.int .i64 z1, .int .i64 z2, .int .i64 z3, .int .i64 z4, .int .i64 0, .int .i64 0, .int .i64 0, .int .i64 0, .string ⟨#[]⟩, .int .i64 0, .int .u32 0, .slice none 0 0, .int .i64 z5, .slice none 0 0, .slice none 0 0, .int .i64 z6, .slice none 0 0, .slice none 0 0, .slice none 0 0]) := HJ.out.store 15 (.int .i64 z6) rfl
  generalize (w1.setCell ⟨w.heap.size + 1, 15, none⟩ (.int .i64 z6)) = x6 at *
  clear k0 f0 HJ 
  refine (at_ints (s := s6) HI6.out.rdr E7.out N7.out).mono ?_
  rintro e w1 ⟨ma, mc, rfl, hkk, hr1, hb1⟩
  have HKMr : Hid (Kept (w.heap.size + 2) w1 _) := (Kept.low (F := fun w2 => IntsAt w2 ma mc M) hkk (by have := HI6.out.c.lt; omega))
  obtain ⟨lM, hln⟩ : ∃ q, M.length = q := ⟨_, rfl⟩
  have HLM := Lib.hid hln
  rw [hln]
  clear hln
  clear hkk
  have HJ := Lib.hid (HI6.out.read hr1 hb1)
  have k0 := HJ.out.cell 16 (.slice none 0 0) rfl
  have f0 := HJ.out.free 16
  clear hr1 hb1 HI6
  go_wp2_with fail
  have HI7 : Hid (RdI H w (w1.setCell ⟨w.heap.size + 1, 16, none⟩ (.slice ma lM mc)) R s7 40 #[.int .i64 0, .int .i64 0, .int .i64 0, .int .i64 0, .int .i64 0, .int .i64 0, .int .i64 0, .int .i64 0, .string ⟨#[]⟩, .int .i64 0, .int .u32 0, .slice none 0 0, .int .i64 0, .slice none 0 0, .slice none 0 0, .int .i64 0, .slice none 0 0, .slice none 0 0, .slice none 0 0] #[.int .i64 z1, .int .i64 z2, .int .i64 z3, .int .i64 z4, .int .i64 0, .int .i64 0, .int .i64 0, .int .i64 0, .string ⟨#[]⟩, .int .i64 0, .int .u32 0, .slice none 0 0, .int .i64 z5, .slice none 0 0, .slice none 0 0, .int .i64 z6, .slice ma lM mc, .slice none 0 0, .slice none 0 0]) := HJ.out.store 16 (.slice ma lM mc) rfl
  have HKM := Lib.hid (HKMr.out.step (chg_set w1 (w.heap.size + 1) 16 (.slice ma lM mc)) (by simp))
  generalize (w1.setCell ⟨w.heap.size + 1, 16, none⟩ (.slice ma lM mc)) = x7 at *
  clear k0 f0 HJ HKMr
  refine (at_ent (s := s7) HI7.out.rdr K7.out E8.out N8.out).mono ?_
  rintro e w1 ⟨loc, ec, rfl, hse, hfe, hr1, hb1⟩
  have HKMr := Lib.hid (HKM.out.step hb1 (by simp; omega))
  clear HKM
  have HKEr : Hid (Kept (w.heap.size + 2) w1 _) := (kept_seen hse hfe (by have := HI7.out.c.lt; omega))
  obtain ⟨lE, hln⟩ : ∃ q, E.frag.length = q := ⟨_, rfl⟩
  have HLE := Lib.hid hln
  rw [hln]
  clear hln
  clear hse hfe
  have HJ := Lib.hid (HI7.out.read hr1 hb1)
  clear hr1 hb1 HI7
  go_wp2_with (refine wpList_st 30 8 (w.heap.size + 1) 4 40 #[.int .i64 E.seq, .int .i64 E.client, .int .i64 E.num, .int .i64 E.op, .string (strB E.key), .int .i64 E.size, .int .u32 (E.sum : Int), .slice loc lE ec] _ #[.int .i64 z1, .int .i64 z2, .int .i64 z3, .int .i64 z4, .int .i64 E.seq, .int .i64 E.client, .int .i64 E.num, .int .i64 E.op, .string (strB E.key), .int .i64 E.size, .int .u32 (E.sum : Int), .slice loc lE ec, .int .i64 z5, .slice none 0 0, .slice none 0 0, .int .i64 z6, .slice ma lM mc, .slice none 0 0, .slice none 0 0] _ _ rfl rfl rfl rfl rfl (by kernel_rfl) rfl HJ.out.c (by simp) (by intro v hv; simp at hv; rcases hv with rfl | rfl | rfl | rfl | rfl | rfl | rfl | rfl <;> rfl) rfl ?_; intro x8 hx hc; have HI8 := Lib.hid (HJ.out.storeN hx hc rfl); have HKM := Lib.hid (HKMr.out.step hc (by simp)); have HKE := Lib.hid (HKEr.out.step hc (by simp)); clear hx hc HJ HKMr HKEr)
  refine (at_frs (s := s8) HI8.out.rdr K8.out E9.out N9.out).mono ?_
  rintro e w1 ⟨fs, fa, fc, rfl, hmap, hkk, hr1, hb1⟩
  have HMAP := Lib.hid hmap
  clear hmap
  have HKMr := Lib.hid (HKM.out.step hb1 (by simp; omega))
  have HKEr := Lib.hid (HKE.out.step hb1 (by simp; omega))
  clear HKM HKE
  have HKFr : Hid (Kept (w.heap.size + 2) w1 _) := (hkk.low (by have := HI8.out.c.lt; omega))
  obtain ⟨lF, hln⟩ : ∃ q, fs.length = q := ⟨_, rfl⟩
  have HLF := Lib.hid hln
  rw [hln]
  clear hln
  clear hkk
  have HJ := Lib.hid (HI8.out.read hr1 hb1)
  have k0 := HJ.out.cell 13 (.slice none 0 0) rfl
  have f0 := HJ.out.free 13
  clear hr1 hb1 HI8
  go_wp2_with fail
  have HI9 : Hid (RdI H w (w1.setCell ⟨w.heap.size + 1, 13, none⟩ (.slice fa lF fc)) R s9 40 #[.int .i64 0, .int .i64 0, .int .i64 0, .int .i64 0, .int .i64 0, .int .i64 0, .int .i64 0, .int .i64 0, .string ⟨#[]⟩, .int .i64 0, .int .u32 0, .slice none 0 0, .int .i64 0, .slice none 0 0, .slice none 0 0, .int .i64 0, .slice none 0 0, .slice none 0 0, .slice none 0 0] #[.int .i64 z1, .int .i64 z2, .int .i64 z3, .int .i64 z4, .int .i64 E.seq, .int .i64 E.client, .int .i64 E.num, .int .i64 E.op, .string (strB E.key), .int .i64 E.size, .int .u32 (E.sum : Int), .slice loc lE ec, .int .i64 z5, .slice fa lF fc, .slice none 0 0, .int .i64 z6, .slice ma lM mc, .slice none 0 0, .slice none 0 0]) := HJ.out.store 13 (.slice fa lF fc) rfl
  have HKM := Lib.hid (HKMr.out.step (chg_set w1 (w.heap.size + 1) 13 (.slice fa lF fc)) (by simp))
  have HKE := Lib.hid (HKEr.out.step (chg_set w1 (w.heap.size + 1) 13 (.slice fa lF fc)) (by simp))
  have HKF := Lib.hid (HKFr.out.step (chg_set w1 (w.heap.size + 1) 13 (.slice fa lF fc)) (by simp))
  generalize (w1.setCell ⟨w.heap.size + 1, 13, none⟩ (.slice fa lF fc)) = x9 at *
  clear k0 f0 HJ HKMr HKEr HKFr
  refine (at_keys (s := s9) HI9.out.rdr K9.out E10.out N10.out).mono ?_
  rintro e w1 ⟨ka, kc, rfl, hkk, hr1, hb1⟩
  have HKMr := Lib.hid (HKM.out.step hb1 (by simp; omega))
  have HKEr := Lib.hid (HKE.out.step hb1 (by simp; omega))
  have HKFr := Lib.hid (HKF.out.step hb1 (by simp; omega))
  clear HKM HKE HKF
  have HKKr : Hid (Kept (w.heap.size + 2) w1 _) := (hkk.low (by have := HI9.out.c.lt; omega))
  obtain ⟨lK, hln⟩ : ∃ q, K.length = q := ⟨_, rfl⟩
  have HLK := Lib.hid hln
  rw [hln]
  clear hln
  clear hkk
  have HJ := Lib.hid (HI9.out.read hr1 hb1)
  have k0 := HJ.out.cell 14 (.slice none 0 0) rfl
  have f0 := HJ.out.free 14
  clear hr1 hb1 HI9
  go_wp2_with fail
  have HI10 : Hid (RdI H w (w1.setCell ⟨w.heap.size + 1, 14, none⟩ (.slice ka lK kc)) R s10 40 #[.int .i64 0, .int .i64 0, .int .i64 0, .int .i64 0, .int .i64 0, .int .i64 0, .int .i64 0, .int .i64 0, .string ⟨#[]⟩, .int .i64 0, .int .u32 0, .slice none 0 0, .int .i64 0, .slice none 0 0, .slice none 0 0, .int .i64 0, .slice none 0 0, .slice none 0 0, .slice none 0 0] #[.int .i64 z1, .int .i64 z2, .int .i64 z3, .int .i64 z4, .int .i64 E.seq, .int .i64 E.client, .int .i64 E.num, .int .i64 E.op, .string (strB E.key), .int .i64 E.size, .int .u32 (E.sum : Int), .slice loc lE ec, .int .i64 z5, .slice fa lF fc, .slice ka lK kc, .int .i64 z6, .slice ma lM mc, .slice none 0 0, .slice none 0 0]) := HJ.out.store 14 (.slice ka lK kc) rfl
  have HKM := Lib.hid (HKMr.out.step (chg_set w1 (w.heap.size + 1) 14 (.slice ka lK kc)) (by simp))
  have HKE := Lib.hid (HKEr.out.step (chg_set w1 (w.heap.size + 1) 14 (.slice ka lK kc)) (by simp))
  have HKF := Lib.hid (HKFr.out.step (chg_set w1 (w.heap.size + 1) 14 (.slice ka lK kc)) (by simp))
  have HKK := Lib.hid (HKKr.out.step (chg_set w1 (w.heap.size + 1) 14 (.slice ka lK kc)) (by simp))
  generalize (w1.setCell ⟨w.heap.size + 1, 14, none⟩ (.slice ka lK kc)) = x10 at *
  clear k0 f0 HJ HKMr HKEr HKFr HKKr
  refine (at_srcs (s := s10) HI10.out.rdr K10.out E11.out N11.out).mono ?_
  rintro e w1 ⟨sa, sc, rfl, hkk, hr1, hb1⟩
  have HKMr := Lib.hid (HKM.out.step hb1 (by simp; omega))
  have HKEr := Lib.hid (HKE.out.step hb1 (by simp; omega))
  have HKFr := Lib.hid (HKF.out.step hb1 (by simp; omega))
  have HKKr := Lib.hid (HKK.out.step hb1 (by simp; omega))
  clear HKM HKE HKF HKK
  have HKSr : Hid (Kept (w.heap.size + 2) w1 _) := (hkk.low (by have := HI10.out.c.lt; omega))
  obtain ⟨lS, hln⟩ : ∃ q, S.length = q := ⟨_, rfl⟩
  have HLS := Lib.hid hln
  rw [hln]
  clear hln
  clear hkk
  have HJ := Lib.hid (HI10.out.read hr1 hb1)
  have k0 := HJ.out.cell 17 (.slice none 0 0) rfl
  have f0 := HJ.out.free 17
  clear hr1 hb1 HI10
  go_wp2_with fail
  have HI11 : Hid (RdI H w (w1.setCell ⟨w.heap.size + 1, 17, none⟩ (.slice sa lS sc)) R s11 40 #[.int .i64 0, .int .i64 0, .int .i64 0, .int .i64 0, .int .i64 0, .int .i64 0, .int .i64 0, .int .i64 0, .string ⟨#[]⟩, .int .i64 0, .int .u32 0, .slice none 0 0, .int .i64 0, .slice none 0 0, .slice none 0 0, .int .i64 0, .slice none 0 0, .slice none 0 0, .slice none 0 0] #[.int .i64 z1, .int .i64 z2, .int .i64 z3, .int .i64 z4, .int .i64 E.seq, .int .i64 E.client, .int .i64 E.num, .int .i64 E.op, .string (strB E.key), .int .i64 E.size, .int .u32 (E.sum : Int), .slice loc lE ec, .int .i64 z5, .slice fa lF fc, .slice ka lK kc, .int .i64 z6, .slice ma lM mc, .slice sa lS sc, .slice none 0 0]) := HJ.out.store 17 (.slice sa lS sc) rfl
  have HKM := Lib.hid (HKMr.out.step (chg_set w1 (w.heap.size + 1) 17 (.slice sa lS sc)) (by simp))
  have HKE := Lib.hid (HKEr.out.step (chg_set w1 (w.heap.size + 1) 17 (.slice sa lS sc)) (by simp))
  have HKF := Lib.hid (HKFr.out.step (chg_set w1 (w.heap.size + 1) 17 (.slice sa lS sc)) (by simp))
  have HKK := Lib.hid (HKKr.out.step (chg_set w1 (w.heap.size + 1) 17 (.slice sa lS sc)) (by simp))
  have HKS := Lib.hid (HKSr.out.step (chg_set w1 (w.heap.size + 1) 17 (.slice sa lS sc)) (by simp))
  generalize (w1.setCell ⟨w.heap.size + 1, 17, none⟩ (.slice sa lS sc)) = x11 at *
  clear k0 f0 HJ HKMr HKEr HKFr HKKr HKSr
  refine (at_ents (s := s11) HI11.out.rdr K11.out E12.out N12.out).mono ?_
  rintro e w1 ⟨na, nc, rfl, hkk, hr1, hb1⟩
  have HKMr := Lib.hid (HKM.out.step hb1 (by simp; omega))
  have HKEr := Lib.hid (HKE.out.step hb1 (by simp; omega))
  have HKFr := Lib.hid (HKF.out.step hb1 (by simp; omega))
  have HKKr := Lib.hid (HKK.out.step hb1 (by simp; omega))
  have HKSr := Lib.hid (HKS.out.step hb1 (by simp; omega))
  clear HKM HKE HKF HKK HKS
  have HKNr : Hid (Kept (w.heap.size + 2) w1 _) := (Kept.low (F := fun w2 => EnsAt w2 na nc N) hkk (by have := HI11.out.c.lt; omega))
  obtain ⟨lN, hln⟩ : ∃ q, N.length = q := ⟨_, rfl⟩
  have HLN := Lib.hid hln
  rw [hln]
  clear hln
  clear hkk
  have HJ := Lib.hid (HI11.out.read hr1 hb1)
  have k0 := HJ.out.cell 18 (.slice none 0 0) rfl
  have f0 := HJ.out.free 18
  clear hr1 hb1 HI11
  have HI12 : Hid (RdI H w (w1.setCell ⟨w.heap.size + 1, 18, none⟩ (.slice na lN nc)) R s12 40 #[.int .i64 0, .int .i64 0, .int .i64 0, .int .i64 0, .int .i64 0, .int .i64 0, .int .i64 0, .int .i64 0, .string ⟨#[]⟩, .int .i64 0, .int .u32 0, .slice none 0 0, .int .i64 0, .slice none 0 0, .slice none 0 0, .int .i64 0, .slice none 0 0, .slice none 0 0, .slice none 0 0] #[.int .i64 z1, .int .i64 z2, .int .i64 z3, .int .i64 z4, .int .i64 E.seq, .int .i64 E.client, .int .i64 E.num, .int .i64 E.op, .string (strB E.key), .int .i64 E.size, .int .u32 (E.sum : Int), .slice loc lE ec, .int .i64 z5, .slice fa lF fc, .slice ka lK kc, .int .i64 z6, .slice ma lM mc, .slice sa lS sc, .slice na lN nc]) := HJ.out.store 18 (.slice na lN nc) rfl
  have HKM := Lib.hid (HKMr.out.step (chg_set w1 (w.heap.size + 1) 18 (.slice na lN nc)) (by simp))
  have HKE := Lib.hid (HKEr.out.step (chg_set w1 (w.heap.size + 1) 18 (.slice na lN nc)) (by simp))
  have HKF := Lib.hid (HKFr.out.step (chg_set w1 (w.heap.size + 1) 18 (.slice na lN nc)) (by simp))
  have HKK := Lib.hid (HKKr.out.step (chg_set w1 (w.heap.size + 1) 18 (.slice na lN nc)) (by simp))
  have HKS := Lib.hid (HKSr.out.step (chg_set w1 (w.heap.size + 1) 18 (.slice na lN nc)) (by simp))
  have HKN := Lib.hid (HKNr.out.step (chg_set w1 (w.heap.size + 1) 18 (.slice na lN nc)) (by simp))
  clear HKMr HKEr HKFr HKKr HKSr HKNr HJ
  go_wp2_with (first | refine wpList_ldM _ _ _ rfl rfl rfl rfl HI12.out.c.box ?_ | (refine wpList_st 40 19 w.heap.size 0 40 #[.int .i64 z1, .int .i64 z2, .int .i64 z3, .int .i64 z4, .int .i64 E.seq, .int .i64 E.client, .int .i64 E.num, .int .i64 E.op, .string (strB E.key), .int .i64 E.size, .int .u32 (E.sum : Int), .slice loc lE ec, .int .i64 z5, .slice fa lF fc, .slice ka lK kc, .int .i64 z6, .slice ma lM mc, .slice sa lS sc, .slice na lN nc] _ #[.int .i64 z1, .int .i64 z2, .int .i64 z3, .int .i64 z4, .int .i64 E.seq, .int .i64 E.client, .int .i64 E.num, .int .i64 E.op, .string (strB E.key), .int .i64 E.size, .int .u32 (E.sum : Int), .slice loc lE ec, .int .i64 z5, .slice fa lF fc, .slice ka lK kc, .int .i64 z6, .slice ma lM mc, .slice sa lS sc, .slice na lN nc] _ _ rfl rfl rfl rfl rfl (by kernel_rfl) rfl HI12.out.z (by simp) (by intro v hv; simp at hv; rcases hv with rfl | rfl | rfl | rfl | rfl | rfl | rfl | rfl | rfl | rfl | rfl | rfl | rfl | rfl | rfl | rfl | rfl | rfl | rfl <;> rfl) rfl ?_; intro wf hx hc))
  have HF12 := Lib.hid (HI12.out.rdr.other hc (by omega) (by omega))
  have HCF := Lib.hid (HI12.out.chg.wide hc (by simp))
  have HKM2 := Lib.hid ((HKM.out.step hc (by simp)).low (L' := w.heap.size) (by omega))
  have HKE2 := Lib.hid ((HKE.out.step hc (by simp)).low (L' := w.heap.size) (by omega))
  have HKF2 := Lib.hid ((HKF.out.step hc (by simp)).low (L' := w.heap.size) (by omega))
  have HKK2 := Lib.hid ((HKK.out.step hc (by simp)).low (L' := w.heap.size) (by omega))
  have HKS2 := Lib.hid ((HKS.out.step hc (by simp)).low (L' := w.heap.size) (by omega))
  have HKN2 := Lib.hid ((HKN.out.step hc (by simp)).low (L' := w.heap.size) (by omega))
  have hld := run_ldvM w.heap.size _ rfl hx.box
  refine bodyPost_ret (v := .agg #[.int .i64 z1, .int .i64 z2, .int .i64 z3, .int .i64 z4, .int .i64 E.seq, .int .i64 E.client, .int .i64 E.num, .int .i64 E.op, .string (strB E.key), .int .i64 E.size, .int .u32 (E.sum : Int), .slice loc lE ec, .int .i64 z5, .slice fa lF fc, .slice ka lK kc, .int .i64 z6, .slice ma lM mc, .slice sa lS sc, .slice na lN nc]) (results_cell Tryz.results52 rfl hld) rfl ?_
  refine ⟨⟨⟨z1, z2, z3, z4, E, z5, F, K, z6, M, S, N⟩, fs, loc, ec, fa, fc, ka, kc, ma, mc, sa, sc, na, nc, lE, lF, lK, lM, lS, lN⟩, rfl, rfl, fun gs w2 hb hg => ⟨HKE2.out gs w2 hb hg, HKF2.out gs w2 hb hg, HKK2.out gs w2 hb hg, HKM2.out gs w2 hb hg, HKS2.out gs w2 hb hg, HKN2.out gs w2 hb hg, HLE.out, HLF.out, HLK.out, HLM.out, HLS.out, HLN.out, HMAP.out, HWF0.out⟩, HF12.out, HCF.out⟩

end Go.Proofs.YtggjpjpemgpeeaaGreat
