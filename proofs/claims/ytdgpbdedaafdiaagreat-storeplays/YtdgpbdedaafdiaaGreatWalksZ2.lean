/-
  bytes.Equal and the program's Same; the reference's Same.
-/
import Derived.Test.YtdgpbdedaafdiaaGreatWalksY6
namespace Go.Proofs.YtdgpbdedaafdiaaGreat
open Go.RowKit


set_option maxHeartbeats 400000 in
theorem equal_any (a a' : Option Addr) (c c' l l' : Nat) (ps qs : List Nat) (w : World) (hl : ps.length = l) (hl' : qs.length = l') (h : SeenAt w a c ps) (h' : SeenAt w a' c' qs) :
    Calls Tryz.prog 84 #[.slice a l c, .slice a' l' c'] w fun e w' => e = .returned (.bool (decide (ps = qs))) ∧ w = w' := by
  have s1 := str_at h hl
  have s2 := str_at h' hl'
  have HF := Lib.hid (strB_beq h.byte h'.byte)
  clear h h' hl hl'
  generalize strB ps = x at *
  generalize strB qs = y at *
  go_enter Tryz.func84, Tryz.ntmps84
  go_wp2
  go_ret
  exact ⟨ret_boolean HF.out, rfl⟩

def eqRaw (a b c d f s a' b' c' d' f' s' : Int) (k k' : ByteArray) (ps qs : List Nat) : Bool :=
  (a == a') && (b == b') && (c == c') && (d == d') && (k.toList == k'.toList) && (f == f') && (s == s') && decide (ps = qs)

theorem eqRaw_iff (e f : Pe) (he : e.Wf) (hf : f.Wf) : eqRaw e.seq e.client e.num e.op e.size (e.sum : Int) f.seq f.client f.num f.op f.size (f.sum : Int) (strB e.key) (strB f.key) e.frag f.frag = true ↔ e = f := by
  unfold eqRaw
  rw [strB_beq he.key hf.key]
  obtain ⟨e1, e2, e3, e4, e5, e6, e7, e8⟩ := e
  obtain ⟨f1, f2, f3, f4, f5, f6, f7, f8⟩ := f
  simp
  constructor
  · rintro ⟨⟨⟨⟨⟨⟨⟨rfl, rfl⟩, rfl⟩, rfl⟩, rfl⟩, rfl⟩, h7⟩, rfl⟩
    exact ⟨rfl, rfl, rfl, rfl, rfl, rfl, by omega, rfl⟩
  · rintro ⟨rfl, rfl, rfl, rfl, rfl, rfl, rfl, rfl⟩
    exact ⟨⟨⟨⟨⟨⟨⟨rfl, rfl⟩, rfl⟩, rfl⟩, rfl⟩, rfl⟩, rfl⟩, rfl⟩

theorem eqRaw_eq (e f : Pe) (he : e.Wf) (hf : f.Wf) (k1 : e.key.length ≤ 10000000) (k2 : e.frag.length ≤ 10000000) (k3 : f.key.length ≤ 10000000) (k4 : f.frag.length ≤ 10000000) :
    eqRaw e.seq e.client e.num e.op e.size (e.sum : Int) f.seq f.client f.num f.op f.size (f.sum : Int) (strB e.key) (strB f.key) e.frag f.frag = decide (encE e = encE f) := by
  rw [Bool.eq_iff_iff, eqRaw_iff e f he hf, decide_eq_true_iff]
  exact ⟨fun h => by rw [h], encE_inj e f he hf (by omega) (by omega) (by omega) (by omega)⟩


set_option maxRecDepth 100000 in
set_option maxHeartbeats 1000000 in
theorem refSame_any (e f : Pe) (loc loc' : Option Addr) (c c' : Nat) (w : World) (he : e.Wf) (hf : f.Wf) (h : SeenAt w loc c e.frag) (h' : SeenAt w loc' c' f.frag) (k1 : e.key.length ≤ 10000000) (k2 : e.frag.length ≤ 10000000) (k3 : f.key.length ≤ 10000000) (k4 : f.frag.length ≤ 10000000) :
    Calls Tryz.prog 36 #[.agg #[.int .i64 e.seq, .int .i64 e.client, .int .i64 e.num, .int .i64 e.op, .string (strB e.key), .int .i64 e.size, .int .u32 (e.sum : Int), .slice loc e.frag.length c], .agg #[.int .i64 f.seq, .int .i64 f.client, .int .i64 f.num, .int .i64 f.op, .string (strB f.key), .int .i64 f.size, .int .u32 (f.sum : Int), .slice loc' f.frag.length c']] w
      fun x w' => x = .returned (.bool (decide (encE e = encE f))) ∧ Below w.heap.size w w' := by
  have E0 : Hid (Ext w ((w.alloc (.cells #[.int .i64 e.seq, .int .i64 e.client, .int .i64 e.num, .int .i64 e.op, .string (strB e.key), .int .i64 e.size, .int .u32 (e.sum : Int), .slice loc e.frag.length c] 41)).alloc (.cells #[.int .i64 f.seq, .int .i64 f.client, .int .i64 f.num, .int .i64 f.op, .string (strB f.key), .int .i64 f.size, .int .u32 (f.sum : Int), .slice loc' f.frag.length c'] 41)).drew) :=
    ((below_one w _).alloc (by simp) _).drew
  have HA : Hid (Box ((w.alloc (.cells #[.int .i64 e.seq, .int .i64 e.client, .int .i64 e.num, .int .i64 e.op, .string (strB e.key), .int .i64 e.size, .int .u32 (e.sum : Int), .slice loc e.frag.length c] 41)).alloc (.cells #[.int .i64 f.seq, .int .i64 f.client, .int .i64 f.num, .int .i64 f.op, .string (strB f.key), .int .i64 f.size, .int .u32 (f.sum : Int), .slice loc' f.frag.length c'] 41)).drew w.heap.size #[.int .i64 e.seq, .int .i64 e.client, .int .i64 e.num, .int .i64 e.op, .string (strB e.key), .int .i64 e.size, .int .u32 (e.sum : Int), .slice loc e.frag.length c]) :=
    (box_new w _ _ _ rfl).below ((below_one _ _).drew)
  have HA' : Hid (Box ((w.alloc (.cells #[.int .i64 e.seq, .int .i64 e.client, .int .i64 e.num, .int .i64 e.op, .string (strB e.key), .int .i64 e.size, .int .u32 (e.sum : Int), .slice loc e.frag.length c] 41)).alloc (.cells #[.int .i64 f.seq, .int .i64 f.client, .int .i64 f.num, .int .i64 f.op, .string (strB f.key), .int .i64 f.size, .int .u32 (f.sum : Int), .slice loc' f.frag.length c'] 41)).drew (w.heap.size + 1) #[.int .i64 f.seq, .int .i64 f.client, .int .i64 f.num, .int .i64 f.op, .string (strB f.key), .int .i64 f.size, .int .u32 (f.sum : Int), .slice loc' f.frag.length c']) :=
    (box_new _ _ _ _ (by simp)).below ((Below.refl _ _).drew)
  have H := Lib.hid h
  have H' := Lib.hid h'
  have HE := Lib.hid he
  have HE' := Lib.hid hf
  have HF : Hid (((strB (encE e)).toList == (strB (encE f)).toList) = decide (encE e = encE f)) := strB_beq (encE_bytes e he (by omega) (by omega)) (encE_bytes f hf (by omega) (by omega))
  clear h h' he hf
  generalize decide (encE e = encE f) = ans at *
  obtain ⟨q, hq⟩ : ∃ q, (encE e).length = q := ⟨_, rfl⟩
  obtain ⟨q', hq'⟩ : ∃ q, (encE f).length = q := ⟨_, rfl⟩
  have Q := Lib.hid hq
  have Q' := Lib.hid hq'
  clear hq hq'
  have ST := Lib.hid (fun (w' : World) x c (h : SeenAt w' x c (encE e)) => str_at h Q.out)
  have ST' := Lib.hid (fun (w' : World) x c (h : SeenAt w' x c (encE f)) => str_at h Q'.out)
  generalize strB (encE e) = sr at *
  generalize strB (encE f) = sr' at *
  go_enter Tryz.func36, Tryz.ntmps36
  go_wp2_with fail
  refine wp_region_ext (by kernel_rfl) ?_
  generalize ((w.alloc (.cells #[.int .i64 e.seq, .int .i64 e.client, .int .i64 e.num, .int .i64 e.op, .string (strB e.key), .int .i64 e.size, .int .u32 (e.sum : Int), .slice loc e.frag.length c] 41)).alloc (.cells #[.int .i64 f.seq, .int .i64 f.client, .int .i64 f.num, .int .i64 f.op, .string (strB f.key), .int .i64 f.size, .int .u32 (f.sum : Int), .slice loc' f.frag.length c'] 41)).drew = w0 at *
  refine wpAnyH_tk (i := 0) 5 (v := ?_) rfl rfl (by kernel_rfl) (by kernel_rfl) (by kernel_rfl) (by rfl) (fun wq hwq => ?_) ?_
  rotate_left
  · (obtain ⟨x0, x1, x2, x3, x4, x5, x6, x7⟩ := box8 ((HA.out).below hwq); go_simp <;> with_reducible rfl)
  simp only [List.setIfInBounds_toArray, List.set_cons_zero, List.set_cons_succ]
  refine wpAnyH_tk (i := 3) 8 (v := ?_) rfl rfl (by kernel_rfl) (by kernel_rfl) (by kernel_rfl) (by rfl) (fun wq hwq => ?_) ?_
  rotate_left
  · (obtain ⟨x0, x1, x2, x3, x4, x5, x6, x7⟩ := box8 ((HA'.out).below hwq); go_simp <;> with_reducible rfl)
  simp only [List.setIfInBounds_toArray, List.set_cons_zero, List.set_cons_succ]
  refine wpAnyH_one (i := 1) rfl (by kernel_rfl) (by rfl) (fun K hK => ?_)
  go_simp
  refine (one_own e loc c _ HE.out k1 k2 (H.out.below E0.out)).mono ?_
  rintro x w1 ⟨g1, c1, rfl, ho1, hb1⟩
  have E1 := Lib.hid (E0.out.trans hb1)
  have X1 := Lib.hid ho1.seenAt
  rw [Q.out]
  refine hK.out _ _ hb1 ?_
  clear hK K
  refine wpAnyH_tk (i := 2) 7 (v := ?_) rfl rfl (by kernel_rfl) (by kernel_rfl) (by kernel_rfl) (by rfl) (fun wq hwq => ?_) ?_
  rotate_left
  · (have hx := ST.out wq _ _ (X1.out.below hwq); go_simp <;> with_reducible rfl)
  simp only [List.setIfInBounds_toArray, List.set_cons_zero, List.set_cons_succ]
  refine wpAnyH_one (i := 4) rfl (by kernel_rfl) (by rfl) (fun K hK => ?_)
  go_simp
  refine (one_own f loc' c' _ HE'.out k3 k4 (H'.out.below E1.out)).mono ?_
  rintro x w2 ⟨g2, c2, rfl, ho2, hb2⟩
  have E2 := Lib.hid (E1.out.trans hb2)
  have X2 := Lib.hid ho2.seenAt
  rw [Q'.out]
  refine hK.out _ _ hb2 ?_
  clear hK K
  refine wpAnyH_tk (i := 5) 10 (v := ?_) rfl rfl (by kernel_rfl) (by kernel_rfl) (by kernel_rfl) (by rfl) (fun wq hwq => ?_) ?_
  rotate_left
  · (have hx := ST'.out wq _ _ (X2.out.below hwq); go_simp <;> with_reducible rfl)
  simp only [List.setIfInBounds_toArray, List.set_cons_zero, List.set_cons_succ]
  refine wpAnyH_tk (i := 6) 11 (v := ?_) rfl rfl (by kernel_rfl) (by kernel_rfl) (by kernel_rfl) (by rfl) (fun wq hwq => ?_) ?_
  rotate_left
  · (have hx := HF.out; go_simp <;> with_reducible rfl)
  simp only [List.setIfInBounds_toArray, List.set_cons_zero, List.set_cons_succ]
  refine wpAnyH_tk (i := 7) 4 (v := ?_) rfl rfl (by kernel_rfl) (by kernel_rfl) (by kernel_rfl) (by rfl) (fun wq hwq => ?_) ?_
  rotate_left
  · (go_simp <;> with_reducible rfl)
  simp only [List.setIfInBounds_toArray, List.set_cons_zero, List.set_cons_succ]
  refine wpAnyH_done (by kernel_rfl) ?_ _
  refine NoPanic.normal ?_
  go_wp2
  go_ret
  exact ⟨rfl, E2.out⟩

end Go.Proofs.YtdgpbdedaafdiaaGreat
