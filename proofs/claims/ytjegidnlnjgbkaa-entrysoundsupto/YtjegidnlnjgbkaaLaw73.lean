/-
  The walk of the law EntrySounds, for entries whose key and fragment are not beyond all bounds.
-/
import Derived.Test.YtjegidnlnjgbkaaAwake7
import Derived.Test.YtjegidnlnjgbkaaWalksZ2
import Derived.Test.YtjegidnlnjgbkaaExt
namespace Go.Proofs.Ytjegidnlnjgbkaa
open Go.RowKit



/-- What holds of two boxes and what their slices show. -/
structure Two (w0 : World) (A B : Nat) (C D : Array Value) (loc : Option Addr) (c : Nat) (ps : List Nat) (loc' : Option Addr) (c' : Nat) (qs : List Nat) (w : World) : Prop where
  ext : Ext w0 w
  a : Box w A C
  b : Box w B D
  s : SeenAt w loc c ps
  t : SeenAt w loc' c' qs

theorem Two.below {w0 : World} {A B : Nat} {C D : Array Value} {loc loc' : Option Addr} {c c' : Nat} {ps qs : List Nat} {w w' : World} (h : Two w0 A B C D loc c ps loc' c' qs w) (hb : Below w.heap.size w w') : Two w0 A B C D loc c ps loc' c' qs w' :=
  ⟨h.ext.trans hb, h.a.below hb, h.b.below hb, h.s.below hb, h.t.below hb⟩



set_option maxRecDepth 100000 in
set_option maxHeartbeats 4000000 in
theorem entrySounds_walk (e : Pe) (loc : Option Addr) (c : Nat) (f : Pe) (loc' : Option Addr) (c' : Nat) (w : World) (h : SeenAt w loc c e.frag) (he : e.Wf) (h' : SeenAt w loc' c' f.frag) (hf : f.Wf) (k1 : e.key.length ≤ 10000000) (k2 : e.frag.length ≤ 10000000) (k3 : f.key.length ≤ 10000000) (k4 : f.frag.length ≤ 10000000) :
    Calls Try.prog 5 #[.agg #[.int .i64 e.seq, .int .i64 e.client, .int .i64 e.num, .int .i64 e.op, .string (strB e.key), .int .i64 e.size, .int .u32 (e.sum : Int), .slice loc e.frag.length c], .agg #[.int .i64 f.seq, .int .i64 f.client, .int .i64 f.num, .int .i64 f.op, .string (strB f.key), .int .i64 f.size, .int .u32 (f.sum : Int), .slice loc' f.frag.length c']] w
      fun x w' => x = .returned (.bool true) ∧ Below w.heap.size w w' := by
  have E0 : Ext w ((w.alloc (.cells #[.int .i64 e.seq, .int .i64 e.client, .int .i64 e.num, .int .i64 e.op, .string (strB e.key), .int .i64 e.size, .int .u32 (e.sum : Int), .slice loc e.frag.length c] 41)).alloc (.cells #[.int .i64 f.seq, .int .i64 f.client, .int .i64 f.num, .int .i64 f.op, .string (strB f.key), .int .i64 f.size, .int .u32 (f.sum : Int), .slice loc' f.frag.length c'] 41)).drew :=
    ((below_one w _).alloc (by simp) _).drew
  have H1 : Hid (Two w w.heap.size (w.heap.size + 1) #[.int .i64 e.seq, .int .i64 e.client, .int .i64 e.num, .int .i64 e.op, .string (strB e.key), .int .i64 e.size, .int .u32 (e.sum : Int), .slice loc e.frag.length c] #[.int .i64 f.seq, .int .i64 f.client, .int .i64 f.num, .int .i64 f.op, .string (strB f.key), .int .i64 f.size, .int .u32 (f.sum : Int), .slice loc' f.frag.length c'] loc c e.frag loc' c' f.frag ((w.alloc (.cells #[.int .i64 e.seq, .int .i64 e.client, .int .i64 e.num, .int .i64 e.op, .string (strB e.key), .int .i64 e.size, .int .u32 (e.sum : Int), .slice loc e.frag.length c] 41)).alloc (.cells #[.int .i64 f.seq, .int .i64 f.client, .int .i64 f.num, .int .i64 f.op, .string (strB f.key), .int .i64 f.size, .int .u32 (f.sum : Int), .slice loc' f.frag.length c'] 41)).drew) :=
    ⟨E0, (box_new w _ _ _ rfl).below ((below_one _ _).drew), (box_new _ _ _ _ (by simp)).below ((Below.refl _ _).drew), h.below E0, h'.below E0⟩
  have SO := Lib.hid (fun x => sound_any e loc c x)
  have RE := Lib.hid (fun x => refEntry_any e loc c x)
  have SA := Lib.hid (fun x (s : SeenAt x loc c e.frag) (t : SeenAt x loc' c' f.frag) => same_any e f loc loc' c c' x he hf s t k1 k2 k3 k4)
  have RS := Lib.hid (fun x (s : SeenAt x loc c e.frag) (t : SeenAt x loc' c' f.frag) => refSame_any e f loc loc' c c' x he hf s t k1 k2 k3 k4)
  have SE := Lib.hid (fun x (s : SeenAt x loc c e.frag) => same_any e e loc loc c c x he he s s k1 k2 k1 k2)
  rw [show decide (encE e = encE e) = true by simp] at SE
  clear E0 h h' he hf k1 k2 k3 k4
  generalize sndE e = bs at *
  generalize decide (encE e = encE f) = ans at *
  have HAA : Hid ((ans == ans) = true) := by show _ = _; simp
  have HBB : Hid ((bs == bs) = true) := by show _ = _; simp
  go_enter Try.func5, Try.ntmps5
  go_wp2_with fail
  refine wp_region_ext (by kernel_rfl) ?_
  generalize ((w.alloc (.cells #[.int .i64 e.seq, .int .i64 e.client, .int .i64 e.num, .int .i64 e.op, .string (strB e.key), .int .i64 e.size, .int .u32 (e.sum : Int), .slice loc e.frag.length c] 41)).alloc (.cells #[.int .i64 f.seq, .int .i64 f.client, .int .i64 f.num, .int .i64 f.op, .string (strB f.key), .int .i64 f.size, .int .u32 (f.sum : Int), .slice loc' f.frag.length c'] 41)).drew = w1 at *
  refine wpAnyH_one (i := 0) rfl (by kernel_rfl) (by rfl) (fun K hK => ?_)
  go_simp
  go_at_call 13
  refine (awake7 _).mono ?_
  rintro x w2 ⟨rfl, hb2⟩
  have H2 := Lib.hid (H1.out.below hb2)
  clear H1
  refine hK.out _ _ hb2 ?_
  clear hK K
  clear hb2
  refine wpAnyH_tk (i := 1) 6 (v := ?_) rfl rfl (by kernel_rfl) (by kernel_rfl) (by kernel_rfl) (by rfl) (fun wq hwq => ?_) ?_
  rotate_left
  · (go_simp <;> with_reducible rfl)
  simp only [List.setIfInBounds_toArray, List.set_cons_zero, List.set_cons_succ]
  refine wpAnyH_tk (i := 2) 7 (v := ?_) rfl rfl (by kernel_rfl) (by kernel_rfl) (by kernel_rfl) (by rfl) (fun wq hwq => ?_) ?_
  rotate_left
  · (obtain ⟨x0, x1, x2, x3, x4, x5, x6, x7⟩ := box8 ((H2.out.a).below hwq); go_simp <;> with_reducible rfl)
  simp only [List.setIfInBounds_toArray, List.set_cons_zero, List.set_cons_succ]
  refine wpAnyH_tk (i := 4) 9 (v := ?_) rfl rfl (by kernel_rfl) (by kernel_rfl) (by kernel_rfl) (by rfl) (fun wq hwq => ?_) ?_
  rotate_left
  · (obtain ⟨x0, x1, x2, x3, x4, x5, x6, x7⟩ := box8 ((H2.out.a).below hwq); go_simp <;> with_reducible rfl)
  simp only [List.setIfInBounds_toArray, List.set_cons_zero, List.set_cons_succ]
  refine wpAnyH_one (i := 3) rfl (by kernel_rfl) (by rfl) (fun K hK => ?_)
  go_simp
  refine (SO.out _).mono ?_
  rintro x w3 ⟨rfl, hb3⟩
  have H3 := Lib.hid (H2.out.below hb3)
  refine hK.out _ _ hb3 ?_
  clear hK K
  clear hb3 H2
  refine wpAnyH_one (i := 5) rfl (by kernel_rfl) (by rfl) (fun K hK => ?_)
  go_simp
  refine (RE.out _).mono ?_
  rintro x w4 ⟨rfl, hb4⟩
  have H4 := Lib.hid (H3.out.below hb4)
  refine hK.out _ _ hb4 ?_
  clear hK K
  clear hb4 H3
  refine wpAnyH_tk (i := 6) 11 (v := ?_) rfl rfl (by kernel_rfl) (by kernel_rfl) (by kernel_rfl) (by rfl) (fun wq hwq => ?_) ?_
  rotate_left
  · (have hx := HBB.out; go_simp <;> with_reducible rfl)
  simp only [List.setIfInBounds_toArray, List.set_cons_zero, List.set_cons_succ]
  refine wpAnyH_tk (i := 7) 12 (v := ?_) rfl rfl (by kernel_rfl) (by kernel_rfl) (by kernel_rfl) (by rfl) (fun wq hwq => ?_) ?_
  rotate_left
  · (go_simp <;> with_reducible rfl)
  simp only [List.setIfInBounds_toArray, List.set_cons_zero, List.set_cons_succ]
  refine wpAnyH_tk (i := 8) 13 (v := ?_) rfl rfl (by kernel_rfl) (by kernel_rfl) (by kernel_rfl) (by rfl) (fun wq hwq => ?_) ?_
  rotate_left
  · (go_simp <;> with_reducible rfl)
  simp only [List.setIfInBounds_toArray, List.set_cons_zero, List.set_cons_succ]
  refine wpAnyH_tk (i := 9) 14 (v := ?_) rfl rfl (by kernel_rfl) (by kernel_rfl) (by kernel_rfl) (by rfl) (fun wq hwq => ?_) ?_
  rotate_left
  · (obtain ⟨x0, x1, x2, x3, x4, x5, x6, x7⟩ := box8 ((H4.out.a).below hwq); go_simp <;> with_reducible rfl)
  simp only [List.setIfInBounds_toArray, List.set_cons_zero, List.set_cons_succ]
  refine wpAnyH_tk (i := 10) 15 (v := ?_) rfl rfl (by kernel_rfl) (by kernel_rfl) (by kernel_rfl) (by rfl) (fun wq hwq => ?_) ?_
  rotate_left
  · (obtain ⟨x0, x1, x2, x3, x4, x5, x6, x7⟩ := box8 ((H4.out.b).below hwq); go_simp <;> with_reducible rfl)
  simp only [List.setIfInBounds_toArray, List.set_cons_zero, List.set_cons_succ]
  refine wpAnyH_tk (i := 12) 17 (v := ?_) rfl rfl (by kernel_rfl) (by kernel_rfl) (by kernel_rfl) (by rfl) (fun wq hwq => ?_) ?_
  rotate_left
  · (obtain ⟨x0, x1, x2, x3, x4, x5, x6, x7⟩ := box8 ((H4.out.a).below hwq); go_simp <;> with_reducible rfl)
  simp only [List.setIfInBounds_toArray, List.set_cons_zero, List.set_cons_succ]
  refine wpAnyH_tk (i := 13) 18 (v := ?_) rfl rfl (by kernel_rfl) (by kernel_rfl) (by kernel_rfl) (by rfl) (fun wq hwq => ?_) ?_
  rotate_left
  · (obtain ⟨x0, x1, x2, x3, x4, x5, x6, x7⟩ := box8 ((H4.out.b).below hwq); go_simp <;> with_reducible rfl)
  simp only [List.setIfInBounds_toArray, List.set_cons_zero, List.set_cons_succ]
  refine wpAnyH_one (i := 11) rfl (by kernel_rfl) (by rfl) (fun K hK => ?_)
  go_simp
  refine (SA.out _ H4.out.s H4.out.t).mono ?_
  rintro x w5 ⟨rfl, hb5⟩
  have H5 := Lib.hid (H4.out.below hb5)
  refine hK.out _ _ hb5 ?_
  clear hK K
  clear hb5
  refine wpAnyH_one (i := 14) rfl (by kernel_rfl) (by rfl) (fun K hK => ?_)
  go_simp
  refine (RS.out _ H5.out.s H5.out.t).mono ?_
  rintro x w6 ⟨rfl, hb6⟩
  have H6 := Lib.hid (H5.out.below hb6)
  refine hK.out _ _ hb6 ?_
  clear hK K
  clear hb6
  refine wpAnyH_tk (i := 15) 20 (v := ?_) rfl rfl (by kernel_rfl) (by kernel_rfl) (by kernel_rfl) (by rfl) (fun wq hwq => ?_) ?_
  rotate_left
  · (have hx := HAA.out; go_simp <;> with_reducible rfl)
  simp only [List.setIfInBounds_toArray, List.set_cons_zero, List.set_cons_succ]
  refine wpAnyH_tk (i := 16) 21 (v := ?_) rfl rfl (by kernel_rfl) (by kernel_rfl) (by kernel_rfl) (by rfl) (fun wq hwq => ?_) ?_
  rotate_left
  · (go_simp <;> with_reducible rfl)
  simp only [List.setIfInBounds_toArray, List.set_cons_zero, List.set_cons_succ]
  refine wpAnyH_tk (i := 17) 22 (v := ?_) rfl rfl (by kernel_rfl) (by kernel_rfl) (by kernel_rfl) (by rfl) (fun wq hwq => ?_) ?_
  rotate_left
  · (go_simp <;> with_reducible rfl)
  simp only [List.setIfInBounds_toArray, List.set_cons_zero, List.set_cons_succ]
  refine wpAnyH_tk (i := 18) 23 (v := ?_) rfl rfl (by kernel_rfl) (by kernel_rfl) (by kernel_rfl) (by rfl) (fun wq hwq => ?_) ?_
  rotate_left
  · (obtain ⟨x0, x1, x2, x3, x4, x5, x6, x7⟩ := box8 ((H6.out.a).below hwq); go_simp <;> with_reducible rfl)
  simp only [List.setIfInBounds_toArray, List.set_cons_zero, List.set_cons_succ]
  refine wpAnyH_tk (i := 19) 24 (v := ?_) rfl rfl (by kernel_rfl) (by kernel_rfl) (by kernel_rfl) (by rfl) (fun wq hwq => ?_) ?_
  rotate_left
  · (obtain ⟨x0, x1, x2, x3, x4, x5, x6, x7⟩ := box8 ((H6.out.a).below hwq); go_simp <;> with_reducible rfl)
  simp only [List.setIfInBounds_toArray, List.set_cons_zero, List.set_cons_succ]
  refine wpAnyH_one (i := 20) rfl (by kernel_rfl) (by rfl) (fun K hK => ?_)
  go_simp
  refine (SE.out _ H6.out.s).mono ?_
  rintro x w7 ⟨rfl, hb7⟩
  have H7 := Lib.hid (H6.out.below hb7)
  refine hK.out _ _ hb7 ?_
  clear hK K
  clear hb7
  refine wpAnyH_tk (i := 21) 26 (v := ?_) rfl rfl (by kernel_rfl) (by kernel_rfl) (by kernel_rfl) (by rfl) (fun wq hwq => ?_) ?_
  rotate_left
  · (go_simp <;> with_reducible rfl)
  simp only [List.setIfInBounds_toArray, List.set_cons_zero, List.set_cons_succ]
  refine wpAnyH_tk (i := 22) 4 (v := ?_) rfl rfl (by kernel_rfl) (by kernel_rfl) (by kernel_rfl) (by rfl) (fun wq hwq => ?_) ?_
  rotate_left
  · (go_simp <;> with_reducible rfl)
  simp only [List.setIfInBounds_toArray, List.set_cons_zero, List.set_cons_succ]
  refine wpAnyH_done (by kernel_rfl) ?_ _
  refine NoPanic.normal ?_
  go_wp2
  go_ret
  exact ⟨rfl, H7.out.ext⟩

end Go.Proofs.Ytjegidnlnjgbkaa
