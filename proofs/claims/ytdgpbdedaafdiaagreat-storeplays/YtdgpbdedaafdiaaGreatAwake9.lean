/-
  The laws' fixed fact, of layer 9; no book; the law BookNone.
  Records that may be written; their frames.
-/
import Derived.Test.YtdgpbdedaafdiaaGreatWalksB9
import Derived.Test.YtdgpbdedaafdiaaGreatArgR
namespace Go.Proofs.YtdgpbdedaafdiaaGreat
open Go.RowKit



/-- A book that was made behind w0. -/
structure St (w0 w : World) (RB R : Nat) (a ga : Option Addr) (s : DS) (cs : List (List Nat)) (F : List Nat) : Prop where
  bk : Bk w w0.heap.size RB R a ga s cs F
  bel : Below w0.heap.size w0 w

theorem St.below {w0 w w' : World} {RB R : Nat} {a ga : Option Addr} {s : DS} {cs : List (List Nat)} {F : List Nat} (h : St w0 w RB R a ga s cs F) (hb : Below w.heap.size w w') : St w0 w' RB R a ga s cs F := ⟨h.bk.below hb, h.bel.trans (hb.mono h.bel.size)⟩

theorem St.mv {w0 w w' : World} {RB R RB' R' : Nat} {a ga a' ga' : Option Addr} {s s' : DS} {cs cs' : List (List Nat)} {F F' : List Nat} (h : St w0 w RB R a ga s cs F) (hk : Bk w' w0.heap.size RB' R' a' ga' s' cs' F') (hm : Mv w w' (bkM RB R a ga) (bkM RB' R' a' ga')) : St w0 w' RB' R' a' ga' s' cs' F' :=
  ⟨hk, (hm.below h.bel fun _ hg => (h.bk.mLt hg).1).1⟩

/-- A method of the disk without results. -/
theorem St.done {w0 w w' : World} {RB R : Nat} {a ga : Option Addr} {s s' : DS} {cs : List (List Nat)} {F : List Nat} (h : St w0 w RB R a ga s cs F) (hd : Dsk w' w0.heap.size R a s') (hb : Chg [R] w w') : St w0 w' RB R a ga s' cs F ∧ Mv w w' (bkM RB R a ga) (bkM RB R a ga) := by
  have hb' : Chg (R :: blk a) w w' := hb.mono (by simp)
  have hm := h.bk.wroteMv hb' (.inl rfl)
  exact ⟨h.mv (h.bk.wrote hd hb' (.inl rfl)) hm, hm⟩

/-- The book is opened anew. -/
theorem Mv.opened {w w' : World} {RB R : Nat} {a ga : Option Addr} {M' : List Nat} (h : Mv w w' (R :: blk a) M') : Mv w w' (bkM RB R a ga) M' := by
  have hs : ∀ g ∈ R :: blk a, g ∈ bkM RB R a ga := fun g hg => by
    unfold bkM
    simp only [List.mem_cons, List.mem_append] at hg ⊢
    rcases hg with e | e
    · exact .inr (.inl e)
    · exact .inr (.inr (.inl e))
  exact ⟨h.chg.mono hs, fun g hg => by
    rcases h.now g hg with h1 | h1
    · exact .inl (hs g h1)
    · exact .inr h1⟩

theorem Mv.off {w w' : World} {M M' : List Nat} (h : Mv w w' M M') {g : Nat} (hg : g ∉ M) (hlt : g < w.heap.size) : g ∉ M' := fun e => by
  rcases h.now g e with h1 | h1
  · exact hg h1
  · omega

theorem R6.lt {w : World} {b o : Nat} {r : Pr} {ma ea : Option Addr} {lm mc le ec : Nat} (h : R6 w b o r ma lm mc ea le ec) : b < w.heap.size := World.block_lt_of_cell? w ⟨b, o, none⟩ h.c0

theorem R6.mv {w w' : World} {b o : Nat} {r : Pr} {ma ea : Option Addr} {lm mc le ec : Nat} {M M' : List Nat} (h : R6 w b o r ma lm mc ea le ec) (hm : Mv w w' M M') (hb : b ∉ M) : R6 w' b o r ma lm mc ea le ec :=
  ⟨hm.chg.cell h.c0 hb, hm.chg.cell h.c1 hb, hm.chg.cell h.c2 hb, hm.chg.cell h.c3 hb, hm.chg.cell h.c4 hb, hm.chg.cell h.c5 hb⟩

theorem r6_new (w : World) (r : Pr) (ma ea : Option Addr) (lm mc le ec B : Nat) (hB : w.heap.size = B) : R6 (w.alloc (.cells #[.int .i64 r.kind, .int .i64 r.epoch, .slice ma lm mc, .int .i64 r.pos, .int .i64 r.last, .slice ea le ec] 35)) B 0 r ma lm mc ea le ec := by
  subst hB
  exact ⟨by simp, by simp, by simp, by simp, by simp, by simp⟩

/-- The record of the fixed fact. -/
def sr : Pr := ⟨2, 0, [], 0, 0, []⟩

theorem sr_snd : sndR sr = true := by decide
theorem sr_wf : sr.Wf := ⟨⟨by decide, by decide⟩, ⟨by decide, by decide⟩, by simp [sr], ⟨by decide, by decide⟩, ⟨by decide, by decide⟩, by simp [sr]⟩
theorem sr_rec (w : World) : RecAt w none 0 none 0 sr := ⟨IntsAt.nil (Nat.zero_le _), EnsAt.nil (Nat.zero_le _), sr_wf⟩
theorem sr_len : (encR sr).length = 6 := by decide +kernel

theorem wrt_k1 (C : List Nat) (h : C.length = 6) : wrt ⟨[], 1000, false, false, 0⟩ (frm C) false = (0, ⟨frm C, 1000, false, false, 0⟩) := by
  unfold wrt
  simp [frm_len, h]
theorem wrt_k2 (C : List Nat) (h : C.length = 6) : wrt ⟨frm C, 1000, false, true, 5⟩ (frm C) false = (6, ⟨frm C ++ (frm C).take 5, 1000, true, true, 5⟩) := by
  unfold wrt
  simp [frm_len, h]

theorem R6.sr {w : World} {b : Nat} (h : R6 w b 0 sr none 0 0 none 0 0) : w.cell? ⟨b, 0, none⟩ = some (.int .i64 2) ∧ w.cell? ⟨b, 1, none⟩ = some (.int .i64 0) ∧ w.cell? ⟨b, 2, none⟩ = some (.slice none 0 0) ∧ w.cell? ⟨b, 3, none⟩ = some (.int .i64 0) ∧ w.cell? ⟨b, 4, none⟩ = some (.int .i64 0) ∧ w.cell? ⟨b, 5, none⟩ = some (.slice none 0 0) :=
  ⟨h.c0, h.c1, h.c2, h.c3, h.c4, h.c5⟩

theorem rob_sr (w : World) : Rob 0 0 w (Rl.ok ⟨sr, none, 0, none, 0, 0, 0⟩) := fun _ w2 _ _ => sr_rec w2

theorem encX_map (xs : List Rl) : xs.map encX = (xs.map Rl.r).map encR := by
  rw [List.map_map]
  rfl

theorem xs_mem {xs : List Rl} {rs : List Pr} (h : xs.map Rl.r = rs) {P : Pr → Prop} (hP : ∀ r ∈ rs, P r) : ∀ x ∈ xs, P x.r := fun x hx => hP _ (by rw [← h]; exact List.mem_map_of_mem hx)

theorem xs_len {xs : List Rl} {rs : List Pr} (h : xs.map Rl.r = rs) : xs.length = rs.length := by rw [← h, List.length_map]

/-! No book. -/

set_option maxHeartbeats 1000000 in
theorem bkOpen_nil (w : World) : Calls Tryz.prog 15 #[.pointer none] w fun e w' => e = .returned (.tuple #[.pointer none, .int .i64 1]) ∧ w = w' := by
  go_enter Tryz.func15, Tryz.ntmps15
  go_wp2_with fail
  refine (read_nil _).mono ?_
  rintro e w' ⟨rfl, rfl⟩
  go_wp2
  go_ret2
  exact ⟨rfl, rfl⟩

set_option maxHeartbeats 1000000 in
theorem bkAppend_nil (ma ea : Option Addr) (mc ec lm le : Nat) (k ep p la : Int) (w : World) :
    Calls Tryz.prog 60 #[.pointer none, .agg #[.int .i64 k, .int .i64 ep, .slice ma lm mc, .int .i64 p, .int .i64 la, .slice ea le ec]] w fun e w' => e = .returned (.int .i64 1) ∧ Below w.heap.size w w' := by
  go_enter Tryz.func60, Tryz.ntmps60
  go_wp2
  go_ret
  exact ⟨rfl, below_one _ _⟩

set_option maxHeartbeats 1000000 in
theorem bkRenew_nil (a : Option Addr) (l c : Nat) (w : World) :
    Calls Tryz.prog 62 #[.pointer none, .slice a l c] w fun e w' => e = .returned (.int .i64 1) ∧ w = w' := by
  go_enter Tryz.func62, Tryz.ntmps62
  go_wp2
  go_ret
  exact ⟨rfl, rfl⟩

set_option maxHeartbeats 1000000 in
theorem bkRecords_nil (w : World) :
    Calls Tryz.prog 16 #[.pointer none] w fun e w' => e = .returned (.slice none 0 0) ∧ w = w' := by
  go_enter Tryz.func16, Tryz.ntmps16
  go_wp2
  go_ret
  exact ⟨rfl, rfl⟩

end Go.Proofs.YtdgpbdedaafdiaaGreat

namespace Go.Proofs.YtdgpbdedaafdiaaGreat
open Go.RowKit

/-- A record that may be written: sound and not too large. -/
structure GoodX (x : Rl) : Prop where
  snd : sndR x.r = true
  ents : x.r.ents.length ≤ 6
  wf : x.r.Wf

theorem encR_small6 (r : Pr) (h : sndR r = true) (h6 : r.ents.length ≤ 6) : (encR r).length ≤ 2332 := by
  obtain ⟨h1, h2, h3⟩ := sndR_lens r h
  have k1 := encs_len [r.kind, r.epoch, r.pos, r.last, (r.mem.length : Int)]
  have k2 := encs_len r.mem
  have k3 := encs_len [(r.ents.length : Int)]
  have k4 := encL_len encE 352 r.ents (fun e he => encE_small e (h3 e he))
  simp at k1 k3
  unfold encR
  rw [List.length_append, List.length_append, List.length_append]
  omega

theorem GoodX.small {x : Rl} (h : GoodX x) : Small x.r := small_of h.snd
theorem GoodX.enc {x : Rl} (h : GoodX x) : decB (encX x) = true ∧ (encX x).length < 4294967296 := enc_good x.r h.wf h.snd
theorem GoodX.len {x : Rl} (h : GoodX x) : (encX x).length ≤ 2332 := encR_small6 x.r h.snd h.ents
theorem GoodX.dec {x : Rl} (h : GoodX x) : decR (encX x) = x.r := (dec_yes x.r h.wf h.snd).2

theorem good_frms (xs : List Rl) (h : ∀ x ∈ xs, GoodX x) : (frms (xs.map encX)).length ≤ 2340 * xs.length := by
  have := encL_len frm 2340 (xs.map encX) (fun c hc => by
    obtain ⟨x, hx, rfl⟩ := List.mem_map.mp hc
    rw [frm_len]
    have := (h x hx).len
    omega)
  rwa [List.length_map] at this

theorem good_encs (xs : List Rl) (h : ∀ x ∈ xs, GoodX x) : ∀ c ∈ xs.map encX, decB c = true ∧ c.length < 4294967296 := fun c hc => by
  obtain ⟨x, hx, rfl⟩ := List.mem_map.mp hc
  exact (h x hx).enc

theorem good_bytes (xs : List Rl) (h : ∀ x ∈ xs, GoodX x) : Gf.Bytes (frms (xs.map encX)) := by
  refine encL_bytes frm _ fun c hc => ?_
  obtain ⟨x, hx, rfl⟩ := List.mem_map.mp hc
  exact frm_bytes _ (encR_bytes x.r (h x hx).wf (h x hx).snd)

theorem good_decs (xs : List Rl) (h : ∀ x ∈ xs, GoodX x) : (xs.map encX).map decR = xs.map Rl.r := by
  rw [List.map_map]
  apply List.map_congr_left
  intro x hx
  exact (h x hx).dec

/-- Decoded and encoded again, valid encodings are the same. -/
theorem encs_back (cs : List (List Nat)) (xs : List Rl) (hx : xs.map Rl.r = cs.map decR) (hc : ∀ c ∈ cs, decB c = true ∧ Gf.Bytes c) : xs.map encX = cs := by
  rw [encX_map, hx, List.map_map]
  refine (List.map_congr_left (g := id) fun c hc' => ?_).trans (List.map_id cs)
  exact (dec_can c (hc c hc').2 (hc c hc').1).2.2

theorem decs_small (cs : List (List Nat)) (xs : List Rl) (hx : xs.map Rl.r = cs.map decR) (hc : ∀ c ∈ cs, decB c = true ∧ Gf.Bytes c) : ∀ x ∈ xs, Small x.r := by
  refine xs_mem hx fun r hr => ?_
  obtain ⟨c, hc', rfl⟩ := List.mem_map.mp hr
  exact small_of (dec_can c (hc c hc').2 (hc c hc').1).1

theorem frms_mem_bytes (cs : List (List Nat)) (rest : List Nat) (h : Gf.Bytes (frms cs ++ rest)) : ∀ c ∈ cs, Gf.Bytes c := by
  intro c hc x hx
  refine h x (List.mem_append_left _ ?_)
  unfold frms encL
  rw [List.mem_flatten]
  refine ⟨frm c, List.mem_map_of_mem hc, ?_⟩
  unfold frm
  simp [hx]

theorem frms_each_len (cs : List (List Nat)) : ∀ c ∈ cs, c.length ≤ (frms cs).length := by
  intro c hc
  induction cs with
  | nil => simp at hc
  | cons d ds ih =>
    rw [frms_cons, List.length_append, frm_len]
    rcases List.mem_cons.mp hc with rfl | hc
    · omega
    · have := ih hc; omega

theorem frms_count (cs : List (List Nat)) : cs.length * 8 ≤ (frms cs).length := by
  induction cs with
  | nil => simp
  | cons d ds ih => rw [frms_cons, List.length_append, frm_len, List.length_cons]; omega

theorem slice_toR (a : Option Addr) (q c l : Nat) (h : l ≤ c) (w : World) : (Instr.slice 61 (.slice a q c) none (some (.int .i64 (l : Int))) none).run Tryz.prog w = .ok (.slice a l c) w := by
  rw [run_slice_h w 61 a q c (by kernel_rfl) .i64 (l : Int) (by omega) (by omega)]
  have hs : (sizeOf (Tryz.prog.elem 61)).run Tryz.prog w = .ok 6 w := by kernel_rfl
  rw [hs]
  rcases a with _ | ⟨b, off, p⟩
  · simp [Result.andThen, sliced]
  · rcases p with _ | p <;> simp [Result.andThen, sliced, Addr.add]

theorem slice_toR' (a : Option Addr) (q c l : Nat) (h : l ≤ c) (w : World) : (Instr.sliceAt 61 (.slice a q c) none (some (.int .i64 (l : Int))) none).run Tryz.prog w = .ok (.slice a l c) w := by
  rw [run_sliceAt_slice w 61 _ _ _ _ (by kernel_rfl)]
  exact slice_toR a q c l h w

theorem wrt_new (F : List Nat) (h : F.length ≤ 1048576) : wrt ⟨[], 1048576, false, false, 0⟩ F false = (0, ⟨F, 1048576, false, false, 0⟩) := by
  unfold wrt
  simp
  omega



end Go.Proofs.YtdgpbdedaafdiaaGreat
