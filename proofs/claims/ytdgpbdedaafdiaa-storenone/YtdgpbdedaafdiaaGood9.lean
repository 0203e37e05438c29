/-
  Records that may be written; their frames.
-/
import Derived.Test.YtdgpbdedaafdiaaAwake9
import Derived.Test.YtdgpbdedaafdiaaArgR
namespace Go.Proofs.Ytdgpbdedaafdiaa
open Go.RowKit

/-- A record that may be written: sound and not too large. -/
structure GoodX (x : Rl) : Prop where
  snd : sndR x.r = true
  ents : x.r.ents.length ≤ 6
  wf : x.r.Wf

theorem encR_small6 (r : Pr) (h : sndR r = true) (h6 : r.ents.length ≤ 6) : (encR r).length ≤ 2332 := by
  obtain ⟨h1, h2, h3⟩ := sndR_lens r h
  have k1 := encs_len [r.kind, r.epoch, r.pos, r.last, (r.mem.length : Int)]
  have k2 := encs_len r.mem
  have k3 := encs_len [(r.ents.length : Int)]
  have k4 := encL_len encE 352 r.ents (fun e he => encE_small e (h3 e he))
  simp at k1 k3
  unfold encR
  rw [List.length_append, List.length_append, List.length_append]
  omega

theorem GoodX.small {x : Rl} (h : GoodX x) : Small x.r := small_of h.snd
theorem GoodX.enc {x : Rl} (h : GoodX x) : decB (encX x) = true ∧ (encX x).length < 4294967296 := enc_good x.r h.wf h.snd
theorem GoodX.len {x : Rl} (h : GoodX x) : (encX x).length ≤ 2332 := encR_small6 x.r h.snd h.ents
theorem GoodX.dec {x : Rl} (h : GoodX x) : decR (encX x) = x.r := (dec_yes x.r h.wf h.snd).2

theorem good_frms (xs : List Rl) (h : ∀ x ∈ xs, GoodX x) : (frms (xs.map encX)).length ≤ 2340 * xs.length := by
  have := encL_len frm 2340 (xs.map encX) (fun c hc => by
    obtain ⟨x, hx, rfl⟩ := List.mem_map.mp hc
    rw [frm_len]
    have := (h x hx).len
    omega)
  rwa [List.length_map] at this

theorem good_encs (xs : List Rl) (h : ∀ x ∈ xs, GoodX x) : ∀ c ∈ xs.map encX, decB c = true ∧ c.length < 4294967296 := fun c hc => by
  obtain ⟨x, hx, rfl⟩ := List.mem_map.mp hc
  exact (h x hx).enc

theorem good_bytes (xs : List Rl) (h : ∀ x ∈ xs, GoodX x) : Gf.Bytes (frms (xs.map encX)) := by
  refine encL_bytes frm _ fun c hc => ?_
  obtain ⟨x, hx, rfl⟩ := List.mem_map.mp hc
  exact frm_bytes _ (encR_bytes x.r (h x hx).wf (h x hx).snd)

theorem good_decs (xs : List Rl) (h : ∀ x ∈ xs, GoodX x) : (xs.map encX).map decR = xs.map Rl.r := by
  rw [List.map_map]
  apply List.map_congr_left
  intro x hx
  exact (h x hx).dec

/-- Decoded and encoded again, valid encodings are the same. -/
theorem encs_back (cs : List (List Nat)) (xs : List Rl) (hx : xs.map Rl.r = cs.map decR) (hc : ∀ c ∈ cs, decB c = true ∧ Gf.Bytes c) : xs.map encX = cs := by
  rw [encX_map, hx, List.map_map]
  refine (List.map_congr_left (g := id) fun c hc' => ?_).trans (List.map_id cs)
  exact (dec_can c (hc c hc').2 (hc c hc').1).2.2

theorem decs_small (cs : List (List Nat)) (xs : List Rl) (hx : xs.map Rl.r = cs.map decR) (hc : ∀ c ∈ cs, decB c = true ∧ Gf.Bytes c) : ∀ x ∈ xs, Small x.r := by
  refine xs_mem hx fun r hr => ?_
  obtain ⟨c, hc', rfl⟩ := List.mem_map.mp hr
  exact small_of (dec_can c (hc c hc').2 (hc c hc').1).1

theorem frms_mem_bytes (cs : List (List Nat)) (rest : List Nat) (h : Gf.Bytes (frms cs ++ rest)) : ∀ c ∈ cs, Gf.Bytes c := by
  intro c hc x hx
  refine h x (List.mem_append_left _ ?_)
  unfold frms encL
  rw [List.mem_flatten]
  refine ⟨frm c, List.mem_map_of_mem hc, ?_⟩
  unfold frm
  simp [hx]

theorem frms_each_len (cs : List (List Nat)) : ∀ c ∈ cs, c.length ≤ (frms cs).length := by
  intro c hc
  induction cs with
  | nil => simp at hc
  | cons d ds ih =>
    rw [frms_cons, List.length_append, frm_len]
    rcases List.mem_cons.mp hc with rfl | hc
    · omega
    · have := ih hc; omega

theorem frms_count (cs : List (List Nat)) : cs.length * 8 ≤ (frms cs).length := by
  induction cs with
  | nil => simp
  | cons d ds ih => rw [frms_cons, List.length_append, frm_len, List.length_cons]; omega

theorem slice_toR (a : Option Addr) (q c l : Nat) (h : l ≤ c) (w : World) : (Instr.slice 62 (.slice a q c) none (some (.int .i64 (l : Int))) none).run Try.prog w = .ok (.slice a l c) w := by
  rw [run_slice_h w 62 a q c (by kernel_rfl) .i64 (l : Int) (by omega) (by omega)]
  have hs : (sizeOf (Try.prog.elem 62)).run Try.prog w = .ok 6 w := by kernel_rfl
  rw [hs]
  rcases a with _ | ⟨b, off, p⟩
  · simp [Result.andThen, sliced]
  · rcases p with _ | p <;> simp [Result.andThen, sliced, Addr.add]

theorem slice_toR' (a : Option Addr) (q c l : Nat) (h : l ≤ c) (w : World) : (Instr.sliceAt 62 (.slice a q c) none (some (.int .i64 (l : Int))) none).run Try.prog w = .ok (.slice a l c) w := by
  rw [run_sliceAt_slice w 62 _ _ _ _ (by kernel_rfl)]
  exact slice_toR a q c l h w

theorem wrt_new (F : List Nat) (h : F.length ≤ 1048576) : wrt ⟨[], 1048576, false, false, 0⟩ F false = (0, ⟨F, 1048576, false, false, 0⟩) := by
  unfold wrt
  simp
  omega



end Go.Proofs.Ytdgpbdedaafdiaa
