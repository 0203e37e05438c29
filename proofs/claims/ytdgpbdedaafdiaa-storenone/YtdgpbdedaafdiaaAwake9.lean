/-
  The laws' fixed fact, of layer 9; no book; the law BookNone.
-/
import Derived.Test.YtdgpbdedaafdiaaWalksC1
namespace Go.Proofs.Ytdgpbdedaafdiaa
open Go.RowKit



/-- A book that was made behind w0. -/
structure St (w0 w : World) (RB R : Nat) (a ga : Option Addr) (s : DS) (cs : List (List Nat)) (F : List Nat) : Prop where
  bk : Bk w w0.heap.size RB R a ga s cs F
  bel : Below w0.heap.size w0 w

theorem St.below {w0 w w' : World} {RB R : Nat} {a ga : Option Addr} {s : DS} {cs : List (List Nat)} {F : List Nat} (h : St w0 w RB R a ga s cs F) (hb : Below w.heap.size w w') : St w0 w' RB R a ga s cs F := ⟨h.bk.below hb, h.bel.trans (hb.mono h.bel.size)⟩

theorem St.mv {w0 w w' : World} {RB R RB' R' : Nat} {a ga a' ga' : Option Addr} {s s' : DS} {cs cs' : List (List Nat)} {F F' : List Nat} (h : St w0 w RB R a ga s cs F) (hk : Bk w' w0.heap.size RB' R' a' ga' s' cs' F') (hm : Mv w w' (bkM RB R a ga) (bkM RB' R' a' ga')) : St w0 w' RB' R' a' ga' s' cs' F' :=
  ⟨hk, (hm.below h.bel fun _ hg => (h.bk.mLt hg).1).1⟩

/-- A method of the disk without results. -/
theorem St.done {w0 w w' : World} {RB R : Nat} {a ga : Option Addr} {s s' : DS} {cs : List (List Nat)} {F : List Nat} (h : St w0 w RB R a ga s cs F) (hd : Dsk w' w0.heap.size R a s') (hb : Chg [R] w w') : St w0 w' RB R a ga s' cs F ∧ Mv w w' (bkM RB R a ga) (bkM RB R a ga) := by
  have hb' : Chg (R :: blk a) w w' := hb.mono (by simp)
  have hm := h.bk.wroteMv hb' (.inl rfl)
  exact ⟨h.mv (h.bk.wrote hd hb' (.inl rfl)) hm, hm⟩

/-- The book is opened anew. -/
theorem Mv.opened {w w' : World} {RB R : Nat} {a ga : Option Addr} {M' : List Nat} (h : Mv w w' (R :: blk a) M') : Mv w w' (bkM RB R a ga) M' := by
  have hs : ∀ g ∈ R :: blk a, g ∈ bkM RB R a ga := fun g hg => by
    unfold bkM
    simp only [List.mem_cons, List.mem_append] at hg ⊢
    rcases hg with e | e
    · exact .inr (.inl e)
    · exact .inr (.inr (.inl e))
  exact ⟨h.chg.mono hs, fun g hg => by
    rcases h.now g hg with h1 | h1
    · exact .inl (hs g h1)
    · exact .inr h1⟩

theorem Mv.off {w w' : World} {M M' : List Nat} (h : Mv w w' M M') {g : Nat} (hg : g ∉ M) (hlt : g < w.heap.size) : g ∉ M' := fun e => by
  rcases h.now g e with h1 | h1
  · exact hg h1
  · omega

theorem R6.lt {w : World} {b o : Nat} {r : Pr} {ma ea : Option Addr} {lm mc le ec : Nat} (h : R6 w b o r ma lm mc ea le ec) : b < w.heap.size := World.block_lt_of_cell? w ⟨b, o, none⟩ h.c0

theorem R6.mv {w w' : World} {b o : Nat} {r : Pr} {ma ea : Option Addr} {lm mc le ec : Nat} {M M' : List Nat} (h : R6 w b o r ma lm mc ea le ec) (hm : Mv w w' M M') (hb : b ∉ M) : R6 w' b o r ma lm mc ea le ec :=
  ⟨hm.chg.cell h.c0 hb, hm.chg.cell h.c1 hb, hm.chg.cell h.c2 hb, hm.chg.cell h.c3 hb, hm.chg.cell h.c4 hb, hm.chg.cell h.c5 hb⟩

theorem r6_new (w : World) (r : Pr) (ma ea : Option Addr) (lm mc le ec B : Nat) (hB : w.heap.size = B) : R6 (w.alloc (.cells #[.int .i64 r.kind, .int .i64 r.epoch, .slice ma lm mc, .int .i64 r.pos, .int .i64 r.last, .slice ea le ec] 38)) B 0 r ma lm mc ea le ec := by
  subst hB
  exact ⟨by simp, by simp, by simp, by simp, by simp, by simp⟩

/-- The record of the fixed fact. -/
def sr : Pr := ⟨2, 0, [], 0, 0, []⟩

theorem sr_snd : sndR sr = true := by decide
theorem sr_wf : sr.Wf := ⟨⟨by decide, by decide⟩, ⟨by decide, by decide⟩, by simp [sr], ⟨by decide, by decide⟩, ⟨by decide, by decide⟩, by simp [sr]⟩
theorem sr_rec (w : World) : RecAt w none 0 none 0 sr := ⟨IntsAt.nil (Nat.zero_le _), EnsAt.nil (Nat.zero_le _), sr_wf⟩
theorem sr_len : (encR sr).length = 6 := by decide +kernel

theorem wrt_k1 (C : List Nat) (h : C.length = 6) : wrt ⟨[], 1000, false, false, 0⟩ (frm C) false = (0, ⟨frm C, 1000, false, false, 0⟩) := by
  unfold wrt
  simp [frm_len, h]
theorem wrt_k2 (C : List Nat) (h : C.length = 6) : wrt ⟨frm C, 1000, false, true, 5⟩ (frm C) false = (6, ⟨frm C ++ (frm C).take 5, 1000, true, true, 5⟩) := by
  unfold wrt
  simp [frm_len, h]

theorem R6.sr {w : World} {b : Nat} (h : R6 w b 0 sr none 0 0 none 0 0) : w.cell? ⟨b, 0, none⟩ = some (.int .i64 2) ∧ w.cell? ⟨b, 1, none⟩ = some (.int .i64 0) ∧ w.cell? ⟨b, 2, none⟩ = some (.slice none 0 0) ∧ w.cell? ⟨b, 3, none⟩ = some (.int .i64 0) ∧ w.cell? ⟨b, 4, none⟩ = some (.int .i64 0) ∧ w.cell? ⟨b, 5, none⟩ = some (.slice none 0 0) :=
  ⟨h.c0, h.c1, h.c2, h.c3, h.c4, h.c5⟩

theorem rob_sr (w : World) : Rob 0 0 w (Rl.ok ⟨sr, none, 0, none, 0, 0, 0⟩) := fun _ w2 _ _ => sr_rec w2

theorem encX_map (xs : List Rl) : xs.map encX = (xs.map Rl.r).map encR := by
  rw [List.map_map]
  rfl

theorem xs_mem {xs : List Rl} {rs : List Pr} (h : xs.map Rl.r = rs) {P : Pr → Prop} (hP : ∀ r ∈ rs, P r) : ∀ x ∈ xs, P x.r := fun x hx => hP _ (by rw [← h]; exact List.mem_map_of_mem hx)

theorem xs_len {xs : List Rl} {rs : List Pr} (h : xs.map Rl.r = rs) : xs.length = rs.length := by rw [← h, List.length_map]

/-! No book. -/

set_option maxHeartbeats 1000000 in
theorem bkOpen_nil (w : World) : Calls Try.prog 25 #[.pointer none] w fun e w' => e = .returned (.tuple #[.pointer none, .int .i64 1]) ∧ w = w' := by
  go_enter Try.func25, Try.ntmps25
  go_wp2_with fail
  refine (read_nil _).mono ?_
  rintro e w' ⟨rfl, rfl⟩
  go_wp2
  go_ret2
  exact ⟨rfl, rfl⟩

set_option maxHeartbeats 1000000 in
theorem bkAppend_nil (ma ea : Option Addr) (mc ec lm le : Nat) (k ep p la : Int) (w : World) :
    Calls Try.prog 47 #[.pointer none, .agg #[.int .i64 k, .int .i64 ep, .slice ma lm mc, .int .i64 p, .int .i64 la, .slice ea le ec]] w fun e w' => e = .returned (.int .i64 1) ∧ Below w.heap.size w w' := by
  go_enter Try.func47, Try.ntmps47
  go_wp2
  go_ret
  exact ⟨rfl, below_one _ _⟩

set_option maxHeartbeats 1000000 in
theorem bkRenew_nil (a : Option Addr) (l c : Nat) (w : World) :
    Calls Try.prog 49 #[.pointer none, .slice a l c] w fun e w' => e = .returned (.int .i64 1) ∧ w = w' := by
  go_enter Try.func49, Try.ntmps49
  go_wp2
  go_ret
  exact ⟨rfl, rfl⟩

set_option maxHeartbeats 1000000 in
theorem bkRecords_nil (w : World) :
    Calls Try.prog 26 #[.pointer none] w fun e w' => e = .returned (.slice none 0 0) ∧ w = w' := by
  go_enter Try.func26, Try.ntmps26
  go_wp2
  go_ret
  exact ⟨rfl, rfl⟩

end Go.Proofs.Ytdgpbdedaafdiaa
