/-
  A node's durable state in plain words: what records come to (for stage 14). No text of the program is named here.
  What holds as long as only some blocks turn ('Kp'); a row of entries of the store's own ('Er'); a store in memory ('So').
  A store in memory ('SoX', 'So').
-/
import Derived.Test.YtdgpbdedaafdiaaGreatBk
import Derived.Test.YtdgpbdedaafdiaaGreatWalksC2
import Derived.Test.YtdgpbdedaafdiaaGreatRaw
import Derived.Test.YtdgpbdedaafdiaaGreatAwake9
namespace Go.Proofs.YtdgpbdedaafdiaaGreat

/-- The current epoch (as a record), whether it is sealed, and what is staged (the zero record: nothing). -/
structure Ss where
  now : Pr
  sealed : Bool
  staged : Pr

def ss0 : Ss := ⟨pr0, false, pr0⟩

/-- A record is applied. -/
def appS (s : Ss) (r : Pr) : Ss :=
  if r.kind = 1 then { s with now := { s.now with ents := s.now.ents ++ r.ents } }
  else if r.kind = 2 then { s with sealed := true }
  else if r.kind = 3 then { s with staged := r }
  else if r.kind = 4 then ⟨r, false, pr0⟩
  else s

theorem appS_one {s : Ss} {r : Pr} (h : r.kind = 1) : appS s r = ⟨{ s.now with ents := s.now.ents ++ r.ents }, s.sealed, s.staged⟩ := by unfold appS; rw [if_pos h]
theorem appS_two {s : Ss} {r : Pr} (h : r.kind = 2) : appS s r = ⟨s.now, true, s.staged⟩ := by unfold appS; rw [if_neg (by omega), if_pos h]
theorem appS_three {s : Ss} {r : Pr} (h : r.kind = 3) : appS s r = ⟨s.now, s.sealed, r⟩ := by unfold appS; rw [if_neg (by omega), if_neg (by omega), if_pos h]
theorem appS_four {s : Ss} {r : Pr} (h : r.kind = 4) : appS s r = ⟨r, false, pr0⟩ := by unfold appS; rw [if_neg (by omega), if_neg (by omega), if_neg (by omega), if_pos h]

/-- What records come to. -/
def runS (rs : List Pr) : Ss := rs.foldl appS ss0

theorem runS_nil : runS [] = ss0 := rfl
theorem runS_snoc (rs : List Pr) (r : Pr) : runS (rs ++ [r]) = appS (runS rs) r := by unfold runS; rw [List.foldl_append]; rfl
theorem runS_four (r : Pr) (h : r.kind = 4) : runS [r] = ⟨r, false, pr0⟩ := appS_four h

/-- The number of the last entry, or that with which the epoch began. -/
def lastS (s : Ss) : Int :=
  match s.now.ents.getLast? with
  | none => s.now.last
  | some e => if s.now.last < e.seq then e.seq else s.now.last

theorem lastS_none {s : Ss} (h : s.now.ents = []) : lastS s = s.now.last := by unfold lastS; rw [h]; rfl
theorem lastS_some {s : Ss} (h : s.now.ents ≠ []) : lastS s = if s.now.last < (s.now.ents.getD (s.now.ents.length - 1) pe0).seq then (s.now.ents.getD (s.now.ents.length - 1) pe0).seq else s.now.last := by
  have hp : 0 < s.now.ents.length := List.length_pos_iff.mpr h
  unfold lastS
  rw [List.getLast?_eq_getElem?, List.getD_eq_getElem?_getD, List.getElem?_eq_getElem (by omega)]
  rfl

/-- Each field of it is within its type. -/
structure Ss.Wf (s : Ss) : Prop where
  now : s.now.Wf
  staged : s.staged.Wf

theorem pr0_wf14 : pr0.Wf := ⟨by constructor <;> decide, by constructor <;> decide, by simp [pr0], by constructor <;> decide, by constructor <;> decide, by simp [pr0]⟩

theorem ss0_wf : ss0.Wf := ⟨pr0_wf14, pr0_wf14⟩

theorem appS_wf {s : Ss} {r : Pr} (h : s.Wf) (hr : r.Wf) : (appS s r).Wf := by
  unfold appS
  split
  · exact ⟨⟨h.now.kind, h.now.epoch, h.now.mem, h.now.pos, h.now.last, fun e he => by
      rcases List.mem_append.mp he with he | he
      · exact h.now.ents e he
      · exact hr.ents e he⟩, h.staged⟩
  · split
    · exact ⟨h.now, h.staged⟩
    · split
      · exact ⟨h.now, hr⟩
      · split
        · exact ⟨hr, pr0_wf14⟩
        · exact h

theorem runS_wf (rs : List Pr) (h : ∀ r ∈ rs, r.Wf) : (runS rs).Wf := by
  unfold runS
  suffices ∀ s : Ss, s.Wf → (rs.foldl appS s).Wf from this _ ss0_wf
  intro s hs
  induction rs generalizing s with
  | nil => exact hs
  | cons r rs ih => exact ih (fun x hx => h x (List.mem_cons_of_mem _ hx)) _ (appS_wf hs (h r (by simp)))

/-- A record that a law has written: sound, of few entries. -/
structure Gr (r : Pr) : Prop where
  snd : sndR r = true
  wf : r.Wf
  few : r.ents.length ≤ 6
  one : r.kind = 1 → r.ents.length ≤ 1

/-- What holds of the state of such records. -/
structure Ss.Ok (s : Ss) : Prop where
  wf : s.Wf
  ents : ∀ e ∈ s.now.ents, sndE e = true
  last : 0 ≤ s.now.last ∧ s.now.last ≤ 1099511627776
  ep : 0 ≤ s.now.epoch ∧ s.now.epoch ≤ 1099511627776
  stg : s.staged = pr0 ∨ (Gr s.staged ∧ s.staged.kind = 3)

theorem gr_last {r : Pr} (h : Gr r) : 0 ≤ r.last ∧ r.last ≤ 1099511627776 := by
  have := h.snd
  unfold sndR win at this
  simp at this
  omega

theorem gr_ep {r : Pr} (h : Gr r) : 0 ≤ r.epoch ∧ r.epoch ≤ 1099511627776 := by
  have := h.snd
  unfold sndR win at this
  simp at this
  omega

theorem gr_ents {r : Pr} (h : Gr r) : ∀ e ∈ r.ents, sndE e = true := (sndR_lens r h.snd).2.2

theorem ss0_ok : ss0.Ok := ⟨ss0_wf, by simp [ss0, pr0], by simp [ss0, pr0], by simp [ss0, pr0], .inl rfl⟩

theorem appS_ok {s : Ss} {r : Pr} (h : s.Ok) (hr : Gr r) : (appS s r).Ok := by
  have hw := appS_wf h.wf hr.wf
  unfold appS at hw ⊢
  split
  · rename_i h1
    rw [if_pos h1] at hw
    exact ⟨hw, fun e he => by
      rcases List.mem_append.mp he with he | he
      · exact h.ents e he
      · exact gr_ents hr e he, h.last, h.ep, h.stg⟩
  · rename_i h1
    rw [if_neg h1] at hw
    split
    · rename_i h2
      rw [if_pos h2] at hw
      exact ⟨hw, h.ents, h.last, h.ep, h.stg⟩
    · rename_i h2
      rw [if_neg h2] at hw
      split
      · rename_i h3
        rw [if_pos h3] at hw
        exact ⟨hw, h.ents, h.last, h.ep, .inr ⟨hr, h3⟩⟩
      · rename_i h3
        rw [if_neg h3] at hw
        split
        · rename_i h4
          rw [if_pos h4] at hw
          exact ⟨hw, gr_ents hr, gr_last hr, gr_ep hr, .inl rfl⟩
        · exact h

theorem foldS_ok : ∀ (rs : List Pr) (s : Ss), s.Ok → (∀ r ∈ rs, Gr r) → (rs.foldl appS s).Ok
  | [], _, h, _ => h
  | r :: rs, s, h, hr => foldS_ok rs (appS s r) (appS_ok h (hr r (by simp))) (fun x hx => hr x (List.mem_cons_of_mem _ hx))

theorem runS_ok (rs : List Pr) (h : ∀ r ∈ rs, Gr r) : (runS rs).Ok := foldS_ok rs ss0 ss0_ok h

theorem appS_len {s : Ss} {r : Pr} {n : Nat} (hr : Gr r) (h : s.now.ents.length ≤ 6 + n) : (appS s r).now.ents.length ≤ 6 + (n + 1) := by
  have h6 := hr.few
  unfold appS
  split
  · rename_i h1
    have := hr.one h1
    show (s.now.ents ++ r.ents).length ≤ _
    rw [List.length_append]; omega
  · split
    · show s.now.ents.length ≤ _; omega
    · split
      · show s.now.ents.length ≤ _; omega
      · split
        · show r.ents.length ≤ _; omega
        · omega

theorem foldS_len : ∀ (rs : List Pr) (s : Ss) (n : Nat), (∀ r ∈ rs, Gr r) → s.now.ents.length ≤ 6 + n → (rs.foldl appS s).now.ents.length ≤ 6 + (n + rs.length)
  | [], _, _, _, h => h
  | r :: rs, s, n, hr, h => by
    have h1 := foldS_len rs (appS s r) (n + 1) (fun x hx => hr x (List.mem_cons_of_mem _ hx)) (appS_len (hr r (by simp)) h)
    rw [List.foldl_cons, List.length_cons]
    omega

theorem runS_len (rs : List Pr) (h : ∀ r ∈ rs, Gr r) : (runS rs).now.ents.length ≤ 6 + rs.length := by
  have := foldS_len rs ss0 0 h (by show (0 : Nat) ≤ 6; omega)
  unfold runS
  omega

theorem sndE_seq {e : Pe} (h : sndE e = true) : 0 ≤ e.seq ∧ e.seq ≤ 1099511627776 := by
  unfold sndE win at h
  simp at h
  omega

theorem lastS_range {s : Ss} (h : s.Ok) : 0 ≤ lastS s ∧ lastS s ≤ 1099511627776 := by
  by_cases h0 : s.now.ents = []
  · rw [lastS_none h0]; exact h.last
  · rw [lastS_some h0]
    have hp : 0 < s.now.ents.length := List.length_pos_iff.mpr h0
    have h1 := sndE_seq (h.ents _ (getD_mem s.now.ents (s.now.ents.length - 1) pe0 (by omega)))
    have h2 := h.last
    split <;> omega

/-- The record that begins the staged epoch. -/
theorem gr_four {r : Pr} (h : Gr r) : Gr { r with kind := 4 } := by
  refine ⟨?_, ⟨⟨by show (-9223372036854775808 : Int) ≤ 4; decide, by show (4 : Int) ≤ 9223372036854775807; decide⟩, h.wf.epoch, h.wf.mem, h.wf.pos, h.wf.last, h.wf.ents⟩, h.few, fun e => by cases e⟩
  have := h.snd
  unfold sndR at this ⊢
  simp at this ⊢
  simp [this]

end Go.Proofs.YtdgpbdedaafdiaaGreat

namespace Go.Proofs.YtdgpbdedaafdiaaGreat
open Go.RowKit

/-- P holds as long as of the old blocks only those of M turn. -/
def Kp (M : List Nat) (w : World) (P : World → Prop) : Prop := ∀ gs w2, Chg gs w w2 → (∀ g ∈ gs, g ∈ M ∨ w.heap.size ≤ g) → P w2

section
variable {M N M' : List Nat} {w w' : World} {P Q : World → Prop}

theorem Kp.now (h : Kp M w P) : P w := h [] w (Chg.refl _ _) (by simp)

theorem Kp.mv (h : Kp M w P) (hm : Mv w w' M M') : Kp M' w' P := fun gs w2 hc hg =>
  h (M ++ gs) w2 ((hm.chg.mono (fun g hg => List.mem_append_left _ hg)).trans (hc.mono fun g hg => List.mem_append_right _ hg)) fun g hm' => by
    rcases List.mem_append.mp hm' with h1 | h1
    · exact .inl h1
    · rcases hg g h1 with h2 | h2
      · exact hm.now g h2
      · exact .inr (Nat.le_trans hm.chg.size h2)

theorem Kp.below (h : Kp M w P) (hb : Below w.heap.size w w') : Kp M w' P := h.mv (Mv.of_below M hb)

theorem Kp.sub (h : Kp M w P) (hs : ∀ g ∈ N, g ∈ M ∨ w.heap.size ≤ g) : Kp N w P := h.mv ⟨Chg.refl _ _, hs⟩

theorem Kp.imp (h : Kp M w P) (hi : ∀ x, P x → Q x) : Kp M w Q := fun gs w2 hc hg => hi _ (h gs w2 hc hg)

theorem Kp.and (h : Kp M w P) (k : Kp M w Q) : Kp M w fun x => P x ∧ Q x := fun gs w2 hc hg => ⟨h gs w2 hc hg, k gs w2 hc hg⟩

theorem kp_rob {lo hi : Nat} (h : Rob lo hi w P) (hM : ∀ g ∈ M, g < lo ∨ hi ≤ g) (hh : hi ≤ w.heap.size) : Kp M w P := fun gs w2 hc hg => h gs w2 hc fun g hm => by
  rcases hg g hm with h1 | h1
  · exact hM g h1
  · right; omega

/-- New memory. -/
theorem kp_new {w0 : World} (h : Rob w0.heap.size w.heap.size w P) (hM : ∀ g ∈ M, g < w0.heap.size) : Kp M w P := kp_rob h (fun g hg => .inl (hM g hg)) (Nat.le_refl _)

/-- Memory that was there ahead of a world. -/
theorem kp_old {w0 : World} (hP : ∀ w', Below w0.heap.size w0 w' → P w') (hb : Below w0.heap.size w0 w) (hM : ∀ g ∈ M, w0.heap.size ≤ g) : Kp M w P := fun gs w2 hc hg => hP w2 (hc.below hb hb.size fun g hm => by
  rcases hg g hm with h | h
  · exact hM g h
  · exact Nat.le_trans hb.size h)

theorem kp_seen {a : Option Addr} {c : Nat} {ps : List Nat} (h : SeenAt w a c ps) (hM : ps ≠ [] → ∀ g ∈ blk a, g ∉ M) : Kp M w fun x => SeenAt x a c ps := fun gs w2 hc hg => by
  by_cases h0 : ps = []
  · subst h0; exact SeenAt.nil h.max
  · refine h.chg hc fun b o e hm => ?_
    rcases hg b hm with h1 | h1
    · exact hM h0 b (by rw [e]; simp [blk]) h1
    · have := seen_lt h h0 e; omega

end

theorem Rob.below {lo hi : Nat} {w w' : World} {P : World → Prop} (h : Rob lo hi w P) (hb : Below w.heap.size w w') : Rob lo hi w' P := h.chg (gs := []) (Chg.of_below hb) (by simp)

theorem Rob.wide {lo hi lo' hi' : Nat} {w : World} {P : World → Prop} (h : Rob lo hi w P) (hl : lo' ≤ lo) (hh : hi ≤ hi') : Rob lo' hi' w P := fun gs w2 hc hg => h gs w2 hc fun g hm => by
  have := hg g hm
  omega

theorem rob_seen {lo hi : Nat} {w : World} {a : Option Addr} {c : Nat} {ps : List Nat} (h : SeenAt w a c ps) (hM : ps ≠ [] → ∀ g ∈ blk a, lo ≤ g ∧ g < hi) : Rob lo hi w fun x => SeenAt x a c ps := fun gs w2 hc hg => by
  by_cases h0 : ps = []
  · subst h0; exact SeenAt.nil h.max
  · refine h.chg hc fun b o e hm => ?_
    have h1 := hM h0 b (by rw [e]; simp [blk])
    have h2 := hg b hm
    omega

theorem fresh_blk {w0 w : World} {a : Option Addr} (h : Fresh w0 w a) : ∀ g ∈ blk a, w0.heap.size ≤ g ∧ g < w.heap.size := fun g hg => by
  rcases h with rfl | ⟨b, o, rfl, h1, h2⟩
  · simp [blk] at hg
  · simp [blk] at hg; omega

/-- A row of entries of one's own at base; their bytes stay as long as only M turns. -/
structure Er (w : World) (base : Nat) (M : List Nat) (a : Option Addr) (c : Nat) (es : List Pe) : Prop where
  row : ∃ xs : List El, xs.map (·.p) = es ∧ w.ownsRow base 41 8 (.slice a xs.length c) xs.length (evals xs) ∧ ∀ x ∈ xs, Kp M w fun y => SeenAt y x.loc x.cap x.p.frag
  wf : ∀ e ∈ es, e.Wf

section
variable {w w' : World} {base c : Nat} {M M' : List Nat} {a : Option Addr} {es : List Pe}

theorem er_nil (w : World) (base : Nat) (M : List Nat) : Er w base M none 0 [] := ⟨⟨[], rfl, World.ownsRow_nil _ _ _ _, by simp⟩, by simp⟩

theorem Er.ens (h : Er w base M a c es) : EnsAt w a c es := by
  obtain ⟨⟨xs, rfl, h1, h2⟩, hw⟩ := h
  exact ens_row h1 rfl (fun x hx => (h2 x hx).now) (fun x hx => hw _ (List.mem_map_of_mem hx))

theorem own_blk {a : Option Addr} {n c g : Nat} (e : Value.ownBlock (.slice a n c) = some g) : g ∈ blk a := by
  rcases a with _ | ad
  · simp [Value.ownBlock] at e
  · simp [Value.ownBlock, blk] at e ⊢; exact e.symm

theorem blk_own {a : Option Addr} {n c g : Nat} (e : g ∈ blk a) : Value.ownBlock (.slice a n c) = some g := by
  rcases a with _ | ad
  · simp [blk] at e
  · simp [Value.ownBlock, blk] at e ⊢; exact e.symm

theorem Er.lt (h : Er w base M a c es) {g : Nat} (hg : g ∈ blk a) : base ≤ g ∧ g < w.heap.size := by
  obtain ⟨⟨xs, rfl, h1, h2⟩, hw⟩ := h
  exact World.ownsRow.lt h1 g (blk_own hg)

theorem Er.go {gs : List Nat} (h : Er w base M a c es) (hc : Chg gs w w') (hgs : ∀ g ∈ gs, g ∈ M ∨ w.heap.size ≤ g) (hn : ∀ g ∈ blk a, g ∉ gs) (hM : ∀ g ∈ M', g ∈ M ∨ w.heap.size ≤ g) : Er w' base M' a c es := by
  obtain ⟨⟨xs, rfl, h1, h2⟩, hw⟩ := h
  refine ⟨⟨xs, rfl, hc.owns h1 (fun g e => hn g (own_blk e)), fun x hx => ?_⟩, hw⟩
  have hm : Mv w w' (M ++ gs) (M' ++ gs) := ⟨hc.mono fun g hg => List.mem_append_right _ hg, fun g hg => by
    rcases List.mem_append.mp hg with h | h
    · rcases hM g h with h | h
      · exact .inl (List.mem_append_left _ h)
      · exact .inr h
    · exact .inl (List.mem_append_right _ h)⟩
  exact (((h2 x hx).sub (N := M ++ gs) fun g hg => by
    rcases List.mem_append.mp hg with h | h
    · exact .inl h
    · exact hgs g h).mv hm).sub fun g hg => .inl (List.mem_append_left _ hg)

theorem Er.below (h : Er w base M a c es) (hb : Below w.heap.size w w') : Er w' base M a c es := h.go (gs := []) (Chg.of_below hb) (by simp) (by simp) (fun _ hg => .inl hg)

theorem Er.base' {base' : Nat} (h : Er w base M a c es) (hb : base' ≤ base) : Er w base' M a c es := by
  obtain ⟨⟨xs, rfl, h1, h2⟩, hw⟩ := h
  exact ⟨⟨xs, rfl, owns_base h1 hb, h2⟩, hw⟩

theorem er_of {lo hi : Nat} (h : RowE w lo hi a c es) (hw : ∀ e ∈ es, e.Wf) (hb : base ≤ lo) (hM : ∀ g ∈ M, g < lo ∨ hi ≤ g ∨ g ∈ blk a) : Er w base M a c es := by
  obtain ⟨xs, rfl, hE, hf, ho⟩ := h
  refine ⟨⟨xs, rfl, owns_base hE.own hb, fun x hx => kp_seen (hE.seen x hx) fun h0 g hg hm => ?_⟩, hw⟩
  obtain ⟨b, o, e⟩ : ∃ b o, x.loc = some ⟨b, o, none⟩ := by
    rcases hl : x.loc with _ | ⟨b, o, sp⟩
    · rw [hl] at hg; simp [blk] at hg
    · rcases sp with _ | q
      · exact ⟨b, o, rfl⟩
      · exfalso
        rw [hl] at hg
        obtain ⟨b', o', e', _⟩ := (hE.seen x hx).cell 0 (List.length_pos_iff.mpr h0)
        rw [hl] at e'
        cases e'
  have hgb : g = b := by rw [e] at hg; simpa [blk] using hg
  subst hgb
  obtain ⟨k1, k2, k3⟩ := hE.off x hx g o e
  have k4 := hf x hx g o e
  rcases hM g hm with h1 | h1 | h1
  · omega
  · omega
  · exact k3 g (blk_own h1) rfl

end

end Go.Proofs.YtdgpbdedaafdiaaGreat

namespace Go.Proofs.YtdgpbdedaafdiaaGreat
open Go.RowKit

/-- Where a store's parts lie. -/
structure Lay where
  RB : Nat
  a : Option Addr
  ga : Option Addr
  F : List Nat
  na : Option Addr
  nc : Nat
  ma : Option Addr
  mc : Nat
  xa : Option Addr
  xc : Nat
  ya : Option Addr
  yc : Nat

/-- The blocks that its methods may turn. -/
def Lay.M (L : Lay) (SB R : Nat) : List Nat := SB :: (bkM L.RB R L.a L.ga ++ blk L.na)

/-- A store's own cells. -/
def Lay.cellsB (L : Lay) (bp : Value) (s : Ss) : Array Value :=
  #[bp, .int .i64 s.now.kind, .int .i64 s.now.epoch, .slice L.ma s.now.mem.length L.mc, .int .i64 s.now.pos, .int .i64 s.now.last, .slice L.na s.now.ents.length L.nc, .bool s.sealed,
    .int .i64 s.staged.kind, .int .i64 s.staged.epoch, .slice L.xa s.staged.mem.length L.xc, .int .i64 s.staged.pos, .int .i64 s.staged.last, .slice L.ya s.staged.ents.length L.yc]

def Lay.cells (L : Lay) (s : Ss) : Array Value := L.cellsB (.pointer (some ⟨L.RB, 0, none⟩)) s

/-- A store in block SB, its disk in block R, whose parts lie as L says. -/
structure SoX (w : World) (base SB R : Nat) (d : DS) (cs : List (List Nat)) (s : Ss) (L : Lay) : Prop where
  bk : Bk w base L.RB R L.a L.ga d cs L.F
  box : Bx w SB 60 (L.cells s)
  own : Er w base (L.M SB R) L.na L.nc s.now.ents
  mem : Kp (L.M SB R) w fun x => IntsAt x L.ma L.mc s.now.mem
  stg : Kp (L.M SB R) w fun x => RecAt x L.xa L.xc L.ya L.yc s.staged
  nS : SB ∉ bkM L.RB R L.a L.ga ∧ SB ∉ blk L.na ∧ SB ∉ L.F
  nN : ∀ g ∈ blk L.na, g ∉ bkM L.RB R L.a L.ga ∧ g ∉ L.F
  base : base ≤ SB
  fLt : ∀ g ∈ L.F, g < w.heap.size

theorem bx_lt {w : World} {B : Nat} {t : TypeId} {C : Array Value} (h : Bx w B t C) : B < w.heap.size := (Array.getElem?_eq_some_iff.1 h).1

section
variable {w w' : World} {base SB R : Nat} {d d' : DS} {cs cs' : List (List Nat)} {s : Ss} {L : Lay}

theorem Lay.mem {L : Lay} {g : Nat} : g ∈ L.M SB R ↔ g = SB ∨ g ∈ bkM L.RB R L.a L.ga ∨ g ∈ blk L.na := by
  unfold Lay.M
  simp only [List.mem_cons, List.mem_append]

theorem SoX.mLt (h : SoX w base SB R d cs s L) {g : Nat} (hg : g ∈ L.M SB R) : base ≤ g ∧ g < w.heap.size := by
  rcases Lay.mem.1 hg with rfl | hg | hg
  · exact ⟨h.base, bx_lt h.box⟩
  · exact h.bk.mLt hg
  · exact h.own.lt hg

theorem SoX.below (h : SoX w base SB R d cs s L) (hb : Below w.heap.size w w') : SoX w' base SB R d cs s L :=
  ⟨h.bk.below hb, h.box.chg (gs := []) (Chg.of_below hb) (by simp), h.own.below hb, h.mem.below hb, h.stg.below hb, h.nS, h.nN, h.base, fun g hg => Nat.lt_of_lt_of_le (h.fLt g hg) hb.size⟩

/-- The book has turned. -/
theorem SoX.book {a' ga' : Option Addr} {F' : List Nat} (h : SoX w base SB R d cs s L) (hk : Bk w' base L.RB R a' ga' d' cs' F') (hm : Mv w w' (bkM L.RB R L.a L.ga) (bkM L.RB R a' ga')) (hF : ∀ g ∈ F', g ∈ L.F ∨ (w.heap.size ≤ g ∧ g < w'.heap.size)) :
    SoX w' base SB R d' cs' s { L with a := a', ga := ga', F := F' } ∧ Mv w w' (L.M SB R) (({ L with a := a', ga := ga', F := F' } : Lay).M SB R) := by
  have hM : ∀ g ∈ ({ L with a := a', ga := ga', F := F' } : Lay).M SB R, g ∈ L.M SB R ∨ w.heap.size ≤ g := fun g hg => by
    rcases Lay.mem.1 hg with e | e | e
    · exact .inl (Lay.mem.2 (.inl e))
    · rcases hm.now g e with e | e
      · exact .inl (Lay.mem.2 (.inr (.inl e)))
      · exact .inr e
    · exact .inl (Lay.mem.2 (.inr (.inr e)))
  have hsub : ∀ g ∈ bkM L.RB R L.a L.ga, g ∈ L.M SB R := fun g hg => Lay.mem.2 (.inr (.inl hg))
  have hmv : Mv w w' (L.M SB R) (({ L with a := a', ga := ga', F := F' } : Lay).M SB R) := ⟨hm.chg.mono hsub, hM⟩
  have hSB : ∀ g, g < w.heap.size → g ∉ bkM L.RB R L.a L.ga → g ∉ bkM L.RB R a' ga' := fun g hlt hn e => by
    rcases hm.now g e with e | e
    · exact hn e
    · omega
  refine ⟨⟨hk, h.box.chg hm.chg h.nS.1, h.own.go hm.chg (fun g hg => .inl (hsub g hg)) (fun g hg => (h.nN g hg).1) hM, h.mem.mv hmv, h.stg.mv hmv, ⟨hSB SB (bx_lt h.box) h.nS.1, h.nS.2.1, fun e => ?_⟩, fun g hg => ⟨hSB g (h.own.lt hg).2 (h.nN g hg).1, fun e => ?_⟩, h.base, fun g hg => ?_⟩, hmv⟩
  · rcases hF SB e with e | e
    · exact h.nS.2.2 e
    · have := bx_lt h.box; omega
  · rcases hF g e with e | e
    · exact (h.nN g hg).2 e
    · have := (h.own.lt hg).2; omega
  · rcases hF g hg with e | e
    · exact Nat.lt_of_lt_of_le (h.fLt g e) hm.chg.size
    · exact e.2

/-- A method of the disk without results. -/
theorem SoX.disk (h : SoX w base SB R d cs s L) (hd : Dsk w' base R L.a d') (hb : Chg [R] w w') : SoX w' base SB R d' cs s L ∧ Mv w w' (L.M SB R) (L.M SB R) := by
  have hb' : Chg (R :: blk L.a) w w' := hb.mono (by simp)
  exact h.book (h.bk.wrote hd hb' (.inl rfl)) (h.bk.wroteMv hb' (.inl rfl)) (fun g hg => .inl hg)

end

/-- The entries of a record, of one's own and apart from a store. -/
structure Ry (w : World) (base : Nat) (M F : List Nat) (ma : Option Addr) (mc : Nat) (ea : Option Addr) (ec : Nat) (r : Pr) : Prop where
  ents : Er w base (blk ea ++ M) ea ec r.ents
  mem : Kp (blk ea ++ M) w fun x => IntsAt x ma mc r.mem
  wf : r.Wf
  apart : ∀ g ∈ blk ea, g ∉ M ∧ g ∉ F

theorem Ry.below {w w' : World} {base : Nat} {M F : List Nat} {ma ea : Option Addr} {mc ec : Nat} {r : Pr} (h : Ry w base M F ma mc ea ec r) (hb : Below w.heap.size w w') : Ry w' base M F ma mc ea ec r :=
  ⟨h.ents.below hb, h.mem.below hb, h.wf, h.apart⟩

theorem Er.kp {w : World} {base : Nat} {M : List Nat} {a : Option Addr} {c : Nat} {es : List Pe} (h : Er w base (blk a ++ M) a c es) (hn : ∀ g ∈ blk a, g ∉ M) : Kp M w fun x => EnsAt x a c es := fun gs w2 hc hg =>
  (h.go hc (fun g hg' => by
    rcases hg g hg' with h1 | h1
    · exact .inl (List.mem_append_right _ h1)
    · exact .inr h1) (fun g hg' hm => by
    rcases hg g hm with h1 | h1
    · exact hn g hg' h1
    · have := (h.lt hg').2; omega) (fun _ hm => .inl hm)).ens

theorem Ry.recAt {w : World} {base : Nat} {M F : List Nat} {ma ea : Option Addr} {mc ec : Nat} {r : Pr} (h : Ry w base M F ma mc ea ec r) : Kp M w fun x => RecAt x ma mc ea ec r :=
  ((h.mem.sub fun _ hg => .inl (List.mem_append_right _ hg)).and (h.ents.kp fun g hg => (h.apart g hg).1)).imp fun _ hx => ⟨hx.1, hx.2, h.wf⟩

/-- A store that a law has: its state is what its records come to. -/
def So (w : World) (base SB R : Nat) (M : List Nat) (d : DS) (rs : List Pr) (s : Ss) : Prop :=
  runS rs = s ∧ (∀ r ∈ rs, Gr r) ∧ ∃ L : Lay, L.M SB R = M ∧ SoX w base SB R d (rs.map encR) s L

section
variable {w w' : World} {base SB R : Nat} {M : List Nat} {d d' : DS} {rs : List Pr} {s : Ss}

theorem So.mLt (h : So w base SB R M d rs s) {g : Nat} (hg : g ∈ M) : base ≤ g ∧ g < w.heap.size := by
  obtain ⟨_, _, L, rfl, hx⟩ := h
  exact hx.mLt hg

theorem So.below (h : So w base SB R M d rs s) (hb : Below w.heap.size w w') : So w' base SB R M d rs s := by
  obtain ⟨h1, h2, L, h3, hx⟩ := h
  exact ⟨h1, h2, L, h3, hx.below hb⟩

theorem So.ok (h : So w base SB R M d rs s) : s.Ok := by rw [← h.1]; exact runS_ok rs h.2.1

theorem So.len (h : So w base SB R M d rs s) : s.now.ents.length ≤ 6 + rs.length := by rw [← h.1]; exact runS_len rs h.2.1

theorem So.sizeLe (h : So w base SB R M d rs s) : base ≤ w.heap.size := by
  obtain ⟨h1, h2, L, h3, hx⟩ := h
  have := hx.base
  have := bx_lt hx.box
  omega

/-- Where its disk lies. -/
theorem So.dsk (h : So w base SB R M d rs s) : ∃ a, Dsk w base R a d ∧ (∀ w' d', Dsk w' base R a d' → Chg [R] w w' → So w' base SB R M d' rs s ∧ Mv w w' M M) ∧ ∀ g ∈ R :: blk a, g ∈ M := by
  obtain ⟨h1, h2, L, rfl, hx⟩ := h
  refine ⟨L.a, hx.bk.dsk, fun w' d' hd hc => ?_, fun g hg => ?_⟩
  · obtain ⟨k1, k2⟩ := hx.disk hd hc
    exact ⟨⟨h1, h2, L, rfl, k1⟩, k2⟩
  · refine Lay.mem.2 (.inr (.inl ?_))
    unfold bkM
    simp only [List.mem_cons, List.mem_append] at hg ⊢
    rcases hg with e | e
    · exact .inr (.inl e)
    · exact .inr (.inr (.inl e))

end

/-- What a write answers and leaves: p is the answer and the disk, rs' the records. -/
def RetMu (w : World) (base SB R : Nat) (M : List Nat) (p : Int × DS) (rs' : List Pr) (e : Ending) (w' : World) : Prop :=
  e = .returned (.int .i64 p.1) ∧ ∃ M', So w' base SB R M' p.2 rs' (runS rs') ∧ Mv w w' M M'

/-- What the disk answers to a record, and the records then. -/
def wq (d : DS) (r : Pr) (rep : Bool) : Int × DS := if sndR r then wrt d (frm (encR r)) rep else (2, d)
def nxt (rs : List Pr) (r : Pr) (rep : Bool) (n : Int) : List Pr := if n = 0 then (if rep then [r] else rs ++ [r]) else rs

theorem wq_no (d : DS) (r : Pr) (rep : Bool) (h : sndR r = false) : wq d r rep = (2, d) := by unfold wq; rw [h]; rfl
theorem wq_yes (d : DS) (r : Pr) (rep : Bool) (h : sndR r = true) : wq d r rep = wrt d (frm (encR r)) rep := by unfold wq; rw [h]; rfl
theorem nxt_no (rs : List Pr) (r : Pr) (rep : Bool) (n : Int) (h : n ≠ 0) : nxt rs r rep n = rs := by unfold nxt; rw [if_neg h]
theorem nxt_app (rs : List Pr) (r : Pr) (n : Int) (h : n = 0) : nxt rs r false n = rs ++ [r] := by unfold nxt; rw [if_pos h]; rfl
theorem nxt_rep (rs : List Pr) (r : Pr) (n : Int) (h : n = 0) : nxt rs r true n = [r] := by unfold nxt; rw [if_pos h]; rfl

end Go.Proofs.YtdgpbdedaafdiaaGreat
