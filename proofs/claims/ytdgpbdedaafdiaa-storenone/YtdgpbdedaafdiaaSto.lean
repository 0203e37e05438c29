/-
  A node's durable state in plain words: what records come to (for stage 14). No text of the program is named here.
-/
import Derived.Test.YtdgpbdedaafdiaaBk
namespace Go.Proofs.Ytdgpbdedaafdiaa

/-- The current epoch (as a record), whether it is sealed, and what is staged (the zero record: nothing). -/
structure Ss where
  now : Pr
  sealed : Bool
  staged : Pr

def ss0 : Ss := ⟨pr0, false, pr0⟩

/-- A record is applied. -/
def appS (s : Ss) (r : Pr) : Ss :=
  if r.kind = 1 then { s with now := { s.now with ents := s.now.ents ++ r.ents } }
  else if r.kind = 2 then { s with sealed := true }
  else if r.kind = 3 then { s with staged := r }
  else if r.kind = 4 then ⟨r, false, pr0⟩
  else s

theorem appS_one {s : Ss} {r : Pr} (h : r.kind = 1) : appS s r = ⟨{ s.now with ents := s.now.ents ++ r.ents }, s.sealed, s.staged⟩ := by unfold appS; rw [if_pos h]
theorem appS_two {s : Ss} {r : Pr} (h : r.kind = 2) : appS s r = ⟨s.now, true, s.staged⟩ := by unfold appS; rw [if_neg (by omega), if_pos h]
theorem appS_three {s : Ss} {r : Pr} (h : r.kind = 3) : appS s r = ⟨s.now, s.sealed, r⟩ := by unfold appS; rw [if_neg (by omega), if_neg (by omega), if_pos h]
theorem appS_four {s : Ss} {r : Pr} (h : r.kind = 4) : appS s r = ⟨r, false, pr0⟩ := by unfold appS; rw [if_neg (by omega), if_neg (by omega), if_neg (by omega), if_pos h]

/-- What records come to. -/
def runS (rs : List Pr) : Ss := rs.foldl appS ss0

theorem runS_nil : runS [] = ss0 := rfl
theorem runS_snoc (rs : List Pr) (r : Pr) : runS (rs ++ [r]) = appS (runS rs) r := by unfold runS; rw [List.foldl_append]; rfl
theorem runS_four (r : Pr) (h : r.kind = 4) : runS [r] = ⟨r, false, pr0⟩ := appS_four h

/-- The number of the last entry, or that with which the epoch began. -/
def lastS (s : Ss) : Int :=
  match s.now.ents.getLast? with
  | none => s.now.last
  | some e => if s.now.last < e.seq then e.seq else s.now.last

theorem lastS_none {s : Ss} (h : s.now.ents = []) : lastS s = s.now.last := by unfold lastS; rw [h]; rfl
theorem lastS_some {s : Ss} (h : s.now.ents ≠ []) : lastS s = if s.now.last < (s.now.ents.getD (s.now.ents.length - 1) pe0).seq then (s.now.ents.getD (s.now.ents.length - 1) pe0).seq else s.now.last := by
  have hp : 0 < s.now.ents.length := List.length_pos_iff.mpr h
  unfold lastS
  rw [List.getLast?_eq_getElem?, List.getD_eq_getElem?_getD, List.getElem?_eq_getElem (by omega)]
  rfl

/-- Each field of it is within its type. -/
structure Ss.Wf (s : Ss) : Prop where
  now : s.now.Wf
  staged : s.staged.Wf

theorem pr0_wf14 : pr0.Wf := ⟨by constructor <;> decide, by constructor <;> decide, by simp [pr0], by constructor <;> decide, by constructor <;> decide, by simp [pr0]⟩

theorem ss0_wf : ss0.Wf := ⟨pr0_wf14, pr0_wf14⟩

theorem appS_wf {s : Ss} {r : Pr} (h : s.Wf) (hr : r.Wf) : (appS s r).Wf := by
  unfold appS
  split
  · exact ⟨⟨h.now.kind, h.now.epoch, h.now.mem, h.now.pos, h.now.last, fun e he => by
      rcases List.mem_append.mp he with he | he
      · exact h.now.ents e he
      · exact hr.ents e he⟩, h.staged⟩
  · split
    · exact ⟨h.now, h.staged⟩
    · split
      · exact ⟨h.now, hr⟩
      · split
        · exact ⟨hr, pr0_wf14⟩
        · exact h

theorem runS_wf (rs : List Pr) (h : ∀ r ∈ rs, r.Wf) : (runS rs).Wf := by
  unfold runS
  suffices ∀ s : Ss, s.Wf → (rs.foldl appS s).Wf from this _ ss0_wf
  intro s hs
  induction rs generalizing s with
  | nil => exact hs
  | cons r rs ih => exact ih (fun x hx => h x (List.mem_cons_of_mem _ hx)) _ (appS_wf hs (h r (by simp)))

/-- A record that a law has written: sound, of few entries. -/
structure Gr (r : Pr) : Prop where
  snd : sndR r = true
  wf : r.Wf
  few : r.ents.length ≤ 6
  one : r.kind = 1 → r.ents.length ≤ 1

/-- What holds of the state of such records. -/
structure Ss.Ok (s : Ss) : Prop where
  wf : s.Wf
  ents : ∀ e ∈ s.now.ents, sndE e = true
  last : 0 ≤ s.now.last ∧ s.now.last ≤ 1099511627776
  ep : 0 ≤ s.now.epoch ∧ s.now.epoch ≤ 1099511627776
  stg : s.staged = pr0 ∨ (Gr s.staged ∧ s.staged.kind = 3)

theorem gr_last {r : Pr} (h : Gr r) : 0 ≤ r.last ∧ r.last ≤ 1099511627776 := by
  have := h.snd
  unfold sndR win at this
  simp at this
  omega

theorem gr_ep {r : Pr} (h : Gr r) : 0 ≤ r.epoch ∧ r.epoch ≤ 1099511627776 := by
  have := h.snd
  unfold sndR win at this
  simp at this
  omega

theorem gr_ents {r : Pr} (h : Gr r) : ∀ e ∈ r.ents, sndE e = true := (sndR_lens r h.snd).2.2

theorem ss0_ok : ss0.Ok := ⟨ss0_wf, by simp [ss0, pr0], by simp [ss0, pr0], by simp [ss0, pr0], .inl rfl⟩

theorem appS_ok {s : Ss} {r : Pr} (h : s.Ok) (hr : Gr r) : (appS s r).Ok := by
  have hw := appS_wf h.wf hr.wf
  unfold appS at hw ⊢
  split
  · rename_i h1
    rw [if_pos h1] at hw
    exact ⟨hw, fun e he => by
      rcases List.mem_append.mp he with he | he
      · exact h.ents e he
      · exact gr_ents hr e he, h.last, h.ep, h.stg⟩
  · rename_i h1
    rw [if_neg h1] at hw
    split
    · rename_i h2
      rw [if_pos h2] at hw
      exact ⟨hw, h.ents, h.last, h.ep, h.stg⟩
    · rename_i h2
      rw [if_neg h2] at hw
      split
      · rename_i h3
        rw [if_pos h3] at hw
        exact ⟨hw, h.ents, h.last, h.ep, .inr ⟨hr, h3⟩⟩
      · rename_i h3
        rw [if_neg h3] at hw
        split
        · rename_i h4
          rw [if_pos h4] at hw
          exact ⟨hw, gr_ents hr, gr_last hr, gr_ep hr, .inl rfl⟩
        · exact h

theorem foldS_ok : ∀ (rs : List Pr) (s : Ss), s.Ok → (∀ r ∈ rs, Gr r) → (rs.foldl appS s).Ok
  | [], _, h, _ => h
  | r :: rs, s, h, hr => foldS_ok rs (appS s r) (appS_ok h (hr r (by simp))) (fun x hx => hr x (List.mem_cons_of_mem _ hx))

theorem runS_ok (rs : List Pr) (h : ∀ r ∈ rs, Gr r) : (runS rs).Ok := foldS_ok rs ss0 ss0_ok h

theorem appS_len {s : Ss} {r : Pr} {n : Nat} (hr : Gr r) (h : s.now.ents.length ≤ 6 + n) : (appS s r).now.ents.length ≤ 6 + (n + 1) := by
  have h6 := hr.few
  unfold appS
  split
  · rename_i h1
    have := hr.one h1
    show (s.now.ents ++ r.ents).length ≤ _
    rw [List.length_append]; omega
  · split
    · show s.now.ents.length ≤ _; omega
    · split
      · show s.now.ents.length ≤ _; omega
      · split
        · show r.ents.length ≤ _; omega
        · omega

theorem foldS_len : ∀ (rs : List Pr) (s : Ss) (n : Nat), (∀ r ∈ rs, Gr r) → s.now.ents.length ≤ 6 + n → (rs.foldl appS s).now.ents.length ≤ 6 + (n + rs.length)
  | [], _, _, _, h => h
  | r :: rs, s, n, hr, h => by
    have h1 := foldS_len rs (appS s r) (n + 1) (fun x hx => hr x (List.mem_cons_of_mem _ hx)) (appS_len (hr r (by simp)) h)
    rw [List.foldl_cons, List.length_cons]
    omega

theorem runS_len (rs : List Pr) (h : ∀ r ∈ rs, Gr r) : (runS rs).now.ents.length ≤ 6 + rs.length := by
  have := foldS_len rs ss0 0 h (by show (0 : Nat) ≤ 6; omega)
  unfold runS
  omega

theorem sndE_seq {e : Pe} (h : sndE e = true) : 0 ≤ e.seq ∧ e.seq ≤ 1099511627776 := by
  unfold sndE win at h
  simp at h
  omega

theorem lastS_range {s : Ss} (h : s.Ok) : 0 ≤ lastS s ∧ lastS s ≤ 1099511627776 := by
  by_cases h0 : s.now.ents = []
  · rw [lastS_none h0]; exact h.last
  · rw [lastS_some h0]
    have hp : 0 < s.now.ents.length := List.length_pos_iff.mpr h0
    have h1 := sndE_seq (h.ents _ (getD_mem s.now.ents (s.now.ents.length - 1) pe0 (by omega)))
    have h2 := h.last
    split <;> omega

/-- The record that begins the staged epoch. -/
theorem gr_four {r : Pr} (h : Gr r) : Gr { r with kind := 4 } := by
  refine ⟨?_, ⟨⟨by show (-9223372036854775808 : Int) ≤ 4; decide, by show (4 : Int) ≤ 9223372036854775807; decide⟩, h.wf.epoch, h.wf.mem, h.wf.pos, h.wf.last, h.wf.ents⟩, h.few, fun e => by cases e⟩
  have := h.snd
  unfold sndR at this ⊢
  simp at this ⊢
  simp [this]

end Go.Proofs.Ytdgpbdedaafdiaa
