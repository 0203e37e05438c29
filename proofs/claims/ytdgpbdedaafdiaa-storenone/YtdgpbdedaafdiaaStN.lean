/-
  A store in memory ('SoX', 'So').
-/
import Derived.Test.YtdgpbdedaafdiaaStM
namespace Go.Proofs.Ytdgpbdedaafdiaa
open Go.RowKit

/-- Where a store's parts lie. -/
structure Lay where
  RB : Nat
  a : Option Addr
  ga : Option Addr
  F : List Nat
  na : Option Addr
  nc : Nat
  ma : Option Addr
  mc : Nat
  xa : Option Addr
  xc : Nat
  ya : Option Addr
  yc : Nat

/-- The blocks that its methods may turn. -/
def Lay.M (L : Lay) (SB R : Nat) : List Nat := SB :: (bkM L.RB R L.a L.ga ++ blk L.na)

/-- A store's own cells. -/
def Lay.cellsB (L : Lay) (bp : Value) (s : Ss) : Array Value :=
  #[bp, .int .i64 s.now.kind, .int .i64 s.now.epoch, .slice L.ma s.now.mem.length L.mc, .int .i64 s.now.pos, .int .i64 s.now.last, .slice L.na s.now.ents.length L.nc, .bool s.sealed,
    .int .i64 s.staged.kind, .int .i64 s.staged.epoch, .slice L.xa s.staged.mem.length L.xc, .int .i64 s.staged.pos, .int .i64 s.staged.last, .slice L.ya s.staged.ents.length L.yc]

def Lay.cells (L : Lay) (s : Ss) : Array Value := L.cellsB (.pointer (some ⟨L.RB, 0, none⟩)) s

/-- A store in block SB, its disk in block R, whose parts lie as L says. -/
structure SoX (w : World) (base SB R : Nat) (d : DS) (cs : List (List Nat)) (s : Ss) (L : Lay) : Prop where
  bk : Bk w base L.RB R L.a L.ga d cs L.F
  box : Bx w SB 61 (L.cells s)
  own : Er w base (L.M SB R) L.na L.nc s.now.ents
  mem : Kp (L.M SB R) w fun x => IntsAt x L.ma L.mc s.now.mem
  stg : Kp (L.M SB R) w fun x => RecAt x L.xa L.xc L.ya L.yc s.staged
  nS : SB ∉ bkM L.RB R L.a L.ga ∧ SB ∉ blk L.na ∧ SB ∉ L.F
  nN : ∀ g ∈ blk L.na, g ∉ bkM L.RB R L.a L.ga ∧ g ∉ L.F
  base : base ≤ SB
  fLt : ∀ g ∈ L.F, g < w.heap.size

theorem bx_lt {w : World} {B : Nat} {t : TypeId} {C : Array Value} (h : Bx w B t C) : B < w.heap.size := (Array.getElem?_eq_some_iff.1 h).1

section
variable {w w' : World} {base SB R : Nat} {d d' : DS} {cs cs' : List (List Nat)} {s : Ss} {L : Lay}

theorem Lay.mem {L : Lay} {g : Nat} : g ∈ L.M SB R ↔ g = SB ∨ g ∈ bkM L.RB R L.a L.ga ∨ g ∈ blk L.na := by
  unfold Lay.M
  simp only [List.mem_cons, List.mem_append]

theorem SoX.mLt (h : SoX w base SB R d cs s L) {g : Nat} (hg : g ∈ L.M SB R) : base ≤ g ∧ g < w.heap.size := by
  rcases Lay.mem.1 hg with rfl | hg | hg
  · exact ⟨h.base, bx_lt h.box⟩
  · exact h.bk.mLt hg
  · exact h.own.lt hg

theorem SoX.below (h : SoX w base SB R d cs s L) (hb : Below w.heap.size w w') : SoX w' base SB R d cs s L :=
  ⟨h.bk.below hb, h.box.chg (gs := []) (Chg.of_below hb) (by simp), h.own.below hb, h.mem.below hb, h.stg.below hb, h.nS, h.nN, h.base, fun g hg => Nat.lt_of_lt_of_le (h.fLt g hg) hb.size⟩

/-- The book has turned. -/
theorem SoX.book {a' ga' : Option Addr} {F' : List Nat} (h : SoX w base SB R d cs s L) (hk : Bk w' base L.RB R a' ga' d' cs' F') (hm : Mv w w' (bkM L.RB R L.a L.ga) (bkM L.RB R a' ga')) (hF : ∀ g ∈ F', g ∈ L.F ∨ (w.heap.size ≤ g ∧ g < w'.heap.size)) :
    SoX w' base SB R d' cs' s { L with a := a', ga := ga', F := F' } ∧ Mv w w' (L.M SB R) (({ L with a := a', ga := ga', F := F' } : Lay).M SB R) := by
  have hM : ∀ g ∈ ({ L with a := a', ga := ga', F := F' } : Lay).M SB R, g ∈ L.M SB R ∨ w.heap.size ≤ g := fun g hg => by
    rcases Lay.mem.1 hg with e | e | e
    · exact .inl (Lay.mem.2 (.inl e))
    · rcases hm.now g e with e | e
      · exact .inl (Lay.mem.2 (.inr (.inl e)))
      · exact .inr e
    · exact .inl (Lay.mem.2 (.inr (.inr e)))
  have hsub : ∀ g ∈ bkM L.RB R L.a L.ga, g ∈ L.M SB R := fun g hg => Lay.mem.2 (.inr (.inl hg))
  have hmv : Mv w w' (L.M SB R) (({ L with a := a', ga := ga', F := F' } : Lay).M SB R) := ⟨hm.chg.mono hsub, hM⟩
  have hSB : ∀ g, g < w.heap.size → g ∉ bkM L.RB R L.a L.ga → g ∉ bkM L.RB R a' ga' := fun g hlt hn e => by
    rcases hm.now g e with e | e
    · exact hn e
    · omega
  refine ⟨⟨hk, h.box.chg hm.chg h.nS.1, h.own.go hm.chg (fun g hg => .inl (hsub g hg)) (fun g hg => (h.nN g hg).1) hM, h.mem.mv hmv, h.stg.mv hmv, ⟨hSB SB (bx_lt h.box) h.nS.1, h.nS.2.1, fun e => ?_⟩, fun g hg => ⟨hSB g (h.own.lt hg).2 (h.nN g hg).1, fun e => ?_⟩, h.base, fun g hg => ?_⟩, hmv⟩
  · rcases hF SB e with e | e
    · exact h.nS.2.2 e
    · have := bx_lt h.box; omega
  · rcases hF g e with e | e
    · exact (h.nN g hg).2 e
    · have := (h.own.lt hg).2; omega
  · rcases hF g hg with e | e
    · exact Nat.lt_of_lt_of_le (h.fLt g e) hm.chg.size
    · exact e.2

/-- A method of the disk without results. -/
theorem SoX.disk (h : SoX w base SB R d cs s L) (hd : Dsk w' base R L.a d') (hb : Chg [R] w w') : SoX w' base SB R d' cs s L ∧ Mv w w' (L.M SB R) (L.M SB R) := by
  have hb' : Chg (R :: blk L.a) w w' := hb.mono (by simp)
  exact h.book (h.bk.wrote hd hb' (.inl rfl)) (h.bk.wroteMv hb' (.inl rfl)) (fun g hg => .inl hg)

end

/-- The entries of a record, of one's own and apart from a store. -/
structure Ry (w : World) (base : Nat) (M F : List Nat) (ma : Option Addr) (mc : Nat) (ea : Option Addr) (ec : Nat) (r : Pr) : Prop where
  ents : Er w base (blk ea ++ M) ea ec r.ents
  mem : Kp (blk ea ++ M) w fun x => IntsAt x ma mc r.mem
  wf : r.Wf
  apart : ∀ g ∈ blk ea, g ∉ M ∧ g ∉ F

theorem Ry.below {w w' : World} {base : Nat} {M F : List Nat} {ma ea : Option Addr} {mc ec : Nat} {r : Pr} (h : Ry w base M F ma mc ea ec r) (hb : Below w.heap.size w w') : Ry w' base M F ma mc ea ec r :=
  ⟨h.ents.below hb, h.mem.below hb, h.wf, h.apart⟩

theorem Er.kp {w : World} {base : Nat} {M : List Nat} {a : Option Addr} {c : Nat} {es : List Pe} (h : Er w base (blk a ++ M) a c es) (hn : ∀ g ∈ blk a, g ∉ M) : Kp M w fun x => EnsAt x a c es := fun gs w2 hc hg =>
  (h.go hc (fun g hg' => by
    rcases hg g hg' with h1 | h1
    · exact .inl (List.mem_append_right _ h1)
    · exact .inr h1) (fun g hg' hm => by
    rcases hg g hm with h1 | h1
    · exact hn g hg' h1
    · have := (h.lt hg').2; omega) (fun _ hm => .inl hm)).ens

theorem Ry.recAt {w : World} {base : Nat} {M F : List Nat} {ma ea : Option Addr} {mc ec : Nat} {r : Pr} (h : Ry w base M F ma mc ea ec r) : Kp M w fun x => RecAt x ma mc ea ec r :=
  ((h.mem.sub fun _ hg => .inl (List.mem_append_right _ hg)).and (h.ents.kp fun g hg => (h.apart g hg).1)).imp fun _ hx => ⟨hx.1, hx.2, h.wf⟩

/-- A store that a law has: its state is what its records come to. -/
def So (w : World) (base SB R : Nat) (M : List Nat) (d : DS) (rs : List Pr) (s : Ss) : Prop :=
  runS rs = s ∧ (∀ r ∈ rs, Gr r) ∧ ∃ L : Lay, L.M SB R = M ∧ SoX w base SB R d (rs.map encR) s L

section
variable {w w' : World} {base SB R : Nat} {M : List Nat} {d d' : DS} {rs : List Pr} {s : Ss}

theorem So.mLt (h : So w base SB R M d rs s) {g : Nat} (hg : g ∈ M) : base ≤ g ∧ g < w.heap.size := by
  obtain ⟨_, _, L, rfl, hx⟩ := h
  exact hx.mLt hg

theorem So.below (h : So w base SB R M d rs s) (hb : Below w.heap.size w w') : So w' base SB R M d rs s := by
  obtain ⟨h1, h2, L, h3, hx⟩ := h
  exact ⟨h1, h2, L, h3, hx.below hb⟩

theorem So.ok (h : So w base SB R M d rs s) : s.Ok := by rw [← h.1]; exact runS_ok rs h.2.1

theorem So.len (h : So w base SB R M d rs s) : s.now.ents.length ≤ 6 + rs.length := by rw [← h.1]; exact runS_len rs h.2.1

theorem So.sizeLe (h : So w base SB R M d rs s) : base ≤ w.heap.size := by
  obtain ⟨h1, h2, L, h3, hx⟩ := h
  have := hx.base
  have := bx_lt hx.box
  omega

/-- Where its disk lies. -/
theorem So.dsk (h : So w base SB R M d rs s) : ∃ a, Dsk w base R a d ∧ (∀ w' d', Dsk w' base R a d' → Chg [R] w w' → So w' base SB R M d' rs s ∧ Mv w w' M M) ∧ ∀ g ∈ R :: blk a, g ∈ M := by
  obtain ⟨h1, h2, L, rfl, hx⟩ := h
  refine ⟨L.a, hx.bk.dsk, fun w' d' hd hc => ?_, fun g hg => ?_⟩
  · obtain ⟨k1, k2⟩ := hx.disk hd hc
    exact ⟨⟨h1, h2, L, rfl, k1⟩, k2⟩
  · refine Lay.mem.2 (.inr (.inl ?_))
    unfold bkM
    simp only [List.mem_cons, List.mem_append] at hg ⊢
    rcases hg with e | e
    · exact .inr (.inl e)
    · exact .inr (.inr (.inl e))

end

/-- What a write answers and leaves: p is the answer and the disk, rs' the records. -/
def RetMu (w : World) (base SB R : Nat) (M : List Nat) (p : Int × DS) (rs' : List Pr) (e : Ending) (w' : World) : Prop :=
  e = .returned (.int .i64 p.1) ∧ ∃ M', So w' base SB R M' p.2 rs' (runS rs') ∧ Mv w w' M M'

/-- What the disk answers to a record, and the records then. -/
def wq (d : DS) (r : Pr) (rep : Bool) : Int × DS := if sndR r then wrt d (frm (encR r)) rep else (2, d)
def nxt (rs : List Pr) (r : Pr) (rep : Bool) (n : Int) : List Pr := if n = 0 then (if rep then [r] else rs ++ [r]) else rs

theorem wq_no (d : DS) (r : Pr) (rep : Bool) (h : sndR r = false) : wq d r rep = (2, d) := by unfold wq; rw [h]; rfl
theorem wq_yes (d : DS) (r : Pr) (rep : Bool) (h : sndR r = true) : wq d r rep = wrt d (frm (encR r)) rep := by unfold wq; rw [h]; rfl
theorem nxt_no (rs : List Pr) (r : Pr) (rep : Bool) (n : Int) (h : n ≠ 0) : nxt rs r rep n = rs := by unfold nxt; rw [if_neg h]
theorem nxt_app (rs : List Pr) (r : Pr) (n : Int) (h : n = 0) : nxt rs r false n = rs ++ [r] := by unfold nxt; rw [if_pos h]; rfl
theorem nxt_rep (rs : List Pr) (r : Pr) (n : Int) (h : n = 0) : nxt rs r true n = [r] := by unfold nxt; rw [if_pos h]; rfl

end Go.Proofs.Ytdgpbdedaafdiaa
