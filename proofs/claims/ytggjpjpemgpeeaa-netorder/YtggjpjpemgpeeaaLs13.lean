/-
  The law's own list of messages beside a network.
-/
import Derived.Test.YtggjpjpemgpeeaaNt13
import Derived.Test.YtggjpjpemgpeeaaMsgs
namespace Go.Proofs.Ytggjpjpemgpeeaa
open Go.RowKit

/-- A slice of messages of the call's own (or nil), none of a network's blocks. -/
structure LsN (w0 w : World) (v : Value) (ss : List Rm) (N : List Nat) : Prop where
  ls : LsM w0 w 35 v ss
  off : ∀ g, v.ownBlock = some g → g ∉ N

section
variable {w0 w w' : World} {R : Nat} {N N' : List Nat} {ms : List Pm} {ks : List (Int × Int)} {v : Value} {ss : List Rm}

theorem LsN.mv (h : LsN w0 w v ss N) (hM : Mv w w' N N') : LsN w0 w' v ss N' := ⟨h.ls.chg hM.chg h.off, fun g hg => off_mv (h.off g hg) (h.ls.lt g hg).2 hM⟩

theorem LsN.below (h : LsN w0 w v ss N) (hb : Below w.heap.size w w') : LsN w0 w' v ss N := ⟨h.ls.below hb, h.off⟩

theorem NS.chg {gs : List Nat} (h : NS w0 w R N ms ks) (hb : Chg gs w w') (hn : ∀ g ∈ N, g ∉ gs) (hl : ∀ g ∈ gs, w0.heap.size ≤ g) : NS w0 w' R N ms ks := ⟨hb.below h.bel h.bel.size hl, h.nt.chg hb hn⟩

/-- A list made just now. -/
theorem LsN.lit (h : NS w0 w R N ms ks) (B : Nat) (hB : w.heap.size = B) : LsN w0 (w.alloc (.cells #[] 35)) (.slice (some ⟨B, 0, none⟩) 0 0) [] N :=
  ⟨lsM_lit w0 w _ B hB h.bel.size, fun g hg e => by simp [Value.ownBlock] at hg; have := (h.nt.nLt g e).2; omega⟩

theorem own_chg {v : Value} (h : w.grownBy w' v.ownBlock) : Chg v.ownBlock.toList w w' := by
  cases e : v.ownBlock with
  | none => rw [e] at h; exact Chg.of_new h
  | some g => rw [e] at h; exact Chg.of_grown h

end

/-- append(list, y), y laid in a block of its own. -/
theorem wpList_pushM {ops : Array Oper} {rest : List Oper} {o : Oper} {a : Act} {Q : Exit → Act → World → Prop} {w : World} (hgd : o.guard = none) (s x : Operand)
    (ho : o.op = .call { callee := .builtin .append, args := #[s, x], argTypes := #[59, 59] }) {w0 : World} {R : Nat} {N : List Nat} {ms : List Pm} {ks : List (Int × Int)} {ss : List Rm} (va : Option Addr) (n c : Nat)
    (hs : a.eval s = .slice va n c) (H : NS w0 w R N ms ks) (L : LsN w0 w (.slice va n c) ss N) (hn : ss.length = n) (r : Rm) (hr : MsgAt w0 r) (B xc : Nat) (hx : a.eval x = .slice (some ⟨B, 0, none⟩) 1 xc) (hb : Box w B r.cells) (hn' : n ≤ 1000)
    (h : ∀ g' cap' w', NS w0 w' R N ms ks → LsN w0 w' (.slice (some ⟨g', 0, none⟩) (n + 1) cap') (ss ++ [r]) N → Chg (Value.ownBlock (.slice va n c)).toList w w' → (Value.ownBlock (.slice va n c) = some g' ∨ w.heap.size ≤ g') → wpList Try.prog ops Q rest (a.put o.dst (.slice (some ⟨g', 0, none⟩) (n + 1) cap')) w') :
    wpList Try.prog ops Q (o :: rest) a w := by
  obtain ⟨i, hi, hz, hsz, hby⟩ := info_parts infoM
  have ho' := L.ls.own
  rw [hn] at ho'
  have hcl : r.cells.toList.length = 19 := cells_len r
  refine wpList_append_lies w hgd s x 59 ho w0.heap.size 35 i _ 19 256 Try.underlying59 hi hz hsz hby (by show rm0.cells.size = 19; rfl) (by omega) _ n _ hs ho' ⟨B, 0, none⟩ 1 xc r.cells.toList hx (by omega)
    (fun j u hj => by rw [Go.WideShapes.add_plain, Nat.zero_add]; rw [Array.getElem?_toList] at hj; exact hb j u hj) (cells_ones r) (by omega) (by unfold maxLen; omega) (by omega) H.bel.size w.heap.size rfl ?_
  intro g' cap' w' hown' hg hat _
  have hch := own_chg hg
  have hoff : ∀ g ∈ N, g ∉ (Value.ownBlock (.slice va n c)).toList := fun g hgN hm => by
    rw [Option.mem_toList] at hm
    exact L.off g hm hgN
  have hH := H.chg hch hoff fun g hm => by rw [Option.mem_toList] at hm; exact (L.ls.lt g hm).1
  have hat' : Value.ownBlock (.slice va n c) = some g' ∨ w.heap.size ≤ g' := hat.imp id fun e => by omega
  refine h g' cap' w' hH ⟨⟨?_, fun q hq => ?_⟩, fun g hg' e => ?_⟩ hch hat'
  · rw [mvals_snoc, List.length_append, hn]
    exact hown'
  · rcases List.mem_append.mp hq with hq | hq
    · exact L.ls.at_ q hq
    · rw [List.mem_singleton.mp hq]; exact hr
  · simp [Value.ownBlock] at hg'
    subst hg'
    rcases hat' with h1 | h1
    · exact L.off _ h1 e
    · have := (H.nt.nLt _ e).2; omega

end Go.Proofs.Ytggjpjpemgpeeaa
