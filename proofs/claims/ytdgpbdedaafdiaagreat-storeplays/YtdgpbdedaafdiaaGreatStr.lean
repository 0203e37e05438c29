/-
  Strings of bytes; literals; worlds of one heap; an operation under a guard that says yes.
-/
import Derived.Test.YtdgpbdedaafdiaaGreatMem
import Derived.Laws.BytesString
namespace Go.Proofs.YtdgpbdedaafdiaaGreat
open Go.RowKit

/-- The string of these bytes. -/
def strB (ps : List Nat) : ByteArray := (ps.map fun (c : Nat) => (c : Int)).foldl (fun r n => r.push (UInt8.ofNat n.toNat)) ByteArray.empty

theorem str_of {w : World} {a : Option Addr} {cap : Nat} {ps : List Nat} (h : SeenAt w a cap ps) : (convert 39 9 (.slice a ps.length cap)).run Tryz.prog w = .ok (.string (strB ps)) w := by
  rw [run_convert_bytes_string w 39 9 5 a ps.length cap Tryz.underlying39 Tryz.underlying5 Tryz.underlying9]
  by_cases h0 : ps = []
  · subst h0
    rcases a with _ | ad
    · rfl
    · exact run_bytesToString w ad 0 cap [] rfl
  · have hp : 0 < ps.length := by cases ps with | nil => exact absurd rfl h0 | cons c p => simp
    obtain ⟨b, off, rfl, _⟩ := h.cell 0 hp
    refine run_bytesToString w _ _ cap (ps.map fun (c : Nat) => (c : Int)) ?_
    have := run_loadCells_list (P := Tryz.prog) (w := w) ⟨b, off, none⟩ (vals ps) (fun j v hv => by
      have hj : j < ps.length := by
        rcases Nat.lt_or_ge j ps.length with hlt | hge
        · exact hlt
        · rw [List.getElem?_eq_none (by rw [vals_len]; exact hge)] at hv; cases hv
      obtain ⟨b', off', e, hc⟩ := h.cell j hj
      cases e
      rw [vals_at ps j hj] at hv
      rw [Go.WideShapes.add_plain, hc]
      exact hv)
    rw [vals_len] at this
    rw [this]
    simp [vals]

theorem strB_fold (ps : List Nat) (b : ByteArray) : ((ps.map fun (c : Nat) => (c : Int)).foldl (fun r n => r.push (UInt8.ofNat n.toNat)) b).data.toList = b.data.toList ++ ps.map UInt8.ofNat := by
  induction ps generalizing b with
  | nil => simp
  | cons c ps ih => simp [ih]

theorem strB_list (ps : List Nat) : (strB ps).data.toList = ps.map UInt8.ofNat := by
  unfold strB
  rw [strB_fold]
  rfl

theorem ofNat_inj : ∀ (ps qs : List Nat), Gf.Bytes ps → Gf.Bytes qs → ps.map UInt8.ofNat = qs.map UInt8.ofNat → ps = qs
  | [], [], _, _, _ => rfl
  | [], d :: qs, _, _, h => by simp at h
  | c :: ps, [], _, _, h => by simp at h
  | c :: ps, d :: qs, hp, hq, h => by
    simp only [List.map_cons, List.cons.injEq] at h
    have hc := hp c (List.mem_cons_self ..)
    have hd := hq d (List.mem_cons_self ..)
    have e : c = d := by
      have := congrArg UInt8.toNat h.1
      rwa [UInt8.toNat_ofNat', UInt8.toNat_ofNat', Nat.mod_eq_of_lt (by omega), Nat.mod_eq_of_lt (by omega)] at this
    rw [e, ofNat_inj ps qs (fun x hx => hp x (List.mem_cons_of_mem _ hx)) (fun x hx => hq x (List.mem_cons_of_mem _ hx)) h.2]

/-- Unlike bytes make unlike strings. -/
theorem strB_inj {ps qs : List Nat} (hp : Gf.Bytes ps) (hq : Gf.Bytes qs) (h : strB ps = strB qs) : ps = qs :=
  ofNat_inj ps qs hp hq (by rw [← strB_list, ← strB_list, h])

theorem cell_via {a b c : World} {p : Addr} {v : Value} (k : Below b.heap.size b c) (h : a.cell? p = some v) (e : b.heap = a.heap) : c.cell? p = some v :=
  cell_later k (by rw [← h]; simp [World.cell?, e])

theorem SeenAt.via {a b c : World} {ad : Option Addr} {cap : Nat} {ps : List Nat} (k : Below b.heap.size b c) (h : SeenAt a ad cap ps) (e : b.heap = a.heap) : SeenAt c ad cap ps := (h.alike e).below k

/-- The string of a row, wherever it lies. -/
theorem str_at {w : World} {a : Option Addr} {cap n : Nat} {ps : List Nat} (h : SeenAt w a cap ps) (hn : ps.length = n) : (convert 39 9 (.slice a n cap)).run Tryz.prog w = .ok (.string (strB ps)) w := by
  subst hn; exact str_of h

theorem below_same {B : Nat} {w a b : World} (h : Below B w a) (e1 : b.os = a.os) (e2 : b.tape = a.tape) (e3 : b.output = a.output) (e4 : b.heap = a.heap) : Below B w b :=
  ⟨e1.trans h.os, e2.trans h.tape, e3.trans h.output, by rw [e4]; exact h.size, fun k hk => by rw [e4]; exact h.block k hk⟩

theorem below_via {B : Nat} {w a b c : World} (k : Below b.heap.size b c) (h : Below B w a) (hB : B ≤ a.heap.size) (e1 : b.os = a.os) (e2 : b.tape = a.tape) (e3 : b.output = a.output) (e4 : b.heap = a.heap) : Below B w c :=
  (below_same h e1 e2 e3 e4).trans (k.mono (by rw [e4]; exact hB))

theorem seen_lit (w : World) (ps : List Nat) (cs : Array Value) (m : Nat × Nat) (hcs : cs.toList = vals ps) (hB : Gf.Bytes ps) (hm : ps.length ≤ maxLen) :
    SeenAt (w.alloc (.cells cs 5 m)) (some ⟨w.heap.size, 0, none⟩) ps.length ps :=
  ⟨Nat.le_refl _, hm, hB, fun i hi => ⟨w.heap.size, 0, rfl, by
    rw [Nat.zero_add, World.cell?_alloc_mark, ← Array.getElem?_toList, hcs]
    exact vals_at ps i hi⟩⟩

theorem take_sn (ps : List Nat) (k : Nat) (h : k < ps.length) : ps.take (k + 1) = ps.take k ++ [ps.getD k 0] := by
  rw [List.take_succ_eq_append_getElem h, List.getD_eq_getElem?_getD, List.getElem?_eq_getElem h]; rfl

/-- An operation whose guard says yes. -/
theorem wpList_unguard {P : Program} {ops : Array Oper} {rest : List Oper} {o : Oper} {a : Act} {Q : Exit → Act → World → Prop} {w : World} (hw : Region.wanted o (yielded ops a.tmps) = true)
    (h : wpList P ops Q ({ o with guard := none } :: rest) a w) : wpList P ops Q (o :: rest) a w := by
  unfold wpList at h ⊢
  rw [if_pos (show Region.wanted { o with guard := none } (yielded ops a.tmps) = true from rfl)] at h
  rw [if_pos hw]
  exact h

theorem strB_app (ps qs : List Nat) : strB (ps ++ qs) = strB ps ++ strB qs := by
  apply ByteArray.ext
  apply Array.ext'
  rw [strB_list, List.map_append, ← strB_list, ← strB_list]
  simp

theorem strB_size (ps : List Nat) : (strB ps).size = ps.length := by
  show (strB ps).data.size = _
  rw [← Array.length_toList, strB_list, List.length_map]

theorem strB_take (ps : List Nat) (n : Nat) : (strB ps).extract 0 n = strB (ps.take n) := by
  apply ByteArray.ext
  apply Array.ext'
  rw [strB_list, List.map_take, ← strB_list]
  simp

theorem strB_iff {ps qs : List Nat} (hp : Gf.Bytes ps) (hq : Gf.Bytes qs) : strB ps = strB qs ↔ ps = qs := ⟨strB_inj hp hq, fun h => by rw [h]⟩

theorem strB_beq {ps qs : List Nat} (hp : Gf.Bytes ps) (hq : Gf.Bytes qs) : ((strB ps).toList == (strB qs).toList) = decide (ps = qs) := by
  rw [Bool.eq_iff_iff, beq_iff_eq, decide_eq_true_iff, ByteArray.toList_eq, ByteArray.toList_eq, strB_list, strB_list]
  exact ⟨ofNat_inj ps qs hp hq, fun h => by rw [h]⟩

theorem strB_none : strB [] = ⟨#[]⟩ := rfl

end Go.Proofs.YtdgpbdedaafdiaaGreat
