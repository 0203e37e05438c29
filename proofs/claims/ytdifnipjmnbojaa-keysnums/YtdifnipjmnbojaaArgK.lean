/-
  What is known of an argument that is a slice of entries, or an entry; of the bulk that the given statement bounds.
-/
import Derived.Test.YtdifnipjmnbojaaRows
import Derived.Test.YtdifnipjmnbojaaArgE
namespace Go.Proofs.Ytdifnipjmnbojaa
open Go.ChangeShapes Go.WideShapes Go.ChangeAt Go.RowKit

section
variable {H : Type} {enc : TypeId × Value → H} {W : World}

theorem bulk_mem {d : DataW H} : ∀ {ds : List (DataW H)}, d ∈ ds → Rows.uptoBulk d ≤ Rows.uptoBulkAll ds
  | [], h => by simp at h
  | e :: ds, h => by
    simp only [Rows.uptoBulkAll]
    rcases List.mem_cons.mp h with rfl | h
    · omega
    · have := bulk_mem h; omega

theorem bulk_lits (k : IntKind) : ∀ zs : List Int, zs.length ≤ Rows.uptoBulkAll (lits (H := H) k zs)
  | [] => Nat.zero_le _
  | z :: zs => by
    have := bulk_lits k zs
    show zs.length + 1 ≤ Rows.uptoBulk (DataW.lit (H := H) (.int k z)) + Rows.uptoBulkAll (lits (H := H) k zs)
    have e : Rows.uptoBulk (DataW.lit (H := H) (.int k z)) = 1 := by simp [Rows.uptoBulk]
    omega

set_option maxRecDepth 100000 in
/-- An entry's key and fragment are not longer than its bulk. -/
theorem ent_bulk {fuel : Nat} {p : Pe} {loc : Option Addr} {c : Nat} {x : DataW H × List MemPlace}
    (h : DataW.trod enc Try.prog W 0 (fun _ => true) true fuel 26 [.int .i64 p.seq, .int .i64 p.client, .int .i64 p.num, .int .i64 p.op, .string (strB p.key), .int .i64 p.size, .int .u32 (p.sum : Int), .slice loc p.frag.length c] = some x) :
    p.key.length ≤ Rows.uptoBulk x.1 ∧ p.frag.length ≤ Rows.uptoBulk x.1 := by
  obtain ⟨xs, n, _, hx, _, hxl, hg⟩ := DataW.trod_struct Try.underlying26 h
  match xs, hxl with
  | [y0, y1, y2, y3, y4, y5, y6, y7], _ =>
    have g4 := hg 4 _ rfl
    have g7 := hg 7 _ rfl
    simp [c_str, c_row] at g4 g7
    obtain ⟨s, e4, r4, _⟩ := DataW.trod_string Try.underlying9 g4
    have hd : x.1 = .agg [y0.1, y1.1, y2.1, y3.1, y4.1, y5.1, y6.1, y7.1] := congrArg Prod.fst hx
    have b4 : p.key.length ≤ Rows.uptoBulk y4.1 := by
      rw [r4]
      simp at e4
      rw [← e4]
      have := strB_size p.key
      have e : (strB p.key).data.toList.length = (strB p.key).size := by rw [Array.length_toList]; rfl
      simp only [Rows.uptoBulk]
      omega
    have b7 : p.frag.length ≤ Rows.uptoBulk y7.1 := by
      rcases open_ints Try.underlying24 Try.underlying5 (by kernel_rfl) g7 with ⟨e7, _⟩ | ⟨ad, l, cc, zs, e7, _, hl, _, hz, r7, _, _⟩
      · simp at e7
        rw [e7.2.1]
        exact Nat.zero_le _
      · simp at e7
        obtain ⟨_, e7, _⟩ := e7
        have hz' : zs.length = cc := by simpa using hz
        have := bulk_lits (H := H) .u8 (zs.take l)
        rw [List.length_take] at this
        rw [r7]
        simp only [Rows.uptoBulk]
        omega
    rw [hd]
    simp only [Rows.uptoBulk, Rows.uptoBulkAll]
    omega

/-- The cell of a slice of entries, with their bulk. -/
theorem ents_cellB {fuel : Nat} {v : Value} {x : DataW H × List MemPlace} (h : DataW.trod enc Try.prog W 0 (fun _ => true) true fuel 22 [v] = some x) :
    ∃ (a : Option Addr) (c : Nat) (es : List Pe), v = .slice a es.length c ∧ EnsAt W a c es ∧ ∀ e ∈ es, e.key.length ≤ Rows.uptoBulk x.1 ∧ e.frag.length ≤ Rows.uptoBulk x.1 := by
  rcases Go.Deep.open_slice Try.underlying22 h with ⟨hcs, _⟩ | ⟨ad, len, cap, m, n, D, Pl, hcs, _, hl, hm, hmm, hx, hel⟩
  · simp at hcs
    exact ⟨none, 0, [], hcs, EnsAt.nil (Nat.zero_le _), by simp⟩
  · simp at hcs
    have hmc : m = cap := by simpa using hmm
    subst hmc
    have hB : ∀ i, i < len → Rows.uptoBulk (D i) ≤ Rows.uptoBulk x.1 := fun i hi => by
      have h1 := bulk_mem (List.mem_map_of_mem (f := D) (List.mem_range.mpr hi))
      rw [hx]
      simp only [Rows.uptoBulk]
      omega
    have each : ∀ i, i < len → ∃ p : Pe, (p.Wf ∧ p.key.length ≤ Rows.uptoBulk x.1 ∧ p.frag.length ≤ Rows.uptoBulk x.1) ∧ ∃ loc c, SeenAt W loc c p.frag ∧ ∀ k u, [Value.int .i64 p.seq, .int .i64 p.client, .int .i64 p.num, .int .i64 p.op, .string (strB p.key), .int .i64 p.size, .int .u32 (p.sum : Int), .slice loc p.frag.length c][k]? = some u → W.cell? (ad.add (i * 8 + k)) = some u := by
      intro i hi
      obtain ⟨cs, hc, ht⟩ := hel i (by omega)
      rw [c_ent] at hc
      obtain ⟨p, loc, c, rfl, hs, hw⟩ := ent_cells ht
      have hb := ent_bulk ht
      have hbi := hB i hi
      obtain ⟨_, _, hcell⟩ := World.cells?_some hc
      refine ⟨p, ⟨hw, Nat.le_trans hb.1 hbi, Nat.le_trans hb.2 hbi⟩, loc, c, hs, fun k u hk => ?_⟩
      have hk8 : k < 8 := by
        have := (List.getElem?_eq_some_iff.1 hk).1
        simpa using this
      have := hcell k hk8
      rw [hk, Go.Deep.add_add] at this
      exact this
    obtain ⟨es, hes, hE⟩ := pick_ents len each
    have all : ∀ e ∈ es, e.Wf ∧ e.key.length ≤ Rows.uptoBulk x.1 ∧ e.frag.length ≤ Rows.uptoBulk x.1 := fun e he => by
      obtain ⟨i, hi, rfl⟩ := List.mem_iff_getElem.mp he
      have := (hE i (by omega)).1
      rwa [List.getD_eq_getElem?_getD, List.getElem?_eq_getElem hi] at this
    refine ⟨some ad, m, es, by rw [hes]; exact hcs, ⟨by omega, hm, fun i hi => ?_, fun e he => (all e he).1⟩, fun e he => (all e he).2⟩
    obtain ⟨_, loc, c, hs, hk⟩ := hE i (by omega)
    obtain ⟨b, off, rfl⟩ : ∃ b off, ad = ⟨b, off, none⟩ := by
      obtain ⟨_, _, _, _, hk0⟩ := hE 0 (by omega)
      exact addr_of (hk0 0 _ rfl)
    have hk' : ∀ k u, [Value.int .i64 (es.getD i pe0).seq, .int .i64 (es.getD i pe0).client, .int .i64 (es.getD i pe0).num, .int .i64 (es.getD i pe0).op, .string (strB (es.getD i pe0).key), .int .i64 (es.getD i pe0).size, .int .u32 ((es.getD i pe0).sum : Int), .slice loc (es.getD i pe0).frag.length c][k]? = some u → W.cell? ⟨b, off + i * 8 + k, none⟩ = some u := fun k u h' => by
      have := hk k u h'
      rw [Go.WideShapes.add_plain, ← Nat.add_assoc] at this
      exact this
    exact ⟨b, off, loc, c, rfl, hk' 0 _ rfl, hk' 1 _ rfl, hk' 2 _ rfl, hk' 3 _ rfl, hk' 4 _ rfl, hk' 5 _ rfl, hk' 6 _ rfl, hk' 7 _ rfl, hs⟩

/-- An argument that is a slice of entries. -/
theorem ents_arg {a : Option Addr} {len cap : Nat} {d : DataW H} {ps : List MemPlace} (h : DataW.Trod enc Try.prog W 0 (fun _ => true) true 22 (.slice a len cap) d ps) :
    ∃ es : List Pe, es.length = len ∧ EnsAt W a cap es := by
  obtain ⟨fuel, hf⟩ := h
  obtain ⟨a', c', es, e, he⟩ := ents_cell (x := (d, ps)) (v := .slice a len cap) (by simpa [Value.cells] using hf)
  cases e
  exact ⟨es, rfl, he⟩

/-- .. with its bulk. -/
theorem entsB_arg {a : Option Addr} {len cap : Nat} {d : DataW H} {ps : List MemPlace} (h : DataW.Trod enc Try.prog W 0 (fun _ => true) true 22 (.slice a len cap) d ps) (hk : Rows.uptoBulk d ≤ 1048576) :
    ∃ es : List Pe, es.length = len ∧ EnsAt W a cap es ∧ ∀ e ∈ es, e.key.length ≤ 1048576 ∧ e.frag.length ≤ 1048576 := by
  obtain ⟨fuel, hf⟩ := h
  obtain ⟨a', c', es, e, he, hb⟩ := ents_cellB (x := (d, ps)) (v := .slice a len cap) (by simpa [Value.cells] using hf)
  cases e
  exact ⟨es, rfl, he, fun e hm => ⟨Nat.le_trans (hb e hm).1 hk, Nat.le_trans (hb e hm).2 hk⟩⟩

/-- An argument that is an entry, with its bulk. -/
theorem entB_arg {cs : Array Value} {d : DataW H} {ps : List MemPlace} (h : DataW.Trod enc Try.prog W 0 (fun _ => true) true 26 (.agg cs) d ps) (hk : Rows.uptoBulk d ≤ 1048576) :
    ∃ (p : Pe) (loc : Option Addr) (c : Nat), cs = #[.int .i64 p.seq, .int .i64 p.client, .int .i64 p.num, .int .i64 p.op, .string (strB p.key), .int .i64 p.size, .int .u32 (p.sum : Int), .slice loc p.frag.length c] ∧ SeenAt W loc c p.frag ∧ p.Wf ∧ p.key.length ≤ 1048576 ∧ p.frag.length ≤ 1048576 := by
  obtain ⟨fuel, hf⟩ := h
  obtain ⟨p, loc, c, e, hr, hw⟩ := ent_cells hf
  rw [e] at hf
  have hb := ent_bulk hf
  refine ⟨p, loc, c, ?_, hr, hw, Nat.le_trans hb.1 hk, Nat.le_trans hb.2 hk⟩
  cases cs
  simpa [Value.cells] using e

end

end Go.Proofs.Ytdifnipjmnbojaa
