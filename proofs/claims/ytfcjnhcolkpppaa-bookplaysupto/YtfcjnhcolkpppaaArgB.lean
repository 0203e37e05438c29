/-
  What is known of an argument that is a slice of a book's acts, of the bulk that the given statement bounds.
-/
import Derived.Test.YtfcjnhcolkpppaaRows
import Derived.Test.YtfcjnhcolkpppaaArgR
import Derived.Test.YtfcjnhcolkpppaaPlay9
namespace Go.Proofs.Ytfcjnhcolkpppaa
open Go.ChangeShapes Go.WideShapes Go.ChangeAt Go.RowKit

theorem c_act9 : Try.prog.cellsOf 38 = 8 := by kernel_rfl

section
variable {H : Type} {enc : TypeId × Value → H} {W : World}

theorem bulk_mem {d : DataW H} : ∀ {ds : List (DataW H)}, d ∈ ds → Rows.uptoBulk d ≤ Rows.uptoBulkAll ds
  | [], h => by simp at h
  | e :: ds, h => by
    simp only [Rows.uptoBulkAll]
    rcases List.mem_cons.mp h with rfl | h
    · omega
    · have := bulk_mem h; omega

theorem bulk_lits (k : IntKind) : ∀ zs : List Int, zs.length ≤ Rows.uptoBulkAll (lits (H := H) k zs)
  | [] => Nat.zero_le _
  | z :: zs => by
    have := bulk_lits k zs
    show zs.length + 1 ≤ Rows.uptoBulk (DataW.lit (H := H) (.int k z)) + Rows.uptoBulkAll (lits (H := H) k zs)
    have e : Rows.uptoBulk (DataW.lit (H := H) (.int k z)) = 1 := by simp [Rows.uptoBulk]
    omega

set_option maxRecDepth 100000 in
/-- An entry's key and fragment are not longer than its bulk. -/
theorem ent_bulk {fuel : Nat} {p : Pe} {loc : Option Addr} {c : Nat} {x : DataW H × List MemPlace}
    (h : DataW.trod enc Try.prog W 0 (fun _ => true) true fuel 84 [.int .i64 p.seq, .int .i64 p.client, .int .i64 p.num, .int .i64 p.op, .string (strB p.key), .int .i64 p.size, .int .u32 (p.sum : Int), .slice loc p.frag.length c] = some x) :
    p.key.length ≤ Rows.uptoBulk x.1 ∧ p.frag.length ≤ Rows.uptoBulk x.1 := by
  obtain ⟨xs, n, _, hx, _, hxl, hg⟩ := DataW.trod_struct Try.underlying84 h
  match xs, hxl with
  | [y0, y1, y2, y3, y4, y5, y6, y7], _ =>
    have g4 := hg 4 _ rfl
    have g7 := hg 7 _ rfl
    simp [c_str, c_row] at g4 g7
    obtain ⟨s, e4, r4, _⟩ := DataW.trod_string Try.underlying9 g4
    have hd : x.1 = .agg [y0.1, y1.1, y2.1, y3.1, y4.1, y5.1, y6.1, y7.1] := congrArg Prod.fst hx
    have b4 : p.key.length ≤ Rows.uptoBulk y4.1 := by
      rw [r4]
      simp at e4
      rw [← e4]
      have := strB_size p.key
      have e : (strB p.key).data.toList.length = (strB p.key).size := by rw [Array.length_toList]; rfl
      simp only [Rows.uptoBulk]
      omega
    have b7 : p.frag.length ≤ Rows.uptoBulk y7.1 := by
      rcases open_ints Try.underlying40 Try.underlying5 (by kernel_rfl) g7 with ⟨e7, _⟩ | ⟨ad, l, cc, zs, e7, _, hl, _, hz, r7, _, _⟩
      · simp at e7
        rw [e7.2.1]
        exact Nat.zero_le _
      · simp at e7
        obtain ⟨_, e7, _⟩ := e7
        have hz' : zs.length = cc := by simpa using hz
        have := bulk_lits (H := H) .u8 (zs.take l)
        rw [List.length_take] at this
        rw [r7]
        simp only [Rows.uptoBulk]
        omega
    rw [hd]
    simp only [Rows.uptoBulk, Rows.uptoBulkAll]
    omega

/-- The cell of a slice of entries, with their bulk. -/
theorem ents_cellB {fuel : Nat} {v : Value} {x : DataW H × List MemPlace} (h : DataW.trod enc Try.prog W 0 (fun _ => true) true fuel 34 [v] = some x) :
    ∃ (a : Option Addr) (c : Nat) (es : List Pe), v = .slice a es.length c ∧ EnsAt W a c es ∧ ∀ e ∈ es, e.key.length ≤ Rows.uptoBulk x.1 ∧ e.frag.length ≤ Rows.uptoBulk x.1 := by
  rcases Go.Deep.open_slice Try.underlying34 h with ⟨hcs, _⟩ | ⟨ad, len, cap, m, n, D, Pl, hcs, _, hl, hm, hmm, hx, hel⟩
  · simp at hcs
    exact ⟨none, 0, [], hcs, EnsAt.nil (Nat.zero_le _), by simp⟩
  · simp at hcs
    have hmc : m = cap := by simpa using hmm
    subst hmc
    have hB : ∀ i, i < len → Rows.uptoBulk (D i) ≤ Rows.uptoBulk x.1 := fun i hi => by
      have h1 := bulk_mem (List.mem_map_of_mem (f := D) (List.mem_range.mpr hi))
      rw [hx]
      simp only [Rows.uptoBulk]
      omega
    have each : ∀ i, i < len → ∃ p : Pe, (p.Wf ∧ p.key.length ≤ Rows.uptoBulk x.1 ∧ p.frag.length ≤ Rows.uptoBulk x.1) ∧ ∃ loc c, SeenAt W loc c p.frag ∧ ∀ k u, [Value.int .i64 p.seq, .int .i64 p.client, .int .i64 p.num, .int .i64 p.op, .string (strB p.key), .int .i64 p.size, .int .u32 (p.sum : Int), .slice loc p.frag.length c][k]? = some u → W.cell? (ad.add (i * 8 + k)) = some u := by
      intro i hi
      obtain ⟨cs, hc, ht⟩ := hel i (by omega)
      rw [c_ent] at hc
      obtain ⟨p, loc, c, rfl, hs, hw⟩ := ent_cells ht
      have hb := ent_bulk ht
      have hbi := hB i hi
      obtain ⟨_, _, hcell⟩ := World.cells?_some hc
      refine ⟨p, ⟨hw, Nat.le_trans hb.1 hbi, Nat.le_trans hb.2 hbi⟩, loc, c, hs, fun k u hk => ?_⟩
      have hk8 : k < 8 := by
        have := (List.getElem?_eq_some_iff.1 hk).1
        simpa using this
      have := hcell k hk8
      rw [hk, Go.Deep.add_add] at this
      exact this
    obtain ⟨es, hes, hE⟩ := pick_ents len each
    have all : ∀ e ∈ es, e.Wf ∧ e.key.length ≤ Rows.uptoBulk x.1 ∧ e.frag.length ≤ Rows.uptoBulk x.1 := fun e he => by
      obtain ⟨i, hi, rfl⟩ := List.mem_iff_getElem.mp he
      have := (hE i (by omega)).1
      rwa [List.getD_eq_getElem?_getD, List.getElem?_eq_getElem hi] at this
    refine ⟨some ad, m, es, by rw [hes]; exact hcs, ⟨by omega, hm, fun i hi => ?_, fun e he => (all e he).1⟩, fun e he => (all e he).2⟩
    obtain ⟨_, loc, c, hs, hk⟩ := hE i (by omega)
    obtain ⟨b, off, rfl⟩ : ∃ b off, ad = ⟨b, off, none⟩ := by
      obtain ⟨_, _, _, _, hk0⟩ := hE 0 (by omega)
      exact addr_of (hk0 0 _ rfl)
    have hk' : ∀ k u, [Value.int .i64 (es.getD i pe0).seq, .int .i64 (es.getD i pe0).client, .int .i64 (es.getD i pe0).num, .int .i64 (es.getD i pe0).op, .string (strB (es.getD i pe0).key), .int .i64 (es.getD i pe0).size, .int .u32 ((es.getD i pe0).sum : Int), .slice loc (es.getD i pe0).frag.length c][k]? = some u → W.cell? ⟨b, off + i * 8 + k, none⟩ = some u := fun k u h' => by
      have := hk k u h'
      rw [Go.WideShapes.add_plain, ← Nat.add_assoc] at this
      exact this
    exact ⟨b, off, loc, c, rfl, hk' 0 _ rfl, hk' 1 _ rfl, hk' 2 _ rfl, hk' 3 _ rfl, hk' 4 _ rfl, hk' 5 _ rfl, hk' 6 _ rfl, hk' 7 _ rfl, hs⟩

set_option maxRecDepth 100000 in
/-- The cells of a record, with its entries' bulk. -/
theorem rec_cellsB {fuel : Nat} {cs : List Value} {x : DataW H × List MemPlace} (h : DataW.trod enc Try.prog W 0 (fun _ => true) true fuel 36 cs = some x) :
    ∃ (r : Pr) (ma : Option Addr) (mc : Nat) (ea : Option Addr) (ec : Nat), cs = [.int .i64 r.kind, .int .i64 r.epoch, .slice ma r.mem.length mc, .int .i64 r.pos, .int .i64 r.last, .slice ea r.ents.length ec] ∧ RecAt W ma mc ea ec r ∧ ∀ e ∈ r.ents, e.key.length ≤ Rows.uptoBulk x.1 ∧ e.frag.length ≤ Rows.uptoBulk x.1 := by
  obtain ⟨xs, n, _, hx, hl, hxl, hf⟩ := DataW.trod_struct Try.underlying36 h
  rw [c_rec] at hl
  match xs, hxl, cs, hl with
  | [y0, y1, y2, y3, y4], _, [v0, v1, v2, v3, v4, v5], _ =>
    have g0 := hf 0 _ rfl
    have g1 := hf 1 _ rfl
    have g2 := hf 2 _ rfl
    have g3 := hf 3 _ rfl
    have g4 := hf 4 _ rfl
    simp [c_int, c_conf, c_ents] at g0 g1 g2 g3 g4
    obtain ⟨zs, n', _, _, _, hzl, hf'⟩ := DataW.trod_struct Try.underlying33 g1
    match zs, hzl with
    | [u0, u1], _ =>
      have k0 := hf' 0 _ rfl
      have k1 := hf' 1 _ rfl
      simp [c_int, c_ints] at k0 k1
      obtain ⟨z0, e0, _, w0⟩ := DataW.trod_int Try.underlying3 g0
      obtain ⟨z1, e1, _, w1⟩ := DataW.trod_int Try.underlying3 k0
      obtain ⟨ma, mc, ms, e2, hm⟩ := ints_cell k1
      obtain ⟨z3, e3, _, w3⟩ := DataW.trod_int Try.underlying3 g2
      obtain ⟨z4, e4, _, w4⟩ := DataW.trod_int Try.underlying3 g3
      obtain ⟨ea, ec, es, e5, he, hb⟩ := ents_cellB g4
      have hd : x.1 = .agg [y0.1, y1.1, y2.1, y3.1, y4.1] := congrArg Prod.fst hx
      have hy : Rows.uptoBulk y4.1 ≤ Rows.uptoBulk x.1 := by
        rw [hd]
        simp only [Rows.uptoBulk, Rows.uptoBulkAll]
        omega
      simp at e0 e1 e3 e4
      subst e0 e1 e2 e3 e4 e5
      exact ⟨⟨z0, z1, ms, z3, z4, es⟩, ma, mc, ea, ec, rfl, ⟨hm, he, ⟨wf_i64 w0, wf_i64 w1, ints_each hm, wf_i64 w3, wf_i64 w4, he.wf⟩⟩, fun e he' => ⟨Nat.le_trans (hb e he').1 hy, Nat.le_trans (hb e he').2 hy⟩⟩

set_option maxRecDepth 100000 in
/-- The cells of an act. -/
theorem act_cellsB {fuel : Nat} {cs : List Value} {x : DataW H × List MemPlace} (h : DataW.trod enc Try.prog W 0 (fun _ => true) true fuel 38 cs = some x) :
    ∃ y : Ab, cs = abcells y ∧ RecAt W y.x.ma y.x.mc y.x.ea y.x.ec y.x.r ∧ ((Lit.int .i64 y.what).wf = true ∧ (Lit.int .i64 y.n).wf = true) ∧ ∀ e ∈ y.x.r.ents, e.key.length ≤ Rows.uptoBulk x.1 ∧ e.frag.length ≤ Rows.uptoBulk x.1 := by
  obtain ⟨xs, n, _, hx, hl, hxl, hf⟩ := DataW.trod_struct Try.underlying38 h
  rw [c_act9] at hl
  match xs, hxl, cs, hl with
  | [y0, y1, y2], _, [v0, v1, v2, v3, v4, v5, v6, v7], _ =>
    have g0 := hf 0 _ rfl
    have g1 := hf 1 _ rfl
    have g2 := hf 2 _ rfl
    simp [c_int, c_rec] at g0 g1 g2
    obtain ⟨z0, e0, _, w0⟩ := DataW.trod_int Try.underlying3 g0
    obtain ⟨z1, e1, _, w1⟩ := DataW.trod_int Try.underlying3 g1
    obtain ⟨r, ma, mc, ea, ec, e2, hr, hb⟩ := rec_cellsB g2
    have hd : x.1 = .agg [y0.1, y1.1, y2.1] := congrArg Prod.fst hx
    have hy : Rows.uptoBulk y2.1 ≤ Rows.uptoBulk x.1 := by
      rw [hd]
      simp only [Rows.uptoBulk, Rows.uptoBulkAll]
      omega
    simp at e0 e1 e2
    obtain ⟨rfl, rfl, rfl, rfl, rfl, rfl⟩ := e2
    subst e0 e1
    exact ⟨⟨z0, z1, ⟨r, ma, mc, ea, ec, 0, 0⟩⟩, rfl, hr, ⟨w0, w1⟩, fun e he' => ⟨Nat.le_trans (hb e he').1 hy, Nat.le_trans (hb e he').2 hy⟩⟩

/-- An argument that is a slice of acts, of bounded bulk. -/
theorem acts9_arg {a : Option Addr} {len cap : Nat} {d : DataW H} {ps : List MemPlace} (h : DataW.Trod enc Try.prog W 0 (fun _ => true) true 23 (.slice a len cap) d ps) (hk : Rows.uptoBulk d ≤ 1048576) :
    ∃ es : List Ab, es.length = len ∧ AbA W a cap es := by
  obtain ⟨fuel, hf⟩ := h
  rcases Go.Deep.open_slice Try.underlying23 hf with ⟨hcs, _⟩ | ⟨ad, l, c, m, n, D, Pl, hcs, _, hl, hm, hmm, hx, hel⟩
  · simp [Value.cells] at hcs
    obtain ⟨rfl, rfl, rfl⟩ := hcs
    exact ⟨[], rfl, ⟨Nat.le_refl _, Nat.zero_le _, fun i hi => by simp at hi, by simp, by simp, by simp⟩⟩
  · simp [Value.cells] at hcs
    obtain ⟨rfl, rfl, rfl⟩ := hcs
    have hmc : m = cap := by simpa using hmm
    subst hmc
    have hd : d = .slice ((List.range len).map D) ((List.range (m - len)).map fun j => D (len + j)) := congrArg Prod.fst hx
    have hB : ∀ i, i < len → Rows.uptoBulk (D i) ≤ 1048576 := fun i hi => by
      have h1 := bulk_mem (List.mem_map_of_mem (f := D) (List.mem_range.mpr hi))
      rw [hd] at hk
      simp only [Rows.uptoBulk] at hk
      omega
    have each : ∀ i, i < len → ∃ y : Ab, (RecAt W y.x.ma y.x.mc y.x.ea y.x.ec y.x.r ∧ ((Lit.int .i64 y.what).wf = true ∧ (Lit.int .i64 y.n).wf = true) ∧ ∀ e ∈ y.x.r.ents, e.key.length ≤ 1048576 ∧ e.frag.length ≤ 1048576) ∧ ∀ k u, (abcells y)[k]? = some u → W.cell? (ad.add (i * 8 + k)) = some u := by
      intro i hi
      obtain ⟨cs, hc, ht⟩ := hel i (by omega)
      rw [c_act9] at hc
      obtain ⟨y, rfl, hr, hw, hb⟩ := act_cellsB ht
      have hbi := hB i hi
      obtain ⟨_, _, hcell⟩ := World.cells?_some hc
      refine ⟨y, ⟨hr, hw, fun e he => ⟨Nat.le_trans (hb e he).1 hbi, Nat.le_trans (hb e he).2 hbi⟩⟩, fun k u hk' => ?_⟩
      have hk8 : k < 8 := by
        have := (List.getElem?_eq_some_iff.1 hk').1
        simpa [abcells] using this
      have := hcell k hk8
      rw [hk', Go.Deep.add_add] at this
      exact this
    obtain ⟨es, hes, hE⟩ := pick_any ab0 len each
    have all : ∀ y ∈ es, RecAt W y.x.ma y.x.mc y.x.ea y.x.ec y.x.r ∧ ((Lit.int .i64 y.what).wf = true ∧ (Lit.int .i64 y.n).wf = true) ∧ ∀ e ∈ y.x.r.ents, e.key.length ≤ 1048576 ∧ e.frag.length ≤ 1048576 := fun y hy => by
      obtain ⟨i, hi, rfl⟩ := List.mem_iff_getElem.mp hy
      have := (hE i (by omega)).1
      rwa [List.getD_eq_getElem?_getD, List.getElem?_eq_getElem hi] at this
    refine ⟨es, hes, ⟨by omega, hm, fun i hi => ?_, fun y hy => (all y hy).1, fun y hy => (all y hy).2.1, fun y hy => (all y hy).2.2⟩⟩
    obtain ⟨b, off, rfl⟩ : ∃ b off, ad = ⟨b, off, none⟩ := addr_of ((hE 0 (by omega)).2 0 _ rfl)
    refine ⟨b, off, rfl, fun k u hk' => ?_⟩
    have := (hE i (by omega)).2 k u hk'
    rw [Go.WideShapes.add_plain, ← Nat.add_assoc] at this
    exact this

end

end Go.Proofs.Ytfcjnhcolkpppaa
