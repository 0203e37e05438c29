/-
  What is known of an argument that is a message.
-/
import Derived.Test.YtggjpjpemgpeeaaGreatArgE
import Derived.Test.YtggjpjpemgpeeaaGreatMgM
namespace Go.Proofs.YtggjpjpemgpeeaaGreat
open Go.ChangeShapes Go.WideShapes Go.ChangeAt Go.RowKit

theorem c_frags : Tryz.prog.cellsOf 32 = 1 := by kernel_rfl
theorem c_strs : Tryz.prog.cellsOf 33 = 1 := by kernel_rfl
theorem c_srcs : Tryz.prog.cellsOf 37 = 1 := by kernel_rfl
theorem c_errno : Tryz.prog.cellsOf 31 = 1 := by kernel_rfl
theorem c_msg : Tryz.prog.cellsOf 40 = 19 := by kernel_rfl

section
variable {H : Type} {enc : TypeId × Value → H} {W : World}

/-- The cell of a slice of fragments. -/
theorem frs_cell {fuel : Nat} {v : Value} {x : DataW H × List MemPlace} (h : DataW.trod enc Tryz.prog W 0 (fun _ => true) true fuel 32 [v] = some x) :
    ∃ (a : Option Addr) (c : Nat) (fs : List Fr), v = .slice a fs.length c ∧ FrsAt W a c fs := by
  rcases Go.Deep.open_slice_pairs Tryz.underlying32 Tryz.underlying70 (by kernel_rfl) rfl rfl (by kernel_rfl) (by kernel_rfl) h with ⟨hcs, _⟩ | ⟨ad, len, cap, m, n, V0, V1, D0, D1, P0, P1, hcs, _, hl, hm, hmm, _, hel⟩
  · simp at hcs
    exact ⟨none, 0, [], hcs, FrsAt.nil (Nat.zero_le _)⟩
  · simp at hcs
    have hmc : m = cap := by simpa using hmm
    subst hmc
    have each : ∀ i, i < len → ∃ f : Fr, W.cell? (ad.add (i * 2)) = some (.int .i64 f.pos) ∧ W.cell? (ad.add (i * 2 + 1)) = some (.slice f.loc f.data.length f.cap) ∧ SeenAt W f.loc f.cap f.data ∧ (Lit.int .i64 f.pos).wf = true := by
      intro i hi
      obtain ⟨h0, h1, t0, t1⟩ := hel i (by omega)
      obtain ⟨z, e0, _, hw⟩ := DataW.trod_int Tryz.underlying3 t0
      obtain ⟨ra, rc, qs, e1, hs⟩ := seen_cell t1
      have e0' : V0 i = .int .i64 z := by simpa using e0
      exact ⟨⟨z, ra, rc, qs⟩, by rw [h0, e0'], by rw [h1, e1], hs, hw⟩
    obtain ⟨fs, hfl, hfe⟩ := pick_gen fr0 len each
    refine ⟨some ad, m, fs, by rw [hfl]; exact hcs, ⟨by omega, hm, fun i hi => ?_, each_of fr0 fs fun i hi => (hfe i (by omega)).2.2.2⟩⟩
    obtain ⟨g0, g1, g2, _⟩ := hfe i (by omega)
    have hx : ∃ b off, ad = ⟨b, off, none⟩ := by
      obtain ⟨g0', _⟩ := hfe 0 (by omega)
      exact addr_of (by simpa using g0')
    obtain ⟨b, off, rfl⟩ := hx
    rw [Go.WideShapes.add_plain] at g0 g1
    exact ⟨b, off, rfl, g0, by rw [← Nat.add_assoc] at g1; exact g1, g2⟩

/-- The cell of a slice of sources. -/
theorem srcs_cell {fuel : Nat} {v : Value} {x : DataW H × List MemPlace} (h : DataW.trod enc Tryz.prog W 0 (fun _ => true) true fuel 37 [v] = some x) :
    ∃ (a : Option Addr) (c : Nat) (ss : List (Int × Int)), v = .slice a ss.length c ∧ SrcAt W a c ss ∧ ∀ s ∈ ss, I64 s.1 ∧ I64 s.2 := by
  rcases Go.Deep.open_slice_pairs Tryz.underlying37 Tryz.underlying72 (by kernel_rfl) rfl rfl (by kernel_rfl) (by kernel_rfl) h with ⟨hcs, _⟩ | ⟨ad, len, cap, m, n, V0, V1, D0, D1, P0, P1, hcs, _, hl, hm, hmm, _, hel⟩
  · simp at hcs
    exact ⟨none, 0, [], hcs, SrcAt.nil (Nat.zero_le _), by simp⟩
  · simp at hcs
    have hmc : m = cap := by simpa using hmm
    subst hmc
    have each : ∀ i, i < len → ∃ f : Int × Int, W.cell? (ad.add (i * 2)) = some (.int .i64 f.1) ∧ W.cell? (ad.add (i * 2 + 1)) = some (.int .i64 f.2) ∧ I64 f.1 ∧ I64 f.2 := by
      intro i hi
      obtain ⟨h0, h1, t0, t1⟩ := hel i (by omega)
      obtain ⟨z0, e0, _, w0⟩ := DataW.trod_int Tryz.underlying3 t0
      obtain ⟨z1, e1, _, w1⟩ := DataW.trod_int Tryz.underlying3 t1
      have e0' : V0 i = .int .i64 z0 := by simpa using e0
      have e1' : V1 i = .int .i64 z1 := by simpa using e1
      exact ⟨(z0, z1), by rw [h0, e0'], by rw [h1, e1'], wf_i64 w0, wf_i64 w1⟩
    obtain ⟨ss, hfl, hfe⟩ := pick_gen (0, 0) len each
    refine ⟨some ad, m, ss, by rw [hfl]; exact hcs, ⟨by omega, hm, fun i hi => ?_⟩, each_of (0, 0) ss fun i hi => (hfe i (by omega)).2.2⟩
    obtain ⟨g0, g1, _, _⟩ := hfe i (by omega)
    have hx : ∃ b off, ad = ⟨b, off, none⟩ := by
      obtain ⟨g0', _⟩ := hfe 0 (by omega)
      exact addr_of (by simpa using g0')
    obtain ⟨b, off, rfl⟩ := hx
    rw [Go.WideShapes.add_plain] at g0 g1
    exact ⟨b, off, rfl, g0, by rw [← Nat.add_assoc] at g1; exact g1⟩

/-- The cell of a slice of texts. -/
theorem strs_cell {fuel : Nat} {v : Value} {x : DataW H × List MemPlace} (h : DataW.trod enc Tryz.prog W 0 (fun _ => true) true fuel 33 [v] = some x) :
    ∃ (a : Option Addr) (c : Nat) (ks : List (List Nat)), v = .slice a ks.length c ∧ StrAt W a c ks ∧ ∀ k ∈ ks, Gf.Bytes k := by
  rcases Go.Deep.open_slice1 Tryz.underlying33 (by kernel_rfl) h with ⟨hcs, _⟩ | ⟨ad, len, cap, m, n, V, D, Pl, hcs, _, hl, hm, hmm, _, hel⟩
  · simp at hcs
    exact ⟨none, 0, [], hcs, StrAt.nil (Nat.zero_le _), by simp⟩
  · simp at hcs
    have hmc : m = cap := by simpa using hmm
    subst hmc
    have each : ∀ i, i < len → ∃ k : List Nat, W.cell? (ad.add i) = some (.string (strB k)) ∧ Gf.Bytes k := by
      intro i hi
      obtain ⟨h0, t0⟩ := hel i (by omega)
      obtain ⟨s, e0, _, _⟩ := DataW.trod_string Tryz.underlying9 t0
      obtain ⟨ps, hb, rfl⟩ := str_bytes s
      have e0' : V i = .string (strB ps) := by simpa using e0
      exact ⟨ps, by rw [h0, e0'], hb⟩
    obtain ⟨ks, hfl, hfe⟩ := pick_gen [] len each
    refine ⟨some ad, m, ks, by rw [hfl]; exact hcs, ⟨by omega, hm, fun i hi => ?_⟩, each_of [] ks fun i hi => (hfe i (by omega)).2⟩
    have g0 := (hfe i (by omega)).1
    have hx : ∃ b off, ad = ⟨b, off, none⟩ := by
      have g0' := (hfe 0 (by omega)).1
      exact addr_of (by simpa using g0')
    obtain ⟨b, off, rfl⟩ := hx
    rw [Go.WideShapes.add_plain] at g0
    exact ⟨b, off, rfl, g0⟩

set_option maxRecDepth 100000 in
set_option maxHeartbeats 1000000 in
/-- The cells of a message. -/
theorem msg_cells {fuel : Nat} {cs : List Value} {x : DataW H × List MemPlace} (h : DataW.trod enc Tryz.prog W 0 (fun _ => true) true fuel 40 cs = some x) :
    ∃ r : Rm, cs = r.cells.toList ∧ MsgAt W r := by
  obtain ⟨xs, n, _, _, hl, hxl, hf⟩ := DataW.trod_struct Tryz.underlying40 h
  rw [c_msg] at hl
  match xs, hxl, cs, hl with
  | [y0, y1, y2, y3, y4, y5, y6, y7, y8, y9, y10], _, [v0, v1, v2, v3, v4, v5, v6, v7, v8, v9, v10, v11, v12, v13, v14, v15, v16, v17, v18], _ =>
    have g0 := hf 0 _ rfl
    have g1 := hf 1 _ rfl
    have g2 := hf 2 _ rfl
    have g3 := hf 3 _ rfl
    have g4 := hf 4 _ rfl
    have g5 := hf 5 _ rfl
    have g6 := hf 6 _ rfl
    have g7 := hf 7 _ rfl
    have g8 := hf 8 _ rfl
    have g9 := hf 9 _ rfl
    have g10 := hf 10 _ rfl
    simp [c_int, c_ent, c_errno, c_frags, c_strs, c_conf, c_srcs, c_ents] at g0 g1 g2 g3 g4 g5 g6 g7 g8 g9 g10
    obtain ⟨zs, n', _, _, _, hzl, hf'⟩ := DataW.trod_struct Tryz.underlying36 g8
    match zs, hzl with
    | [u0, u1], _ =>
      have k0 := hf' 0 _ rfl
      have k1 := hf' 1 _ rfl
      simp [c_int, c_ints] at k0 k1
      obtain ⟨z0, e0, _, w0⟩ := DataW.trod_int Tryz.underlying3 g0
      obtain ⟨z1, e1, _, w1⟩ := DataW.trod_int Tryz.underlying3 g1
      obtain ⟨z2, e2, _, w2⟩ := DataW.trod_int Tryz.underlying3 g2
      obtain ⟨z3, e3, _, w3⟩ := DataW.trod_int Tryz.underlying3 g3
      obtain ⟨p, loc, c, e4, hp, hpw⟩ := ent_cells g4
      obtain ⟨z5, e5, _, w5⟩ := DataW.trod_int Tryz.underlying31 g5
      obtain ⟨fa, fc, fs, e6, hfs⟩ := frs_cell g6
      obtain ⟨ka, kc, ks, e7, hks, hkb⟩ := strs_cell g7
      obtain ⟨z8, e8, _, w8⟩ := DataW.trod_int Tryz.underlying3 k0
      obtain ⟨ma, mc, ms, e9, hms⟩ := ints_cell k1
      obtain ⟨sa, sc, ss, e10, hss, hsb⟩ := srcs_cell g9
      obtain ⟨na, nc, es, e11, hes⟩ := ents_cell g10
      simp at e0 e1 e2 e3 e4 e5 e8
      obtain ⟨f0, f1, f2, f3, f4, f5, f6, f7⟩ := e4
      subst e0 e1 e2 e3 f0 f1 f2 f3 f4 f5 f6 f7 e5 e6 e7 e8 e9 e10 e11
      refine ⟨⟨⟨z0, z1, z2, z3, p, z5, fs.map fun f => (f.pos, f.data), ks, z8, ms, ss, es⟩, fs, loc, c, fa, fc, ka, kc, ma, mc, sa, sc, na, nc, p.frag.length, fs.length, ks.length, ms.length, ss.length, es.length⟩, rfl,
        hp, hfs, hks, hms, hss, hes, rfl, rfl, rfl, rfl, rfl, rfl, rfl, ⟨wf_i64 w0, wf_i64 w1, wf_i64 w2, wf_i64 w3, wf_i64 w5, wf_i64 w8, ints_each hms, hpw, fun f hf => ?_, hkb, hsb, hes.wf⟩⟩
      obtain ⟨g, hg, rfl⟩ := List.mem_map.mp hf
      obtain ⟨i, hi, rfl⟩ := List.mem_iff_getElem.mp hg
      obtain ⟨b, off, _, _, _, hs⟩ := hfs.el i hi
      rw [List.getD_eq_getElem?_getD, List.getElem?_eq_getElem hi] at hs
      exact ⟨wf_i64 (hfs.wf _ (List.getElem_mem hi)), hs.byte⟩

/-- An argument that is a message. -/
theorem msg_arg {cs : Array Value} {d : DataW H} {ps : List MemPlace} (h : DataW.Trod enc Tryz.prog W 0 (fun _ => true) true 40 (.agg cs) d ps) :
    ∃ r : Rm, cs = r.cells ∧ MsgAt W r := by
  obtain ⟨fuel, hf⟩ := h
  obtain ⟨r, e, hr⟩ := msg_cells hf
  refine ⟨r, ?_, hr⟩
  cases cs
  simpa [Value.cells, Rm.cells] using e

end

end Go.Proofs.YtggjpjpemgpeeaaGreat
