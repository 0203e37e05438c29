/-
  What is known of cells that are slices of bytes, or strings.
  What is known of arguments that are entries or records.
-/
import Derived.Test.YtdgpbdedaafdiaaGreatArgs
import Derived.Test.YtdgpbdedaafdiaaGreatStr
import Derived.Test.YtdgpbdedaafdiaaGreatWalksY1
import Derived.Deep.Slices
namespace Go.Proofs.YtdgpbdedaafdiaaGreat
open Go.ChangeShapes Go.WideShapes Go.ChangeAt Go.RowKit

/-- The cell of a slice of bytes. -/
theorem seen_cell {H : Type} {enc : TypeId × Value → H} {W : World} {fuel : Nat} {v : Value} {x : DataW H × List MemPlace} (hf : DataW.trod enc Tryz.prog W 0 (fun _ => true) true fuel 39 [v] = some x) :
    ∃ (a : Option Addr) (cap : Nat) (qs : List Nat), v = .slice a qs.length cap ∧ SeenAt W a cap qs := by
  rcases open_ints Tryz.underlying39 Tryz.underlying5 (by kernel_rfl) hf with ⟨hcs, _⟩ | ⟨x, l, c, zs, hcs, _, hl, hm, hz, _, hcell, hwz⟩
  · simp at hcs
    exact ⟨none, 0, [], hcs, SeenAt.nil (Nat.zero_le _)⟩
  · simp at hcs
    have hz' : zs.length = c := by simpa using hz
    exact ⟨some x, c, nats zs l, by rw [nats_len _ _ (by omega)]; exact hcs, seen_ints hl hm hz' hwz (fun e => by cases e) fun a' e i hi => by cases e; exact hcell i (by omega)⟩

/-- Every string is one of bytes. -/
theorem str_bytes (s : ByteArray) : ∃ ps : List Nat, Gf.Bytes ps ∧ s = strB ps := by
  refine ⟨s.data.toList.map UInt8.toNat, ?_, ?_⟩
  · intro c hc
    obtain ⟨b, _, rfl⟩ := List.mem_map.mp hc
    exact b.toNat_lt
  · apply ByteArray.ext
    apply Array.ext'
    rw [strB_list, List.map_map]
    have : (UInt8.ofNat ∘ UInt8.toNat) = id := by funext b; simp
    rw [this, List.map_id]

end Go.Proofs.YtdgpbdedaafdiaaGreat

namespace Go.Proofs.YtdgpbdedaafdiaaGreat
open Go.ChangeShapes Go.WideShapes Go.ChangeAt Go.RowKit

theorem wf_i64 {z : Int} (h : (Lit.int .i64 z).wf = true) : I64 z := by
  have : -9223372036854775808 ≤ z ∧ z ≤ 9223372036854775807 := by simpa [Lit.wf, IntKind.min, IntKind.max, IntKind.signed, IntKind.bits] using h
  exact this

theorem wf_u32 {z : Int} (h : (Lit.int .u32 z).wf = true) : ∃ n : Nat, n < 4294967296 ∧ z = (n : Int) := by
  have h1 : 0 ≤ z ∧ z ≤ 4294967295 := by simpa [Lit.wf, IntKind.min, IntKind.max, IntKind.signed, IntKind.bits] using h
  exact ⟨z.toNat, by omega, by omega⟩

theorem c_int : Tryz.prog.cellsOf 3 = 1 := by kernel_rfl

theorem c_str : Tryz.prog.cellsOf 9 = 1 := by kernel_rfl

theorem c_u32 : Tryz.prog.cellsOf 38 = 1 := by kernel_rfl

theorem c_row : Tryz.prog.cellsOf 39 = 1 := by kernel_rfl

theorem c_ints : Tryz.prog.cellsOf 30 = 1 := by kernel_rfl

theorem c_ents : Tryz.prog.cellsOf 33 = 1 := by kernel_rfl

theorem c_ent : Tryz.prog.cellsOf 41 = 8 := by kernel_rfl

theorem c_conf : Tryz.prog.cellsOf 32 = 2 := by kernel_rfl

theorem c_rec : Tryz.prog.cellsOf 35 = 6 := by kernel_rfl

section
variable {H : Type} {enc : TypeId × Value → H} {W : World}

set_option maxRecDepth 100000 in
/-- The cells of an entry. -/
theorem ent_cells {fuel : Nat} {cs : List Value} {x : DataW H × List MemPlace} (h : DataW.trod enc Tryz.prog W 0 (fun _ => true) true fuel 41 cs = some x) :
    ∃ (p : Pe) (loc : Option Addr) (c : Nat), cs = [.int .i64 p.seq, .int .i64 p.client, .int .i64 p.num, .int .i64 p.op, .string (strB p.key), .int .i64 p.size, .int .u32 (p.sum : Int), .slice loc p.frag.length c] ∧ SeenAt W loc c p.frag ∧ p.Wf := by
  obtain ⟨xs, n, _, _, hl, hxl, hf⟩ := DataW.trod_struct Tryz.underlying41 h
  rw [c_ent] at hl
  match xs, hxl, cs, hl with
  | [y0, y1, y2, y3, y4, y5, y6, y7], _, [v0, v1, v2, v3, v4, v5, v6, v7], _ =>
    have g0 := hf 0 _ rfl
    have g1 := hf 1 _ rfl
    have g2 := hf 2 _ rfl
    have g3 := hf 3 _ rfl
    have g4 := hf 4 _ rfl
    have g5 := hf 5 _ rfl
    have g6 := hf 6 _ rfl
    have g7 := hf 7 _ rfl
    simp [c_int, c_str, c_u32, c_row] at g0 g1 g2 g3 g4 g5 g6 g7
    obtain ⟨z0, e0, _, w0⟩ := DataW.trod_int Tryz.underlying3 g0
    obtain ⟨z1, e1, _, w1⟩ := DataW.trod_int Tryz.underlying3 g1
    obtain ⟨z2, e2, _, w2⟩ := DataW.trod_int Tryz.underlying3 g2
    obtain ⟨z3, e3, _, w3⟩ := DataW.trod_int Tryz.underlying3 g3
    obtain ⟨s4, e4, _, _⟩ := DataW.trod_string Tryz.underlying9 g4
    obtain ⟨z5, e5, _, w5⟩ := DataW.trod_int Tryz.underlying3 g5
    obtain ⟨z6, e6, _, w6⟩ := DataW.trod_int Tryz.underlying38 g6
    obtain ⟨a, c, qs, e7, hs⟩ := seen_cell g7
    obtain ⟨ps, hb, rfl⟩ := str_bytes s4
    obtain ⟨n6, hn6, rfl⟩ := wf_u32 w6
    simp at e0 e1 e2 e3 e4 e5 e6
    subst e0 e1 e2 e3 e4 e5 e6 e7
    exact ⟨⟨z0, z1, z2, z3, ps, z5, n6, qs⟩, a, c, rfl, hs, ⟨wf_i64 w0, wf_i64 w1, wf_i64 w2, wf_i64 w3, wf_i64 w5, hn6, hb, hs.byte⟩⟩

theorem pick_ents {P : Nat → Pe → Prop} : ∀ n : Nat, (∀ i, i < n → ∃ f, P i f) → ∃ fs : List Pe, fs.length = n ∧ ∀ i, i < n → P i (fs.getD i pe0)
  | 0, _ => ⟨[], rfl, fun i hi => by omega⟩
  | n + 1, h => by
    obtain ⟨fs, hl, hf⟩ := pick_ents n fun i hi => h i (by omega)
    obtain ⟨f, hn⟩ := h n (by omega)
    refine ⟨fs ++ [f], by simp [hl], fun i hi => ?_⟩
    by_cases e : i = n
    · have e1 := getD_app_eq fs f pe0
      rw [hl] at e1
      rw [e, e1]; exact hn
    · rw [getD_app_lt fs f pe0 i (by omega)]; exact hf i (by omega)

/-- The cell of a slice of entries. -/
theorem ents_cell {fuel : Nat} {v : Value} {x : DataW H × List MemPlace} (h : DataW.trod enc Tryz.prog W 0 (fun _ => true) true fuel 33 [v] = some x) :
    ∃ (a : Option Addr) (c : Nat) (es : List Pe), v = .slice a es.length c ∧ EnsAt W a c es := by
  rcases Go.Deep.open_slice Tryz.underlying33 h with ⟨hcs, _⟩ | ⟨ad, len, cap, m, n, D, Pl, hcs, _, hl, hm, hmm, _, hel⟩
  · simp at hcs
    exact ⟨none, 0, [], hcs, EnsAt.nil (Nat.zero_le _)⟩
  · simp at hcs
    have hmc : m = cap := by simpa using hmm
    subst hmc
    have each : ∀ i, i < len → ∃ p : Pe, p.Wf ∧ ∃ loc c, SeenAt W loc c p.frag ∧ ∀ k u, [Value.int .i64 p.seq, .int .i64 p.client, .int .i64 p.num, .int .i64 p.op, .string (strB p.key), .int .i64 p.size, .int .u32 (p.sum : Int), .slice loc p.frag.length c][k]? = some u → W.cell? (ad.add (i * 8 + k)) = some u := by
      intro i hi
      obtain ⟨cs, hc, ht⟩ := hel i (by omega)
      rw [c_ent] at hc
      obtain ⟨p, loc, c, rfl, hs, hw⟩ := ent_cells ht
      obtain ⟨_, _, hcell⟩ := World.cells?_some hc
      refine ⟨p, hw, loc, c, hs, fun k u hk => ?_⟩
      have hk8 : k < 8 := by
        have := (List.getElem?_eq_some_iff.1 hk).1
        simpa using this
      have := hcell k hk8
      rw [hk, Go.Deep.add_add] at this
      exact this
    obtain ⟨es, hes, hE⟩ := pick_ents len each
    refine ⟨some ad, m, es, by rw [hes]; exact hcs, ⟨by omega, hm, fun i hi => ?_, fun e he => ?_⟩⟩
    · obtain ⟨_, loc, c, hs, hk⟩ := hE i (by omega)
      obtain ⟨b, off, rfl⟩ : ∃ b off, ad = ⟨b, off, none⟩ := by
        obtain ⟨_, _, _, _, hk0⟩ := hE 0 (by omega)
        exact addr_of (hk0 0 _ rfl)
      have hk' : ∀ k u, [Value.int .i64 (es.getD i pe0).seq, .int .i64 (es.getD i pe0).client, .int .i64 (es.getD i pe0).num, .int .i64 (es.getD i pe0).op, .string (strB (es.getD i pe0).key), .int .i64 (es.getD i pe0).size, .int .u32 ((es.getD i pe0).sum : Int), .slice loc (es.getD i pe0).frag.length c][k]? = some u → W.cell? ⟨b, off + i * 8 + k, none⟩ = some u := fun k u h' => by
        have := hk k u h'
        rw [Go.WideShapes.add_plain, ← Nat.add_assoc] at this
        exact this
      exact ⟨b, off, loc, c, rfl, hk' 0 _ rfl, hk' 1 _ rfl, hk' 2 _ rfl, hk' 3 _ rfl, hk' 4 _ rfl, hk' 5 _ rfl, hk' 6 _ rfl, hk' 7 _ rfl, hs⟩
    · obtain ⟨i, hi, rfl⟩ := List.mem_iff_getElem.mp he
      have := (hE i (by omega)).1
      rwa [List.getD_eq_getElem?_getD, List.getElem?_eq_getElem hi] at this

/-- The cell of a slice of integers. -/
theorem ints_cell {fuel : Nat} {v : Value} {x : DataW H × List MemPlace} (h : DataW.trod enc Tryz.prog W 0 (fun _ => true) true fuel 30 [v] = some x) :
    ∃ (a : Option Addr) (c : Nat) (zs : List Int), v = .slice a zs.length c ∧ IntsAt W a c zs := by
  rcases open_ints Tryz.underlying30 Tryz.underlying3 (by kernel_rfl) h with ⟨hcs, _⟩ | ⟨ad, l, c, zs, hcs, _, hl, hm, hz, _, hcell, hwz⟩
  · simp at hcs
    exact ⟨none, 0, [], hcs, IntsAt.nil (Nat.zero_le _)⟩
  · simp at hcs
    subst hcs
    have hz' : zs.length = c := by simpa using hz
    have hlt : (zs.take l).length = l := by rw [List.length_take]; omega
    refine ⟨some ad, c, zs.take l, by rw [hlt], ⟨by omega, hm, fun i => ?_, fun i hi => ?_⟩⟩
    · rw [List.getD_eq_getElem?_getD]
      by_cases hi : i < (zs.take l).length
      · rw [List.getElem?_eq_getElem hi]
        have := hwz _ (List.mem_of_mem_take (List.getElem_mem hi))
        simpa [Lit.wf, IntKind.min, IntKind.max, IntKind.signed, IntKind.bits] using this
      · rw [List.getElem?_eq_none (by omega)]; simp
    · rw [hlt] at hi
      obtain ⟨b, off, rfl⟩ := addr_of (hcell 0 (by omega))
      have hc := hcell i (by omega)
      rw [Go.WideShapes.add_plain] at hc
      refine ⟨b, off, rfl, ?_⟩
      rw [hc, List.getD_eq_getElem?_getD, List.getD_eq_getElem?_getD, List.getElem?_take_of_lt hi]

theorem ints_each {a : Option Addr} {cap : Nat} {zs : List Int} (h : IntsAt W a cap zs) : ∀ z ∈ zs, I64 z := by
  intro z hz
  obtain ⟨i, hi, rfl⟩ := List.mem_iff_getElem.mp hz
  have := h.wf i
  rwa [List.getD_eq_getElem?_getD, List.getElem?_eq_getElem hi] at this

set_option maxRecDepth 100000 in
/-- The cells of a record. -/
theorem rec_cells {fuel : Nat} {cs : List Value} {x : DataW H × List MemPlace} (h : DataW.trod enc Tryz.prog W 0 (fun _ => true) true fuel 35 cs = some x) :
    ∃ (r : Pr) (ma : Option Addr) (mc : Nat) (ea : Option Addr) (ec : Nat), cs = [.int .i64 r.kind, .int .i64 r.epoch, .slice ma r.mem.length mc, .int .i64 r.pos, .int .i64 r.last, .slice ea r.ents.length ec] ∧ RecAt W ma mc ea ec r := by
  obtain ⟨xs, n, _, _, hl, hxl, hf⟩ := DataW.trod_struct Tryz.underlying35 h
  rw [c_rec] at hl
  match xs, hxl, cs, hl with
  | [y0, y1, y2, y3, y4], _, [v0, v1, v2, v3, v4, v5], _ =>
    have g0 := hf 0 _ rfl
    have g1 := hf 1 _ rfl
    have g2 := hf 2 _ rfl
    have g3 := hf 3 _ rfl
    have g4 := hf 4 _ rfl
    simp [c_int, c_conf, c_ents] at g0 g1 g2 g3 g4
    obtain ⟨zs, n', _, _, _, hzl, hf'⟩ := DataW.trod_struct Tryz.underlying32 g1
    match zs, hzl with
    | [u0, u1], _ =>
      have k0 := hf' 0 _ rfl
      have k1 := hf' 1 _ rfl
      simp [c_int, c_ints] at k0 k1
      obtain ⟨z0, e0, _, w0⟩ := DataW.trod_int Tryz.underlying3 g0
      obtain ⟨z1, e1, _, w1⟩ := DataW.trod_int Tryz.underlying3 k0
      obtain ⟨ma, mc, ms, e2, hm⟩ := ints_cell k1
      obtain ⟨z3, e3, _, w3⟩ := DataW.trod_int Tryz.underlying3 g2
      obtain ⟨z4, e4, _, w4⟩ := DataW.trod_int Tryz.underlying3 g3
      obtain ⟨ea, ec, es, e5, he⟩ := ents_cell g4
      simp at e0 e1 e3 e4
      subst e0 e1 e2 e3 e4 e5
      exact ⟨⟨z0, z1, ms, z3, z4, es⟩, ma, mc, ea, ec, rfl, hm, he, ⟨wf_i64 w0, wf_i64 w1, ints_each hm, wf_i64 w3, wf_i64 w4, he.wf⟩⟩

/-- An argument that is a record. -/
theorem rec_arg {cs : Array Value} {d : DataW H} {ps : List MemPlace} (h : DataW.Trod enc Tryz.prog W 0 (fun _ => true) true 35 (.agg cs) d ps) :
    ∃ (r : Pr) (ma : Option Addr) (mc : Nat) (ea : Option Addr) (ec : Nat), cs = #[.int .i64 r.kind, .int .i64 r.epoch, .slice ma r.mem.length mc, .int .i64 r.pos, .int .i64 r.last, .slice ea r.ents.length ec] ∧ RecAt W ma mc ea ec r := by
  obtain ⟨fuel, hf⟩ := h
  obtain ⟨r, ma, mc, ea, ec, e, hr⟩ := rec_cells hf
  refine ⟨r, ma, mc, ea, ec, ?_, hr⟩
  cases cs
  simpa [Value.cells] using e

/-- An argument that is an entry. -/
theorem ent_arg {cs : Array Value} {d : DataW H} {ps : List MemPlace} (h : DataW.Trod enc Tryz.prog W 0 (fun _ => true) true 41 (.agg cs) d ps) :
    ∃ (p : Pe) (loc : Option Addr) (c : Nat), cs = #[.int .i64 p.seq, .int .i64 p.client, .int .i64 p.num, .int .i64 p.op, .string (strB p.key), .int .i64 p.size, .int .u32 (p.sum : Int), .slice loc p.frag.length c] ∧ SeenAt W loc c p.frag ∧ p.Wf := by
  obtain ⟨fuel, hf⟩ := h
  obtain ⟨p, loc, c, e, hr⟩ := ent_cells hf
  refine ⟨p, loc, c, ?_, hr⟩
  cases cs
  simpa [Value.cells] using e

end

end Go.Proofs.YtdgpbdedaafdiaaGreat
