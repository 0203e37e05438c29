/-
  store: Log, Stage, Activate.
-/
import Derived.Test.YtdgpbdedaafdiaaWalksO6
import Derived.Deep.DeepCutAuto
namespace Go.Proofs.Ytdgpbdedaafdiaa
open Go.RowKit



theorem RetMu.bel {w w0 w' : World} {base SB R : Nat} {M : List Nat} {p : Int × DS} {rs : List Pr} {e : Ending} (h : RetMu w0 base SB R M p rs e w') (hb : Below w.heap.size w w0) : RetMu w base SB R M p rs e w' := by
  obtain ⟨h1, M', h2, h3⟩ := h
  exact ⟨h1, M', h2, (Mv.of_below _ hb).trans h3⟩

/-- One entry in a block of its own. -/
theorem ens_one {w : World} {M : List Nat} {B n : Nat} {e : Pe} {loc : Option Addr} {c : Nat} (hn : e.frag.length = n) (hB : Box w B #[.int .i64 e.seq, .int .i64 e.client, .int .i64 e.num, .int .i64 e.op, .string (strB e.key), .int .i64 e.size, .int .u32 (e.sum : Int), .slice loc n c])
    (hM : B ∉ M) (hlt : B < w.heap.size) (hs : Kp M w fun x => SeenAt x loc c e.frag) (hw : e.Wf) : Kp M w fun x => EnsAt x (some ⟨B, 0, none⟩) 1 [e] := fun gs x hc hg => by
  subst hn
  have hn : B ∉ gs := fun e => by
    rcases hg B e with h | h
    · exact hM h
    · omega
  have hb : ∀ (j : Nat) (v : Value), (#[.int .i64 e.seq, .int .i64 e.client, .int .i64 e.num, .int .i64 e.op, .string (strB e.key), .int .i64 e.size, .int .u32 (e.sum : Int), .slice loc e.frag.length c] : Array Value)[j]? = some v → x.cell? ⟨B, j, none⟩ = some v := fun j v hv => hc.cell (hB j v hv) hn
  obtain ⟨y0, y1, y2, y3, y4, y5, y6, y7⟩ := box8 (w := x) (B := B) hb
  refine ⟨Nat.le_refl _, by unfold maxLen; omega, fun i hi => ?_, fun f hf => ?_⟩
  · have hi' : i < 1 := hi
    obtain rfl : i = 0 := by omega
    exact ⟨B, 0, loc, c, rfl, y0, y1, y2, y3, y4, y5, y6, y7, hs gs x hc hg⟩
  · rw [List.mem_singleton.mp hf]; exact hw

theorem i64_k {n : Int} (h : 0 ≤ n ∧ n ≤ 4) : I64 n := by unfold I64; omega

theorem recLog_wf {p : Pe} (h : p.Wf) : (recLog p).Wf := ⟨i64_k (by simp [recLog]), i64_k (by simp [recLog]), by simp [recLog], i64_k (by simp [recLog]), i64_k (by simp [recLog]), by simp [recLog]; exact h⟩

theorem wrap_same {n : Int} (h : -9223372036854775808 ≤ n ∧ n ≤ 9223372036854775807) : IntKind.i64.wrap n = n := by
  simp [IntKind.wrap, IntKind.signed, IntKind.bits]
  omega

section
variable {w w' : World} {base SB R : Nat} {M : List Nat} {d : DS} {rs : List Pr} {s : Ss}

set_option maxRecDepth 100000 in
set_option maxHeartbeats 4000000 in
theorem stLog_any (p : Pe) (loc : Option Addr) (c n : Nat) (hn : p.frag.length = n) (h : So w base SB R M d rs s) (hl : rs.length ≤ 100000) (hs : Kp M w fun x => SeenAt x loc c p.frag) (hw : p.Wf) :
    Calls Try.prog 16 #[.pointer (some ⟨SB, 0, none⟩), .agg #[.int .i64 p.seq, .int .i64 p.client, .int .i64 p.num, .int .i64 p.op, .string (strB p.key), .int .i64 p.size, .int .u32 (p.sum : Int), .slice loc n c]] w (RetMu w base SB R M (act d rs (preLog s p) (recLog p) false).1 (act d rs (preLog s p) (recLog p) false).2) := by
  have hlen := h.len
  have HLR := Lib.hid (lastS_range h.ok)
  have HN := Lib.hid hn
  have HW := Lib.hid hw
  have hbl := below_one w (.cells #[.int .i64 p.seq, .int .i64 p.client, .int .i64 p.num, .int .i64 p.op, .string (strB p.key), .int .i64 p.size, .int .u32 (p.sum : Int), .slice loc n c] 32)
  have HB0 : Hid (Box (w.alloc (.cells #[.int .i64 p.seq, .int .i64 p.client, .int .i64 p.num, .int .i64 p.op, .string (strB p.key), .int .i64 p.size, .int .u32 (p.sum : Int), .slice loc n c] 32)) w.heap.size #[.int .i64 p.seq, .int .i64 p.client, .int .i64 p.num, .int .i64 p.op, .string (strB p.key), .int .i64 p.size, .int .u32 (p.sum : Int), .slice loc n c]) := box_new _ _ _ _ rfl
  have HE0 := Lib.hid hbl
  have HS := Lib.hid (h.below hbl)
  have HK := Lib.hid (hs.below hbl)
  have HML : Hid (∀ g ∈ M, g < w.heap.size) := fun g hg => (h.mLt hg).2
  clear h hs hn hbl hw
  go_enter Try.func16, Try.ntmps16
  obtain ⟨hrun, hg, L, rfl, hx⟩ := HS.out
  have HRUN := Lib.hid hrun
  have HG := Lib.hid hg
  have HX := Lib.hid hx
  have c2 : (w.alloc (.cells #[.int .i64 p.seq, .int .i64 p.client, .int .i64 p.num, .int .i64 p.op, .string (strB p.key), .int .i64 p.size, .int .u32 (p.sum : Int), .slice loc n c] 32)).cell? ⟨SB, 2, none⟩ = some (.int .i64 s.now.epoch) := hx.box.cell 2 _ rfl
  have c7 : (w.alloc (.cells #[.int .i64 p.seq, .int .i64 p.client, .int .i64 p.num, .int .i64 p.op, .string (strB p.key), .int .i64 p.size, .int .u32 (p.sum : Int), .slice loc n c] 32)).cell? ⟨SB, 7, none⟩ = some (.bool s.sealed) := hx.box.cell 7 _ rfl
  clear hx hg hrun
  by_cases h0 : s.now.epoch = 0 ∨ s.sealed = true
  · have HP : Hid (preLog s p = some 8) := if_pos h0
    have HF : Hid (RetMu w base SB R (L.M SB R) (act d rs (preLog s p) (recLog p) false).1 (act d rs (preLog s p) (recLog p) false).2 (.returned (.int .i64 8)) (w.alloc (.cells #[.int .i64 p.seq, .int .i64 p.client, .int .i64 p.num, .int .i64 p.op, .string (strB p.key), .int .i64 p.size, .int .u32 (p.sum : Int), .slice loc n c] 32))) := by
      refine RetMu.bel ?_ HE0.out
      rw [HP.out]
      exact HS.out.told 8 (Below.refl _ _)
    by_cases h1 : s.now.epoch = 0
    · have d0 : (s.now.epoch == 0) = true := by simp [h1]
      clear h0 h1
      go_wp2
      go_ret
      exact HF.out
    · have d0 : (s.now.epoch == 0) = false := by simp [h1]
      have d1 : s.sealed = true := by rcases h0 with h | h; exact absurd h h1; exact h
      rw [d1] at c7
      clear h0 h1
      go_wp2
      go_ret
      exact HF.out
  · have h1 : s.now.epoch ≠ 0 := fun e => h0 (.inl e)
    have h2 : s.sealed = false := by cases hs : s.sealed; rfl; exact absurd (.inr hs) h0
    have d0 : (s.now.epoch == 0) = false := by simp [h1]
    rw [h2] at c7
    have HP0 : Hid (preLog s p = if p.seq ≠ lastS s + 1 then some 3 else none) := if_neg h0
    clear h0 h1
    go_wp2_with fail
    generalize (w.alloc (.cells #[.int .i64 p.seq, .int .i64 p.client, .int .i64 p.num, .int .i64 p.op, .string (strB p.key), .int .i64 p.size, .int .u32 (p.sum : Int), .slice loc n c] 32)) = w0 at *
    refine wp_region_ext (by kernel_rfl) ?_
    have E0 : Hid (Ext w0 w0.drew) := (Below.refl _ w0).drew
    have hY0 : w0.drew.cell? ⟨w.heap.size, 0, none⟩ = some (.int .i64 p.seq) := (box8 HB0.out).1
    have HE2 : Hid (Below w.heap.size w w0.drew) := HE0.out.drew
    have HS2 := Lib.hid (HS.out.below E0.out)
    have HX2 := Lib.hid (HX.out.below E0.out)
    have HK2 := Lib.hid (HK.out.below E0.out)
    have HB2 := Lib.hid (HB0.out.below E0.out)
    have HSV := Lib.hid (HX.out.someV.below E0.out)
    have HSZ : Hid (w.heap.size < w0.drew.heap.size) := by
      have := bx_lt HX.out.box
      exact Nat.lt_of_lt_of_le (World.block_lt_of_cell? _ _ (box8 HB0.out).1) (Nat.le_refl _)
    clear HS HX HK HB0 HE0 c2 c7
    generalize w0.drew = w2 at *
    refine wpAnyH_tk (i := 0) 20 (v := ?_) rfl rfl (by kernel_rfl) (by kernel_rfl) (by kernel_rfl) (by rfl) (fun wq hwq => ?_) ?_
    rotate_left
    · (go_simp <;> with_reducible rfl)
    simp only [List.setIfInBounds_toArray, List.set_cons_zero, List.set_cons_succ]
    refine wpAnyH_tk (i := 1) 21 (v := ?_) rfl rfl (by kernel_rfl) (by kernel_rfl) (by kernel_rfl) (by rfl) (fun wq hwq => ?_) ?_
    rotate_left
    · (have hx := cell_later hwq hY0; go_simp <;> with_reducible rfl)
    simp only [List.setIfInBounds_toArray, List.set_cons_zero, List.set_cons_succ]
    refine wpAnyH_tk (i := 2) 22 (v := ?_) rfl rfl (by kernel_rfl) (by kernel_rfl) (by kernel_rfl) (by rfl) (fun wq hwq => ?_) ?_
    rotate_left
    · (go_simp <;> with_reducible rfl)
    simp only [List.setIfInBounds_toArray, List.set_cons_zero, List.set_cons_succ]
    refine wpAnyH_one (i := 3) rfl (by kernel_rfl) (by rfl) (fun K hK => ?_)
    go_simp
    refine (stLast_any _ HSV.out (by omega)).mono ?_
    rintro e w3 ⟨rfl, hb3⟩
    have HE3 := Lib.hid (HE2.out.trans (hb3.mono HE2.out.size))
    have HS3 := Lib.hid (HS2.out.below hb3)
    have HX3 := Lib.hid (HX2.out.below hb3)
    have HK3 := Lib.hid (HK2.out.below hb3)
    have HB3 := Lib.hid (HB2.out.below hb3)
    have HSZ3 := Lib.hid (Nat.lt_of_lt_of_le HSZ.out hb3.size)
    clear HSV HS2 HX2 HK2 HB2 HSZ
    generalize hq : lastS s = q at *
    have HQ := Lib.hid hq
    have hq1 := HLR.out.1
    have hq2 := HLR.out.2
    clear hq
    refine hK.out _ _ hb3 ?_
    clear hK K
    refine wpAnyH_tk (i := 4) 24 (v := ?_) rfl rfl (by kernel_rfl) (by kernel_rfl) (by kernel_rfl) (by rfl) (fun wq hwq => ?_) ?_
    rotate_left
    · (go_simp <;> with_reducible rfl)
    simp only [List.setIfInBounds_toArray, List.set_cons_zero, List.set_cons_succ]
    refine wpAnyH_tk (i := 5) 25 (v := ?_) rfl rfl (by kernel_rfl) (by kernel_rfl) (by kernel_rfl) (by rfl) (fun wq hwq => ?_) ?_
    rotate_left
    · (go_simp <;> with_reducible rfl)
    simp only [List.setIfInBounds_toArray, List.set_cons_zero, List.set_cons_succ]
    refine wpAnyH_done (by kernel_rfl) ?_ _
    refine NoPanic.normal ?_
    clear hb3 hY0
    have hwr : IntKind.i64.wrap (q + 1) = q + 1 := wrap_same (by omega)
    try rw [hwr]
    clear hwr
    obtain ⟨y0, y1, y2, y3, y4, y5, y6, y7⟩ := box8 HB3.out
    by_cases h5 : p.seq = q + 1
    · have d5 : (p.seq != q + 1) = false := by simp [h5]
      have HP : Hid (preLog s p = none) := by show _ = _; rw [HP0.out]; exact if_neg (by simp [h5])
      try rw [d5]
      clear h5
      have hb4 := below_one w3 (.cells #[.int .i64 p.seq, .int .i64 p.client, .int .i64 p.num, .int .i64 p.op, .string (strB p.key), .int .i64 p.size, .int .u32 (p.sum : Int), .slice loc n c] 32)
      have HX4 := Lib.hid (HX3.out.below hb4)
      have HE4 := Lib.hid (HE3.out.trans (hb4.mono HE3.out.size))
      have HN4 := Lib.hid (ens_one (M := L.M SB R) (B := w3.heap.size) HN.out (box_new w3 _ _ _ rfl) (fun e => by have h1 := HML.out _ e; have h2 := HE3.out.size; omega) (by simp) (HK3.out.below hb4) HW.out)
      clear hb4
      go_wp2_with fail
      refine (stAdd_any (r := recLog p) HX4.out (HN4.out.imp fun x hx => ⟨IntsAt.nil (Nat.zero_le _), hx, recLog_wf HW.out⟩) rfl rfl (by omega) (by rw [List.length_map]; omega)).mono ?_
      intro e w5 hw
      have HF : Hid (RetMu w base SB R (L.M SB R) (act d rs (preLog s p) (recLog p) false).1 (act d rs (preLog s p) (recLog p) false).2 e w5) := by
        refine RetMu.bel ?_ HE4.out
        rw [HP.out]
        exact hw.mu HRUN.out HG.out (fun h => ⟨h, recLog_wf HW.out, by simp [recLog], fun _ => by simp [recLog]⟩) (fun e => by cases e)
      obtain ⟨rfl, -⟩ := hw
      generalize wq d (recLog p) false = z at *
      go_wp2
      go_ret
      exact HF.out
    · have d5 : (p.seq != q + 1) = true := by simp [h5]
      have HP : Hid (preLog s p = some 3) := by show _ = _; rw [HP0.out]; exact if_pos h5
      try rw [d5]
      have HF : Hid (RetMu w base SB R (L.M SB R) (act d rs (preLog s p) (recLog p) false).1 (act d rs (preLog s p) (recLog p) false).2 (.returned (.int .i64 3)) w3) := by
        refine RetMu.bel ?_ HE3.out
        rw [HP.out]
        exact HS3.out.told 3 (Below.refl _ _)
      clear h5
      go_wp2
      go_ret
      exact HF.out

end

end Go.Proofs.Ytdgpbdedaafdiaa
