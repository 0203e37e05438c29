/-
  store: Entry; what no store answers.
-/
import Derived.Test.YtdgpbdedaafdiaaWalksO9
import Derived.Deep.DeepCutAuto
namespace Go.Proofs.Ytdgpbdedaafdiaa
open Go.RowKit






/-- Where the first entry of number n stands. -/
def IdxE (w : World) (es : List Pe) (n : Int) (e : Ending) (w' : World) : Prop :=
  ((e = .returned (.int .i64 (-1)) ∧ ∀ k, k < es.length → (es.getD k pe0).seq ≠ n) ∨ ∃ j : Nat, j < es.length ∧ e = .returned (.int .i64 (j : Int)) ∧ (es.getD j pe0).seq = n ∧ ∀ k, k < j → (es.getD k pe0).seq ≠ n) ∧ Below w.heap.size w w'

set_option maxHeartbeats 400000 in
theorem seqC_any (p : Pe) (loc : Option Addr) (c : Nat) (cp : Addr) (n : Int) (w : World) (hc : w.cell? cp = some (.int .i64 n)) :
    Calls Try.prog 33 #[.agg #[.int .i64 p.seq, .int .i64 p.client, .int .i64 p.num, .int .i64 p.op, .string (strB p.key), .int .i64 p.size, .int .u32 (p.sum : Int), .slice loc p.frag.length c], .pointer (some cp)] w fun e w' => e = .returned (.bool (p.seq == n)) ∧ Below w.heap.size w w' := by
  have hc := cell_later (below_one w (.cells #[.int .i64 p.seq, .int .i64 p.client, .int .i64 p.num, .int .i64 p.op, .string (strB p.key), .int .i64 p.size, .int .u32 (p.sum : Int), .slice loc p.frag.length c] 32)) hc
  have HB := Lib.hid (below_one w (.cells #[.int .i64 p.seq, .int .i64 p.client, .int .i64 p.num, .int .i64 p.op, .string (strB p.key), .int .i64 p.size, .int .u32 (p.sum : Int), .slice loc p.frag.length c] 32))
  go_enter Try.func33, Try.ntmps33
  go_wp2
  go_ret
  exact ⟨rfl, HB.out⟩

set_option maxRecDepth 100000 in
set_option maxHeartbeats 1000000 in
theorem idxE_any (a : Option Addr) (cap l : Nat) (cp : Addr) (n : Int) (xs : List Pe) (w : World) (hl : xs.length = l) (h : EnsAt w a cap xs) (hc : w.cell? cp = some (.int .i64 n)) :
    Calls Try.prog 32 #[.slice a l cap, .func (.func 33) #[] #[.pointer (some cp)]] w (IdxE w xs n) := by
  have hm : l ≤ maxLen := by have := h.le; have := h.max; omega
  unfold maxLen at hm
  have HE := Lib.hid h
  have HL := Lib.hid hl
  have HCP := Lib.hid hc
  clear h hl hc
  go_enter Try.func32, Try.ntmps32
  go_wp2
  go_loopw [5, 8] (fun _ i ws => ∃ k : Nat, k ≤ l ∧ i = .int .i64 k ∧ Hid (∀ j, j < k → (xs.getD j pe0).seq ≠ n) ∧ Hid (Below w.heap.size w ws)) (fun _ i _ => l - (intOf i).toNat)
  case atStart => exact ⟨0, Nat.zero_le _, rfl, fun j hj => by omega, Below.refl _ _⟩
  case round =>
    obtain ⟨k, hk, rfl, HU, HB⟩ := hrel
    by_cases hlt : k < l
    · have HCK := Lib.hid (cell_later HB.out HCP.out)
      obtain ⟨b, off, loc, c, rfl, hc⟩ := (HE.out.below HB.out).el k (by rw [HL.out]; exact hlt)
      have c0 := hc.c0
      have c1 := hc.c1
      have c2 := hc.c2
      have c3 := hc.c3
      have c4 := hc.c4
      have c5 := hc.c5
      have c6 := hc.c6
      have c7 := hc.c7
      clear hc
      have HNO : Hid ((xs.getD k pe0).seq ≠ n → ∀ j, j < k + 1 → (xs.getD j pe0).seq ≠ n) := fun hne j hj => by
        by_cases e : j = k
        · rw [e]; exact hne
        · exact HU.out j (by omega)
      generalize hp : xs.getD k pe0 = p at *
      have HPK := Lib.hid hp
      clear hp
      go_wp2_with fail
      refine (seqC_any p loc c _ n _ HCK.out).mono ?_
      rintro e w1 ⟨rfl, hb1⟩
      have HB1 := Lib.hid (HB.out.trans (hb1.mono HB.out.size))
      clear hb1
      by_cases hw : p.seq = n
      · have d : (p.seq == n) = true := by simp [hw]
        have HF : Hid (IdxE w xs n (.returned (.int .i64 (k : Int))) w1) := ⟨.inr ⟨k, by rw [HL.out]; exact hlt, rfl, by rw [HPK.out]; exact hw, HU.out⟩, HB1.out⟩
        rw [d]
        clear hw d
        go_wp2
        go_ret
        exact HF.out
      · have d : (p.seq == n) = false := by simp [hw]
        have HU' := Lib.hid (HNO.out hw)
        rw [d]
        clear hw d
        go_wp2
        go_roundw
        case rel => exact ⟨k + 1, by omega, by go_num, HU', HB1⟩
        case measure => simp [intOf]; omega
    · obtain rfl : k = l := by omega
      have HF : Hid (IdxE w xs n (.returned (.int .i64 (-1))) wr) := ⟨.inl ⟨rfl, by rw [HL.out]; exact HU.out⟩, HB.out⟩
      go_wp2
      go_ret
      exact HF.out

/-- What Entry answers. -/
def RetEn (w : World) (es : List Pe) (n : Int) (e : Ending) (w' : World) : Prop :=
  (((∀ k, k < es.length → (es.getD k pe0).seq ≠ n) ∧ e = .returned (.tuple #[.agg #[.int .i64 0, .int .i64 0, .int .i64 0, .int .i64 0, .string ⟨#[]⟩, .int .i64 0, .int .u32 0, .slice none 0 0], .bool false])) ∨
    ∃ (j : Nat) (p : Pe) (loc : Option Addr) (c : Nat), j < es.length ∧ es.getD j pe0 = p ∧ p.seq = n ∧ (∀ k, k < j → (es.getD k pe0).seq ≠ n) ∧ SeenAt w' loc c p.frag ∧
      e = .returned (.tuple #[.agg #[.int .i64 p.seq, .int .i64 p.client, .int .i64 p.num, .int .i64 p.op, .string (strB p.key), .int .i64 p.size, .int .u32 (p.sum : Int), .slice loc p.frag.length c], .bool true])) ∧ Below w.heap.size w w'

section
variable {v : Value} {bp : Value} {s : Ss} {L : Lay}

set_option maxRecDepth 100000 in
set_option maxHeartbeats 2000000 in
theorem stEntry_any (n : Int) (w : World) (h : SomeV v w bp s L) (hf : ∀ e ∈ s.now.ents, e.frag.length ≤ 1000000000) : Calls Try.prog 15 #[v, .int .i64 n] w (RetEn w s.now.ents n) := by
  have hmf : ∀ (fn : Fn) (first cap : Array Value) (w : World), (Instr.makeFunc fn first cap).run Try.prog w = .ok (.func fn first cap) w := fun _ _ _ _ => rfl
  obtain ⟨l, hl⟩ : ∃ l, s.now.ents.length = l := ⟨_, rfl⟩
  have HL := Lib.hid hl
  have HFR := Lib.hid hf
  have HZ0 : Hid (Bx ((w.alloc (.cells #[.int .i64 n] 3)).alloc (.cells #[.int .i64 0, .int .i64 0, .int .i64 0, .int .i64 0, .string ⟨#[]⟩, .int .i64 0, .int .u32 0, .slice none 0 0] 32)) (w.heap.size + 1) 32 #[.int .i64 0, .int .i64 0, .int .i64 0, .int .i64 0, .string ⟨#[]⟩, .int .i64 0, .int .u32 0, .slice none 0 0]) := by
    have := bx_new8 (w.alloc (.cells #[.int .i64 n] 3)) #[.int .i64 0, .int .i64 0, .int .i64 0, .int .i64 0, .string ⟨#[]⟩, .int .i64 0, .int .u32 0, .slice none 0 0] 32
    rw [World.size_alloc] at this
    exact this
  have HN0 : Hid (((w.alloc (.cells #[.int .i64 n] 3)).alloc (.cells #[.int .i64 0, .int .i64 0, .int .i64 0, .int .i64 0, .string ⟨#[]⟩, .int .i64 0, .int .u32 0, .slice none 0 0] 32)).cell? ⟨w.heap.size, 0, none⟩ = some (.int .i64 n)) :=
    cell_later (below_one _ _) (by rw [World.cell?_alloc_at (hn := rfl)]; rfl)
  have HE0 := Lib.hid ((below_one w (.cells #[.int .i64 n] 3)).alloc (by simp) (.cells #[.int .i64 0, .int .i64 0, .int .i64 0, .int .i64 0, .string ⟨#[]⟩, .int .i64 0, .int .u32 0, .slice none 0 0] 32))
  clear hf hl
  go_enter Try.func15, Try.ntmps15
  go_wp2_with fail
  generalize ((w.alloc (.cells #[.int .i64 n] 3)).alloc (.cells #[.int .i64 0, .int .i64 0, .int .i64 0, .int .i64 0, .string ⟨#[]⟩, .int .i64 0, .int .u32 0, .slice none 0 0] 32)) = w0 at *
  refine (h.call _ HE0.out).mono ?_
  rintro e w1 ⟨⟨SB, rfl, hx⟩, hb1⟩
  have HB1 := Lib.hid (HE0.out.trans (hb1.mono HE0.out.size))
  have HZ1 := Lib.hid (HZ0.out.chg (gs := []) (Chg.of_below hb1) (by simp))
  have HN1 := Lib.hid (cell_later hb1 HN0.out)
  have c6 := hx.cell 6 (.slice L.na l L.nc) (by rw [← HL.out]; rfl)
  have HE := Lib.hid (h.ents.below HB1.out)
  clear hx hb1 HZ0 HN0 h
  go_wp2_with fail
  refine (idxE_any _ _ _ _ n s.now.ents _ HL.out HE.out HN1.out).mono ?_
  rintro e w2 ⟨hi, hb2⟩
  have HB2 := Lib.hid (HB1.out.trans (hb2.mono HB1.out.size))
  have HZ2 := Lib.hid (HZ1.out.chg (gs := []) (Chg.of_below hb2) (by simp))
  have HE2 := Lib.hid (HE.out.below hb2)
  clear c6 hb2 HZ1 HN1 HE
  rcases hi with ⟨rfl, hno⟩ | ⟨j, hj, rfl, hjs, hjf⟩
  · have HNO := Lib.hid hno
    clear hno
    go_wp2_with (refine wpList_st 32 8 (w.heap.size + 1) 0 32 #[.int .i64 0, .int .i64 0, .int .i64 0, .int .i64 0, .string ⟨#[]⟩, .int .i64 0, .int .u32 0, .slice none 0 0] #[.int .i64 0, .int .i64 0, .int .i64 0, .int .i64 0, .string ⟨#[]⟩, .int .i64 0, .int .u32 0, .slice none 0 0] #[.int .i64 0, .int .i64 0, .int .i64 0, .int .i64 0, .string ⟨#[]⟩, .int .i64 0, .int .u32 0, .slice none 0 0] (.tmp 4) (.tmp 19) rfl rfl rfl rfl rfl (by kernel_rfl) rfl HZ2.out (by show 8 ≤ 8; omega) (by simp [Value.oneCell']) rfl ?_; intro w3 hb3 hc3; have HZ3 := Lib.hid hb3; have HC3 := Lib.hid hc3; clear hb3 hc3)
    have k0 := HZ3.out.cell 0 (.int .i64 0) rfl
    have k1 := HZ3.out.cell 1 (.int .i64 0) rfl
    have k2 := HZ3.out.cell 2 (.int .i64 0) rfl
    have k3 := HZ3.out.cell 3 (.int .i64 0) rfl
    have k4 := HZ3.out.cell 4 (.string ⟨#[]⟩) rfl
    have k5 := HZ3.out.cell 5 (.int .i64 0) rfl
    have k6 := HZ3.out.cell 6 (.int .u32 0) rfl
    have k7 := HZ3.out.cell 7 (.slice none 0 0) rfl
    refine bodyPost_ret (v := .tuple #[.agg #[.int .i64 0, .int .i64 0, .int .i64 0, .int .i64 0, .string ⟨#[]⟩, .int .i64 0, .int .u32 0, .slice none 0 0], .bool false]) (by simp [results, Try.results15, go_sem, k0, k1, k2, k3, k4, k5, k6, k7]) rfl ?_
    exact ⟨.inl ⟨HNO.out, rfl⟩, HC3.out.below HB2.out HB2.out.size (by simp)⟩
  · rw [HL.out] at hj
    have j0 : decide ((j : Int) < 0) = false := decide_eq_false (by omega)
    have j1 : (0 : Int) ≤ (j : Int) := by omega
    have j2 : (j : Int) < (l : Int) := by omega
    have HJF := Lib.hid hjf
    obtain ⟨b, off, loc, c, e, hc⟩ := HE2.out.el j (by rw [HL.out]; exact hj)
    rw [e]
    have HLEN : Hid ((s.now.ents.getD j pe0).frag.length ≤ 1000000000) := HFR.out _ (getD_mem _ _ _ (by rw [HL.out]; exact hj))
    generalize hp : s.now.ents.getD j pe0 = p at *
    have HP := Lib.hid hp
    have HJS := Lib.hid hjs
    have c0 := hc.c0
    have c1 := hc.c1
    have c2 := hc.c2
    have c3' := hc.c3
    have c4 := hc.c4
    have c5 := hc.c5
    have c6 := hc.c6
    have c7 := hc.c7
    have HS := Lib.hid hc.seen
    clear hc hp hjs hjf e
    go_wp2_with fail
    refine (copied_any p loc c _ HS.out HLEN.out).mono ?_
    rintro e w3 ⟨a3, c3, rfl, hs3, hf3, hb3⟩
    have HB3 := Lib.hid (HB2.out.trans (hb3.mono HB2.out.size))
    have HZ3 := Lib.hid (HZ2.out.chg (gs := []) (Chg.of_below hb3) (by simp))
    have HS3 := Lib.hid hs3
    have HF3 : Hid (∀ g ∈ blk a3, w2.heap.size ≤ g) := fun g hg => (fresh_blk hf3 g hg).1
    have HSZ : Hid (w.heap.size + 1 < w2.heap.size) := bx_lt HZ2.out
    clear hs3 hf3 hb3 c0 c1 c2 c3' c4 c5 c6 c7
    go_wp2_with (refine wpList_st 32 8 (w.heap.size + 1) 0 32 #[.int .i64 p.seq, .int .i64 p.client, .int .i64 p.num, .int .i64 p.op, .string (strB p.key), .int .i64 p.size, .int .u32 (p.sum : Int), .slice a3 p.frag.length c3] #[.int .i64 0, .int .i64 0, .int .i64 0, .int .i64 0, .string ⟨#[]⟩, .int .i64 0, .int .u32 0, .slice none 0 0] #[.int .i64 p.seq, .int .i64 p.client, .int .i64 p.num, .int .i64 p.op, .string (strB p.key), .int .i64 p.size, .int .u32 (p.sum : Int), .slice a3 p.frag.length c3] (.tmp 4) (.tmp 24) rfl rfl rfl rfl rfl (by kernel_rfl) rfl HZ3.out (by show 8 ≤ 8; omega) (by simp [Value.oneCell']) rfl ?_; intro w4 hb4 hc4; have HZ4 := Lib.hid hb4; have HC4 := Lib.hid hc4; clear hb4 hc4)
    have k0 := HZ4.out.cell 0 (.int .i64 p.seq) rfl
    have k1 := HZ4.out.cell 1 (.int .i64 p.client) rfl
    have k2 := HZ4.out.cell 2 (.int .i64 p.num) rfl
    have k3 := HZ4.out.cell 3 (.int .i64 p.op) rfl
    have k4 := HZ4.out.cell 4 (.string (strB p.key)) rfl
    have k5 := HZ4.out.cell 5 (.int .i64 p.size) rfl
    have k6 := HZ4.out.cell 6 (.int .u32 (p.sum : Int)) rfl
    have k7 := HZ4.out.cell 7 (.slice a3 p.frag.length c3) rfl
    refine bodyPost_ret (v := .tuple #[.agg #[.int .i64 p.seq, .int .i64 p.client, .int .i64 p.num, .int .i64 p.op, .string (strB p.key), .int .i64 p.size, .int .u32 (p.sum : Int), .slice a3 p.frag.length c3], .bool true]) (by simp [results, Try.results15, go_sem, k0, k1, k2, k3, k4, k5, k6, k7]) rfl ?_
    refine ⟨.inr ⟨j, p, a3, c3, by rw [HL.out]; exact hj, HP.out, HJS.out, HJF.out, HS3.out.chg HC4.out (fun b o e hm => ?_), rfl⟩, HC4.out.below HB3.out HB3.out.size (by simp)⟩
    have h1 := HF3.out b (by rw [e]; simp [blk])
    have h2 := HSZ.out
    have h3 : b = w.heap.size + 1 := by simpa using hm
    omega

end

/-! No store. -/

theorem stOpen_nil (w : World) : Calls Try.prog 6 #[.pointer none] w fun e w' => e = .returned (.tuple #[.pointer none, .int .i64 1]) ∧ w = w' := by
  go_enter Try.func6, Try.ntmps6
  go_wp2_with fail
  refine (bkOpen_nil _).mono ?_
  rintro e w' ⟨rfl, rfl⟩
  go_wp2
  go_ret2
  exact ⟨rfl, rfl⟩

theorem stLog_nil (a b c d f g : Int) (k : ByteArray) (z : Value) (w : World) : Calls Try.prog 16 #[.pointer none, .agg #[.int .i64 a, .int .i64 b, .int .i64 c, .int .i64 d, .string k, .int .i64 f, .int .u32 g, z]] w fun e w' => e = .returned (.int .i64 1) ∧ Below w.heap.size w w' := by
  have HB := Lib.hid (below_one w (.cells #[.int .i64 a, .int .i64 b, .int .i64 c, .int .i64 d, .string k, .int .i64 f, .int .u32 g, z] 32))
  go_enter Try.func16, Try.ntmps16
  go_wp2
  go_ret
  exact ⟨rfl, HB.out⟩

theorem stSeal_nil (w : World) : Calls Try.prog 17 #[.pointer none] w fun e w' => e = .returned (.int .i64 1) ∧ Below w.heap.size w w' := by
  go_enter Try.func17, Try.ntmps17
  go_wp2
  go_ret
  exact ⟨rfl, Below.refl _ _⟩

theorem stStage_nil (a b c : Int) (y z : Value) (w : World) : Calls Try.prog 18 #[.pointer none, .agg #[.int .i64 a, y], .int .i64 b, .int .i64 c, z] w fun e w' => e = .returned (.int .i64 1) ∧ Below w.heap.size w w' := by
  have HB := Lib.hid (below_one w (.cells #[.int .i64 a, y] 35))
  go_enter Try.func18, Try.ntmps18
  go_wp2
  go_ret
  exact ⟨rfl, HB.out⟩

theorem stActivate_nil (a : Int) (w : World) : Calls Try.prog 19 #[.pointer none, .int .i64 a] w fun e w' => e = .returned (.int .i64 1) ∧ Below w.heap.size w w' := by
  go_enter Try.func19, Try.ntmps19
  go_wp2
  go_ret
  exact ⟨rfl, Below.refl _ _⟩

theorem stBegin_nil (a b : Int) (y : Value) (w : World) : Calls Try.prog 20 #[.pointer none, .agg #[.int .i64 a, y], .int .i64 b] w fun e w' => e = .returned (.int .i64 1) ∧ Below w.heap.size w w' := by
  have HB := Lib.hid (below_one w (.cells #[.int .i64 a, y] 35))
  go_enter Try.func20, Try.ntmps20
  go_wp2
  go_ret
  exact ⟨rfl, HB.out⟩

end Go.Proofs.Ytdgpbdedaafdiaa
