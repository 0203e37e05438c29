/-
  append of numbers that lie anywhere; slices.Grow and slices.Concat of numbers.
-/
import Derived.Test.YtdifnipjmnbojaaWalksK4
import Derived.Lib.AppendZerosOnto
import Derived.Lib.AppendZeros
namespace Go.Proofs.Ytdifnipjmnbojaa
open Go.RowKit Go.Maps Go.Sort

theorem ivals_app (xs ys : List Int) : ivals (xs ++ ys) = ivals xs ++ ivals ys := by simp [ivals]

/-- append(s, x...): numbers, s of the call's own or nil, x whatever. -/
theorem wpList_appZ {ops : Array Oper} {rest : List Oper} {o : Oper} {a : Act} {Q : Exit → Act → World → Prop} {w : World} (hgd : o.guard = none) (s x : Operand)
    (ho : o.op = .call { callee := .builtin .append, args := #[s, x], argTypes := #[48, 48] })
    (base : Nat) (v : Option Addr) (vc n : Nat) (zs : List Int) (hn : zs.length = n) (hs : a.eval s = .slice v n vc) (hown : w.ownsRow base 3 1 (.slice v n vc) n (ivals zs))
    (xa : Option Addr) (m xc : Nat) (qs : List Int) (hm : qs.length = m) (hx : a.eval x = .slice xa m xc) (hq : IntsAt w xa xc qs) (hb : n + m ≤ 1000000000) (hbase : base ≤ w.heap.size)
    (h : ∀ a' c' w', w'.ownsRow base 3 1 (.slice a' (n + m) c') (n + m) (ivals (zs ++ qs)) → w.grownBy w' (Value.ownBlock (.slice v n vc)) → wpList Try.prog ops Q rest (a.put o.dst (.slice a' (n + m) c')) w') :
    wpList Try.prog ops Q (o :: rest) a w := by
  obtain ⟨i, hi, hz, hsz, hby⟩ := info_parts infoI
  by_cases h0 : qs = []
  · subst h0
    obtain rfl : m = 0 := by simpa using hm.symm
    have hfin := h v vc w (by rw [List.append_nil]; exact hown) ⟨rfl, rfl, rfl, Nat.le_refl _, fun i _ _ => rfl⟩
    have hle : n ≤ vc := by
      rcases hown.2 with ⟨e, e0⟩ | ⟨g, cap', cur, e, _, _, h1, _⟩
      · cases e; exact Nat.le_refl _
      · cases e; exact h1
    have hrun : (Builtin.append_ #[48, 48] o.type #[.slice v n vc, .slice xa 0 xc]).run Try.prog w = .ok (.slice v n vc) w := by
      have hni : v = none → n = 0 ∧ vc = 0 := by
        rintro rfl
        rcases hown.2 with ⟨e, e0⟩ | ⟨g, cap', cur, e, _⟩
        · cases e; exact ⟨rfl, rfl⟩
        · cases e
      rcases v with _ | g
      · obtain ⟨rfl, rfl⟩ := hni rfl
        rcases xa with _ | ad
        · simp [Builtin.append_, run_underlying Try.underlying48, sizeOf, typeInfo, hi, Builtin.lenOf, Builtin.firstCells]
        · simp [Builtin.append_, run_underlying Try.underlying48, sizeOf, typeInfo, hi, Builtin.lenOf, Builtin.firstCells, loadCells, loadCellsFrom]
      · rcases xa with _ | ad
        · simp [Builtin.append_, run_underlying Try.underlying48, sizeOf, typeInfo, hi, Builtin.lenOf, Builtin.firstCells, hle, storeCells]
        · simp [Builtin.append_, run_underlying Try.underlying48, sizeOf, typeInfo, hi, Builtin.lenOf, Builtin.firstCells, hle, storeCells, loadCells, loadCellsFrom]
    refine wpList_plain hgd fun K hK => ?_
    unfold Oper.wp
    simp [execOp, ho, resolve, invoke, builtin, hs, hx, hrun, Result.andThen]
    exact hK _ _ hfin
  · have hpos : 0 < qs.length := by cases qs with | nil => exact absurd rfl h0 | cons c q => simp
    obtain ⟨b, off, rfl, _⟩ := hq.cell 0 hpos
    subst hn
    refine wpList_append_lies w hgd s x 48 ho base 3 i _ 1 8 Try.underlying48 hi hz hsz hby rfl (by omega) _ _ _ hs hown ⟨b, off, none⟩ m xc (ivals qs) hx (by rw [ivals_len, hm]; omega)
      (fun j u hj => ?_) (by intro u hu; obtain ⟨z, _, rfl⟩ := List.mem_map.mp hu; rfl) (by omega) (by unfold maxLen; omega) (by omega) hbase w.heap.size rfl ?_
    · have hl : j < qs.length := by
        rcases Nat.lt_or_ge j qs.length with hlt | hge
        · exact hlt
        · rw [List.getElem?_eq_none (by rw [ivals_len]; exact hge)] at hj; cases hj
      obtain ⟨b', off', e, hc⟩ := hq.cell j hl
      cases e
      rw [Go.WideShapes.add_plain, hc, ← hj]
      simp [ivals, List.getElem?_eq_getElem hl]
    · intro g' cap' w' hown' hg _ _
      refine h (some ⟨g', 0, none⟩) cap' w' ?_ hg
      rw [ivals_app]
      exact hown'

theorem zerosI_len (k : Nat) : (Builtin.zeroCells #[Value.int .i64 0] k).size = k := by simp [Builtin.zeroCells]

/-- Numbers to be, in new memory: a slice of none of them. -/
def RetG1 (w : World) (e : Ending) (w' : World) : Prop :=
  ∃ a cap, e = .returned (.slice a 0 cap) ∧ w'.ownsRow w.heap.size 3 1 (.slice a 0 cap) 0 [] ∧ Below w.heap.size w w'

set_option maxRecDepth 100000 in
set_option maxHeartbeats 1000000 in
theorem growI_none (n : Nat) (w : World) (h1 : n ≤ 1000000000) :
    Calls Try.prog 39 #[.slice none 0 0, .int .i64 (n : Int)] w (RetG1 w) := by
  rcases Nat.eq_zero_or_pos n with rfl | h0
  · go_enter Try.func39, Try.ntmps39
    go_wp2
    go_ret
    exact ⟨none, 0, rfl, World.ownsRow_nil _ _ _ _, Below.refl _ _⟩
  obtain ⟨i, hi, hz, hsz, hby⟩ := info_parts infoI
  have hold : (Builtin.firstCells i.size 0 (.slice none 0 0)).run Try.prog w.drew = .ok ([] : List Value).toArray w.drew := run_firstCells_none w.drew i.size 0 0 0
  have hrz := fun ty => Lib.run_append_grow_zeros w 48 3 ty 3 i (.int .i64 0) .i64 .i64 Try.underlying48 Try.underlying3 hi hz none 0 0 [] hold n h0 (by omega) (by omega) (by omega) (by rw [hby]; omega)
    (by rw [hby]; exact growslice_fits (by omega) (by omega))
  rw [Nat.zero_add] at hrz
  have hGn : n ≤ grownCap w n 0 3 := grownCap_ge w _ _ _
  have hGm : grownCap w n 0 3 ≤ maxLen := grownCap_le_maxLen w n 0 3 (by unfold maxLen; omega)
  have hR : RetG1 w (.returned (.slice (some ⟨w.heap.size, 0, none⟩) 0 (grownCap w n 0 3))) (w.alloc (.cells (Builtin.zeroCells #[.int .i64 0] n ++ Builtin.zeroCells #[.int .i64 0] (grownCap w n 0 3 - n)) 3)).drew :=
    ⟨_, _, rfl, (Chg.refl [] _).drew.owns (World.ownsRow_made w _ _ (Nat.le_refl _) hGm (by rw [Array.size_append, zerosI_len, zerosI_len]; omega)) (by simp), (below_one w _).drew⟩
  generalize grownCap w n 0 3 = G at *
  have HR := Lib.hid hR
  have HZ := Lib.hid hrz
  unfold maxLen at hGm
  clear hR hrz hold hi hz hsz hby
  go_enter Try.func39, Try.ntmps39
  go_wp2_with (at_builtin; refine Lib.wpList_append_run _ rfl _ _ _ _ rfl _ _ rfl rfl _ _ (HZ.out _) ?_)
  go_ret
  exact HR.out

/-- Numbers in a slice of the call's own. -/
def RetZ (w : World) (zs : List Int) (e : Ending) (w' : World) : Prop :=
  ∃ a cap, e = .returned (.slice a zs.length cap) ∧ w'.ownsRow w.heap.size 3 1 (.slice a zs.length cap) zs.length (ivals zs) ∧ Below w.heap.size w w'

set_option maxRecDepth 100000 in
set_option maxHeartbeats 1000000 in
theorem concat2_any (B off cap : Nat) (a0 a1 : Option Addr) (n0 n1 c0 c1 : Nat) (zs qs : List Int) (w : World) (hz : zs.length = n0) (hq : qs.length = n1) (h0 : IntsAt w a0 c0 zs) (h1 : IntsAt w a1 c1 qs)
    (k0 : w.cell? ⟨B, off, none⟩ = some (.slice a0 n0 c0)) (k1 : w.cell? ⟨B, off + 1, none⟩ = some (.slice a1 n1 c1)) (m0 : n0 ≤ 1000000) (m1 : n1 ≤ 1000000) :
    Calls Try.prog 27 #[.slice (some ⟨B, off, none⟩) 2 cap] w (RetZ w (zs ++ qs)) := by
  have HZ := Lib.hid hz
  have HQ := Lib.hid hq
  have H0 := Lib.hid h0
  have H1 := Lib.hid h1
  have K0 := Lib.hid k0
  have K1 := Lib.hid k1
  have HLE : Hid ((zs ++ qs).length = n0 + n1) := by show _ = _; rw [List.length_append, hz, hq]
  clear hz hq h0 h1
  go_enter Try.func27, Try.ntmps27
  go_wp2
  go_loop [3, 5, 11] (fun v _ i => ∃ k : Nat, i = .int .i64 k ∧ (k = 0 ∧ v = .int .i64 0 ∨ k = 1 ∧ v = .int .i64 (n0 : Int) ∨ k = 2 ∧ v = .int .i64 ((n0 + n1 : Nat) : Int))) (fun _ _ i => 2 - (intOf i).toNat)
  case atStart => exact ⟨0, rfl, .inl ⟨rfl, rfl⟩⟩
  case round =>
    obtain ⟨k, rfl, ⟨rfl, rfl⟩ | ⟨rfl, rfl⟩ | ⟨rfl, rfl⟩⟩ := hrel
    · have d : decide ((0 : Int) + (n0 : Int) < 0) = false := by simp
      go_wp2
      go_round
      case rel => exact ⟨1, by go_num, .inr (.inl ⟨rfl, rfl⟩)⟩
      case measure => simp [intOf]
    · have d : decide ((n0 : Int) + (n1 : Int) < 0) = false := by simp; omega
      go_wp2
      go_round
      case rel => exact ⟨2, by go_num, .inr (.inr ⟨rfl, by first | rfl | go_num⟩)⟩
      case measure => simp [intOf]
    · clear k0 k1
      go_wp2_with fail
      refine (growI_none (n0 + n1) _ (by omega)).mono ?_
      rintro e w1 ⟨g0, gc, rfl, own0, hb0⟩
      have HO : Hid (w1.ownsRow w.heap.size 3 1 (.slice g0 0 gc) 0 (ivals [])) := own0
      have HB := Lib.hid hb0
      clear own0 hb0
      go_wp2
      go_loopw [6, 8, 27] (fun v _ i ws => ∃ (k n c : Nat) (a : Option Addr) (xs : List Int), i = .int .i64 k ∧ v = .slice a n c ∧ (k = 0 ∧ n = 0 ∧ xs = [] ∨ k = 1 ∧ n = n0 ∧ xs = zs ∨ k = 2 ∧ n = n0 + n1 ∧ xs = zs ++ qs) ∧ Hid (ws.ownsRow w.heap.size 3 1 (.slice a n c) n (ivals xs)) ∧ Hid (Below w.heap.size w ws)) (fun _ _ i _ => 2 - (intOf i).toNat)
      case atStart => exact ⟨0, 0, gc, g0, [], rfl, rfl, .inl ⟨rfl, rfl, rfl⟩, HO, HB⟩
      case round =>
        obtain ⟨k, n, c, a, xs, rfl, rfl, hk, hO, hB⟩ := hrel
        have k0 := cell_later hB.out K0.out
        have k1 := cell_later hB.out K1.out
        have HH0 := Lib.hid (H0.out.below hB.out)
        have HH1 := Lib.hid (H1.out.below hB.out)
        have hsz := hB.out.size
        rcases hk with ⟨rfl, rfl, rfl⟩ | ⟨rfl, rfl, rfl⟩ | ⟨rfl, rfl, rfl⟩
        · go_wp2_with (at_builtin; refine wpList_appZ rfl (.tmp 31) (.tmp 32) rfl w.heap.size a c 0 [] rfl rfl hO.out a0 n0 c0 zs HZ.out rfl HH0.out (by omega) hsz ?_; intro a3 c3 w3 own3 hg3)
          rw [Nat.zero_add] at own3
          have HO3 : Hid (w3.ownsRow w.heap.size 3 1 (.slice a3 n0 c3) n0 (ivals zs)) := own3
          have HB3 := Lib.hid (hB.out.grown hg3 hB.out.size (fun j hj => (World.ownsRow.lt hO.out j hj).1))
          clear own3 hg3
          go_roundw
          case rel => exact ⟨1, n0, c3, a3, zs, rfl, rfl, .inr (.inl ⟨rfl, rfl, rfl⟩), HO3, HB3⟩
          case measure => simp [intOf]
        · go_wp2_with (at_builtin; refine wpList_appZ rfl (.tmp 31) (.tmp 32) rfl w.heap.size a c n xs HZ.out rfl hO.out a1 n1 c1 qs HQ.out rfl HH1.out (by omega) hsz ?_; intro a3 c3 w3 own3 hg3)
          have HO3 := Lib.hid own3
          have HB3 := Lib.hid (hB.out.grown hg3 hB.out.size (fun j hj => (World.ownsRow.lt hO.out j hj).1))
          clear own3 hg3
          go_roundw
          case rel => exact ⟨2, n + n1, c3, a3, xs ++ qs, by go_num, rfl, .inr (.inr ⟨rfl, rfl, rfl⟩), HO3, HB3⟩
          case measure => simp [intOf]
        · have HR : Hid (RetZ w (zs ++ qs) (.returned (.slice a (n0 + n1) c)) wr) := ⟨a, c, by rw [HLE.out], by rw [HLE.out]; exact hO.out, hB.out⟩
          go_wp2
          go_ret
          exact HR.out

end Go.Proofs.Ytdifnipjmnbojaa
