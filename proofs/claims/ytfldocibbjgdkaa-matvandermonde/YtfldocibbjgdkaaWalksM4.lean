/-
  What the reference's Sound and Same do; copy; mat.copied.
-/
import Derived.Test.YtfldocibbjgdkaaWalksM3
import Derived.Laws.BytesString
namespace Go.Proofs.Ytfldocibbjgdkaa
open Go.RowKit

theorem ret_bool {a b : Bool} (h : a = b) : Ending.returned (.bool a) = .returned (.bool b) := by rw [h]

set_option maxRecDepth 100000 in
set_option maxHeartbeats 1000000 in
theorem rsound_loop (b : Bool) (va : Option Addr) (vc : Nat) (m : List (List Nat)) (w : World) (hG : GridAt w va vc m) (h1 : 0 < m.length) (h2 : 0 < (m.getD 0 []).length) (hb : b = true ↔ ∀ i, i < m.length → (m.getD i []).length = (m.getD 0 []).length) :
    Calls Try.prog 10 #[.slice va m.length vc] w fun e w' => e = .returned (.bool b) ∧ Below w.heap.size w w' := by
  obtain ⟨b0, off, ra, rc, e, hcr, _⟩ := hG.at 0 h1
  rw [Nat.add_zero] at hcr
  subst e
  have HG := Lib.hid hG
  have HN := Lib.hid hb
  have hm := Nat.le_trans hG.le hG.max
  unfold maxLen at hm
  have hk2 := Nat.le_trans ‹SeenAt w ra rc _›.le ‹SeenAt w ra rc _›.max
  clear hG hb
  generalize hk : (m.getD 0 []).length = k at *
  have HK := Lib.hid hk
  clear hk
  unfold maxLen at hk2
  have HC0 := Lib.hid hcr
  have t0 : ((m.length : Int) == 0) = false := by simp; intro h; rw [h] at h1; simp at h1
  have t1 : ((k : Int) == 0) = false := by simp; omega
  go_enter Try.func10, Try.ntmps10
  go_wp2
  clear t0 t1 hcr
  go_loopw [3] (fun i ws => ∃ j n : Nat, j ≤ m.length ∧ i = .int .i64 j ∧ ws = w.drewN n ∧ Hid (∀ i, i < j → (m.getD i []).length = k)) (fun i _ => m.length - (intOf i).toNat)
  case atStart => exact ⟨0, 0, Nat.zero_le _, rfl, rfl, fun i hi => by omega⟩
  case round =>
    obtain ⟨j, n, hj, rfl, hws, hN⟩ := hrel
    have hc0 : wr.cell? ⟨b0, off, none⟩ = some (.slice ra k rc) := by rw [hws]; exact HC0.out
    have HW := Lib.hid hws
    by_cases hlt : j < m.length
    · obtain ⟨b', off', ra', rc', e, hcj0, hSj⟩ := HG.out.at j hlt
      cases e
      have hcj : wr.cell? ⟨b0, off + j, none⟩ = some (.slice ra' (m.getD j []).length rc') := by rw [hws]; exact hcj0
      clear hws hcj0
      have hj0 : (0 : Int) ≤ (j : Int) := by omega
      have hj1 : (j : Int) < (m.length : Int) := by omega
      have hj2 : (0 : Int) < (m.length : Int) := by omega
      by_cases he : (m.getD j []).length = k
      · rw [he] at hcj
        have HE := Lib.hid he
        clear he hSj
        have t : ((k : Int) != (k : Int)) = false := by simp
        go_wp2
        go_quiet (fail)
        go_wp2
        go_round
        case rel =>
          refine ⟨j + 1, n + nq, by omega, by go_num, by rw [HW.out, World.drewN_drewN], fun i hi => ?_⟩
          by_cases e : i = j
          · subst e; exact HE.out
          · exact hN.out i (by omega)
        case measure => simp [intOf]; omega
      · have HE := Lib.hid he
        have hx := Nat.le_trans hSj.le hSj.max
        unfold maxLen at hx
        clear hSj
        generalize hll : (m.getD j []).length = l at *
        have HL := Lib.hid hll
        clear hll
        have t : ((l : Int) != (k : Int)) = true := by simp; omega
        clear he
        have HF : Hid (b = false) := by
          show b = false
          cases hbb : b with
          | false => rfl
          | true => exact absurd (HN.out.mp hbb j hlt) (by rw [HL.out]; exact HE.out)
        go_wp2
        go_quiet (fail)
        go_wp2
        go_ret
        refine ⟨ret_bool HF.out.symm, ?_⟩
        rw [HW.out, World.drewN_drewN]
        exact below_drewN _ _
    · obtain rfl : j = m.length := by omega
      have HT : Hid (b = true) := HN.out.mpr hN.out
      clear hws
      go_wp2
      go_ret
      exact ⟨ret_bool HT.out.symm, by rw [HW.out]; exact below_drewN _ _⟩

set_option maxHeartbeats 1000000 in
theorem rsound_none (va : Option Addr) (vc : Nat) (w : World) :
    Calls Try.prog 10 #[.slice va 0 vc] w fun e w' => e = .returned (.bool false) ∧ w = w' := by
  go_enter Try.func10, Try.ntmps10
  go_wp2
  go_ret
  exact ⟨rfl, rfl⟩

set_option maxHeartbeats 1000000 in
theorem rsound_empty (b off l vc rc : Nat) (ra : Option Addr) (w : World) (hl : 0 < l) (hc : w.cell? ⟨b, off, none⟩ = some (.slice ra 0 rc)) :
    Calls Try.prog 10 #[.slice (some ⟨b, off, none⟩) l vc] w fun e w' => e = .returned (.bool false) ∧ w = w' := by
  have t0 : ((l : Int) == 0) = false := by simp; omega
  go_enter Try.func10, Try.ntmps10
  go_wp2
  go_ret
  exact ⟨rfl, rfl⟩

theorem rsound_yes (va : Option Addr) (vc : Nat) (m : List (List Nat)) (w : World) (hG : GridAt w va vc m) (h : Sd m) :
    Calls Try.prog 10 #[.slice va m.length vc] w fun e w' => e = .returned (.bool true) ∧ Below w.heap.size w w' :=
  rsound_loop true va vc m w hG h.1 h.2.1 (by simpa using h.2.2)

theorem rsound_no (va : Option Addr) (vc : Nat) (m : List (List Nat)) (w : World) (hG : GridAt w va vc m) (h : ¬ Sd m) :
    Calls Try.prog 10 #[.slice va m.length vc] w fun e w' => e = .returned (.bool false) ∧ Below w.heap.size w w' := by
  by_cases h1 : 0 < m.length
  · by_cases h2 : 0 < (m.getD 0 []).length
    · exact rsound_loop false va vc m w hG h1 h2 ⟨fun h => by simp at h, fun h3 => absurd ⟨h1, h2, h3⟩ h⟩
    · obtain ⟨b, off, ra, rc, e, hcr, _⟩ := hG.at 0 h1
      rw [Nat.add_zero, show (m.getD 0 []).length = 0 by omega] at hcr
      subst e
      exact (rsound_empty b off m.length vc rc ra w h1 hcr).mono fun e w' ⟨h, h'⟩ => by subst h'; exact ⟨h, Below.refl _ _⟩
  · rw [show m.length = 0 by omega]
    exact (rsound_none va vc w).mono fun e w' ⟨h, h'⟩ => by subst h'; exact ⟨h, Below.refl _ _⟩

/-- The string of these bytes. -/
def strB (ps : List Nat) : ByteArray := (ps.map fun (c : Nat) => (c : Int)).foldl (fun r n => r.push (UInt8.ofNat n.toNat)) ByteArray.empty

theorem str_of {w : World} {a : Option Addr} {cap : Nat} {ps : List Nat} (h : SeenAt w a cap ps) : (convert 27 9 (.slice a ps.length cap)).run Try.prog w = .ok (.string (strB ps)) w := by
  rw [run_convert_bytes_string w 27 9 5 a ps.length cap Try.underlying27 Try.underlying5 Try.underlying9]
  by_cases h0 : ps = []
  · subst h0
    rcases a with _ | ad
    · rfl
    · exact run_bytesToString w ad 0 cap [] rfl
  · have hp : 0 < ps.length := by cases ps with | nil => exact absurd rfl h0 | cons c p => simp
    obtain ⟨b, off, rfl, _⟩ := h.cell 0 hp
    refine run_bytesToString w _ _ cap (ps.map fun (c : Nat) => (c : Int)) ?_
    have := run_loadCells_list (P := Try.prog) (w := w) ⟨b, off, none⟩ (vals ps) (fun j v hv => by
      have hj : j < ps.length := by
        rcases Nat.lt_or_ge j ps.length with hlt | hge
        · exact hlt
        · rw [List.getElem?_eq_none (by rw [vals_len]; exact hge)] at hv; cases hv
      obtain ⟨b', off', e, hc⟩ := h.cell j hj
      cases e
      rw [vals_at ps j hj] at hv
      rw [Go.WideShapes.add_plain, hc]
      exact hv)
    rw [vals_len] at this
    rw [this]
    simp [vals]

set_option maxRecDepth 100000 in
set_option maxHeartbeats 1000000 in
theorem same_any (va vb : Option Addr) (vc vd : Nat) (m : List (List Nat)) (w : World) (hA : GridAt w va vc m) (hB : GridAt w vb vd m) :
    Calls Try.prog 13 #[.slice va m.length vc, .slice vb m.length vd] w fun e w' => e = .returned (.bool true) ∧ Below w.heap.size w w' := by
  have HA := Lib.hid hA
  have HB := Lib.hid hB
  have hm := Nat.le_trans hA.le hA.max
  unfold maxLen at hm
  clear hA hB
  have t0 : ((m.length : Int) != (m.length : Int)) = false := by simp
  go_enter Try.func13, Try.ntmps13
  go_wp2
  clear t0
  go_loopw [5] (fun i ws => ∃ j n : Nat, j ≤ m.length ∧ i = .int .i64 j ∧ ws = w.drewN n) (fun i _ => m.length - (intOf i).toNat)
  case atStart => exact ⟨0, 0, Nat.zero_le _, rfl, rfl⟩
  case round =>
    obtain ⟨j, n, hj, rfl, hws⟩ := hrel
    have HW := Lib.hid hws
    by_cases hlt : j < m.length
    · obtain ⟨b, off, ra, rc, e, hc0, hS0⟩ := HA.out.at j hlt
      subst e
      obtain ⟨b', off', ra', rc', e, hc0', hS0'⟩ := HB.out.at j hlt
      subst e
      have hc : wr.cell? ⟨b, off + j, none⟩ = some (.slice ra (m.getD j []).length rc) := by rw [hws]; exact hc0
      have hc' : wr.cell? ⟨b', off' + j, none⟩ = some (.slice ra' (m.getD j []).length rc') := by rw [hws]; exact hc0'
      have hs : ∀ q, (convert 27 9 (.slice ra (m.getD j []).length rc)).run Try.prog (wr.drewN q) = .ok (.string (strB (m.getD j []))) (wr.drewN q) := by
        intro q; rw [hws, World.drewN_drewN]; exact str_of (hS0.drewN _)
      have hs' : ∀ q, (convert 27 9 (.slice ra' (m.getD j []).length rc')).run Try.prog (wr.drewN q) = .ok (.string (strB (m.getD j []))) (wr.drewN q) := by
        intro q; rw [hws, World.drewN_drewN]; exact str_of (hS0'.drewN _)
      clear hws hc0 hc0' hS0 hS0'
      have hj0 : (0 : Int) ≤ (j : Int) := by omega
      have hj1 : (j : Int) < (m.length : Int) := by omega
      generalize strB (m.getD j []) = st at *
      generalize (m.getD j []).length = l at *
      go_wp2
      go_quiet (fail)
      go_wp2
      go_round
      case rel => exact ⟨j + 1, n + nq, by omega, by go_num, by rw [HW.out, World.drewN_drewN]⟩
      case measure => simp [intOf]; omega
    · obtain rfl : j = m.length := by omega
      clear hws
      go_wp2
      go_ret
      exact ⟨rfl, by rw [HW.out]; exact below_drewN _ _⟩

theorem heap_of_owns {w : World} {base g cap n : Nat} {e : TypeId} {xs : List Value} (h : w.ownsRow base e 1 (.slice (some ⟨g, 0, none⟩) n cap) n xs) :
    ∃ cur : Array Value, w.heap[g]? = some (.cells cur e (0, 0)) ∧ n ≤ cap ∧ cap ≤ maxLen ∧ cur.size = cap ∧ base ≤ g := by
  rcases h.2 with ⟨h', _⟩ | ⟨g', cap', cur, h', hb, hg, hnc, hcm, hcs, _⟩
  · cases h'
  · cases h'; exact ⟨cur, hg, hnc, hcm, by omega, hb⟩

/-- copy(d, s): a whole row of bytes of the call's own, as long as what is copied. -/
theorem wpList_copyB {ops : Array Oper} {rest : List Oper} {o : Oper} {a : Act} {Q : Exit → Act → World → Prop} {w : World} (hgd : o.guard = none) (d s : Operand)
    (ho : o.op = .call { callee := .builtin .copy, args := #[d, s], argTypes := #[27, 27] })
    (base g cap : Nat) (ps qs : List Nat) (n : Nat) (hn : ps.length = n) (hq : qs.length = n) (hd : a.eval d = .slice (some ⟨g, 0, none⟩) n cap) (hown : OwnB w base g cap ps)
    (xa : Option Addr) (xc : Nat) (hx : a.eval s = .slice xa n xc) (hs : SeenAt w xa xc qs)
    (h : ∀ w', OwnB w' base g cap qs → Chg [g] w w' → wpList Try.prog ops Q rest (a.put o.dst (goInt n)) w') :
    wpList Try.prog ops Q (o :: rest) a w := by
  subst hn
  have hinf : (Try.prog.info? 5).map (·.size) = some 1 := by kernel_rfl
  by_cases h0 : qs = []
  · subst h0
    have hp : ps = [] := by simpa using hq.symm
    subst hp
    refine wpList_copy_nothing hgd d s _ _ ho 5 Try.underlying27 hinf _ xa 0 cap 0 xc hd hx rfl ?_
    exact h w hown (Chg.refl _ _)
  · have hp : 0 < qs.length := by cases qs with | nil => exact absurd rfl h0 | cons c p => simp
    obtain ⟨b, off, rfl, _⟩ := hs.cell 0 hp
    obtain ⟨cur, hg, hnc, hcm, hsz, hbg⟩ := heap_of_owns hown.own
    have hl : (vals qs).length = ps.length := by rw [vals_len, hq]
    refine wpList_copy_own hgd d s _ _ ho 5 Try.underlying27 hinf g 0 ps.length cap ⟨b, off, none⟩ ps.length xc hd hx cur 5 hg (vals qs) (by rw [hl]; exact (Nat.min_self _).symm)
      (fun j v hv => ?_) (by omega) (vals_one qs) ?_
    · have hj : j < qs.length := by
        rcases Nat.lt_or_ge j qs.length with hlt | hge
        · exact hlt
        · rw [List.getElem?_eq_none (by rw [vals_len]; exact hge)] at hv; cases hv
      obtain ⟨b', off', e, hc⟩ := hs.cell j hj
      cases e
      rw [vals_at qs j hj] at hv
      rw [Go.WideShapes.add_plain, hc]
      exact hv
    · rw [hl]
      refine h _ ⟨⟨by rw [vals_len]; omega, .inr ⟨g, cap, _, rfl, hbg, setRow_heap w g cur _ _ _ hg, by omega, hcm, ?_, ?_⟩⟩, hs.byte⟩ ⟨rfl, rfl, rfl, by simp [World.setRow], fun k _ hk => setRow_other w g k _ (by simpa using hk)⟩
      · simp [hsz, vals_len]; omega
      · simp [vals_len]

end Go.Proofs.Ytfldocibbjgdkaa
