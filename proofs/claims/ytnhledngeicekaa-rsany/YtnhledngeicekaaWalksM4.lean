/-
  What the reference's Sound and Same do; copy; mat.copied.
-/
import Derived.Test.YtnhledngeicekaaWalksM3
import Derived.Laws.BytesString
namespace Go.Proofs.Ytnhledngeicekaa
open Go.RowKit

theorem ret_bool {a b : Bool} (h : a = b) : Ending.returned (.bool a) = .returned (.bool b) := by rw [h]

/-- The string of these bytes. -/
def strB (ps : List Nat) : ByteArray := (ps.map fun (c : Nat) => (c : Int)).foldl (fun r n => r.push (UInt8.ofNat n.toNat)) ByteArray.empty

theorem str_of {w : World} {a : Option Addr} {cap : Nat} {ps : List Nat} (h : SeenAt w a cap ps) : (convert 28 9 (.slice a ps.length cap)).run Try.prog w = .ok (.string (strB ps)) w := by
  rw [run_convert_bytes_string w 28 9 5 a ps.length cap Try.underlying28 Try.underlying5 Try.underlying9]
  by_cases h0 : ps = []
  · subst h0
    rcases a with _ | ad
    · rfl
    · exact run_bytesToString w ad 0 cap [] rfl
  · have hp : 0 < ps.length := by cases ps with | nil => exact absurd rfl h0 | cons c p => simp
    obtain ⟨b, off, rfl, _⟩ := h.cell 0 hp
    refine run_bytesToString w _ _ cap (ps.map fun (c : Nat) => (c : Int)) ?_
    have := run_loadCells_list (P := Try.prog) (w := w) ⟨b, off, none⟩ (vals ps) (fun j v hv => by
      have hj : j < ps.length := by
        rcases Nat.lt_or_ge j ps.length with hlt | hge
        · exact hlt
        · rw [List.getElem?_eq_none (by rw [vals_len]; exact hge)] at hv; cases hv
      obtain ⟨b', off', e, hc⟩ := h.cell j hj
      cases e
      rw [vals_at ps j hj] at hv
      rw [Go.WideShapes.add_plain, hc]
      exact hv)
    rw [vals_len] at this
    rw [this]
    simp [vals]

set_option maxRecDepth 100000 in
set_option maxHeartbeats 1000000 in
theorem same_any (va vb : Option Addr) (vc vd : Nat) (m : List (List Nat)) (w : World) (hA : GridAt w va vc m) (hB : GridAt w vb vd m) :
    Calls Try.prog 19 #[.slice va m.length vc, .slice vb m.length vd] w fun e w' => e = .returned (.bool true) ∧ Below w.heap.size w w' := by
  have HA := Lib.hid hA
  have HB := Lib.hid hB
  have hm := Nat.le_trans hA.le hA.max
  unfold maxLen at hm
  clear hA hB
  have t0 : ((m.length : Int) != (m.length : Int)) = false := by simp
  go_enter Try.func19, Try.ntmps19
  go_wp2
  clear t0
  go_loopw [5] (fun i ws => ∃ j n : Nat, j ≤ m.length ∧ i = .int .i64 j ∧ ws = w.drewN n) (fun i _ => m.length - (intOf i).toNat)
  case atStart => exact ⟨0, 0, Nat.zero_le _, rfl, rfl⟩
  case round =>
    obtain ⟨j, n, hj, rfl, hws⟩ := hrel
    have HW := Lib.hid hws
    by_cases hlt : j < m.length
    · obtain ⟨b, off, ra, rc, e, hc0, hS0⟩ := HA.out.at j hlt
      subst e
      obtain ⟨b', off', ra', rc', e, hc0', hS0'⟩ := HB.out.at j hlt
      subst e
      have hc : wr.cell? ⟨b, off + j, none⟩ = some (.slice ra (m.getD j []).length rc) := by rw [hws]; exact hc0
      have hc' : wr.cell? ⟨b', off' + j, none⟩ = some (.slice ra' (m.getD j []).length rc') := by rw [hws]; exact hc0'
      have hs : ∀ q, (convert 28 9 (.slice ra (m.getD j []).length rc)).run Try.prog (wr.drewN q) = .ok (.string (strB (m.getD j []))) (wr.drewN q) := by
        intro q; rw [hws, World.drewN_drewN]; exact str_of (hS0.drewN _)
      have hs' : ∀ q, (convert 28 9 (.slice ra' (m.getD j []).length rc')).run Try.prog (wr.drewN q) = .ok (.string (strB (m.getD j []))) (wr.drewN q) := by
        intro q; rw [hws, World.drewN_drewN]; exact str_of (hS0'.drewN _)
      clear hws hc0 hc0' hS0 hS0'
      have hj0 : (0 : Int) ≤ (j : Int) := by omega
      have hj1 : (j : Int) < (m.length : Int) := by omega
      generalize strB (m.getD j []) = st at *
      generalize (m.getD j []).length = l at *
      go_wp2
      go_quiet (fail)
      go_wp2
      go_round
      case rel => exact ⟨j + 1, n + nq, by omega, by go_num, by rw [HW.out, World.drewN_drewN]⟩
      case measure => simp [intOf]; omega
    · obtain rfl : j = m.length := by omega
      clear hws
      go_wp2
      go_ret
      exact ⟨rfl, by rw [HW.out]; exact below_drewN _ _⟩

theorem heap_of_owns {w : World} {base g cap n : Nat} {e : TypeId} {xs : List Value} (h : w.ownsRow base e 1 (.slice (some ⟨g, 0, none⟩) n cap) n xs) :
    ∃ cur : Array Value, w.heap[g]? = some (.cells cur e (0, 0)) ∧ n ≤ cap ∧ cap ≤ maxLen ∧ cur.size = cap ∧ base ≤ g := by
  rcases h.2 with ⟨h', _⟩ | ⟨g', cap', cur, h', hb, hg, hnc, hcm, hcs, _⟩
  · cases h'
  · cases h'; exact ⟨cur, hg, hnc, hcm, by omega, hb⟩

/-- copy(d, s): a whole row of bytes of the call's own, as long as what is copied. -/
theorem wpList_copyB {ops : Array Oper} {rest : List Oper} {o : Oper} {a : Act} {Q : Exit → Act → World → Prop} {w : World} (hgd : o.guard = none) (d s : Operand)
    (ho : o.op = .call { callee := .builtin .copy, args := #[d, s], argTypes := #[28, 28] })
    (base g cap : Nat) (ps qs : List Nat) (n : Nat) (hn : ps.length = n) (hq : qs.length = n) (hd : a.eval d = .slice (some ⟨g, 0, none⟩) n cap) (hown : OwnB w base g cap ps)
    (xa : Option Addr) (xc : Nat) (hx : a.eval s = .slice xa n xc) (hs : SeenAt w xa xc qs)
    (h : ∀ w', OwnB w' base g cap qs → Chg [g] w w' → wpList Try.prog ops Q rest (a.put o.dst (goInt n)) w') :
    wpList Try.prog ops Q (o :: rest) a w := by
  subst hn
  have hinf : (Try.prog.info? 5).map (·.size) = some 1 := by kernel_rfl
  by_cases h0 : qs = []
  · subst h0
    have hp : ps = [] := by simpa using hq.symm
    subst hp
    refine wpList_copy_nothing hgd d s _ _ ho 5 Try.underlying28 hinf _ xa 0 cap 0 xc hd hx rfl ?_
    exact h w hown (Chg.refl _ _)
  · have hp : 0 < qs.length := by cases qs with | nil => exact absurd rfl h0 | cons c p => simp
    obtain ⟨b, off, rfl, _⟩ := hs.cell 0 hp
    obtain ⟨cur, hg, hnc, hcm, hsz, hbg⟩ := heap_of_owns hown.own
    have hl : (vals qs).length = ps.length := by rw [vals_len, hq]
    refine wpList_copy_own hgd d s _ _ ho 5 Try.underlying28 hinf g 0 ps.length cap ⟨b, off, none⟩ ps.length xc hd hx cur 5 hg (vals qs) (by rw [hl]; exact (Nat.min_self _).symm)
      (fun j v hv => ?_) (by omega) (vals_one qs) ?_
    · have hj : j < qs.length := by
        rcases Nat.lt_or_ge j qs.length with hlt | hge
        · exact hlt
        · rw [List.getElem?_eq_none (by rw [vals_len]; exact hge)] at hv; cases hv
      obtain ⟨b', off', e, hc⟩ := hs.cell j hj
      cases e
      rw [vals_at qs j hj] at hv
      rw [Go.WideShapes.add_plain, hc]
      exact hv
    · rw [hl]
      refine h _ ⟨⟨by rw [vals_len]; omega, .inr ⟨g, cap, _, rfl, hbg, setRow_heap w g cur _ _ _ hg, by omega, hcm, ?_, ?_⟩⟩, hs.byte⟩ ⟨rfl, rfl, rfl, by simp [World.setRow], fun k _ hk => setRow_other w g k _ (by simpa using hk)⟩
      · simp [hsz, vals_len]; omega
      · simp [vals_len]

end Go.Proofs.Ytnhledngeicekaa
