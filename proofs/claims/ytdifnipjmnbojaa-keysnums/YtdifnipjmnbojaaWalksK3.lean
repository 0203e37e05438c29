/-
  keys.content: the values of a map, each once, in some order.
-/
import Derived.Test.YtdifnipjmnbojaaWalksK2
import Derived.Sort.OwnSorted
namespace Go.Proofs.Ytdifnipjmnbojaa
open Go.RowKit Go.Maps Go.Sort

/-- What has been met of a map while it is ranged over: ks; what is left. -/
structure Coll {α : Type} (mk : α → Lit) (M : α → Option Nat) (left : Lit → Bool) (ks : List α) : Prop where
  nd : ks.Nodup
  all : ∀ x, (M x).isSome = true ↔ x ∈ ks ∨ left (mk x) = true
  no : ∀ x, x ∈ ks → left (mk x) = false

theorem Coll.step {α : Type} {mk : α → Lit} {M : α → Option Nat} {left : Lit → Bool} {ks : List α} (hi : ∀ x y, mk x = mk y → x = y) (hk : ∀ x, WideAt.IsKeyLit (mk x)) (h : Coll mk M left ks) {x0 : α} (hl : left (mk x0) = true) :
    Coll mk M (fun z => left z && !z.sameKey (mk x0)) (ks ++ [x0]) := by
  have same : ∀ x, (mk x).sameKey (mk x0) = true ↔ x = x0 := fun x => ⟨fun e => hi _ _ (WideAt.sameKey_eq e), fun e => by rw [e]; exact WideAt.sameKey_self (hk x0)⟩
  have h0 : x0 ∉ ks := fun e => by rw [h.no x0 e] at hl; cases hl
  refine ⟨?_, fun x => ?_, fun x hx => ?_⟩
  · rw [List.nodup_append]
    refine ⟨h.nd, by simp, fun a ha b hb e => ?_⟩
    rw [List.mem_singleton.mp hb] at e
    rw [e] at ha
    exact h0 ha
  · rw [h.all x, List.mem_append, List.mem_singleton]
    by_cases e : x = x0
    · subst e; simp [hl]
    · have : (mk x).sameKey (mk x0) = false := by
        cases e' : (mk x).sameKey (mk x0)
        · rfl
        · exact absurd ((same x).1 e') e
      simp [e, this]
  · show (left (mk x) && !(mk x).sameKey (mk x0)) = false
    rcases List.mem_append.mp hx with hx | hx
    · rw [h.no x hx]; rfl
    · rw [List.mem_singleton.mp hx, (same x0).2 rfl]; simp

theorem Coll.fin {α : Type} {mk : α → Lit} {M : α → Option Nat} {left : Lit → Bool} {ks : List α} (h : Coll mk M left ks) (hl : ∀ kl, left kl = false) : ValsOf M (ks.map fun x => (M x).getD 0) :=
  ⟨ks, h.nd, fun x => by rw [h.all x]; simp [hl], rfl⟩

theorem pvals_app (vs : List Nat) (i : Nat) : pvals (vs ++ [i]) = pvals vs ++ [(i : Int)] := by simp [pvals]
theorem pvals_len (vs : List Nat) : (pvals vs).length = vs.length := by simp [pvals]

theorem atKey_place {α : Type} {mk : α → Lit} {M : α → Option Nat} {D : DataW Unit} {x0 : α} {c : Int} (hM : ∀ x, Maps.has D (mk x) = (M x).isSome ∧ ∀ i, M x = some i → ∀ zd, D.atKey (mk x) zd = .lit (.int .i64 (i : Int)))
    (hs : (M x0).isSome = true) (hat : ∀ zd, D.atKey (mk x0) zd = .lit (.int .i64 c)) : c = (((M x0).getD 0 : Nat) : Int) := by
  obtain ⟨i, hi⟩ := Option.isSome_iff_exists.1 hs
  have h1 := (hM x0).2 i hi (.lit (.int .i64 0))
  rw [hat] at h1
  rw [hi]
  simpa using h1

/-- Numbers of places, in a slice of the call's own. -/
def RetP {α : Type} (w : World) (M : α → Option Nat) (m : Nat) (e : Ending) (w' : World) : Prop :=
  ∃ (a : Option Addr) (c : Nat) (vs : List Nat), e = .returned (.slice a vs.length c) ∧ vs.length ≤ m ∧ ValsOf M vs ∧ w'.ownsRow w.heap.size 3 1 (.slice a vs.length c) vs.length (ivals (pvals vs)) ∧ Below w.heap.size w w'

theorem buildI1 (w : World) (z : Int) (B : Nat) (hB : w.heap.size = B) : (w.alloc (.cells #[.int .i64 z] 3)).cell? ⟨B, 0, none⟩ = some (.int .i64 z) := by
  subst hB
  rw [World.cell?_alloc_mark]
  rfl




set_option maxRecDepth 100000 in
set_option maxHeartbeats 1000000 in
theorem contentS_any (b n : Nat) (M : List UInt8 → Option Nat) (w : World) (h : MapP w 9 mkS b n M) (h9 : n ≤ 1000000) :
    Calls Try.prog 23 #[.map (some b)] w (RetP w M n) := by
  have hb := h.lt
  obtain ⟨D, hD, hM⟩ := h
  have HM := Lib.hid hM
  have HD := Lib.hid hD
  have hsz := hD.size_le
  clear hD hM
  go_enter Try.func23, Try.ntmps23
  go_wp2_with (at_range; refine wpList_range_own _ rfl _ 50 rfl 9 3 string_kd Try.underlying50 _ b n D rfl HD.out ?_; intro w0 hrg0 hg0 hs0)
  go_frame
  have HR0 := Lib.hid hrg0
  have HC0 : Hid (Coll mkS M (Maps.has D) []) := ⟨by simp, fun x => by rw [← (HM.out x).1]; simp, by simp⟩
  have HB0 : Hid (Below w.heap.size w w0) := (Below.refl _ w).grown hg0 (Nat.le_refl _) (fun j hj => by cases hj)
  clear hrg0 hg0 hs0
  go_loopw [3] (fun v ws => ∃ (k c cnt : Nat) (a : Option Addr) (ks : List _) (left : Lit → Bool), v = .slice a k c ∧ k + cnt ≤ Maps.size D ∧ Hid (ks.length = k) ∧ Hid (Coll mkS M left ks) ∧ Hid (ws.ranges Try.prog 9 (plainElem Try.prog 3) b w.heap.size n D left cnt) ∧
      Hid (ws.ownsRow w.heap.size 3 1 (.slice a k c) k (ivals (pvals (ks.map fun x => (M x).getD 0)))) ∧ Hid (Below w.heap.size w ws)) (fun _ ws => ws.rangeLeft b w.heap.size)
  case atStart => exact ⟨0, 0, Maps.size D, none, [], Maps.has D, rfl, by omega, rfl, HC0, HR0, World.ownsRow_nil _ _ _ _, HB0⟩
  case round =>
    obtain ⟨k, c, cnt, a, ks, left, rfl, hkc, HL, HC, HR, HO, HB⟩ := hrel
    go_wp2_with (at_next; refine wpList_next_ranges _ rfl _ rfl 9 string_kd (plainElem Try.prog 3) encStr (Value.int .i64) (fun key kl hk => by obtain ⟨x, hx, _⟩ := Maps.keyOf_str Try.underlying9 hk; exact ⟨x, hx⟩) (fun v y hv => by obtain ⟨c, rfl, _⟩ := plainElem_int_inv Try.underlying3 hv; exact ⟨c, rfl⟩) b w.heap.size n D left cnt rfl HR.out ?_ ?_)
    · skip
      intro hc0 hl0
      have HF : Hid (RetP w M n (.returned (.slice a k c)) wr) := by
        have e : (ks.map fun x => (M x).getD 0).length = k := by rw [List.length_map]; exact HL.out
        exact ⟨a, c, ks.map fun x => (M x).getD 0, by rw [e], by rw [e]; omega, HC.out.fin hl0, by rw [e]; exact HO.out, HB.out⟩
      go_wp2
      go_ret
      exact HF.out
    · intro x c1 kl yd yp w1 cnt1 hkey hlk hv hat hrg1 hlt hg1 hs1 hen
      obtain ⟨x', ex, rfl, _⟩ := Maps.keyOf_str Try.underlying9 hkey
      obtain rfl : x = x' := encStr_inj ex
      obtain ⟨c2, e2, e3, _⟩ := plainElem_int_inv Try.underlying3 hv
      obtain rfl : c1 = c2 := by simpa using e2
      have hat : ∀ zd, D.atKey (mkS x) zd = .lit (.int .i64 c1) := fun zd => (hat zd).trans (congrArg Prod.fst e3)
      clear e2 e3 hv ex
      have HS : Hid ((M x).isSome = true) := (HC.out.all x).2 (.inr hlk)
      have hcx := atKey_place HM.out HS.out hat
      have HC1 := Lib.hid (HC.out.step mkS_inj mkS_key hlk)
      have hnb : ∀ g, Value.ownBlock (.slice a k c) = some g → g ≠ w.heap.size ∧ w.heap.size ≤ g ∧ g ≠ b := fun g hg => by
        have h1 := World.ownsRow.lt HO.out g hg
        have h2 := row_ne_iter HO.out HR.out
        rw [hg] at h2
        exact ⟨fun e => h2 (by rw [e]), h1.1, by omega⟩
      have HNB := Lib.hid hnb
      have HR1 := Lib.hid hrg1
      have HO1 := Lib.hid (HO.out.kept hg1 (by
        cases hv : Value.ownBlock (.slice a k c) with
        | none => exact .inl rfl
        | some g => exact .inr (fun e => (HNB.out g hv).1 (by simpa using e))))
      have HB1 := Lib.hid (HB.out.grown hg1 HB.out.size (fun j hj => by cases hj; exact Nat.le_refl _))
      have HLT := Lib.hid hlt
      have hbs := HB1.out.size
      have HO2 := Lib.hid (HO1.out.alloc (.cells #[.int .i64 c1] 3))
      have HI2 := Lib.hid (buildI1 w1 c1 w1.heap.size rfl)
      have HCX := Lib.hid hcx
      clear hlk hat hrg1 hg1 hlt hnb hcx hs1 hkey
      have hlen : (pvals (ks.map fun x => (M x).getD 0)).length = k := by rw [pvals_len, List.length_map]; exact HL.out
      have HLN := Lib.hid hlen
      clear hlen
      go_wp2_with (at_builtin; refine wpList_appI1 rfl (.tmp 12) (.tmp 14) rfl w.heap.size _ _ k HLN.out rfl HO2.out c1 w1.heap.size 1 rfl HI2.out (by omega) (by rw [World.size_alloc]; omega) ?_; intro g3 c3 w3 ho3 hg3)
      have HO3 : Hid (w3.ownsRow w.heap.size 3 1 (.slice (some ⟨g3, 0, none⟩) (k + 1) c3) (k + 1) (ivals (pvals ((ks ++ [x]).map fun x => (M x).getD 0)))) := by
        have e : pvals ((ks ++ [x]).map fun x => (M x).getD 0) = pvals (ks.map fun x => (M x).getD 0) ++ [c1] := by
          rw [List.map_append, List.map_cons, List.map_nil, pvals_app, ← HCX.out]
        rw [e]
        exact ho3
      have HR3 := Lib.hid ((HR1.out.alloc (.cells #[.int .i64 c1] 3)).kept hg3 (fun e => by have := (HNB.out b e.symm).2.2; omega) (fun e => (HNB.out _ e.symm).1 rfl))
      have HB3 := Lib.hid ((HB1.out.alloc HB1.out.size (.cells #[.int .i64 c1] 3)).grown hg3 (by have := HB1.out.size; simp; omega) (fun j hj => (HNB.out j hj).2.1))
      have HL3 : Hid ((ks ++ [x]).length = k + 1) := by show _ = _; rw [List.length_append, HL.out]; rfl
      clear ho3 hg3
      go_roundw
      case rel => exact ⟨k + 1, c3, cnt1, some ⟨g3, 0, none⟩, ks ++ [x], _, rfl, by have := HLT.out; omega, HL3, HC1, HR3, HO3, HB3⟩
      case measure => rw [HR3.out.left_eq, HR.out.left_eq]; exact HLT.out

set_option maxRecDepth 100000 in
set_option maxHeartbeats 1000000 in
theorem contentI_any (b n : Nat) (M : Int → Option Nat) (w : World) (h : MapP w 3 mkI b n M) (h9 : n ≤ 1000000) :
    Calls Try.prog 28 #[.map (some b)] w (RetP w M n) := by
  have hb := h.lt
  obtain ⟨D, hD, hM⟩ := h
  have HM := Lib.hid hM
  have HD := Lib.hid hD
  have hsz := hD.size_le
  clear hD hM
  go_enter Try.func28, Try.ntmps28
  go_wp2_with (at_range; refine wpList_range_own _ rfl _ 56 rfl 3 3 int_kd Try.underlying56 _ b n D rfl HD.out ?_; intro w0 hrg0 hg0 hs0)
  go_frame
  have HR0 := Lib.hid hrg0
  have HC0 : Hid (Coll mkI M (Maps.has D) []) := ⟨by simp, fun x => by rw [← (HM.out x).1]; simp, by simp⟩
  have HB0 : Hid (Below w.heap.size w w0) := (Below.refl _ w).grown hg0 (Nat.le_refl _) (fun j hj => by cases hj)
  clear hrg0 hg0 hs0
  go_loopw [3] (fun v ws => ∃ (k c cnt : Nat) (a : Option Addr) (ks : List _) (left : Lit → Bool), v = .slice a k c ∧ k + cnt ≤ Maps.size D ∧ Hid (ks.length = k) ∧ Hid (Coll mkI M left ks) ∧ Hid (ws.ranges Try.prog 3 (plainElem Try.prog 3) b w.heap.size n D left cnt) ∧
      Hid (ws.ownsRow w.heap.size 3 1 (.slice a k c) k (ivals (pvals (ks.map fun x => (M x).getD 0)))) ∧ Hid (Below w.heap.size w ws)) (fun _ ws => ws.rangeLeft b w.heap.size)
  case atStart => exact ⟨0, 0, Maps.size D, none, [], Maps.has D, rfl, by omega, rfl, HC0, HR0, World.ownsRow_nil _ _ _ _, HB0⟩
  case round =>
    obtain ⟨k, c, cnt, a, ks, left, rfl, hkc, HL, HC, HR, HO, HB⟩ := hrel
    go_wp2_with (at_next; refine wpList_next_ranges_ii _ rfl _ rfl 3 3 .i64 .i64 int_kd Try.underlying3 Try.underlying3 b w.heap.size n D left cnt rfl HR.out ?_ ?_)
    · skip
      intro hc0 hl0
      have HF : Hid (RetP w M n (.returned (.slice a k c)) wr) := by
        have e : (ks.map fun x => (M x).getD 0).length = k := by rw [List.length_map]; exact HL.out
        exact ⟨a, c, ks.map fun x => (M x).getD 0, by rw [e], by rw [e]; omega, HC.out.fin hl0, by rw [e]; exact HO.out, HB.out⟩
      go_wp2
      go_ret
      exact HF.out
    · intro x c1 w1 cnt1 hkey hwc hlk hat hrg1 hlt hg1 hs1 hen
      have hlk : left (mkI x) = true := hlk
      have hat : ∀ zd, D.atKey (mkI x) zd = .lit (.int .i64 c1) := hat
      have hrg1 : w1.ranges Try.prog 3 (plainElem Try.prog 3) b w.heap.size n D (fun z => left z && !z.sameKey (mkI x)) cnt1 := hrg1
      clear hwc
      have HS : Hid ((M x).isSome = true) := (HC.out.all x).2 (.inr hlk)
      have hcx := atKey_place HM.out HS.out hat
      have HC1 := Lib.hid (HC.out.step mkI_inj mkI_key hlk)
      have hnb : ∀ g, Value.ownBlock (.slice a k c) = some g → g ≠ w.heap.size ∧ w.heap.size ≤ g ∧ g ≠ b := fun g hg => by
        have h1 := World.ownsRow.lt HO.out g hg
        have h2 := row_ne_iter HO.out HR.out
        rw [hg] at h2
        exact ⟨fun e => h2 (by rw [e]), h1.1, by omega⟩
      have HNB := Lib.hid hnb
      have HR1 := Lib.hid hrg1
      have HO1 := Lib.hid (HO.out.kept hg1 (by
        cases hv : Value.ownBlock (.slice a k c) with
        | none => exact .inl rfl
        | some g => exact .inr (fun e => (HNB.out g hv).1 (by simpa using e))))
      have HB1 := Lib.hid (HB.out.grown hg1 HB.out.size (fun j hj => by cases hj; exact Nat.le_refl _))
      have HLT := Lib.hid hlt
      have hbs := HB1.out.size
      have HO2 := Lib.hid (HO1.out.alloc (.cells #[.int .i64 c1] 3))
      have HI2 := Lib.hid (buildI1 w1 c1 w1.heap.size rfl)
      have HCX := Lib.hid hcx
      clear hlk hat hrg1 hg1 hlt hnb hcx hs1 hkey
      have hlen : (pvals (ks.map fun x => (M x).getD 0)).length = k := by rw [pvals_len, List.length_map]; exact HL.out
      have HLN := Lib.hid hlen
      clear hlen
      go_wp2_with (at_builtin; refine wpList_appI1 rfl (.tmp 12) (.tmp 14) rfl w.heap.size _ _ k HLN.out rfl HO2.out c1 w1.heap.size 1 rfl HI2.out (by omega) (by rw [World.size_alloc]; omega) ?_; intro g3 c3 w3 ho3 hg3)
      have HO3 : Hid (w3.ownsRow w.heap.size 3 1 (.slice (some ⟨g3, 0, none⟩) (k + 1) c3) (k + 1) (ivals (pvals ((ks ++ [x]).map fun x => (M x).getD 0)))) := by
        have e : pvals ((ks ++ [x]).map fun x => (M x).getD 0) = pvals (ks.map fun x => (M x).getD 0) ++ [c1] := by
          rw [List.map_append, List.map_cons, List.map_nil, pvals_app, ← HCX.out]
        rw [e]
        exact ho3
      have HR3 := Lib.hid ((HR1.out.alloc (.cells #[.int .i64 c1] 3)).kept hg3 (fun e => by have := (HNB.out b e.symm).2.2; omega) (fun e => (HNB.out _ e.symm).1 rfl))
      have HB3 := Lib.hid ((HB1.out.alloc HB1.out.size (.cells #[.int .i64 c1] 3)).grown hg3 (by have := HB1.out.size; simp; omega) (fun j hj => (HNB.out j hj).2.1))
      have HL3 : Hid ((ks ++ [x]).length = k + 1) := by show _ = _; rw [List.length_append, HL.out]; rfl
      clear ho3 hg3
      go_roundw
      case rel => exact ⟨k + 1, c3, cnt1, some ⟨g3, 0, none⟩, ks ++ [x], _, rfl, by have := HLT.out; omega, HL3, HC1, HR3, HO3, HB3⟩
      case measure => rw [HR3.out.left_eq, HR.out.left_eq]; exact HLT.out

end Go.Proofs.Ytdifnipjmnbojaa
