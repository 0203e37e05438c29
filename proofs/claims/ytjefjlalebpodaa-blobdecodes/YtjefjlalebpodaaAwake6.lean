/-
  Layer 6: the laws' fixed fact 'awake': it is true, and nothing that was there is changed.
-/
import Derived.Test.YtjefjlalebpodaaWalksX1
import Derived.Test.YtjefjlalebpodaaLaw32
import Derived.Test.YtjefjlalebpodaaExt
namespace Go.Proofs.Ytjefjlalebpodaa
open Go.RowKit


section
variable {P : Program} {ops : Array Oper} {Q : Exit → Act → World → Prop} {md : Region.Mode}

/-- Number i alone may come up; the condition stays what it was. -/
theorem wpAnyH_oneF {i : Nat} {o : Oper} {fuel : Nat} {listed : Array Bool} {a : Act} {w w0 : World} (ho : ops[i]? = some o) (hr : Region.ready md ops listed = [i])
    (hw : Region.wanted o (yielded ops a.tmps) = true)
    (h : ∀ K' : Act → World → Prop, Shut (∀ a w', Ext w0 w' → wpAnyH P md ops (NoPanic Q) (Ext w0) fuel (listed.setIfInBounds i true) a w' → K' a w') → Oper.wp P o a w K' (NoPanic Q)) :
    wpAnyH P md ops (NoPanic Q) (Ext w0) (fuel + 1) listed a w := by
  refine wpAnyH_all hr (by simp) fun j hj => ?_
  obtain rfl : j = i := by simpa using hj
  refine wpOp_step ho fun K' hK => ?_
  rw [if_pos hw]
  exact h K' fun a w' hE hW => hK a w' ⟨hE, hW⟩

/-- Two may come up, i or j. -/
theorem wpAnyH_twoF {i j : Nat} {oi oj : Oper} {fuel : Nat} {listed : Array Bool} {a : Act} {w w0 : World} (hi : ops[i]? = some oi) (hj : ops[j]? = some oj) (hr : Region.ready md ops listed = [i, j])
    (hwi : Region.wanted oi (yielded ops a.tmps) = true) (hwj : Region.wanted oj (yielded ops a.tmps) = true)
    (h1 : ∀ K' : Act → World → Prop, Shut (∀ a w', Ext w0 w' → wpAnyH P md ops (NoPanic Q) (Ext w0) fuel (listed.setIfInBounds i true) a w' → K' a w') → Oper.wp P oi a w K' (NoPanic Q))
    (h2 : ∀ K' : Act → World → Prop, Shut (∀ a w', Ext w0 w' → wpAnyH P md ops (NoPanic Q) (Ext w0) fuel (listed.setIfInBounds j true) a w' → K' a w') → Oper.wp P oj a w K' (NoPanic Q)) :
    wpAnyH P md ops (NoPanic Q) (Ext w0) (fuel + 1) listed a w := by
  refine wpAnyH_all hr (by simp) fun q hq => ?_
  have hq' : q = i ∨ q = j := by simpa using hq
  rcases hq' with rfl | rfl
  · refine wpOp_step hi fun K' hK => ?_
    rw [if_pos hwi]
    exact h1 K' fun a w' hE hW => hK a w' ⟨hE, hW⟩
  · refine wpOp_step hj fun K' hK => ?_
    rw [if_pos hwj]
    exact h2 K' fun a w' hE hW => hK a w' ⟨hE, hW⟩

/-- From here on the present world is the one that all have. -/
theorem wpAnyH_now {fuel : Nat} {listed : Array Bool} {a : Act} {w w0 : World} (h : Ext w0 w) (hw : wpAnyH P md ops Q (Ext w) fuel listed a w) : wpAnyH P md ops Q (Ext w0) fuel listed a w :=
  wpAnyH_more (fun _ hx => h.trans hx) _ _ _ _ hw

end




theorem SeenAt.cells {w w' : World} {a : Option Addr} {cap : Nat} {ps : List Nat} (h : SeenAt w a cap ps) (e : ∀ p, w'.cell? p = w.cell? p) : SeenAt w' a cap ps :=
  ⟨h.le, h.max, h.byte, fun i hi => by obtain ⟨b, off, e1, hc⟩ := h.cell i hi; exact ⟨b, off, e1, by rw [e]; exact hc⟩⟩

theorem FrsAt.cells {w w' : World} {a : Option Addr} {cap : Nat} {fs : List Fr} (h : FrsAt w a cap fs) (e : ∀ p, w'.cell? p = w.cell? p) : FrsAt w' a cap fs :=
  ⟨h.le, h.max, fun i hi => by obtain ⟨b, off, e1, h1, h2, h3⟩ := h.el i hi; exact ⟨b, off, e1, by rw [e]; exact h1, by rw [e]; exact h2, h3.cells e⟩, h.wf⟩

/-- A literal's row gets its mark, whatever has come behind it: no cell is another. -/
theorem conv_mark (w : World) (g : Nat) (C : Array Value) (n c : Nat) (hg : w.heap[g]? = some (.cells C 5)) :
    ∃ w', (convert 22 22 (.slice (some ⟨g, 0, none⟩) n c)).run Try.prog w = .ok (.slice (some ⟨g, 0, none⟩) n c) w' ∧ (∀ p, w'.cell? p = w.cell? p) ∧ ∀ B w0, B ≤ g → Below B w0 w → Below B w0 w' := by
  refine ⟨w.freeze ⟨g, C.size, none⟩ 1, ?_, fun p => ?_, fun B w0 hB hb => ?_⟩
  · have hsh : w.shape? g = some (5, C.size) := by unfold World.shape?; rw [hg]
    simp [convert, run_underlying Try.underlying22, run_underlying Try.underlying5, markStringish, hsh]
  · unfold World.freeze
    rw [if_neg (by decide)]
    simp only [World.cell?, Array.getElem?_modify]
    by_cases e : g = p.block
    · rw [if_pos e, ← e, hg]
      rfl
    · rw [if_neg e]
  · refine hb.trans ?_
    unfold World.freeze
    rw [if_neg (by decide)]
    refine ⟨rfl, rfl, rfl, by simp, fun k hk => ?_⟩
    simp only [Array.getElem?_modify]
    rw [if_neg (by omega)]

/-- The two shards of the fixed fact, and its bytes. -/
def ab2 : List (List Nat) := [[97, 98], [99, 0]]
def abc : List Nat := [97, 98, 99]
theorem abc_bytes : Gf.Bytes abc := by intro c hc; simp [abc] at hc; omega
theorem shds_abc : shds abc 2 = ab2 := rfl
theorem cat_ab2 : catP 3 ab2 = abc := rfl
theorem by_ab2 : Mt.By ab2 := by
  intro i
  match i with
  | 0 => intro c hc; simp [ab2] at hc; omega
  | 1 => intro c hc; simp [ab2] at hc; omega
  | i + 2 => intro c hc; simp [ab2] at hc
theorem frag_ab2_len (p : Nat) : (frag ab2 p).length = 2 := by rw [frag_len]; rfl
theorem frag_ab2_1 : frag ab2 1 = [99, 0] := frag_first ab2 1 (by decide) (by decide) rfl by_ab2
theorem strB_abc : strB abc = ⟨#[97, 98, 99]⟩ := rfl
theorem strB_c0 : strB [99, 0] = ⟨#[99, 0]⟩ := rfl

/-- The fragments of the fixed fact, at 2 and 1. -/
theorem awake_back6 (a1 a2 : Option Addr) (c1 c2 : Nat) : let fs := [(⟨2, a1, c1, frag ab2 2⟩ : Fr), ⟨1, a2, c2, frag ab2 1⟩]
    Good 3 fs ∧ (firsts fs).length = 2 ∧ ∀ S, Mt.By (dats fs) → Behind 2 3 ((firsts fs).take 2) S → S = ab2 := by
  have hf : firsts [(⟨2, a1, c1, frag ab2 2⟩ : Fr), ⟨1, a2, c2, frag ab2 1⟩] = [⟨2, a1, c1, frag ab2 2⟩, ⟨1, a2, c2, frag ab2 1⟩] := firsts_two _ _ (by show (2 : Int) ≠ 1; decide)
  have hg : Good 3 [(⟨2, a1, c1, frag ab2 2⟩ : Fr), ⟨1, a2, c2, frag ab2 1⟩] := by
    intro i hi
    match i, hi with
    | 0, _ => exact ⟨by show (0 : Int) ≤ 2 ∧ (2 : Int) < 3; decide, rfl⟩
    | 1, _ => exact ⟨by show (0 : Int) ≤ 1 ∧ (1 : Int) < 3; decide, (frag_ab2_len 1).trans (frag_ab2_len 2).symm⟩
    | i + 2, hi => simp at hi; omega
  refine ⟨hg, by rw [hf]; rfl, fun S bd hB => ?_⟩
  have hc := chosen_of (k := 2) hg (by rw [hf]; simp)
  rw [hf] at hB hc
  refine hB.only hc (by decide) bd rfl (fun i hi => ?_) by_ab2 (fun i hi => ?_)
  · show _ = (frag ab2 2).length
    rw [frag_ab2_len]
    match i, hi with
    | 0, _ => rfl
    | 1, _ => rfl
  · match i, hi with
    | 0, _ => rfl
    | 1, _ => rfl

theorem a_enc6 (w : World) : Calls Try.prog 24 #[.int .i64 2, .int .i64 1, .slice (some ⟨w.heap.size, 0, none⟩) 3 3] (w.alloc (.cells #[Value.int IntKind.u8 97, Value.int IntKind.u8 98, Value.int IntKind.u8 99] 5 (3, 4))) (RetT (w.alloc (.cells #[Value.int IntKind.u8 97, Value.int IntKind.u8 98, Value.int IntKind.u8 99] 5 (3, 4))) 3 (frags ab2 3)) :=
  encB_any 2 1 3 _ _ 3 abc _ rfl (seen_lit w abc #[Value.int IntKind.u8 97, Value.int IntKind.u8 98, Value.int IntKind.u8 99] (3, 4) rfl abc_bytes (by decide)) (by omega) (by omega) rfl (by omega)

theorem a_wid6 (w : World) : Calls Try.prog 29 #[.int .i64 3, .int .i64 2] w fun e w' => e = .returned (.int .i64 2) ∧ w = w' :=
  width_yes 3 2 w (by omega) (by omega)

set_option maxRecDepth 100000 in
set_option maxHeartbeats 4000000 in
theorem awake6 (w : World) :
    Calls Try.prog 25 #[] w fun e w' => e = .returned (.bool true) ∧ Below w.heap.size w w' := by
  have kc := fun (w : World) (C : Array Value) (n c : Nat) => Lib.run_convert_bytes_const (P := Try.prog) w 22 5 C n c Try.underlying22 Try.underlying5
  go_enter Try.func25, Try.ntmps25
  go_wp2_with fail
  refine (a_enc6 _).mono ?_
  rintro e w1 ⟨hl, a, cap, rfl, hA, hb⟩
  have HB1 := Lib.hid ((below_one w _).trans (hb.mono (below_one w _).size))
  have HA := Lib.hid hA
  obtain ⟨b, off, ra2, rc2, e, hc2, hS2⟩ := hA.at 2 (by rw [hl]; omega)
  subst e
  obtain ⟨b', off', ra1, rc1, e, hc1, hS1⟩ := hA.at 1 (by rw [hl]; omega)
  cases e
  rw [frags_row ab2 3 2 (by omega)] at hc2 hS2
  rw [frags_row ab2 3 1 (by omega)] at hc1 hS1
  rw [frag_ab2_len] at hc2 hc1
  have HC2 := Lib.hid (fun (x : World) (h : Ext w1 x) => cell_later h hc2)
  have HC1 := Lib.hid (fun (x : World) (h : Ext w1 x) => cell_later h hc1)
  have HS2 := Lib.hid hS2
  have HS1 := Lib.hid hS1
  clear hA hb hl hc2 hc1 hS2 hS1
  obtain ⟨hgood, hfl, hback⟩ := awake_back6 ra2 ra1 rc2 rc1
  have HBD : Hid (Mt.By (dats [(⟨2, ra2, rc2, frag ab2 2⟩ : Fr), ⟨1, ra1, rc1, frag ab2 1⟩])) := by
    intro i
    match i with
    | 0 => exact HS2.out.byte
    | 1 => exact HS1.out.byte
    | i + 2 => exact bytes_nil
  have HFR : Hid (∀ x, Ext w1 x → FrsAt (x.alloc (.cells #[.int .i64 2, .slice ra2 2 rc2, .int .i64 1, .slice ra1 2 rc1] 52)) (some ⟨x.heap.size, 0, none⟩) 2 [(⟨2, ra2, rc2, frag ab2 2⟩ : Fr), ⟨1, ra1, rc1, frag ab2 1⟩]) := fun x hx => by
    have := frs_two x 2 1 ra2 ra1 rc2 rc1 (frag ab2 2) (frag ab2 1) (HS2.out.below hx) (HS1.out.below hx) rfl rfl
    rw [frag_ab2_len, frag_ab2_len] at this
    exact this
  obtain ⟨z, hz⟩ : ∃ z, Crc.sum abc = z := ⟨_, rfl⟩
  have HOF : Hid (∀ x g, SeenAt x (some ⟨g, 0, none⟩) 3 abc → Calls Try.prog 32 #[.slice (some ⟨g, 0, none⟩) 3 3] x fun e w' => e = .returned (.int .u32 (z : Int)) ∧ Below x.heap.size x w') := fun x g hx => by
    rw [← hz]
    exact refOf_any _ 3 3 abc x rfl (by omega) hx
  have HDE : Hid (∀ x g, FrsAt x (some ⟨g, 0, none⟩) 2 [(⟨2, ra2, rc2, frag ab2 2⟩ : Fr), ⟨1, ra1, rc1, frag ab2 1⟩] → Calls Try.prog 31 #[.int .i64 2, .int .i64 1, .int .i64 3, .int .u32 (z : Int), .slice (some ⟨g, 0, none⟩) 2 2] x fun e w' => ∃ q, e = .returned (.tuple #[.slice (some ⟨q, 0, none⟩) 3 3, .int .i64 0]) ∧ SeenAt w' (some ⟨q, 0, none⟩) 3 abc ∧ Below x.heap.size x w') := fun x g hx => by
    refine (decB_any (some ⟨g, 0, none⟩) 2 2 2 1 3 3 z _ x hx rfl (by omega) (by omega) rfl (by omega) (by show (frag ab2 2).length ≤ _; rw [frag_ab2_len]; omega) (by omega)).mono ?_
    rintro e w2 ⟨hb2, ⟨hng, _⟩ | ⟨_, hfew, _⟩ | ⟨_, _, S, hBe, _, ⟨hno, _⟩ | ⟨_, _, q, rfl, hO⟩⟩⟩
    · exact absurd hgood hng
    · rw [hfl] at hfew; omega
    · obtain rfl := hback S HBD.out hBe
      exact absurd ⟨frag_ab2_len 2, by rw [cat_ab2]; exact hz⟩ hno
    · obtain rfl := hback S HBD.out hBe
      rw [cat_ab2] at hO
      exact ⟨q, rfl, hO.seenAt, hb2⟩
  clear hgood hfl hback hz
  go_wp2_with fail
  go_cut [3, 4] (fun s3 s4 wx => ∃ q, s3 = .slice (some ⟨q, 0, none⟩) 3 3 ∧ s4 = .int .i64 0 ∧ Hid (SeenAt wx (some ⟨q, 0, none⟩) 3 abc) ∧ Hid (Ext w1 wx))
  case first =>
    rename_i JJ KK hJJ hKK
    refine wp_region_ext (by kernel_rfl) ?_
    have E0 : Hid (Ext w1 w1.drew) := (Below.refl _ _).drew
    generalize w1.drew = w0 at *
    refine wpAnyH_tk (i := 3) 22 (v := ?_) rfl rfl (by kernel_rfl) (by kernel_rfl) (by kernel_rfl) (by rfl) (fun wq hwq => ?_) ?_
    rotate_left
    · (go_simp <;> with_reducible rfl)
    simp only [List.setIfInBounds_toArray, List.set_cons_zero, List.set_cons_succ]
    refine wpAnyH_tk (i := 4) 23 (v := ?_) rfl rfl (by kernel_rfl) (by kernel_rfl) (by kernel_rfl) (by rfl) (fun wq hwq => ?_) ?_
    rotate_left
    · (go_simp <;> with_reducible rfl)
    simp only [List.setIfInBounds_toArray, List.set_cons_zero, List.set_cons_succ]
    refine wpAnyH_tk (i := 5) 24 (v := ?_) rfl rfl (by kernel_rfl) (by kernel_rfl) (by kernel_rfl) (by rfl) (fun wq hwq => ?_) ?_
    rotate_left
    · (have hx := HC2.out wq (E0.out.trans hwq); go_simp <;> with_reducible rfl)
    simp only [List.setIfInBounds_toArray, List.set_cons_zero, List.set_cons_succ]
    refine wpAnyH_tk (i := 6) 25 (v := ?_) rfl rfl (by kernel_rfl) (by kernel_rfl) (by kernel_rfl) (by rfl) (fun wq hwq => ?_) ?_
    rotate_left
    · (go_simp <;> with_reducible rfl)
    simp only [List.setIfInBounds_toArray, List.set_cons_zero, List.set_cons_succ]
    refine wpAnyH_tk (i := 7) 26 (v := ?_) rfl rfl (by kernel_rfl) (by kernel_rfl) (by kernel_rfl) (by rfl) (fun wq hwq => ?_) ?_
    rotate_left
    · (go_simp <;> with_reducible rfl)
    simp only [List.setIfInBounds_toArray, List.set_cons_zero, List.set_cons_succ]
    refine wpAnyH_tk (i := 8) 27 (v := ?_) rfl rfl (by kernel_rfl) (by kernel_rfl) (by kernel_rfl) (by rfl) (fun wq hwq => ?_) ?_
    rotate_left
    · (go_simp <;> with_reducible rfl)
    simp only [List.setIfInBounds_toArray, List.set_cons_zero, List.set_cons_succ]
    refine wpAnyH_tk (i := 9) 28 (v := ?_) rfl rfl (by kernel_rfl) (by kernel_rfl) (by kernel_rfl) (by rfl) (fun wq hwq => ?_) ?_
    rotate_left
    · (have hx := HC1.out wq (E0.out.trans hwq); go_simp <;> with_reducible rfl)
    simp only [List.setIfInBounds_toArray, List.set_cons_zero, List.set_cons_succ]
    refine wpAnyH_tk (i := 10) 29 (v := ?_) rfl rfl (by kernel_rfl) (by kernel_rfl) (by kernel_rfl) (by rfl) (fun wq hwq => ?_) ?_
    rotate_left
    · (go_simp <;> with_reducible rfl)
    simp only [List.setIfInBounds_toArray, List.set_cons_zero, List.set_cons_succ]
    refine wpAnyH_twoF (i := 0) (j := 11) rfl rfl (by kernel_rfl) (by rfl) (by rfl) (fun K hK => ?_) (fun K hK => ?_) <;> go_simp
    · skip
      refine hK.out _ _ (below_one w0 _) ?_
      clear hK K
      refine wpAnyH_twoF (i := 1) (j := 11) rfl rfl (by kernel_rfl) (by rfl) (by rfl) (fun K hK => ?_) (fun K hK => ?_) <;> go_simp
      · have E0W : Hid (Ext w0 (w0.alloc (.cells #[Value.int IntKind.u8 97, Value.int IntKind.u8 98, Value.int IntKind.u8 99] 5 (3, 4)))) := below_one w0 _
        have HLT : Hid (SeenAt (w0.alloc (.cells #[Value.int IntKind.u8 97, Value.int IntKind.u8 98, Value.int IntKind.u8 99] 5 (3, 4))) (some ⟨w0.heap.size, 0, none⟩) 3 abc) := seen_lit w0 abc #[Value.int IntKind.u8 97, Value.int IntKind.u8 98, Value.int IntKind.u8 99] (3, 4) rfl abc_bytes (by decide)
        refine hK.out _ _ E0W.out ?_
        clear hK K
        generalize w0.alloc (.cells #[Value.int IntKind.u8 97, Value.int IntKind.u8 98, Value.int IntKind.u8 99] 5 (3, 4)) = wl at *
        refine wpAnyH_twoF (i := 2) (j := 11) rfl rfl (by kernel_rfl) (by rfl) (by rfl) (fun K hK => ?_) (fun K hK => ?_) <;> go_simp
        · refine (HOF.out _ _ HLT.out).mono ?_
          rintro e w3 ⟨rfl, hb3⟩
          have E03 := Lib.hid (E0W.out.trans hb3)
          have FRS := Lib.hid (HFR.out w3 (E0.out.trans E03.out))
          clear hb3
          refine hK.out _ _ E03.out ?_
          clear hK K
          refine wpAnyH_oneF (i := 11) rfl (by kernel_rfl) (by rfl) (fun K hK => ?_)
          go_simp
          have E04 := Lib.hid (E03.out.trans (below_one w3 (Obj.cells #[Value.int IntKind.i64 2, Value.slice ra2 2 rc2, Value.int IntKind.i64 1, Value.slice ra1 2 rc1] 52)))
          refine hK.out _ _ E04.out ?_
          clear hK K
          refine wpAnyH_oneF (i := 12) rfl (by kernel_rfl) (by rfl) (fun K hK => ?_)
          go_simp
          refine (HDE.out _ _ FRS.out).mono ?_
          rintro e w9 ⟨q, rfl, hq, hb9⟩
          have HQ := Lib.hid hq
          have E09 := Lib.hid (E04.out.trans hb9)
          have EX9 := Lib.hid (E0.out.trans E09.out)
          clear hq hb9
          refine hK.out _ _ E09.out ?_
          clear hK K
          refine wpAnyH_now E09.out ?_
          refine wpAnyH_tk (i := 13) 18 (v := ?_) rfl rfl (by kernel_rfl) (by kernel_rfl) (by kernel_rfl) (by rfl) (fun wq hwq => ?_) ?_
          rotate_left
          · (go_simp <;> with_reducible rfl)
          simp only [List.setIfInBounds_toArray, List.set_cons_zero, List.set_cons_succ]
          refine wpAnyH_tk (i := 14) 32 (v := ?_) rfl rfl (by kernel_rfl) (by kernel_rfl) (by kernel_rfl) (by rfl) (fun wq hwq => ?_) ?_
          rotate_left
          · (go_simp <;> with_reducible rfl)
          simp only [List.setIfInBounds_toArray, List.set_cons_zero, List.set_cons_succ]
          refine wpAnyH_tk (i := 15) 33 (v := ?_) rfl rfl (by kernel_rfl) (by kernel_rfl) (by kernel_rfl) (by rfl) (fun wq hwq => ?_) ?_
          rotate_left
          · (go_simp <;> with_reducible rfl)
          simp only [List.setIfInBounds_toArray, List.set_cons_zero, List.set_cons_succ]
          refine wpAnyH_tk (i := 16) 3 (v := ?_) rfl rfl (by kernel_rfl) (by kernel_rfl) (by kernel_rfl) (by rfl) (fun wq hwq => ?_) ?_
          rotate_left
          · (go_simp <;> with_reducible rfl)
          simp only [List.setIfInBounds_toArray, List.set_cons_zero, List.set_cons_succ]
          refine wpAnyH_tk (i := 17) 4 (v := ?_) rfl rfl (by kernel_rfl) (by kernel_rfl) (by kernel_rfl) (by rfl) (fun wq hwq => ?_) ?_
          rotate_left
          · (go_simp <;> with_reducible rfl)
          simp only [List.setIfInBounds_toArray, List.set_cons_zero, List.set_cons_succ]
          refine wpAnyH_done (by kernel_rfl) ?_ _
          refine NoPanic.normal ?_
          refine hKK _ _ (Met.intro (hJJ _ _ ?_))
          (repeat apply Exists.intro)
          exact ⟨⟨q, rfl, rfl, HQ, EX9⟩, rfl⟩
        · have E03 := Lib.hid (E0W.out.trans (below_one wl (Obj.cells #[Value.int IntKind.i64 2, Value.slice ra2 2 rc2, Value.int IntKind.i64 1, Value.slice ra1 2 rc1] 52)))
          have FR3 := Lib.hid (HFR.out wl (E0.out.trans E0W.out))
          have HL3 := Lib.hid (HLT.out.below (below_one wl (Obj.cells #[Value.int IntKind.i64 2, Value.slice ra2 2 rc2, Value.int IntKind.i64 1, Value.slice ra1 2 rc1] 52)))
          refine hK.out _ _ E03.out ?_
          clear hK K
          refine wpAnyH_oneF (i := 2) rfl (by kernel_rfl) (by rfl) (fun K hK => ?_)
          go_simp
          refine (HOF.out _ _ HL3.out).mono ?_
          rintro e w3 ⟨rfl, hb3⟩
          have E04 := Lib.hid (E03.out.trans hb3)
          have FRS := Lib.hid (FR3.out.below hb3)
          clear hb3
          refine hK.out _ _ E04.out ?_
          clear hK K
          refine wpAnyH_oneF (i := 12) rfl (by kernel_rfl) (by rfl) (fun K hK => ?_)
          go_simp
          refine (HDE.out _ _ FRS.out).mono ?_
          rintro e w9 ⟨q, rfl, hq, hb9⟩
          have HQ := Lib.hid hq
          have E09 := Lib.hid (E04.out.trans hb9)
          have EX9 := Lib.hid (E0.out.trans E09.out)
          clear hq hb9
          refine hK.out _ _ E09.out ?_
          clear hK K
          refine wpAnyH_now E09.out ?_
          refine wpAnyH_tk (i := 13) 18 (v := ?_) rfl rfl (by kernel_rfl) (by kernel_rfl) (by kernel_rfl) (by rfl) (fun wq hwq => ?_) ?_
          rotate_left
          · (go_simp <;> with_reducible rfl)
          simp only [List.setIfInBounds_toArray, List.set_cons_zero, List.set_cons_succ]
          refine wpAnyH_tk (i := 14) 32 (v := ?_) rfl rfl (by kernel_rfl) (by kernel_rfl) (by kernel_rfl) (by rfl) (fun wq hwq => ?_) ?_
          rotate_left
          · (go_simp <;> with_reducible rfl)
          simp only [List.setIfInBounds_toArray, List.set_cons_zero, List.set_cons_succ]
          refine wpAnyH_tk (i := 15) 33 (v := ?_) rfl rfl (by kernel_rfl) (by kernel_rfl) (by kernel_rfl) (by rfl) (fun wq hwq => ?_) ?_
          rotate_left
          · (go_simp <;> with_reducible rfl)
          simp only [List.setIfInBounds_toArray, List.set_cons_zero, List.set_cons_succ]
          refine wpAnyH_tk (i := 16) 3 (v := ?_) rfl rfl (by kernel_rfl) (by kernel_rfl) (by kernel_rfl) (by rfl) (fun wq hwq => ?_) ?_
          rotate_left
          · (go_simp <;> with_reducible rfl)
          simp only [List.setIfInBounds_toArray, List.set_cons_zero, List.set_cons_succ]
          refine wpAnyH_tk (i := 17) 4 (v := ?_) rfl rfl (by kernel_rfl) (by kernel_rfl) (by kernel_rfl) (by rfl) (fun wq hwq => ?_) ?_
          rotate_left
          · (go_simp <;> with_reducible rfl)
          simp only [List.setIfInBounds_toArray, List.set_cons_zero, List.set_cons_succ]
          refine wpAnyH_done (by kernel_rfl) ?_ _
          refine NoPanic.normal ?_
          refine hKK _ _ (Met.intro (hJJ _ _ ?_))
          (repeat apply Exists.intro)
          exact ⟨⟨q, rfl, rfl, HQ, EX9⟩, rfl⟩
      · have E0W : Hid (Ext w0 (w0.alloc (.cells #[Value.int IntKind.u8 97, Value.int IntKind.u8 98, Value.int IntKind.u8 99] 5))) := below_one w0 _
        have HLT : Hid (SeenAt (w0.alloc (.cells #[Value.int IntKind.u8 97, Value.int IntKind.u8 98, Value.int IntKind.u8 99] 5)) (some ⟨w0.heap.size, 0, none⟩) 3 abc) := seen_lit w0 abc #[Value.int IntKind.u8 97, Value.int IntKind.u8 98, Value.int IntKind.u8 99] (0, 0) rfl abc_bytes (by decide)
        have HHP : Hid ((w0.alloc (.cells #[Value.int IntKind.u8 97, Value.int IntKind.u8 98, Value.int IntKind.u8 99] 5)).heap[w0.heap.size]? = some (.cells #[Value.int IntKind.u8 97, Value.int IntKind.u8 98, Value.int IntKind.u8 99] 5)) := by
          show (w0.heap.push _)[w0.heap.size]? = _
          simp
        have hlt : w0.heap.size < (w0.alloc (.cells #[Value.int IntKind.u8 97, Value.int IntKind.u8 98, Value.int IntKind.u8 99] 5)).heap.size := by simp
        have hsz : (w0.alloc (.cells #[Value.int IntKind.u8 97, Value.int IntKind.u8 98, Value.int IntKind.u8 99] 5)).heap.size = w0.heap.size + 1 := by simp
        generalize w0.alloc (.cells #[Value.int IntKind.u8 97, Value.int IntKind.u8 98, Value.int IntKind.u8 99] 5) = wl at *
        have E03 := Lib.hid (E0W.out.trans (below_one wl (Obj.cells #[Value.int IntKind.i64 2, Value.slice ra2 2 rc2, Value.int IntKind.i64 1, Value.slice ra1 2 rc1] 52)))
        have FR3 := Lib.hid (HFR.out wl (E0.out.trans E0W.out))
        rw [hsz] at FR3
        clear hsz
        have HL3 := Lib.hid (HLT.out.below (below_one wl (Obj.cells #[Value.int IntKind.i64 2, Value.slice ra2 2 rc2, Value.int IntKind.i64 1, Value.slice ra1 2 rc1] 52)))
        obtain ⟨wm, hrun, hcell, hbel⟩ := conv_mark (wl.alloc (Obj.cells #[Value.int IntKind.i64 2, Value.slice ra2 2 rc2, Value.int IntKind.i64 1, Value.slice ra1 2 rc1] 52)) w0.heap.size _ 3 3 (((below_one wl _).block _ hlt).trans HHP.out)
        have E0M : Hid (Ext w0 wm) := hbel _ _ (Nat.le_refl _) E03.out
        have FRM := Lib.hid (FR3.out.cells hcell)
        have HLM := Lib.hid (HL3.out.cells hcell)
        clear hcell hbel
        refine hK.out _ _ E03.out ?_
        clear hK K
        refine wpAnyH_oneF (i := 1) rfl (by kernel_rfl) (by rfl) (fun K hK => ?_)
        go_simp
        refine hK.out _ _ E0M.out ?_
        clear hK K
        refine wpAnyH_oneF (i := 2) rfl (by kernel_rfl) (by rfl) (fun K hK => ?_)
        go_simp
        refine (HOF.out _ _ HLM.out).mono ?_
        rintro e w3 ⟨rfl, hb3⟩
        have E04 := Lib.hid (E0M.out.trans hb3)
        have FRS := Lib.hid (FRM.out.below hb3)
        clear hb3 hrun
        refine hK.out _ _ E04.out ?_
        clear hK K
        refine wpAnyH_oneF (i := 12) rfl (by kernel_rfl) (by rfl) (fun K hK => ?_)
        go_simp
        refine (HDE.out _ _ FRS.out).mono ?_
        rintro e w9 ⟨q, rfl, hq, hb9⟩
        have HQ := Lib.hid hq
        have E09 := Lib.hid (E04.out.trans hb9)
        have EX9 := Lib.hid (E0.out.trans E09.out)
        clear hq hb9
        refine hK.out _ _ E09.out ?_
        clear hK K
        refine wpAnyH_now E09.out ?_
        refine wpAnyH_tk (i := 13) 18 (v := ?_) rfl rfl (by kernel_rfl) (by kernel_rfl) (by kernel_rfl) (by rfl) (fun wq hwq => ?_) ?_
        rotate_left
        · (go_simp <;> with_reducible rfl)
        simp only [List.setIfInBounds_toArray, List.set_cons_zero, List.set_cons_succ]
        refine wpAnyH_tk (i := 14) 32 (v := ?_) rfl rfl (by kernel_rfl) (by kernel_rfl) (by kernel_rfl) (by rfl) (fun wq hwq => ?_) ?_
        rotate_left
        · (go_simp <;> with_reducible rfl)
        simp only [List.setIfInBounds_toArray, List.set_cons_zero, List.set_cons_succ]
        refine wpAnyH_tk (i := 15) 33 (v := ?_) rfl rfl (by kernel_rfl) (by kernel_rfl) (by kernel_rfl) (by rfl) (fun wq hwq => ?_) ?_
        rotate_left
        · (go_simp <;> with_reducible rfl)
        simp only [List.setIfInBounds_toArray, List.set_cons_zero, List.set_cons_succ]
        refine wpAnyH_tk (i := 16) 3 (v := ?_) rfl rfl (by kernel_rfl) (by kernel_rfl) (by kernel_rfl) (by rfl) (fun wq hwq => ?_) ?_
        rotate_left
        · (go_simp <;> with_reducible rfl)
        simp only [List.setIfInBounds_toArray, List.set_cons_zero, List.set_cons_succ]
        refine wpAnyH_tk (i := 17) 4 (v := ?_) rfl rfl (by kernel_rfl) (by kernel_rfl) (by kernel_rfl) (by rfl) (fun wq hwq => ?_) ?_
        rotate_left
        · (go_simp <;> with_reducible rfl)
        simp only [List.setIfInBounds_toArray, List.set_cons_zero, List.set_cons_succ]
        refine wpAnyH_done (by kernel_rfl) ?_ _
        refine NoPanic.normal ?_
        refine hKK _ _ (Met.intro (hJJ _ _ ?_))
        (repeat apply Exists.intro)
        exact ⟨⟨q, rfl, rfl, HQ, EX9⟩, rfl⟩
    · have E0W : Hid (Ext w0 (w0.alloc (Obj.cells #[Value.int IntKind.i64 2, Value.slice ra2 2 rc2, Value.int IntKind.i64 1, Value.slice ra1 2 rc1] 52))) := below_one w0 _
      have FRW := Lib.hid (HFR.out w0 E0.out)
      refine hK.out _ _ E0W.out ?_
      clear hK K
      generalize w0.alloc (Obj.cells #[Value.int IntKind.i64 2, Value.slice ra2 2 rc2, Value.int IntKind.i64 1, Value.slice ra1 2 rc1] 52) = wl at *
      refine wpAnyH_oneF (i := 0) rfl (by kernel_rfl) (by rfl) (fun K hK => ?_)
      go_simp
      refine hK.out _ _ (E0W.out.trans (below_one wl _)) ?_
      clear hK K
      refine wpAnyH_oneF (i := 1) rfl (by kernel_rfl) (by rfl) (fun K hK => ?_)
      go_simp
      have E03 := Lib.hid (E0W.out.trans (below_one wl (.cells #[Value.int IntKind.u8 97, Value.int IntKind.u8 98, Value.int IntKind.u8 99] 5 (3, 4))))
      have FR3 := Lib.hid (FRW.out.below (below_one wl (.cells #[Value.int IntKind.u8 97, Value.int IntKind.u8 98, Value.int IntKind.u8 99] 5 (3, 4))))
      have HL3 : Hid (SeenAt (wl.alloc (.cells #[Value.int IntKind.u8 97, Value.int IntKind.u8 98, Value.int IntKind.u8 99] 5 (3, 4))) (some ⟨wl.heap.size, 0, none⟩) 3 abc) := seen_lit wl abc #[Value.int IntKind.u8 97, Value.int IntKind.u8 98, Value.int IntKind.u8 99] (3, 4) rfl abc_bytes (by decide)
      refine hK.out _ _ E03.out ?_
      clear hK K
      refine wpAnyH_oneF (i := 2) rfl (by kernel_rfl) (by rfl) (fun K hK => ?_)
      go_simp
      refine (HOF.out _ _ HL3.out).mono ?_
      rintro e w3 ⟨rfl, hb3⟩
      have E04 := Lib.hid (E03.out.trans hb3)
      have FRS := Lib.hid (FR3.out.below hb3)
      clear hb3
      refine hK.out _ _ E04.out ?_
      clear hK K
      refine wpAnyH_oneF (i := 12) rfl (by kernel_rfl) (by rfl) (fun K hK => ?_)
      go_simp
      refine (HDE.out _ _ FRS.out).mono ?_
      rintro e w9 ⟨q, rfl, hq, hb9⟩
      have HQ := Lib.hid hq
      have E09 := Lib.hid (E04.out.trans hb9)
      have EX9 := Lib.hid (E0.out.trans E09.out)
      clear hq hb9
      refine hK.out _ _ E09.out ?_
      clear hK K
      refine wpAnyH_now E09.out ?_
      refine wpAnyH_tk (i := 13) 18 (v := ?_) rfl rfl (by kernel_rfl) (by kernel_rfl) (by kernel_rfl) (by rfl) (fun wq hwq => ?_) ?_
      rotate_left
      · (go_simp <;> with_reducible rfl)
      simp only [List.setIfInBounds_toArray, List.set_cons_zero, List.set_cons_succ]
      refine wpAnyH_tk (i := 14) 32 (v := ?_) rfl rfl (by kernel_rfl) (by kernel_rfl) (by kernel_rfl) (by rfl) (fun wq hwq => ?_) ?_
      rotate_left
      · (go_simp <;> with_reducible rfl)
      simp only [List.setIfInBounds_toArray, List.set_cons_zero, List.set_cons_succ]
      refine wpAnyH_tk (i := 15) 33 (v := ?_) rfl rfl (by kernel_rfl) (by kernel_rfl) (by kernel_rfl) (by rfl) (fun wq hwq => ?_) ?_
      rotate_left
      · (go_simp <;> with_reducible rfl)
      simp only [List.setIfInBounds_toArray, List.set_cons_zero, List.set_cons_succ]
      refine wpAnyH_tk (i := 16) 3 (v := ?_) rfl rfl (by kernel_rfl) (by kernel_rfl) (by kernel_rfl) (by rfl) (fun wq hwq => ?_) ?_
      rotate_left
      · (go_simp <;> with_reducible rfl)
      simp only [List.setIfInBounds_toArray, List.set_cons_zero, List.set_cons_succ]
      refine wpAnyH_tk (i := 17) 4 (v := ?_) rfl rfl (by kernel_rfl) (by kernel_rfl) (by kernel_rfl) (by rfl) (fun wq hwq => ?_) ?_
      rotate_left
      · (go_simp <;> with_reducible rfl)
      simp only [List.setIfInBounds_toArray, List.set_cons_zero, List.set_cons_succ]
      refine wpAnyH_done (by kernel_rfl) ?_ _
      refine NoPanic.normal ?_
      refine hKK _ _ (Met.intro (hJJ _ _ ?_))
      (repeat apply Exists.intro)
      exact ⟨⟨q, rfl, rfl, HQ, EX9⟩, rfl⟩
  case rest =>
  obtain ⟨q, rfl, rfl, hq, hE⟩ := hcut
  have hst1 := str_at hq.out (show abc.length = 3 from rfl)
  rw [strB_abc] at hst1
  have hc1 := HC1.out _ hE.out
  have hst2 := str_at (HS1.out.below hE.out) (frag_ab2_len 1)
  rw [frag_ab2_1, strB_c0] at hst2
  go_wp2_with fail
  refine (a_wid6 _).mono ?_
  rintro e w' ⟨rfl, rfl⟩
  have HBE := Lib.hid (HB1.out.trans (Below.mono hE.out HB1.out.size))
  go_wp2
  go_ret
  exact ⟨rfl, HBE.out⟩

end Go.Proofs.Ytjefjlalebpodaa
