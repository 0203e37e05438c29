/-
  What the program reads: readList, of numbers and of entries.
-/
import Derived.Test.YtdgpbdedaafdiaaWalksY7
namespace Go.Proofs.Ytdgpbdedaafdiaa
open Go.RowKit

theorem infoI : (Try.prog.info? 3).map (fun i => (i.zero, i.size, i.bytes)) = some (some (.int .i64 0), 1, 8) := by kernel_rfl

theorem infoE : (Try.prog.info? 32).map (fun i => (i.zero, i.size, i.bytes)) = some (some (.agg #[.int .i64 0, .int .i64 0, .int .i64 0, .int .i64 0, .string ⟨#[]⟩, .int .i64 0, .int .u32 0, .slice none 0 0]), 8, 88) := by kernel_rfl

theorem ivals_len (zs : List Int) : (ivals zs).length = zs.length := by simp [ivals]

theorem below_grow {w w' : World} (h : w.grownBy w' none) : Below w.heap.size w w' := ⟨h.os, h.tape, h.output, h.size, fun k hk => h.block k hk (by simp)⟩

theorem RdrH.grown {H : Nat} {w w' : World} {R : Nat} {s : Pk.St} {x : Option Nat} (h : RdrH H w R s) (hg : w.grownBy w' x) (hx : ∀ g, x = some g → R ≠ g ∧ H ≠ g) : RdrH H w' R s := by
  cases x with
  | none => exact h.below (below_grow hg)
  | some g => exact h.other (Chg.of_grown hg) (hx g rfl).1 (hx g rfl).2

theorem chg_grown {gs : List Nat} {w0 w w' : World} {x : Option Nat} (h : Chg gs w0 w) (hg : w.grownBy w' x) (hx : ∀ g, x = some g → w0.heap.size ≤ g) : Chg gs w0 w' := by
  cases x with
  | none => exact h.wide (Chg.of_below (gs := []) (below_grow hg)) (by simp)
  | some g => exact h.wide (Chg.of_grown hg) (by intro k hk; have : k = g := by simpa using hk
                                                 subst this; exact .inr (hx k rfl))

/-- append(list, z), z laid in a block of its own. -/
theorem wpList_appI1 {ops : Array Oper} {rest : List Oper} {o : Oper} {a : Act} {Q : Exit → Act → World → Prop} {w : World} (hgd : o.guard = none) (s x : Operand)
    (ho : o.op = .call { callee := .builtin .append, args := #[s, x], argTypes := #[33, 33] })
    (base : Nat) (v : Value) (zs : List Int) (n : Nat) (hn : zs.length = n) (hs : a.eval s = v) (hown : w.ownsRow base 3 1 v n (ivals zs)) (z : Int)
    (B xc : Nat) (hx : a.eval x = .slice (some ⟨B, 0, none⟩) 1 xc) (h0 : w.cell? ⟨B, 0, none⟩ = some (.int .i64 z)) (hb : n ≤ 1000000000) (hbase : base ≤ w.heap.size)
    (h : ∀ g' cap' w', w'.ownsRow base 3 1 (.slice (some ⟨g', 0, none⟩) (n + 1) cap') (n + 1) (ivals (zs ++ [z])) → w.grownBy w' v.ownBlock → wpList Try.prog ops Q rest (a.put o.dst (.slice (some ⟨g', 0, none⟩) (n + 1) cap')) w') :
    wpList Try.prog ops Q (o :: rest) a w := by
  obtain ⟨i, hi, hz, hsz, hby⟩ := info_parts infoI
  subst hn
  refine wpList_append_lies w hgd s x 33 ho base 3 i _ 1 8 Try.underlying33 hi hz hsz hby rfl (by omega) v _ _ hs hown ⟨B, 0, none⟩ 1 xc [.int .i64 z] hx rfl
    (fun j u hj => ?_) (by simp [Value.oneCell']) (by omega) (by unfold maxLen; omega) (by omega) hbase w.heap.size rfl ?_
  · match j, hj with
    | 0, hj => simp at hj; subst hj; exact h0
    | j + 1, hj => simp at hj
  · intro g' cap' w' hown' hg _ _
    refine h g' cap' w' ?_ hg
    have e : ivals (zs ++ [z]) = ivals zs ++ [.int .i64 z] := by simp [ivals]
    rw [e]
    exact hown'

theorem ints_own {w : World} {base n c : Nat} {a : Option Addr} {zs : List Int} (h : w.ownsRow base 3 1 (.slice a n c) n (ivals zs)) (hn : zs.length = n) (hw : ∀ z ∈ zs, I64 z) :
    IntsAt w a c zs ∧ ∀ b off, a = some ⟨b, off, none⟩ → base ≤ b := by
  rcases h.2 with ⟨hv, h0⟩ | ⟨g, cap', cur, hv, hgb, hg, hnc, hcm, _⟩
  · have e0 : zs = [] := List.length_eq_zero_iff.mp (by omega)
    cases hv
    subst e0
    exact ⟨IntsAt.nil (Nat.zero_le _), fun b off e => by cases e⟩
  · cases hv
    refine ⟨⟨by omega, hcm, fun i => ?_, fun i hi => ⟨g, 0, rfl, ?_⟩⟩, fun b off e => by cases e; exact hgb⟩
    · rw [List.getD_eq_getElem?_getD]
      by_cases hi : i < zs.length
      · rw [List.getElem?_eq_getElem hi]; exact hw _ (List.getElem_mem hi)
      · rw [List.getElem?_eq_none (by omega)]; simp
    · rw [Nat.zero_add, World.ownsRow.cellAt h i (by omega), List.getD_eq_getElem?_getD, List.getElem?_eq_getElem hi]
      simp [ivals, hi]

theorem IntsAt.chg {gs : List Nat} {w w' : World} {a : Option Addr} {cap : Nat} {zs : List Int} (h : IntsAt w a cap zs) (hb : Chg gs w w') (hn : ∀ b off, a = some ⟨b, off, none⟩ → b ∉ gs) : IntsAt w' a cap zs :=
  ⟨h.le, h.max, h.wf, fun i hi => by obtain ⟨b, off, e, hc⟩ := h.cell i hi; exact ⟨b, off, e, hb.cell hc (hn b off e)⟩⟩

/-- Numbers read by the Reader at R, in new memory. -/
def RLi (H : Nat) (w : World) (R : Nat) (zs : List Int) (s : Pk.St) (e : Ending) (w' : World) : Prop :=
  ∃ a c, e = .returned (.slice a zs.length c) ∧ (∀ gs w2, Chg gs w' w2 → (∀ g ∈ gs, g < w.heap.size) → IntsAt w2 a c zs) ∧ RdrH H w' R s ∧ Chg [R] w w'

theorem rdN_wf (n : Nat) (s : Pk.St) : ∀ z ∈ (rdS rdN n s).1, I64 z := (rdS_all (P := I64) rdN (fun _ => True) (fun s _ => ⟨vN_i64 s, trivial⟩) s trivial n).1

set_option maxRecDepth 100000 in
set_option maxHeartbeats 1000000 in
theorem readInts_any {H : Nat} (R : Nat) (m : Int) (s : Pk.St) (w : World) (h : RdrH H w R s) (hm0 : 0 ≤ m) (hm : m ≤ 1000000) :
    Calls Try.prog 65 #[.pointer (some ⟨R, 0, none⟩), .int .i64 m, .func (.func 64) #[] #[]] w (RLi H w R (rdS rdN (Pk.vC s m).toNat (Pk.nC s m)).1 (rdS rdN (Pk.vC s m).toNat (Pk.nC s m)).2) := by
  have hc := vC_range s m hm0
  have hRl := h.lt
  have hHl := h.home
  have HH := Lib.hid h
  clear h
  go_enter Try.func65, Try.ntmps65
  go_wp2_with fail
  refine (rCountH R m s _ HH.out).mono ?_
  rintro e w1 ⟨rfl, hr1, hb1⟩
  generalize Pk.vC s m = z at *
  generalize Pk.nC s m = s1 at *
  obtain ⟨n, rfl⟩ : ∃ n : Nat, z = (n : Int) := ⟨z.toNat, by omega⟩
  rw [Int.toNat_natCast]
  have HR1 := Lib.hid hr1
  have HB1 := Lib.hid hb1
  clear hr1 hb1
  go_wp2
  go_loopw [7, 11] (fun v i ws => ∃ (k c : Nat) (a : Option Addr), k ≤ n ∧ i = .int .i64 k ∧ v = .slice a k c ∧ Hid (ws.ownsRow w.heap.size 3 1 (.slice a k c) k (ivals (rdS rdN k s1).1)) ∧ Hid (RdrH H ws R (rdS rdN k s1).2) ∧ Hid (Chg [R] w ws)) (fun _ i _ => n - (intOf i).toNat)
  case atStart => exact ⟨0, 0, none, Nat.zero_le _, rfl, rfl, World.ownsRow_nil _ _ _ _, HR1, HB1⟩
  case round =>
    obtain ⟨k, c, a, hk, rfl, rfl, HO, HR, HC⟩ := hrel
    by_cases hlt : k < n
    · have HL := Lib.hid (rdS_len rdN s1 k)
      have HN1 : Hid ((rdS rdN (k + 1) s1).1 = (rdS rdN k s1).1 ++ [Pk.vN (rdS rdN k s1).2]) := rfl
      have HN2 : Hid ((rdS rdN (k + 1) s1).2 = Pk.nN (rdS rdN k s1).2) := rfl
      generalize (rdS rdN k s1).1 = zs at *
      generalize (rdS rdN k s1).2 = sk at *
      go_wp2_with fail
      refine (rNumH R sk _ HR.out).mono ?_
      rintro e w2 ⟨rfl, hr2, hb2⟩
      have hoR : ∀ g, Value.ownBlock (.slice a k c) = some g → R ≠ g ∧ H ≠ g ∧ w.heap.size ≤ g := fun g hg => by
        have := (World.ownsRow.lt HO.out g hg).1
        omega
      have HO2 : Hid ((w2.alloc (.cells #[.int .i64 (Pk.vN sk)] 3)).ownsRow w.heap.size 3 1 (.slice a k c) k (ivals zs)) :=
        (Chg.of_below (gs := []) (below_one w2 _)).owns (hb2.owns HO.out (fun g hg => by have := hoR g hg; simp; omega)) (by simp)
      have HR2 := Lib.hid (hr2.below (below_one w2 (.cells #[.int .i64 (Pk.vN sk)] 3)))
      have HC2 := Lib.hid ((HC.out.trans hb2).alloc (.cells #[.int .i64 (Pk.vN sk)] 3))
      have HOR := Lib.hid hoR
      have hz2 := HC2.out.size
      clear hr2 hb2 hoR
      generalize Pk.vN sk = z at *
      generalize Pk.nN sk = sk1 at *
      have hx0 : (w2.alloc (.cells #[.int .i64 z] 3)).cell? ⟨w2.heap.size, 0, none⟩ = some (.int .i64 z) := by simp
      go_wp2_with (at_builtin; refine wpList_appI1 rfl (.tmp 13) (.tmp 17) rfl w.heap.size _ zs k HL.out rfl HO2.out z _ 1 rfl hx0 (by omega) hz2 ?_; intro g3 c3 w3 ho3 hg3)
      have HO3 : Hid (w3.ownsRow w.heap.size 3 1 (.slice (some ⟨g3, 0, none⟩) (k + 1) c3) (k + 1) (ivals (rdS rdN (k + 1) s1).1)) := by
        show World.ownsRow _ _ _ _ _ _ _
        rw [HN1.out]
        exact ho3
      have HR3 : Hid (RdrH H w3 R (rdS rdN (k + 1) s1).2) := by
        show RdrH _ _ _ _
        rw [HN2.out]
        exact HR2.out.grown hg3 (fun g hg => by have := HOR.out g hg; omega)
      have HC3 := Lib.hid (chg_grown HC2.out hg3 (fun g hg => (HOR.out g hg).2.2))
      clear ho3 hg3
      go_roundw
      case rel => exact ⟨k + 1, c3, some ⟨g3, 0, none⟩, by omega, by go_num, rfl, HO3, HR3, HC3⟩
      case measure => simp [intOf]; omega
    · obtain rfl : k = n := by omega
      have HF : Hid (RLi H w R (rdS rdN k s1).1 (rdS rdN k s1).2 (.returned (.slice a k c)) wr) := by
        obtain ⟨h1, h2⟩ := ints_own HO.out (rdS_len rdN s1 k) (rdN_wf k s1)
        refine ⟨a, c, by rw [rdS_len], fun gs w2 hb hg => h1.chg hb (fun b off e hm => ?_), HR.out, HC.out⟩
        have := h2 b off e
        have := hg b hm
        omega
      go_wp2
      go_ret
      exact HF.out

/-- An entry as it lies in memory. -/
structure El where
  p : Pe
  loc : Option Addr
  cap : Nat

def el0 : El := ⟨pe0, none, 0⟩

def ecells (x : El) : List Value := [.int .i64 x.p.seq, .int .i64 x.p.client, .int .i64 x.p.num, .int .i64 x.p.op, .string (strB x.p.key), .int .i64 x.p.size, .int .u32 (x.p.sum : Int), .slice x.loc x.p.frag.length x.cap]

def evals : List El → List Value
  | [] => []
  | x :: xs => ecells x ++ evals xs

theorem evals_app (xs ys : List El) : evals (xs ++ ys) = evals xs ++ evals ys := by
  induction xs with
  | nil => rfl
  | cons x xs ih => simp [evals, ih]

theorem evals_at : ∀ (xs : List El) (i k : Nat), i < xs.length → k < 8 → (evals xs)[i * 8 + k]? = (ecells (xs.getD i el0))[k]?
  | [], i, k, h, _ => by simp at h
  | x :: xs, 0, k, _, hk => by
    show (ecells x ++ evals xs)[0 * 8 + k]? = _
    rw [List.getElem?_append_left (by simp [ecells]; omega)]
    simp
  | x :: xs, i + 1, k, h, hk => by
    have := evals_at xs i k (by simpa using h) hk
    show (ecells x ++ evals xs)[(i + 1) * 8 + k]? = _
    rw [List.getElem?_append_right (by simp [ecells]; omega), show (i + 1) * 8 + k - (ecells x).length = i * 8 + k by simp [ecells]; omega, this]
    simp

/-- A slice of entries of the call's own (or nil), their bytes in other blocks that are new too. -/
structure Els (w : World) (base : Nat) (v : Value) (xs : List El) : Prop where
  own : w.ownsRow base 32 8 v xs.length (evals xs)
  seen : ∀ x ∈ xs, SeenAt w x.loc x.cap x.p.frag
  off : ∀ x ∈ xs, ∀ b o, x.loc = some ⟨b, o, none⟩ → base ≤ b ∧ b < w.heap.size ∧ ∀ g, v.ownBlock = some g → b ≠ g
  wf : ∀ x ∈ xs, x.p.Wf

theorem els_nil (w : World) (base : Nat) : Els w base (.slice none 0 0) [] := ⟨World.ownsRow_nil _ _ _ _, by simp, by simp, by simp⟩

theorem Els.chg {w w' : World} {base : Nat} {v : Value} {xs : List El} {gs : List Nat} (h : Els w base v xs) (hb : Chg gs w w') (hg : ∀ g ∈ gs, g < base) : Els w' base v xs := by
  refine ⟨hb.owns h.own (fun g e hm => ?_), fun x hx => (h.seen x hx).chg hb (fun b o e hm => ?_), fun x hx b o e => ?_, h.wf⟩
  · have := (World.ownsRow.lt h.own g e).1
    have := hg g hm
    omega
  · have := (h.off x hx b o e).1
    have := hg b hm
    omega
  · obtain ⟨h1, h2, h3⟩ := h.off x hx b o e
    exact ⟨h1, Nat.lt_of_lt_of_le h2 hb.size, h3⟩

theorem Els.push {w w' : World} {base g' c' : Nat} {v : Value} {xs : List El} {x : El} (h : Els w base v xs) (hg : w.grownBy w' v.ownBlock) (ho : w'.ownsRow base 32 8 (.slice (some ⟨g', 0, none⟩) (xs.length + 1) c') (xs.length + 1) (evals (xs ++ [x])))
    (hat : v.ownBlock = some g' ∨ w.heap.size ≤ g') (hs : SeenAt w x.loc x.cap x.p.frag) (hf : ∀ b o, x.loc = some ⟨b, o, none⟩ → base ≤ b ∧ b < w.heap.size ∧ ∀ g, v.ownBlock = some g → b ≠ g) (hw : x.p.Wf) :
    Els w' base (.slice (some ⟨g', 0, none⟩) (xs.length + 1) c') (xs ++ [x]) := by
  have each : ∀ y : El, SeenAt w y.loc y.cap y.p.frag → (∀ b o, y.loc = some ⟨b, o, none⟩ → base ≤ b ∧ b < w.heap.size ∧ ∀ g, v.ownBlock = some g → b ≠ g) →
      SeenAt w' y.loc y.cap y.p.frag ∧ ∀ b o, y.loc = some ⟨b, o, none⟩ → base ≤ b ∧ b < w'.heap.size ∧ ∀ g, Value.ownBlock (.slice (some ⟨g', 0, none⟩) (xs.length + 1) c') = some g → b ≠ g := by
    intro y hy hyf
    refine ⟨?_, fun b o e => ?_⟩
    · cases hv : v.ownBlock with
      | none => rw [hv] at hg; exact hy.below (below_grow hg)
      | some g =>
        rw [hv] at hg
        refine hy.chg (Chg.of_grown hg) (fun b o e hm => ?_)
        have : b = g := by simpa using hm
        exact (hyf b o e).2.2 g hv this
    · obtain ⟨h1, h2, h3⟩ := hyf b o e
      refine ⟨h1, Nat.lt_of_lt_of_le h2 hg.size, fun g e' => ?_⟩
      have : g' = g := by simpa [Value.ownBlock] using e'
      subst this
      rcases hat with hat | hat
      · exact h3 g' hat
      · omega
  refine ⟨by rw [List.length_append]; exact ho, fun y hy => ?_, fun y hy => ?_, fun y hy => ?_⟩
  · rcases List.mem_append.mp hy with hy | hy
    · exact (each y (h.seen y hy) (h.off y hy)).1
    · rw [List.mem_singleton.mp hy]; exact (each x hs hf).1
  · rcases List.mem_append.mp hy with hy | hy
    · exact (each y (h.seen y hy) (h.off y hy)).2
    · rw [List.mem_singleton.mp hy]; exact (each x hs hf).2
  · rcases List.mem_append.mp hy with hy | hy
    · exact h.wf y hy
    · rw [List.mem_singleton.mp hy]; exact hw

theorem Els.at_ {w : World} {base n c : Nat} {a : Option Addr} {xs : List El} (h : Els w base (.slice a n c) xs) : xs.length = n ∧ EnsAt w a c (xs.map (·.p)) := by
  have hx := h.own
  rcases hx.2 with ⟨hv, h0⟩ | ⟨g, cap', cur, hv, _, hg, hnc, hcm, _⟩
  · have e0 : xs = [] := List.length_eq_zero_iff.mp h0
    subst e0
    cases hv
    exact ⟨rfl, EnsAt.nil (Nat.zero_le _)⟩
  · cases hv
    refine ⟨rfl, ⟨by simpa using hnc, hcm, fun i hi => ?_, fun e he => ?_⟩⟩
    · have hi' : i < xs.length := by simpa using hi
      have e : (xs.map (·.p)).getD i pe0 = (xs.getD i el0).p := by
        rw [List.getD_eq_getElem?_getD, List.getD_eq_getElem?_getD, List.getElem?_map, List.getElem?_eq_getElem hi']; rfl
      rw [e]
      have hc : ∀ k, k < 8 → w.cell? ⟨g, 0 + i * 8 + k, none⟩ = (ecells (xs.getD i el0))[k]? := fun k hk => by
        rw [Nat.zero_add, World.ownsRow.cellAt h.own (i * 8 + k) (by omega), evals_at xs i k hi' hk]
      exact ⟨g, 0, (xs.getD i el0).loc, (xs.getD i el0).cap, rfl, hc 0 (by omega), hc 1 (by omega), hc 2 (by omega), hc 3 (by omega), hc 4 (by omega), hc 5 (by omega), hc 6 (by omega), hc 7 (by omega), h.seen _ (getD_mem xs i el0 hi')⟩
    · obtain ⟨x, hx', rfl⟩ := List.mem_map.mp he
      exact h.wf x hx'

/-- A row of entries, it and their bytes in blocks from lo up to hi. -/
def RowE (w : World) (lo hi : Nat) (a : Option Addr) (c : Nat) (es : List Pe) : Prop :=
  ∃ xs : List El, xs.map (·.p) = es ∧ Els w lo (.slice a xs.length c) xs ∧ (∀ x ∈ xs, ∀ b o, x.loc = some ⟨b, o, none⟩ → b < hi) ∧ ∀ g, Value.ownBlock (.slice a xs.length c) = some g → g < hi

theorem RowE.ens {w : World} {lo hi : Nat} {a : Option Addr} {c : Nat} {es : List Pe} (h : RowE w lo hi a c es) : EnsAt w a c es := by
  obtain ⟨xs, rfl, hE, _⟩ := h
  exact hE.at_.2

theorem RowE.chg {w w' : World} {lo hi : Nat} {a : Option Addr} {c : Nat} {es : List Pe} {gs : List Nat} (h : RowE w lo hi a c es) (hb : Chg gs w w') (hg : ∀ g ∈ gs, g < lo ∨ hi ≤ g) : RowE w' lo hi a c es := by
  obtain ⟨xs, rfl, hE, hf, ho⟩ := h
  refine ⟨xs, rfl, ⟨hb.owns hE.own (fun g e hm => ?_), fun x hx => (hE.seen x hx).chg hb (fun b o e hm => ?_), fun x hx b o e => ?_, hE.wf⟩, hf, ho⟩
  · have h1 := (World.ownsRow.lt hE.own g e).1
    have h2 := ho g e
    have := hg g hm
    omega
  · have h1 := (hE.off x hx b o e).1
    have h2 := hf x hx b o e
    have := hg b hm
    omega
  · obtain ⟨h1, h2, h3⟩ := hE.off x hx b o e
    exact ⟨h1, Nat.lt_of_lt_of_le h2 hb.size, h3⟩

theorem RowE.wide {w : World} {lo hi hi' : Nat} {a : Option Addr} {c : Nat} {es : List Pe} (h : RowE w lo hi a c es) (hh : hi ≤ hi') : RowE w lo hi' a c es := by
  obtain ⟨xs, e, hE, hf, ho⟩ := h
  exact ⟨xs, e, hE, fun x hx b o e => Nat.lt_of_lt_of_le (hf x hx b o e) hh, fun g e => Nat.lt_of_lt_of_le (ho g e) hh⟩

/-- append(list, e), e laid in a block of its own. -/
theorem wpList_appE {ops : Array Oper} {rest : List Oper} {o : Oper} {a : Act} {Q : Exit → Act → World → Prop} {w : World} (hgd : o.guard = none) (s x : Operand)
    (ho : o.op = .call { callee := .builtin .append, args := #[s, x], argTypes := #[36, 36] })
    (base : Nat) (v : Value) (xs : List El) (n : Nat) (hn : xs.length = n) (hs : a.eval s = v) (hown : Els w base v xs) (y : El)
    (B xc : Nat) (hx : a.eval x = .slice (some ⟨B, 0, none⟩) 1 xc) (hc : ∀ k u, (ecells y)[k]? = some u → w.cell? ⟨B, k, none⟩ = some u) (hb : n ≤ 1000000) (hbase : base ≤ w.heap.size)
    (hsy : SeenAt w y.loc y.cap y.p.frag) (hfy : ∀ b o, y.loc = some ⟨b, o, none⟩ → base ≤ b ∧ b < w.heap.size ∧ ∀ g, v.ownBlock = some g → b ≠ g) (hwy : y.p.Wf)
    (h : ∀ g' cap' w', Els w' base (.slice (some ⟨g', 0, none⟩) (n + 1) cap') (xs ++ [y]) → w.grownBy w' v.ownBlock → wpList Try.prog ops Q rest (a.put o.dst (.slice (some ⟨g', 0, none⟩) (n + 1) cap')) w') :
    wpList Try.prog ops Q (o :: rest) a w := by
  obtain ⟨i, hi, hz, hsz, hby⟩ := info_parts infoE
  subst hn
  refine wpList_append_lies w hgd s x 36 ho base 32 i _ 8 88 Try.underlying36 hi hz hsz hby rfl (by omega) v _ _ hs hown.own ⟨B, 0, none⟩ 1 xc (ecells y) hx rfl
    (fun j u hj => ?_) (by simp [ecells, Value.oneCell']) (by omega) (by unfold maxLen; omega) (by omega) hbase w.heap.size rfl ?_
  · have := hc j u hj
    rw [Go.WideShapes.add_plain, Nat.zero_add]
    exact this
  · intro g' cap' w' hown' hg hat hlt
    refine h g' cap' w' (hown.push hg ?_ ?_ hsy hfy hwy) hg
    · rw [evals_app]
      show World.ownsRow _ _ _ _ _ _ (evals xs ++ (ecells y ++ []))
      rw [List.append_nil]
      exact hown'
    · rcases hat with hat | hat
      · exact .inl hat
      · exact .inr (by omega)

/-- Entries read by the Reader at R, in new memory. -/
def RLe (H : Nat) (w : World) (R : Nat) (es : List Pe) (s : Pk.St) (e : Ending) (w' : World) : Prop :=
  ∃ a c, e = .returned (.slice a es.length c) ∧ (∀ gs w2, Chg gs w' w2 → (∀ g ∈ gs, g < w.heap.size) → EnsAt w2 a c es) ∧ RdrH H w' R s ∧ Chg [R] w w'

/-- The same, as a row of the call's own. -/
def RLeO (H : Nat) (w : World) (R : Nat) (es : List Pe) (s : Pk.St) (e : Ending) (w' : World) : Prop :=
  ∃ a c, e = .returned (.slice a es.length c) ∧ RowE w' w.heap.size w'.heap.size a c es ∧ RdrH H w' R s ∧ Chg [R] w w'

theorem RLeO.weak {H : Nat} {w w' : World} {R : Nat} {es : List Pe} {s : Pk.St} {e : Ending} (h : RLeO H w R es s e w') : RLe H w R es s e w' := by
  obtain ⟨a, c, h1, h2, h3, h4⟩ := h
  exact ⟨a, c, h1, fun gs w2 hb hg => (h2.chg hb fun g hm => .inl (hg g hm)).ens, h3, h4⟩

end Go.Proofs.Ytdgpbdedaafdiaa
