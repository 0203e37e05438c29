/-
  Layer 6 in plain numbers: a shard's width, the shards of a blob, the bytes of shards put together.
  Layer 6: blob.Width and the reference's Width.
  Layer 6: what is behind the beginning of a slice; copy into a part of a row; blob.split, blob.joined.
  Layer 6: blob.checksum, blob.Encode, blob.Decode; the reference's Shards.
-/
import Derived.Test.YtjefjlalebpodaaWalksS1
import Derived.Test.YtjefjlalebpodaaFrs
import Derived.Test.YtjefjlalebpodaaWalksS5
import Derived.Test.YtjefjlalebpodaaWalksU1
namespace Go.Proofs.Ytjefjlalebpodaa

/-- How many bytes a shard has. -/
def wd (s k : Nat) : Nat := s / k + (if s % k = 0 then 0 else 1)

theorem wd_ge (s k : Nat) (hk : 1 ≤ k) : s ≤ k * wd s k := by
  have h := Nat.div_add_mod s k
  have hm := Nat.mod_lt s (show k > 0 by omega)
  unfold wd
  split
  · rw [Nat.mul_add]; omega
  · rw [Nat.mul_add]; omega

theorem wd_lt (s k : Nat) (hk : 1 ≤ k) : k * wd s k < s + k := by
  have h := Nat.div_add_mod s k
  have hm := Nat.mod_lt s (show k > 0 by omega)
  unfold wd
  split
  · rw [Nat.mul_add]; omega
  · rw [Nat.mul_add]; omega

theorem wd_le (s k : Nat) (hk : 1 ≤ k) : wd s k ≤ s := by
  by_cases h0 : s = 0
  · subst h0; simp [wd]
  · have h := Nat.div_add_mod s k
    by_cases h1 : k = 1
    · subst h1; simp [wd, Nat.mod_one]
    · have : s / k < s := Nat.div_lt_self (by omega) (by omega)
      unfold wd
      split <;> omega

/-- Shard i, of v bytes. -/
def shd (ps : List Nat) (v i : Nat) : List Nat := (List.range v).map fun n => ps.getD (i * v + n) 0
theorem shd_len (ps : List Nat) (v i : Nat) : (shd ps v i).length = v := by simp [shd]
theorem shd_get (ps : List Nat) (v i j : Nat) (h : j < v) : (shd ps v i).getD j 0 = ps.getD (i * v + j) 0 := by simp [shd, h]
theorem shd_bytes (ps : List Nat) (v i : Nat) (h : Gf.Bytes ps) : Gf.Bytes (shd ps v i) := by
  intro c hc
  obtain ⟨n, _, rfl⟩ := List.mem_map.mp hc
  exact bytes_get ps _ h

/-- All shards. -/
def shds (ps : List Nat) (k : Nat) : List (List Nat) := (List.range k).map (shd ps (wd ps.length k))
theorem shds_len (ps : List Nat) (k : Nat) : (shds ps k).length = k := by simp [shds]
theorem shds_row (ps : List Nat) (k i : Nat) (h : i < k) : (shds ps k).getD i [] = shd ps (wd ps.length k) i := by simp [shds, h]
theorem shds_width (ps : List Nat) (k : Nat) (hk : 1 ≤ k) : ((shds ps k).getD 0 []).length = wd ps.length k := by rw [shds_row ps k 0 (by omega), shd_len]
theorem shds_ev (ps : List Nat) (k : Nat) : Ev (shds ps k) := by
  intro i hi
  rw [shds_len] at hi
  rw [shds_row ps k i hi, shds_row ps k 0 (by omega), shd_len, shd_len]
theorem shds_by (ps : List Nat) (k : Nat) (h : Gf.Bytes ps) : Mt.By (shds ps k) := by
  intro i
  by_cases hi : i < k
  · rw [shds_row ps k i hi]; exact shd_bytes ps _ i h
  · rw [List.getD_eq_getElem?_getD, List.getElem?_eq_none (by rw [shds_len]; omega)]; exact bytes_nil

theorem getD_none {α : Type} (ps : List α) (d : α) (i : Nat) (h : ps.length ≤ i) : ps.getD i d = d := by
  rw [List.getD_eq_getElem?_getD, List.getElem?_eq_none h]; rfl
theorem getD_appL {α : Type} (a b : List α) (d : α) (i : Nat) (h : i < a.length) : (a ++ b).getD i d = a.getD i d := by
  rw [List.getD_eq_getElem?_getD, List.getElem?_append_left h, ← List.getD_eq_getElem?_getD]
theorem getD_appR {α : Type} (a b : List α) (d : α) (i : Nat) (h : a.length ≤ i) : (a ++ b).getD i d = b.getD (i - a.length) d := by
  rw [List.getD_eq_getElem?_getD, List.getElem?_append_right h, ← List.getD_eq_getElem?_getD]
theorem getD_dropB {α : Type} (a : List α) (d : α) (n i : Nat) : (a.drop n).getD i d = a.getD (n + i) d := by
  rw [List.getD_eq_getElem?_getD, List.getElem?_drop, ← List.getD_eq_getElem?_getD]
theorem getD_takeB {α : Type} (a : List α) (d : α) (n i : Nat) (h : i < n) : (a.take n).getD i d = a.getD i d := by
  rw [List.getD_eq_getElem?_getD, List.getElem?_take_of_lt h, ← List.getD_eq_getElem?_getD]

/-- What copy makes of a row of zeros is the shard. -/
theorem shd_copy (ps : List Nat) (v i p n : Nat) (hp : p = min (i * v) ps.length) (hn : n = min (ps.length - p) v) :
    (ps.drop p).take n ++ (List.replicate v 0).drop n = shd ps v i := by
  have hl1 : ((ps.drop p).take n).length = n := by rw [List.length_take, List.length_drop]; omega
  refine getD_congr _ _ 0 (by rw [List.length_append, hl1, List.length_drop, List.length_replicate, shd_len]; omega) fun j hj => ?_
  rw [List.length_append, hl1, List.length_drop, List.length_replicate] at hj
  rw [shd_get ps v i j (by omega)]
  by_cases h : j < n
  · rw [getD_appL _ _ _ _ (by omega), getD_takeB _ _ _ _ h, getD_dropB]
    have : p = i * v := by omega
    rw [this]
  · rw [getD_appR _ _ _ _ (by omega), getD_dropB, getD_none ps 0 (i * v + j) (by omega)]
    rw [List.getD_eq_getElem?_getD, List.getElem?_replicate]
    split <;> rfl

/-- The first s bytes of the rows, one behind the other; zeros where there are fewer. -/
def catP (s : Nat) (S : List (List Nat)) : List Nat := S.flatten.take s ++ List.replicate (s - S.flatten.length) 0
theorem catP_len (s : Nat) (S : List (List Nat)) : (catP s S).length = s := by
  unfold catP; rw [List.length_append, List.length_take, List.length_replicate]; omega

theorem flat_snoc (S : List (List Nat)) (j : Nat) (h : j < S.length) : (S.take (j + 1)).flatten = (S.take j).flatten ++ S.getD j [] := by
  rw [take_snoc S j [] h, List.flatten_append]
  simp

theorem catP_step (s : Nat) (S : List (List Nat)) (j c n : Nat) (h : j < S.length) (hc : c = min s (S.take j).flatten.length) (hn : n = min (S.getD j []).length (s - c)) :
    catP s (S.take (j + 1)) = (catP s (S.take j)).take c ++ ((S.getD j []).take n ++ (catP s (S.take j)).drop (c + n)) ∧ min s (S.take (j + 1)).flatten.length = c + n := by
  rw [flat_snoc S j h]
  unfold catP
  rw [flat_snoc S j h]
  generalize (S.take j).flatten = F at *
  generalize S.getD j [] = r at *
  refine ⟨?_, by rw [List.length_append]; omega⟩
  by_cases hF : s ≤ F.length
  · have e1 : c = s := by omega
    have e2 : n = 0 := by omega
    subst e1 e2
    rw [List.length_append, show c - (F.length + r.length) = 0 by omega, show c - F.length = 0 by omega]
    simp only [List.replicate_zero, List.append_nil, List.take_zero, List.nil_append, Nat.add_zero]
    rw [List.take_append_of_le_length hF, List.take_take, List.drop_take]
    simp
  · have e1 : c = F.length := by omega
    subst e1
    rw [List.length_append, List.take_of_length_le (show F.length ≤ s by omega), List.take_append, List.take_of_length_le (show F.length ≤ s by omega), List.take_left, List.append_assoc]
    congr 1
    have e3 : r.take (s - F.length) = r.take n := by
      by_cases h4 : r.length ≤ s - F.length
      · rw [List.take_of_length_le h4, List.take_of_length_le (by omega)]
      · rw [show n = s - F.length by omega]
    rw [e3]
    congr 1
    rw [List.drop_append, List.drop_eq_nil_of_le (by omega), List.nil_append, List.drop_replicate]
    congr 1
    omega

theorem catP_all (s : Nat) (S : List (List Nat)) (h : s ≤ S.flatten.length) : catP s S = S.flatten.take s := by
  unfold catP; rw [show s - S.flatten.length = 0 by omega]; simp

theorem flat_len (v : Nat) : ∀ S : List (List Nat), (∀ r ∈ S, r.length = v) → S.flatten.length = S.length * v
  | [], _ => by simp
  | r :: S, h => by
    have h1 := flat_len v S (fun x hx => h x (List.mem_cons_of_mem _ hx))
    have h2 := h r (List.mem_cons_self ..)
    rw [List.flatten_cons, List.length_append, h1, h2, List.length_cons, Nat.succ_mul]
    omega

/-- The byte at i * v + j of rows of v bytes. -/
theorem flat_get (v : Nat) : ∀ (S : List (List Nat)) (i j : Nat), (∀ r ∈ S, r.length = v) → i < S.length → j < v → S.flatten.getD (i * v + j) 0 = (S.getD i []).getD j 0
  | [], i, j, _, hi, _ => by simp at hi
  | r :: S, 0, j, h, _, hj => by
    have h2 := h r (List.mem_cons_self ..)
    rw [List.flatten_cons, Nat.zero_mul, Nat.zero_add, getD_appL _ _ _ _ (by omega)]
    rfl
  | r :: S, i + 1, j, h, hi, hj => by
    have h1 := flat_get v S i j (fun x hx => h x (List.mem_cons_of_mem _ hx)) (by simpa using hi) hj
    have h2 := h r (List.mem_cons_self ..)
    rw [List.flatten_cons, getD_appR _ _ _ _ (by rw [h2, Nat.succ_mul]; omega), h2, show (i + 1) * v + j - v = i * v + j by rw [Nat.succ_mul]; omega, h1]
    rfl

theorem row_mem {S : List (List Nat)} {k v : Nat} (hl : S.length = k) (h : ∀ i, i < k → (S.getD i []).length = v) : ∀ r ∈ S, r.length = v := by
  intro r hr
  obtain ⟨i, hi, e⟩ := List.mem_iff_getElem.mp hr
  have := h i (by omega)
  rw [List.getD_eq_getElem?_getD, List.getElem?_eq_getElem hi] at this
  rw [← e]
  exact this

theorem shds_rows (ps : List Nat) (k : Nat) : ∀ r ∈ shds ps k, r.length = wd ps.length k := row_mem (shds_len ps k) fun i hi => by rw [shds_row ps k i hi, shd_len]

theorem shds_flat_len (ps : List Nat) (k : Nat) : (shds ps k).flatten.length = k * wd ps.length k := by rw [flat_len _ _ (shds_rows ps k), shds_len]

/-- The shards put together are the blob, and zeros. -/
theorem shds_flat (ps : List Nat) (k : Nat) (hk : 1 ≤ k) : (shds ps k).flatten = ps ++ List.replicate (k * wd ps.length k - ps.length) 0 := by
  have hge := wd_ge ps.length k hk
  refine getD_congr _ _ 0 (by rw [shds_flat_len, List.length_append, List.length_replicate]; omega) fun x hx => ?_
  rw [shds_flat_len] at hx
  have hv : 0 < wd ps.length k := by
    rcases Nat.eq_zero_or_pos (wd ps.length k) with h | h
    · rw [h, Nat.mul_zero] at hx; omega
    · exact h
  have hi : x / wd ps.length k < k := by rw [Nat.div_lt_iff_lt_mul hv]; exact hx
  have hj := Nat.mod_lt x hv
  have hx2 : x / wd ps.length k * wd ps.length k + x % wd ps.length k = x := by rw [Nat.mul_comm]; exact Nat.div_add_mod _ _
  have h1 := flat_get (wd ps.length k) (shds ps k) (x / wd ps.length k) (x % wd ps.length k) (shds_rows ps k) (by rw [shds_len]; exact hi) hj
  rw [hx2, shds_row ps k _ hi, shd_get _ _ _ _ hj, hx2] at h1
  rw [h1]
  by_cases h : x < ps.length
  · rw [getD_appL _ _ _ _ h]
  · rw [getD_none _ _ _ (by omega), getD_appR _ _ _ _ (by omega), List.getD_eq_getElem?_getD, List.getElem?_replicate]
    split <;> rfl

theorem shds_cat (ps : List Nat) (k : Nat) (hk : 1 ≤ k) : catP ps.length (shds ps k) = ps := by
  have hge := wd_ge ps.length k hk
  rw [catP_all _ _ (by rw [shds_flat_len]; exact hge), shds_flat ps k hk, List.take_left]

end Go.Proofs.Ytjefjlalebpodaa

namespace Go.Proofs.Ytjefjlalebpodaa
open Go.RowKit



theorem width_no (s k : Int) (w : World) (h : s < 0 ∨ k < 1) :
    Calls Try.prog 29 #[.int .i64 s, .int .i64 k] w fun e w' => e = .returned (.int .i64 0) ∧ w = w' := by
  by_cases h0 : s < 0
  · have d0 : decide (s < 0) = true := decide_eq_true h0
    go_enter Try.func29, Try.ntmps29
    go_wp2
    go_ret
    exact ⟨rfl, rfl⟩
  · have d0 : decide (s < 0) = false := decide_eq_false h0
    have d1 : decide (k < 1) = true := decide_eq_true (by omega)
    go_enter Try.func29, Try.ntmps29
    go_wp2
    go_ret
    exact ⟨rfl, rfl⟩

theorem width_yes (s k : Nat) (w : World) (hk : 1 ≤ k) (hs : s ≤ 9223372036854775807) :
    Calls Try.prog 29 #[.int .i64 (s : Int), .int .i64 (k : Int)] w fun e w' => e = .returned (.int .i64 (wd s k : Int)) ∧ w = w' := by
  have d0 : decide ((s : Int) < 0) = false := decide_eq_false (by omega)
  have d1 : decide ((k : Int) < 1) = false := decide_eq_false (by omega)
  have d2 : ((k : Int) == 0) = false := by simp; omega
  have d3 : (k : Int) ≠ 0 := by omega
  have q0 : 0 ≤ (s : Int) / (k : Int) := Int.ediv_nonneg (by omega) (by omega)
  have q1 : (s : Int) / (k : Int) ≤ (s : Int) := Int.ediv_le_self _ (by omega)
  by_cases h0 : s % k = 0
  · have HE : Hid (wd s k = s / k) := by show _ = _; unfold wd; rw [if_pos h0]; omega
    go_enter Try.func29, Try.ntmps29
    go_wp2
    go_ret
    exact ⟨ret_i64 (by rw [HE.out]; simp), rfl⟩
  · have HE : Hid (wd s k = s / k + 1) := by show _ = _; unfold wd; rw [if_neg h0]
    have q2 : (s : Int) / (k : Int) ≤ 9223372036854775806 := by
      have h1 : k ≠ 1 := by rintro rfl; exact h0 (Nat.mod_one s)
      have h2 : 0 < s := by
        rcases Nat.eq_zero_or_pos s with h | h
        · rw [h] at h0; simp at h0
        · exact h
      have h3 : s / k < s := Nat.div_lt_self h2 (by omega)
      have h4 : (s : Int) / (k : Int) = ((s / k : Nat) : Int) := by simp
      omega
    go_enter Try.func29, Try.ntmps29
    go_wp2
    go_ret
    exact ⟨ret_i64 (by rw [HE.out]; simp), rfl⟩

theorem rwidth_no (s k : Int) (w : World) (h : s < 0 ∨ k < 1) :
    Calls Try.prog 30 #[.int .i64 s, .int .i64 k] w fun e w' => e = .returned (.int .i64 0) ∧ w = w' := by
  by_cases h0 : s < 0
  · have d0 : decide (s < 0) = true := decide_eq_true h0
    go_enter Try.func30, Try.ntmps30
    go_wp2
    go_ret
    exact ⟨rfl, rfl⟩
  · have d0 : decide (s < 0) = false := decide_eq_false h0
    have d1 : decide (k < 1) = true := decide_eq_true (by omega)
    go_enter Try.func30, Try.ntmps30
    go_wp2
    go_ret
    exact ⟨rfl, rfl⟩

theorem rwidth_yes (s k : Nat) (w : World) (hk : 1 ≤ k) (hs : s ≤ 9223372036854775807) :
    Calls Try.prog 30 #[.int .i64 (s : Int), .int .i64 (k : Int)] w fun e w' => e = .returned (.int .i64 (wd s k : Int)) ∧ w = w' := by
  have d0 : decide ((s : Int) < 0) = false := decide_eq_false (by omega)
  have d1 : decide ((k : Int) < 1) = false := decide_eq_false (by omega)
  have d2 : ((k : Int) == 0) = false := by simp; omega
  have d3 : (k : Int) ≠ 0 := by omega
  have q0 : 0 ≤ (s : Int) / (k : Int) := Int.ediv_nonneg (by omega) (by omega)
  have q1 : (s : Int) / (k : Int) ≤ (s : Int) := Int.ediv_le_self _ (by omega)
  by_cases h0 : s % k = 0
  · have HE : Hid (wd s k = s / k) := by show _ = _; unfold wd; rw [if_pos h0]; omega
    go_enter Try.func30, Try.ntmps30
    go_wp2
    go_ret
    exact ⟨ret_i64 (by rw [HE.out]; simp), rfl⟩
  · have HE : Hid (wd s k = s / k + 1) := by show _ = _; unfold wd; rw [if_neg h0]
    have q2 : (s : Int) / (k : Int) ≤ 9223372036854775806 := by
      have h1 : k ≠ 1 := by rintro rfl; exact h0 (Nat.mod_one s)
      have h2 : 0 < s := by
        rcases Nat.eq_zero_or_pos s with h | h
        · rw [h] at h0; simp at h0
        · exact h
      have h3 : s / k < s := Nat.div_lt_self h2 (by omega)
      have h4 : (s : Int) / (k : Int) = ((s / k : Nat) : Int) := by simp
      omega
    go_enter Try.func30, Try.ntmps30
    go_wp2
    go_ret
    exact ⟨ret_i64 (by rw [HE.out]; simp), rfl⟩

end Go.Proofs.Ytjefjlalebpodaa

namespace Go.Proofs.Ytjefjlalebpodaa
open Go.RowKit

/-- Where x[n:] begins. -/
def fromA (a : Option Addr) (c n : Nat) : Option Addr := if c = n then a else a.map (·.add n)

theorem slice_from (a : Option Addr) (l c n : Nat) (hn : n ≤ l) (w : World) : (Instr.slice 22 (.slice a l c) (some (.int .i64 (n : Int))) none none).run Try.prog w = .ok (.slice (fromA a c n) (l - n) (c - n)) w := by
  rw [run_slice_l w 22 a l c (by kernel_rfl) .i64 (n : Int) (by omega) (by omega)]
  have hs : (sizeOf (Try.prog.elem 22)).run Try.prog w = .ok 1 w := by kernel_rfl
  rw [hs]
  simp only [Result.andThen, sliced, fromA, Int.toNat_natCast, Nat.mul_one]

theorem slice_from' (a : Option Addr) (l c n : Nat) (hn : n ≤ l) (w : World) : (Instr.sliceAt 22 (.slice a l c) (some (.int .i64 (n : Int))) none none).run Try.prog w = .ok (.slice (fromA a c n) (l - n) (c - n)) w := by
  rw [run_sliceAt_slice w 22 _ _ _ _ (by kernel_rfl)]
  exact slice_from a l c n hn w

theorem SeenAt.from {w : World} {a : Option Addr} {c : Nat} {ps : List Nat} (h : SeenAt w a c ps) (n : Nat) (hn : n ≤ ps.length) : SeenAt w (fromA a c n) (c - n) (ps.drop n) where
  le := by have := h.le; rw [List.length_drop]; omega
  max := by have := h.max; omega
  byte c hc := h.byte c (List.mem_of_mem_drop hc)
  cell i hi := by
    rw [List.length_drop] at hi
    have hl := h.le
    obtain ⟨b, off, rfl, hc⟩ := h.cell (n + i) (by omega)
    unfold fromA
    rw [if_neg (by omega)]
    refine ⟨b, off + n, ?_, ?_⟩
    · simp [Go.WideShapes.add_plain]
    · rw [Nat.add_assoc, hc, getD_dropB]

theorem put_list {α : Type} (C xs q : List α) (L off n : Nat) (h : C.take L = xs) (hq : q.length = n) (hL : off + n ≤ L) (hC : L ≤ C.length) :
    (C.take off ++ (q ++ C.drop (off + n))).take L = xs.take off ++ (q ++ xs.drop (off + n)) := by
  subst h
  have e1 : (C.take off).length = off := by rw [List.length_take]; omega
  rw [List.take_append, e1, List.take_of_length_le (show (C.take off).length ≤ L by omega), List.take_append, hq, List.take_of_length_le (show q.length ≤ L - off by omega), List.take_take, List.drop_take]
  rw [show min off L = off by omega, show L - off - n = L - (off + n) by omega]

theorem take_cut (ps : List Nat) (off : Nat) : ps.take off ++ ([] ++ ps.drop off) = ps := by rw [List.nil_append, List.take_append_drop]

/-- copy(d, s), d a part of a row of the call's own. -/
theorem wpList_copyP {ops : Array Oper} {rest : List Oper} {o : Oper} {a : Act} {Q : Exit → Act → World → Prop} {w : World} (hgd : o.guard = none) (d s : Operand)
    (ho : o.op = .call { callee := .builtin .copy, args := #[d, s], argTypes := #[22, 22] })
    (base g cap : Nat) (ps qs : List Nat) (da : Option Addr) (off dl dc sl n : Nat) (hoff : 0 < dl → da = some ⟨g, off, none⟩) (hdl : off + dl ≤ ps.length) (hq : qs.length = sl) (hn : n = min sl dl)
    (hd : a.eval d = .slice da dl dc) (hown : OwnB w base g cap ps) (xa : Option Addr) (xc : Nat) (hx : a.eval s = .slice xa sl xc) (hs : SeenAt w xa xc qs)
    (h : ∀ w', OwnB w' base g cap (ps.take off ++ (qs.take n ++ ps.drop (off + n))) → Chg [g] w w' → wpList Try.prog ops Q rest (a.put o.dst (goInt n)) w') :
    wpList Try.prog ops Q (o :: rest) a w := by
  have hinf : (Try.prog.info? 5).map (·.size) = some 1 := by kernel_rfl
  by_cases h0 : n = 0
  · subst h0
    refine wpList_copy_nothing hgd d s _ _ ho 5 Try.underlying22 hinf da xa dl dc sl xc hd hx hn.symm ?_
    exact h w (by rw [List.take_zero, Nat.add_zero, take_cut]; exact hown) (Chg.refl _ _)
  · obtain rfl := hoff (by omega)
    obtain ⟨b, off', rfl, _⟩ := hs.cell 0 (by omega)
    rcases hown.own.2 with ⟨h', _⟩ | ⟨g', cap', cur, h', hbg, hg, hnc, hcm, hcs, htk⟩
    · cases h'
    cases h'
    have hsz : cur.size = cap := by simpa using hcs
    have hl : (vals (qs.take n)).length = n := by rw [vals_len, List.length_take]; omega
    have hlen : (ps.take off ++ (qs.take n ++ ps.drop (off + n))).length = ps.length := by
      rw [List.length_append, List.length_append, List.length_take, List.length_take, List.length_drop]; omega
    refine wpList_copy_own hgd d s _ _ ho 5 Try.underlying22 hinf g off dl dc ⟨b, off', none⟩ sl xc hd hx cur 5 hg (vals (qs.take n)) (by rw [hl]; exact hn)
      (fun j v hv => ?_) (by rw [hl]; omega) (vals_one _) ?_
    · have hj : j < n := by
        rcases Nat.lt_or_ge j n with hlt | hge
        · exact hlt
        · rw [List.getElem?_eq_none (by rw [hl]; exact hge)] at hv; cases hv
      obtain ⟨b', off'', e, hc⟩ := hs.cell j (by omega)
      cases e
      rw [vals_at _ j (by rw [vals_len] at hl; omega), getD_takeB _ _ _ _ hj] at hv
      rw [Go.WideShapes.add_plain, hc]
      exact hv
    · rw [hl]
      refine h _ ⟨⟨by rw [vals_len]; omega, .inr ⟨g, cap, _, by rw [hlen], hbg, setRow_heap w g cur _ _ _ hg, by rw [hlen]; exact hnc, hcm, ?_, ?_⟩⟩, ?_⟩ ⟨rfl, rfl, rfl, by simp [World.setRow], fun k _ hk => setRow_other w g k _ (by simpa using hk)⟩
      · simp only [List.size_toArray, List.length_append, List.length_take, List.length_drop, Array.length_toList, hl]
        omega
      · rw [hlen]
        have htk' : cur.toList.take ps.length = vals ps := by simpa using htk
        have := put_list cur.toList (vals ps) (vals (qs.take n)) ps.length off n htk' hl (by omega) (by have : cur.toList.length = cur.size := Array.length_toList; omega)
        rw [vals_app, vals_app, Nat.mul_one]
        refine this.trans ?_
        simp [vals, List.map_take, List.map_drop]
      · exact bytes_app (bytes_take _ _ hown.byte) (bytes_app (bytes_take _ _ hs.byte) (fun c hc => hown.byte c (List.mem_of_mem_drop hc)))

/-- While split makes shard after shard: the first i of n rows of v bytes are r. -/
structure Spl (w : World) (base G n v i : Nat) (g : Nat → Nat) (r : Nat → List Nat) : Prop where
  outer : w.ownsRow base 22 1 (.slice (some ⟨G, 0, none⟩) n n) n (zvals g v n i)
  row : ∀ j, j < i → OwnB w base (g j) v (r j)
  len : ∀ j, (r j).length = v
  inj : ∀ a b, a < i → b < i → g a = g b → a = b

theorem spl_start (w : World) (base n v : Nat) (r : Nat → List Nat) (hb : base ≤ w.heap.size) (hn : n ≤ maxLen) (hr : ∀ j, (r j).length = v) : Spl (w.alloc (.cells (madeCells #[.slice none 0 0] n) 22)) base w.heap.size n v 0 (fun _ => 0) r where
  outer := (zer_start w base n v hb hn).outer
  row j hj := by omega
  len := hr
  inj a b ha := by omega

/-- A new row of zeros is laid, and then filled. -/
theorem spl_step {w w2 : World} {base G n v i : Nat} {g : Nat → Nat} {r : Nat → List Nat} (h : Spl w base G n v i g r)
    (hc2 : Chg [w.heap.size] ((w.alloc (.cells (madeCells #[.int .u8 0] v) 5)).setCell ⟨G, i, none⟩ (.slice (some ⟨w.heap.size, 0, none⟩) v v)) w2) (ho : OwnB w2 base w.heap.size v (r i)) :
    Spl w2 base G n v (i + 1) (snoc i w.heap.size g) r ∧ Chg [G] w w2 := by
  have hG : base ≤ G ∧ G < w.heap.size := World.ownsRow.lt h.outer G rfl
  have hs := World.ownsRow.stored (World.ownsRow.alloc h.outer (.cells (madeCells #[.int .u8 0] v) 5)) i (.slice (some ⟨w.heap.size, 0, none⟩) v v)
  have hc : Chg [G] (w.alloc (.cells (madeCells #[.int .u8 0] v) 5)) ((w.alloc (.cells (madeCells #[.int .u8 0] v) 5)).setCell ⟨G, i, none⟩ (.slice (some ⟨w.heap.size, 0, none⟩) v v)) := Chg.of_grown hs.2
  have hcw := ((Chg.refl [G] w).alloc (.cells (madeCells #[.int .u8 0] v) 5)).trans hc
  refine ⟨⟨?_, ?_, h.len, ?_⟩, ⟨hc2.os.trans hcw.os, hc2.tape.trans hcw.tape, hc2.output.trans hcw.output, Nat.le_trans hcw.size hc2.size, fun k hk hn => ?_⟩⟩
  · rw [← zvals_set]
    refine hc2.owns hs.1 ?_
    rintro k ⟨⟩
    simp
    omega
  · intro j hj
    by_cases e : j = i
    · subst e
      rw [snoc_at]
      exact ho
    · rw [snoc_lt _ _ _ _ (by omega)]
      have hr := h.row j (by omega)
      refine (((hr.chg (gs := []) ((Chg.refl _ _).alloc _) (by simp))).chg hc (by simp; exact owns_ne hr.own h.outer (by decide))).chg hc2 ?_
      have := hr.lt.2
      simp
      omega
  · intro a b ha hb' e
    have hlt : ∀ j, j < i → g j < w.heap.size := fun j hj => (h.row j hj).lt.2
    by_cases e1 : a = i
    · by_cases e2 : b = i
      · omega
      · rw [e1, snoc_at, snoc_lt _ _ _ _ (by omega)] at e; have := hlt b (by omega); omega
    · by_cases e2 : b = i
      · rw [e2, snoc_at, snoc_lt _ _ _ _ (by omega)] at e; have := hlt a (by omega); omega
      · rw [snoc_lt _ _ _ _ (by omega), snoc_lt _ _ _ _ (by omega)] at e
        exact h.inj a b (by omega) (by omega) e
  · exact (hc2.block k (Nat.lt_of_lt_of_le hk hcw.size) (by simp; omega)).trans (hcw.block k hk hn)

/-- What lies there when the row has been laid. -/
theorem spl_mid {w : World} {base G n v i : Nat} {g : Nat → Nat} {r : Nat → List Nat} (h : Spl w base G n v i g r) (hi : i < n) (hb : base ≤ w.heap.size) (hv : v ≤ maxLen) (w1 : World)
    (e : (w.alloc (.cells (madeCells #[.int .u8 0] v) 5)).setCell ⟨G, i, none⟩ (.slice (some ⟨w.heap.size, 0, none⟩) v v) = w1) :
    w1.cell? ⟨G, i, none⟩ = some (.slice (some ⟨w.heap.size, 0, none⟩) v v) ∧ OwnB w1 base w.heap.size v (List.replicate v 0) ∧ Chg [G] w w1 := by
  have hG : base ≤ G ∧ G < w.heap.size := World.ownsRow.lt h.outer G rfl
  have hs := World.ownsRow.stored (World.ownsRow.alloc h.outer (.cells (madeCells #[.int .u8 0] v) 5)) i (.slice (some ⟨w.heap.size, 0, none⟩) v v)
  have hc : Chg [G] (w.alloc (.cells (madeCells #[.int .u8 0] v) 5)) ((w.alloc (.cells (madeCells #[.int .u8 0] v) 5)).setCell ⟨G, i, none⟩ (.slice (some ⟨w.heap.size, 0, none⟩) v v)) := Chg.of_grown hs.2
  subst e
  refine ⟨?_, (ownB_made w base v hb hv).chg hc (by simp; omega), ((Chg.refl _ _).alloc _).trans hc⟩
  rw [World.ownsRow.cellAt hs.1 i (by omega)]
  rw [List.getElem?_set_self (by simp [zvals]; omega)]

theorem spl_end {w : World} {base G n v : Nat} {g : Nat → Nat} {r : Nat → List Nat} (h : Spl w base G n v n g r) : OwnM w base G n g (fun _ => v) ((List.range n).map r) where
  outer := by
    have e : rvals g (fun _ => v) ((List.range n).map r) = zvals g v n n := by
      unfold rvals zvals
      rw [List.length_map, List.length_range]
      apply List.map_congr_left
      intro j hj
      have hj' : j < n := by simpa using hj
      rw [if_pos hj']
      simp [hj', h.len]
    rw [e, List.length_map, List.length_range]
    exact h.outer
  row i hi := by
    rw [List.length_map, List.length_range] at hi
    have e : ((List.range n).map r).getD i [] = r i := by simp [hi]
    rw [e]
    exact h.row i hi
  inj a b ha hb := by rw [List.length_map, List.length_range] at ha hb; exact h.inj a b ha hb

theorem next_cut {j v l p n : Nat} (hp : p = min (j * v) l) (hn : n = min (l - p) v) : p + n = min ((j + 1) * v) l := by
  rw [Nat.succ_mul]; omega

set_option maxRecDepth 100000 in
set_option maxHeartbeats 2000000 in
theorem split_any (a : Option Addr) (cap l k : Nat) (ps : List Nat) (w : World) (hl : ps.length = l) (h : SeenAt w a cap ps) (hk : 1 ≤ k) (hk2 : k ≤ 1000000) (hl2 : l ≤ 1000000) :
    Calls Try.prog 43 #[.int .i64 (k : Int), .slice a l cap] w (RetM w k (shds ps k)) := by
  have HWD := Lib.hid (fun w => width_yes l k w hk (by omega))
  have hvl := wd_le l k hk
  have HSH : Hid (shds ps k = (List.range k).map (shd ps (wd l k))) := by show _ = _; rw [← hl]; rfl
  generalize wd l k = v at *
  have hmk := run_make_row' (P := Try.prog) 30 22 (.slice none 0 0) 24 Try.underlying30 infoR rfl .i64 .i64 k (by omega) (by omega)
  have hmk' := run_make_row' (P := Try.prog) 22 5 (.int .u8 0) 1 Try.underlying22 infoB rfl .i64 .i64 v (by omega) (by omega)
  have HS := Lib.hid h
  have HL := Lib.hid hl
  clear h hl
  go_enter Try.func43, Try.ntmps43
  go_wp2_with fail
  refine (HWD.out _).mono ?_
  rintro e w' ⟨rfl, rfl⟩
  go_wp2
  go_loopw [1, 7, 16] (fun d _ i ws => ∃ (j p q c : Nat) (x : Option Addr) (g : Nat → Nat), j ≤ k ∧ i = .int .i64 j ∧ d = .slice x q c ∧ q + p ≤ l ∧ l ≤ q + p ∧ Hid (p = min (j * v) l) ∧ Hid (SeenAt w x c (ps.drop p)) ∧ Hid (Spl ws w.heap.size w.heap.size k v j g (shd ps v)) ∧ Hid (Below w.heap.size w ws)) (fun _ _ i _ => k - (intOf i).toNat)
  case atStart => exact ⟨0, 0, l, cap, a, _, Nat.zero_le _, rfl, rfl, by omega, by omega, by show _ = _; simp, HS, spl_start w _ k v _ (Nat.le_refl _) (by unfold maxLen; omega) (shd_len ps v), below_one _ _⟩
  case round =>
    obtain ⟨j, p, q, c, x, g, hj, rfl, rfl, hq1, hq2, hp, hS, hZ, hb⟩ := hrel
    have hbz := hb.out.size
    by_cases hlt : j < k
    · obtain ⟨u, hcv⟩ : ∃ u, wr.cell? ⟨w.heap.size, j, none⟩ = some u := by
        rw [World.ownsRow.cellAt hZ.out.outer j (by omega)]
        exact ⟨_, List.getElem?_eq_getElem (by simp [zvals]; omega)⟩
      obtain ⟨hca, hfa⟩ := after_alloc hcv (World.ownsRow.frozenAt hZ.out.outer j)
      clear hcv
      have j0 : (0 : Int) ≤ (j : Int) := by omega
      have j1 : (j : Int) < (k : Int) := by omega
      go_upto_region 7 with fail
      clear hca hfa
      obtain ⟨w1, hw1⟩ : ∃ w1, (wr.alloc (.cells (madeCells #[.int .u8 0] v) 5)).setCell ⟨w.heap.size, j, none⟩ (.slice (some ⟨wr.heap.size, 0, none⟩) v v) = w1 := ⟨_, rfl⟩
      obtain ⟨hc1, ho1, hg1⟩ := spl_mid hZ.out hlt hbz (by unfold maxLen; omega) w1 hw1
      have HST := Lib.hid (fun (w2 : World) hc2 ho2 => spl_step (w2 := w2) hZ.out hc2 ho2)
      rw [hw1] at HST
      rw [hw1]
      have HB1 := Lib.hid (hg1.below hb.out hbz (by simp))
      have HS1 := Lib.hid (hS.out.below HB1.out)
      have HDL : Hid ((ps.drop p).length = q) := by show _ = _; rw [List.length_drop, HL.out]; omega
      have HO1 := Lib.hid ho1
      obtain ⟨n, hn⟩ : ∃ n, n = min q v := ⟨_, rfl⟩
      have hnq : n ≤ q := by omega
      have hsl := slice_from x q c n hnq
      have hsl' := slice_from' x q c n hnq
      have HFR := Lib.hid (hS.out.from n (by rw [HDL.out]; exact hnq))
      have HNP : Hid (p + n = min ((j + 1) * v) l) := next_cut hp.out (by omega)
      have HRW : Hid ((List.replicate v 0).take 0 ++ ((ps.drop p).take n ++ (List.replicate v 0).drop (0 + n)) = shd ps v j) := by
        show _ = _
        rw [List.take_zero, List.nil_append, Nat.zero_add]
        exact shd_copy ps v j p n (by rw [HL.out]; exact hp.out) (by rw [HL.out]; omega)
      have HN := Lib.hid hn
      clear ho1 hg1 hn hw1
      go_wp2_with (with_reducible refine wpList_copyP rfl (.tmp 28) (.tmp 29) rfl w.heap.size wr.heap.size v (List.replicate v 0) (ps.drop p) (some ⟨wr.heap.size, 0, none⟩) 0 v v q n (fun _ => rfl) (by simp) HDL.out HN.out rfl HO1.out _ _ rfl HS1.out ?_; intro w2 hO2 hC2)
      rw [HRW.out] at hO2
      obtain ⟨hz2, hg2⟩ := HST.out w2 hC2 hO2
      go_round
      case rel =>
        refine ⟨j + 1, p + n, q - n, c - n, fromA x c n, _, by omega, by go_num, rfl, by omega, by omega, HNP, ?_, hz2, hg2.below hb.out hbz (by simp)⟩
        show SeenAt _ _ _ _
        rw [← List.drop_drop]
        exact HFR.out
      case measure => simp [intOf]; omega
    · obtain rfl : j = k := by omega
      go_wp2
      go_ret
      refine ⟨by rw [shds_len], _, _, g, fun _ => v, rfl, ?_, hb.out⟩
      rw [HSH.out]
      exact spl_end hZ.out

/-- Bytes of the call's own are handed back. -/
def RetW (w : World) (s : Nat) (ps : List Nat) (e : Ending) (w' : World) : Prop :=
  ∃ g, e = .returned (.slice (some ⟨g, 0, none⟩) s s) ∧ OwnB w' w.heap.size g s ps ∧ Below w.heap.size w w'

set_option maxRecDepth 100000 in
set_option maxHeartbeats 2000000 in
theorem joined_any (va : Option Addr) (vc s k : Nat) (S : List (List Nat)) (w : World) (hG : GridAt w va vc S) (hl : S.length = k) (hk : k ≤ 1000000) (hs : s ≤ 1000000) :
    Calls Try.prog 46 #[.int .i64 (s : Int), .slice va k vc] w (RetW w s (catP s S)) := by
  have hmk' := run_make_row' (P := Try.prog) 22 5 (.int .u8 0) 1 Try.underlying22 infoB rfl .i64 .i64 s (by omega) (by omega)
  have HG := Lib.hid hG
  have HL := Lib.hid hl
  clear hG hl
  go_enter Try.func46, Try.ntmps46
  go_wp2
  go_loopw [6, 8, 14] (fun d _ i ws => ∃ (j c q : Nat) (x : Option Addr), j ≤ k ∧ i = .int .i64 j ∧ d = .slice x q q ∧ c + q ≤ s ∧ s ≤ c + q ∧ Hid (c = min s (S.take j).flatten.length) ∧ Hid (0 < q → x = some ⟨w.heap.size, c, none⟩) ∧ Hid (OwnB ws w.heap.size w.heap.size s (catP s (S.take j))) ∧ Hid (Below w.heap.size w ws)) (fun _ _ i _ => k - (intOf i).toNat)
  case atStart =>
    refine ⟨0, 0, s, some ⟨w.heap.size, 0, none⟩, Nat.zero_le _, rfl, rfl, by omega, by omega, by show _ = _; simp, fun _ => rfl, ?_, below_one _ _⟩
    show OwnB _ _ _ _ _
    have e : catP s (S.take 0) = List.replicate s 0 := by simp [catP]
    rw [e]
    exact ownB_made w _ s (Nat.le_refl _) (by unfold maxLen; omega)
  case round =>
    obtain ⟨j, c, q, x, hj, rfl, rfl, hq1, hq2, hc, hx, hO, hb⟩ := hrel
    have hbz := hb.out.size
    by_cases hlt : j < k
    · obtain ⟨b', off', ra, rc, e, hcj0, hSj0⟩ := HG.out.at j (by rw [HL.out]; exact hlt)
      subst e
      have hcj := cell_later hb.out hcj0
      have HSJ := Lib.hid (hSj0.below hb.out)
      have hrm := Nat.le_trans hSj0.le hSj0.max
      unfold maxLen at hrm
      have j0 : (0 : Int) ≤ (j : Int) := by omega
      have j1 : (j : Int) < (k : Int) := by omega
      clear hcj0 hSj0
      obtain ⟨n, hn⟩ : ∃ n, n = min (S.getD j []).length q := ⟨_, rfl⟩
      obtain ⟨hst, hmn⟩ := catP_step s S j c n (by rw [HL.out]; exact hlt) hc.out (by rw [hn]; omega)
      have HCS := Lib.hid hst
      have HMN := Lib.hid hmn
      have HCL := Lib.hid (catP_len s (S.take j))
      clear hst hmn
      generalize hrl : (S.getD j []).length = rl at *
      have HRL := Lib.hid hrl
      have hnq : n ≤ q := by omega
      have hsl := slice_from x q q n hnq
      have hsl' := slice_from' x q q n hnq
      have HFX : Hid (0 < q - n → fromA x q n = some ⟨w.heap.size, c + n, none⟩) := fun h => by
        rw [hx.out (by omega)]
        unfold fromA
        rw [if_neg (by omega)]
        simp [Go.WideShapes.add_plain]
      have HN := Lib.hid hn
      clear hn hrl
      go_wp2_with (with_reducible refine wpList_copyP rfl (.tmp 19) (.tmp 20) rfl w.heap.size w.heap.size s (catP s (S.take j)) (S.getD j []) x c q q rl n hx.out (by rw [HCL.out]; omega) HRL.out HN.out rfl hO.out _ _ rfl HSJ.out ?_; intro w2 hO2 hC2)
      rw [← HCS.out] at hO2
      go_round
      case rel => exact ⟨j + 1, c + n, q - n, fromA x q n, by omega, by go_num, rfl, by omega, by omega, HMN.out.symm, HFX.out, hO2, hC2.below hb.out hbz (by simp)⟩
      case measure => simp [intOf]; omega
    · obtain rfl : j = k := by omega
      have HT : Hid (S.take j = S) := List.take_of_length_le (by rw [HL.out]; exact Nat.le_refl _)
      rw [HT.out] at hO
      go_wp2
      go_ret
      exact ⟨_, rfl, hO.out, hb.out⟩

end Go.Proofs.Ytjefjlalebpodaa

namespace Go.Proofs.Ytjefjlalebpodaa
open Go.RowKit

theorem checksum_any (a : Option Addr) (cap l : Nat) (ps : List Nat) (w : World) (hl : ps.length = l) (h : SeenAt w a cap ps) :
    Calls Try.prog 47 #[.slice a l cap] w fun e w' => e = .returned (.int .u32 ((Crc.sum ps : Nat) : Int)) ∧ w = w' := by
  have HO := Lib.hid (of_any a cap l ps w hl h)
  clear hl h
  go_enter Try.func47, Try.ntmps47
  go_wp2_with fail
  refine HO.out.mono ?_
  rintro e w' ⟨rfl, rfl⟩
  go_wp2
  go_ret
  exact ⟨rfl, rfl⟩

theorem encB_large (k m : Int) (a : Option Addr) (cap l : Nat) (w : World) (hl : 256 < l) :
    Calls Try.prog 24 #[.int .i64 k, .int .i64 m, .slice a l cap] w fun e w' => e = .returned (.tuple #[.slice none 0 0, .int .i64 9]) ∧ w = w' := by
  have d : decide (256 < (l : Int)) = true := decide_eq_true (by omega)
  have d' : decide (256 < l) = true := decide_eq_true (by omega)
  go_enter Try.func24, Try.ntmps24
  go_wp2
  go_ret2
  exact ⟨rfl, rfl⟩

theorem encB_no (k m : Int) (a : Option Addr) (cap l : Nat) (ps : List Nat) (w : World) (hp : ps.length = l) (hs : SeenAt w a cap ps) (hl : l ≤ 256) (h : ¬ May k m) :
    Calls Try.prog 24 #[.int .i64 k, .int .i64 m, .slice a l cap] w fun e w' => e = .returned (.tuple #[.slice none 0 0, .int .i64 3]) ∧ Below w.heap.size w w' := by
  have d : decide (256 < (l : Int)) = false := decide_eq_false (by omega)
  have d' : decide (256 < l) = false := decide_eq_false (by omega)
  by_cases h0 : k < 1
  · have d0 : decide (k < 1) = true := decide_eq_true h0
    go_enter Try.func24, Try.ntmps24
    go_wp2
    go_ret2
    exact ⟨rfl, Below.refl _ _⟩
  · have d0 : decide (k < 1) = false := decide_eq_false h0
    by_cases h1 : 255 < k
    · have d1 : decide (255 < k) = true := decide_eq_true h1
      go_enter Try.func24, Try.ntmps24
      go_wp2
      go_ret2
      exact ⟨rfl, Below.refl _ _⟩
    · have d1 : decide (255 < k) = false := decide_eq_false h1
      obtain ⟨K, rfl⟩ : ∃ K : Nat, k = (K : Int) := ⟨k.toNat, by omega⟩
      have d1' : decide (255 < K) = false := decide_eq_false (by omega)
      have d0' : decide (K < 1) = false := decide_eq_false (by omega)
      have HSP := Lib.hid (split_any a cap l K ps w hp hs (by omega) (by omega) (by omega))
      have HEN := Lib.hid (fun va vc w => enc_no m va vc K w (by omega) h)
      clear hp hs h
      go_enter Try.func24, Try.ntmps24
      go_wp2_with fail
      refine HSP.out.mono ?_
      rintro e w1 ⟨_, G, C, g, c, rfl, hO, hb⟩
      clear hO
      go_wp2_with fail
      refine (HEN.out _ _ _).mono ?_
      rintro e w' ⟨rfl, rfl⟩
      go_wp2
      go_ret2
      exact ⟨rfl, hb⟩

theorem encB_any (k m n : Nat) (a : Option Addr) (cap l : Nat) (ps : List Nat) (w : World) (hp : ps.length = l) (hs : SeenAt w a cap ps) (hl : l ≤ 256) (hk : 1 ≤ k) (hn : k + m = n) (hn2 : n ≤ 255) :
    Calls Try.prog 24 #[.int .i64 (k : Int), .int .i64 (m : Int), .slice a l cap] w (RetT w n (frags (shds ps k) n)) := by
  have d : decide (256 < (l : Int)) = false := decide_eq_false (by omega)
  have d' : decide (256 < l) = false := decide_eq_false (by omega)
  have d0 : decide ((k : Int) < 1) = false := decide_eq_false (by omega)
  have d0' : decide (k < 1) = false := decide_eq_false (by omega)
  have d1 : decide (255 < (k : Int)) = false := decide_eq_false (by omega)
  have d1' : decide (255 < k) = false := decide_eq_false (by omega)
  have HSP := Lib.hid (split_any a cap l k ps w hp hs hk (by omega) (by omega))
  have HEN := Lib.hid (fun va vc w => fun h => enc_any m va vc k n (shds ps k) w h (shds_len ps k) hk hn hn2 (by rw [shds_width ps k hk, hp]; have := wd_le l k hk; omega))
  clear hp hs hn
  go_enter Try.func24, Try.ntmps24
  go_wp2_with fail
  refine HSP.out.mono ?_
  rintro e w1 ⟨_, G, C, g, c, rfl, hO, hb⟩
  have HO := Lib.hid hO.gridAt
  have HB := Lib.hid hb
  clear hO hb
  go_wp2_with fail
  refine (HEN.out _ _ _ HO.out).mono ?_
  rintro e w2 (⟨hne, _⟩ | ⟨_, hfl, aF, cF, rfl, hF, hb2⟩)
  · exact absurd (shds_ev ps k) hne
  have HF := Lib.hid hF
  have HFL := Lib.hid hfl
  have HB2 := Lib.hid (HB.out.trans (hb2.mono HB.out.size))
  clear hF hfl hb2
  go_wp2
  go_ret2
  exact ⟨HFL.out, _, _, rfl, HF.out, HB2.out⟩

theorem decB_large (k m : Int) (s : Int) (z : Int) (v : Value) (w : World) (h : s < 0 ∨ 256 < s) :
    Calls Try.prog 31 #[.int .i64 k, .int .i64 m, .int .i64 s, .int .u32 z, v] w fun e w' => e = .returned (.tuple #[.slice none 0 0, .int .i64 9]) ∧ w = w' := by
  by_cases h0 : s < 0
  · have d0 : decide (s < 0) = true := decide_eq_true h0
    go_enter Try.func31, Try.ntmps31
    go_wp2
    go_ret2
    exact ⟨rfl, rfl⟩
  · have d0 : decide (s < 0) = false := decide_eq_false h0
    have d1 : decide (256 < s) = true := decide_eq_true (by omega)
    go_enter Try.func31, Try.ntmps31
    go_wp2
    go_ret2
    exact ⟨rfl, rfl⟩

/-- What Decode hands back where the code is one and the size is one. -/
def DecB (w : World) (k n s z : Nat) (fs : List Fr) (e : Ending) (w' : World) : Prop :=
  Below w.heap.size w w' ∧
  ((¬ Good n fs ∧ e = .returned (.tuple #[.slice none 0 0, .int .i64 2])) ∨
   (Good n fs ∧ (firsts fs).length < k ∧ e = .returned (.tuple #[.slice none 0 0, .int .i64 10])) ∨
   (Good n fs ∧ k ≤ (firsts fs).length ∧ ∃ S, Behind k n ((firsts fs).take k) S ∧ Mt.By S ∧
     ((¬ ((fs.getD 0 fr0).data.length = wd s k ∧ Crc.sum (catP s S) = z) ∧ e = .returned (.tuple #[.slice none 0 0, .int .i64 2])) ∨
      ((fs.getD 0 fr0).data.length = wd s k ∧ Crc.sum (catP s S) = z ∧ ∃ g, e = .returned (.tuple #[.slice (some ⟨g, 0, none⟩) s s, .int .i64 0]) ∧ OwnB w' w.heap.size g s (catP s S)))))

set_option maxRecDepth 100000 in
set_option maxHeartbeats 2000000 in
theorem decB_any (fa : Option Addr) (fc l k m n s z : Nat) (fs : List Fr) (w : World) (hF : FrsAt w fa fc fs) (hl : fs.length = l) (hl2 : l ≤ 100000000) (hk : 1 ≤ k) (hn : k + m = n) (hn2 : n ≤ 255) (hw : (fs.getD 0 fr0).data.length ≤ 1000000000) (hs : s ≤ 256) :
    Calls Try.prog 31 #[.int .i64 (k : Int), .int .i64 (m : Int), .int .i64 (s : Int), .int .u32 (z : Int), .slice fa l fc] w (DecB w k n s z fs) := by
  have d0 : decide ((s : Int) < 0) = false := decide_eq_false (by omega)
  have d1 : decide (256 < (s : Int)) = false := decide_eq_false (by omega)
  have d1' : decide (256 < s) = false := decide_eq_false (by omega)
  have HDE := Lib.hid (dec_any fa fc l k m n fs w hF hl hl2 hk hn hn2 hw)
  have HWD := Lib.hid (fun w => width_yes s k w hk (by omega))
  have hwl := wd_le s k hk
  have HCH : Hid (Good n fs → k ≤ (firsts fs).length → Chosen k n (fs.getD 0 fr0).data.length ((firsts fs).take k)) := fun h1 h2 => chosen_of h1 h2
  have hk0 : k ≤ 255 := by omega
  clear hF hl hn
  go_enter Try.func31, Try.ntmps31
  go_wp2_with fail
  refine HDE.out.mono ?_
  rintro e w1 ⟨hb1, ⟨hg, rfl⟩ | ⟨hg, hf, rfl⟩ | ⟨hg, hf, S, a, cap, rfl, hA, hSl, hBe⟩⟩
  · go_wp2
    go_ret2
    exact ⟨hb1, .inl ⟨hg, rfl⟩⟩
  · have HFW := Lib.hid hf
    clear hf
    go_wp2
    go_ret2
    exact ⟨hb1, .inr (.inl ⟨hg, HFW.out, rfl⟩)⟩
  · have HSH := Lib.hid (hBe.shape (HCH.out hg hf) (by omega))
    have HG := Lib.hid hg
    have HFW := Lib.hid hf
    have HBE := Lib.hid hBe
    have HBY := Lib.hid hA.by
    have HA := Lib.hid hA
    have HB1 := Lib.hid hb1
    have HSL := Lib.hid hSl
    obtain ⟨b0, off, ra0, rc0, e, hcr0, _⟩ := hA.at 0 (by omega)
    rw [Nat.add_zero, HSH.out.2 0 (by omega)] at hcr0
    subst e
    clear hg hf hBe hA hb1 hSl
    generalize hL : (fs.getD 0 fr0).data.length = L at *
    have HLL := Lib.hid hL
    clear hL
    generalize hV : wd s k = v at *
    have HVV := Lib.hid hV
    clear hV
    have k0 : (0 : Int) < (k : Int) := by omega
    go_upto_region 6 with fail
    have hcr : ∀ q, (w1.drewN q).cell? ⟨b0, off, none⟩ = some (.slice ra0 L rc0) := fun q => hcr0
    by_cases he : L = v
    · subst he
      have t : ((L : Int) != (L : Int)) = false := by simp
      go_cut [38] (fun sl wx => sl = .bool false ∧ ∃ q, wx = w1.drewN q)
      case first =>
        go_quiet ((go_at_call 29; exact quiet_left' (HWD.out _)))
        go_wp2_with fail
        go_meet
        exact ⟨rfl, _, rfl⟩
      case rest =>
      obtain ⟨rfl, q, rfl⟩ := hcut
      clear t hcr hcr0
      have HA2 := Lib.hid (HA.out.below (below_drewN w1 q))
      have HB2 := Lib.hid (HB1.out.trans ((below_drewN w1 q).mono HB1.out.size))
      generalize w1.drewN q = w2 at *
      go_wp2_with fail
      refine (joined_any _ _ s k S _ HA2.out HSL.out (by omega) (by omega)).mono ?_
      rintro e w3 ⟨g, rfl, hO, hb3⟩
      have HO := Lib.hid hO
      have HB3 := Lib.hid (HB2.out.trans (hb3.mono HB2.out.size))
      have HOB := Lib.hid (hO.base HB2.out.size)
      clear hO hb3
      go_wp2_with fail
      refine (checksum_any _ _ s (catP s S) _ (catP_len s S) HO.out.seenAt).mono ?_
      rintro e w4 ⟨rfl, rfl⟩
      by_cases hz : Crc.sum (catP s S) = z
      · have HZ := Lib.hid hz
        rw [HZ.out]
        have t : ((z : Int) != (z : Int)) = false := by simp
        clear hz
        go_wp2
        go_ret2
        exact ⟨HB3.out, .inr (.inr ⟨HG.out, HFW.out, S, HBE.out, HBY.out, .inr ⟨by rw [HLL.out, HVV.out], HZ.out, g, rfl, HOB.out⟩⟩)⟩
      · have t := ibne hz
        have HZ := Lib.hid hz
        clear hz
        generalize hy : Crc.sum (catP s S) = y at *
        have HY := Lib.hid hy
        clear hy
        go_wp2
        go_ret2
        exact ⟨HB3.out, .inr (.inr ⟨HG.out, HFW.out, S, HBE.out, HBY.out, .inl ⟨fun h => HZ.out (HY.out.symm.trans h.2), rfl⟩⟩)⟩
    · have t := ibne he
      have HE := Lib.hid he
      clear he
      go_cut [38] (fun sl wx => sl = .bool true ∧ ∃ q, wx = w1.drewN q)
      case first =>
        go_quiet ((go_at_call 29; exact quiet_left' (HWD.out _)))
        go_wp2_with fail
        go_meet
        exact ⟨rfl, _, rfl⟩
      case rest =>
      obtain ⟨rfl, q, rfl⟩ := hcut
      have HB2 := Lib.hid (HB1.out.trans ((below_drewN w1 q).mono HB1.out.size))
      go_wp2
      go_ret2
      exact ⟨HB2.out, .inr (.inr ⟨HG.out, HFW.out, S, HBE.out, HBY.out, .inl ⟨fun h => HE.out (by rw [← HLL.out, ← HVV.out]; exact h.1), rfl⟩⟩)⟩

/-- A shard, its first q bytes. -/
def shp (ps : List Nat) (v i q : Nat) : List Nat := (List.range q).map fun n => ps.getD (i * v + n) 0
theorem shp_len (ps : List Nat) (v i q : Nat) : (shp ps v i q).length = q := by simp [shp]
theorem shp_succ (ps : List Nat) (v i q : Nat) : shp ps v i (q + 1) = shp ps v i q ++ [ps.getD (i * v + q) 0] := by simp [shp, List.range_succ]

/-- The first j shards. -/
def shj (ps : List Nat) (v j : Nat) : List (List Nat) := (List.range j).map (shd ps v)
theorem shj_len (ps : List Nat) (v j : Nat) : (shj ps v j).length = j := by simp [shj]
theorem shj_succ (ps : List Nat) (v j : Nat) : shj ps v (j + 1) = shj ps v j ++ [shd ps v j] := by simp [shj, List.range_succ]


set_option maxRecDepth 100000 in
set_option maxHeartbeats 2000000 in
theorem shards_any (a : Option Addr) (cap l k : Nat) (ps : List Nat) (w : World) (hl : ps.length = l) (h : SeenAt w a cap ps) (hk : 1 ≤ k) (hk2 : k ≤ 1000000) (hl2 : l ≤ 1000000) :
    Calls Try.prog 27 #[.slice a l cap, .int .i64 (k : Int)] w (RetM w k (shds ps k)) := by
  have HWD := Lib.hid (fun w => rwidth_yes l k w hk (by omega))
  have hvl := wd_le l k hk
  have HSH : Hid (shds ps k = shj ps (wd l k) k) := by show _ = _; rw [← hl]; rfl
  generalize wd l k = v at *
  have HS := Lib.hid h
  have HL := Lib.hid hl
  clear h hl
  go_enter Try.func27, Try.ntmps27
  go_wp2_with fail
  refine (HWD.out _).mono ?_
  rintro e w' ⟨rfl, rfl⟩
  go_wp2
  go_loopw [6, 7, 8, 9, 10] (fun s i _ _ _ ws => ∃ (j G C : Nat) (g c : Nat → Nat), j ≤ k ∧ i = .int .i64 j ∧ s = .slice (some ⟨G, 0, none⟩) j C ∧ Hid (OwnM ws w.heap.size G C g c (shj ps v j)) ∧ Hid (Below w.heap.size w ws)) (fun _ i _ _ _ _ => k - (intOf i).toNat)
  case atStart => exact ⟨0, _, _, _, _, Nat.zero_le _, rfl, rfl, ownM_none w _ (Nat.le_refl _), below_one _ _⟩
  case round =>
    obtain ⟨j, G, C, g, c, hj, rfl, rfl, hO, hb⟩ := hrel
    have hbz := hb.out.size
    by_cases hlt : j < k
    · generalize wr = wo at *
      have HN := Lib.hid (ownB_lit wo w.heap.size [] #[] rfl bytes_nil hbz (by unfold maxLen; simp))
      have hjv : j * v ≤ 1000000 * 1000000 := Nat.mul_le_mul (by omega) (by omega)
      have m0 : (0 : Int) ≤ (j : Int) * (v : Int) := Int.mul_nonneg (by omega) (by omega)
      have me : (j : Int) * (v : Int) = ((j * v : Nat) : Int) := by push_cast; rfl
      have m1 : (j : Int) * (v : Int) ≤ 1000000000000 := by omega
      have HME := Lib.hid me
      go_wp2
      go_loopw [8, 9, 10] (fun s i _ ws => ∃ (q b y : Nat), q ≤ v ∧ i = .int .i64 q ∧ s = .slice (some ⟨b, 0, none⟩) q y ∧ Hid (OwnB ws w.heap.size b y (shp ps v j q)) ∧ Hid (Below wo.heap.size wo ws) ∧ wo.heap.size ≤ b) (fun _ i _ _ => v - (intOf i).toNat)
      case atStart => exact ⟨0, wo.heap.size, 0, Nat.zero_le _, rfl, rfl, HN, below_one _ _, Nat.le_refl _⟩
      case round =>
        obtain ⟨q, b, y, hq, rfl, rfl, hB, hbl, hbo⟩ := hrel
        have hbq := hbl.out.size
        have HPL := Lib.hid (shp_len ps v j q)
        by_cases hlq : q < v
        · have HSC := Lib.hid (shp_succ ps v j q)
          by_cases hin : j * v + q < l
          · obtain ⟨xb, xo, e, hc0⟩ := HS.out.cell (j * v + q) (by rw [HL.out]; exact hin)
            subst e
            have hip := bytes_get ps (j * v + q) HS.out.byte
            have hcx := cell_later (hb.out.trans (hbl.out.mono hb.out.size)) hc0
            have i1 : (j : Int) * (v : Int) + (q : Int) < (l : Int) := by omega
            have d1 : decide ((j : Int) * (v : Int) + (q : Int) < (l : Int)) = true := decide_eq_true i1
            have i0 : (0 : Int) ≤ (j : Int) * (v : Int) + (q : Int) := by omega
            have tn : ((j : Int) * (v : Int) + (q : Int)).toNat = j * v + q := by omega
            clear hc0 me
            generalize ps.getD (j * v + q) 0 = x at *
            go_wp2_with (at_builtin; refine wpList_appN rfl (.tmp 43) (.tmp 45) rfl w.heap.size b y (shp ps v j q) [x] q 1 HPL.out rfl rfl (hB.out.chg (gs := []) ((Chg.refl _ _).alloc _) (by simp)) _ _ rfl (seen_one _ _ _ hip rfl) (by omega) (by simp; omega) ?_; intro b2 y2 w2 hB2 hC2 hat2)
            go_round
            case rel =>
              refine ⟨q + 1, b2, y2, by omega, by go_num, rfl, by rw [HSC.out]; exact hB2, ?_, ?_⟩
              · exact hC2.below (hbl.out.alloc hbq _) (by simp; omega) (by simp; omega)
              · rcases hat2 with h | h
                · omega
                · simp at h; omega
            case measure => simp [intOf]; omega
          · have hip : (0 : Nat) < 256 := by omega
            have i1 : ¬ (j : Int) * (v : Int) + (q : Int) < (l : Int) := by omega
            have d1 : decide ((j : Int) * (v : Int) + (q : Int) < (l : Int)) = false := decide_eq_false i1
            rw [getD_none ps 0 (j * v + q) (by rw [HL.out]; omega)] at HSC
            clear me
            go_wp2_with (at_builtin; refine wpList_appN rfl (.tmp 43) (.tmp 45) rfl w.heap.size b y (shp ps v j q) [0] q 1 HPL.out rfl rfl (hB.out.chg (gs := []) ((Chg.refl _ _).alloc _) (by simp)) _ _ rfl (seen_one _ _ _ hip rfl) (by omega) (by simp; omega) ?_; intro b2 y2 w2 hB2 hC2 hat2)
            go_round
            case rel =>
              refine ⟨q + 1, b2, y2, by omega, by go_num, rfl, by rw [HSC.out]; exact hB2, ?_, ?_⟩
              · exact hC2.below (hbl.out.alloc hbq _) (by simp; omega) (by simp; omega)
              · rcases hat2 with h | h
                · omega
                · simp at h; omega
            case measure => simp [intOf]; omega
        · obtain rfl : q = v := by omega
          have HL2 := Lib.hid (shj_len ps q j)
          have HOO := Lib.hid hO.out.outer
          rw [HL2.out] at HOO
          have HO5 := Lib.hid ((Chg.of_below (gs := []) hbl.out).owns HOO.out (by simp))
          clear me
          go_wp2_with (at_builtin; refine wpList_appV rfl (.tmp 47) (.tmp 49) rfl w.heap.size G C j _ rfl (World.ownsRow.alloc HO5.out _) _ _ _ rfl (cell_new' _ _ _ _ (by simp)) rfl (by omega) (by simp; omega) ?_; intro G2 C2 w2 hown2 hC2 hat2)
          have HP : Hid (OwnM w2 w.heap.size G2 C2 (snoc j b g) (snoc j y c) (shj ps q (j + 1)) ∧ Chg [G] wo w2) := by
            have := hO.out.pushed hbl.out hB.out hbo _ (by simpa using hC2) (by rw [HL2.out, HPL.out]; exact hown2)
            rw [HL2.out] at this
            show OwnM _ _ _ _ _ _ _ ∧ _
            rw [shj_succ]
            exact this
          have hG1 := hO.out.lt.1
          go_round
          case rel => exact ⟨j + 1, G2, C2, _, _, by omega, by go_num, rfl, HP.out.1, HP.out.2.below hb.out hbz (by simp; exact hG1)⟩
          case measure => simp [intOf]; omega
    · obtain rfl : j = k := by omega
      go_wp2
      go_ret
      exact ⟨shds_len _ _, _, _, _, _, rfl, by rw [HSH.out]; exact hO.out, hb.out⟩

end Go.Proofs.Ytjefjlalebpodaa
