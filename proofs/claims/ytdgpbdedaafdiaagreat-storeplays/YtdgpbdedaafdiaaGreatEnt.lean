/-
  Entries and records in plain numbers: when they are sound, their bytes, and how they are read again. No text of the program is named here.
-/
import Derived.Test.YtdgpbdedaafdiaaGreatPk
namespace Go.Proofs.YtdgpbdedaafdiaaGreat
open Go.Proofs.YtdgpbdedaafdiaaGreat.Gf

/-! ## A number that was read is the one whose bytes were there -/

theorem Pk.fold_unf (u : Nat) : Pk.fold (Pk.unf u) = u := by
  by_cases h : u % 2 = 1
  · rw [Pk.unf_odd u h, Pk.fold_neg _ (by omega)]; omega
  · rw [Pk.unf_even u h, Pk.fold_pos _ (by omega)]; omega

theorem Pk.rdA_canon (bs : List Nat) : ∀ i u, i ≤ 9 → Bytes bs → ¬ (Pk.rdA i u bs).2 = 0 →
    ∃ c, (Pk.rdA i u bs).1 = u + c * 2 ^ (7 * i) ∧ i < (Pk.rdA i u bs).2 ∧ bs.take ((Pk.rdA i u bs).2 - i) = Pk.encN (9 - i) c ∧ (0 < i → 0 < c) := by
  induction bs with
  | nil => intro i u _ _ h; exact absurd rfl h
  | cons x xs ih =>
    intro i u hi hB hn
    have hx256 : x < 256 := hB x (List.mem_cons_self ..)
    by_cases h : i = 9 ∧ 1 < x
    · rw [Pk.rdA_over i u x xs h] at hn; exact absurd rfl hn
    · by_cases hx : 128 ≤ x
      · have e := Pk.rdA_on i u x xs h hx
        rw [e] at hn ⊢
        have hi' : i + 1 ≤ 9 := by
          rcases Nat.lt_or_ge i 9 with h9 | h9
          · omega
          · exact absurd ⟨by omega, by omega⟩ h
        obtain ⟨c, h1, h2, h3, h4⟩ := ih (i + 1) _ hi' (fun y hy => hB y (List.mem_cons_of_mem _ hy)) hn
        have hc := h4 (by omega)
        have hpow : (2 : Nat) ^ (7 * (i + 1)) = 128 * 2 ^ (7 * i) := by rw [Nat.mul_add, Nat.pow_add, Nat.mul_comm]
        refine ⟨x % 128 + 128 * c, ?_, by omega, ?_, fun _ => by omega⟩
        · rw [h1, hpow, Nat.add_mul, Nat.add_assoc, Nat.mul_comm 128 c, Nat.mul_assoc]
        · generalize (Pk.rdA (i + 1) (u + x % 128 * 2 ^ (7 * i)) xs).2 = n at *
          obtain ⟨m, hm⟩ : ∃ m, n - i = m + 1 := ⟨n - i - 1, by omega⟩
          have hm' : n - (i + 1) = m := by omega
          obtain ⟨q, hq⟩ : ∃ q, 9 - i = q + 1 := ⟨9 - i - 1, by omega⟩
          have hq' : 9 - (i + 1) = q := by omega
          rw [hm'] at h3
          rw [hq'] at h3
          rw [hm, hq, List.take_succ_cons, h3, Pk.encN_big q _ (by omega)]
          congr 1
          · omega
          · congr 1; omega
      · by_cases h0 : x = 0 ∧ 0 < i
        · rw [Pk.rdA_long i u x xs h hx h0] at hn; exact absurd rfl hn
        · rw [Pk.rdA_end i u x xs h hx h0]
          refine ⟨x, ?_, by simp, ?_, fun hi0 => ?_⟩
          · show u + x % 128 * 2 ^ (7 * i) = _
            rw [Nat.mod_eq_of_lt (by omega)]
          · show (x :: xs).take (i + 1 - i) = _
            rw [Pk.encN_small _ _ (by omega), show i + 1 - i = 1 by omega]
            rfl
          · rcases Nat.eq_zero_or_pos x with h' | h'
            · exact absurd ⟨h', hi0⟩ h0
            · exact h'

theorem Pk.rd_canon (bs : List Nat) (hB : Bytes bs) (h : ¬ (Pk.rd bs).2 = 0) : bs.take (Pk.rd bs).2 = Pk.encN 9 (Pk.rd bs).1 := by
  obtain ⟨c, h1, _, h3, _⟩ := Pk.rdA_canon bs 0 0 (by omega) hB h
  have e : (Pk.rd bs).1 = c := by
    show (Pk.rdA 0 0 bs).1 = c
    rw [h1]; simp
  rw [e]
  exact h3

theorem bytes_drop {a : List Nat} (h : Bytes a) (n : Nat) : Bytes (a.drop n) := fun x hx => h x (List.mem_of_mem_drop hx)
theorem bytes_take' {a : List Nat} (h : Bytes a) (n : Nat) : Bytes (a.take n) := fun x hx => h x (List.mem_of_mem_take hx)
theorem bytes_nil' : Bytes [] := by intro c hc; simp at hc
theorem bytes_app' {a b : List Nat} (h : Bytes a) (h' : Bytes b) : Bytes (a ++ b) := by
  intro x hx
  rcases List.mem_append.mp hx with hx | hx
  · exact h x hx
  · exact h' x hx

theorem nN_keep (s : Pk.St) (h : Bytes s.1) : Bytes (Pk.nN s).1 ∧ (Pk.nN s).1.length ≤ s.1.length := by
  refine ⟨?_, Pk.nN_len s⟩
  by_cases h0 : (Pk.rd s.1).2 = 0
  · rw [Pk.nN_none s h0]; exact bytes_nil'
  · rw [Pk.nN_some s h0]; exact bytes_drop h _

theorem nC_keep (s : Pk.St) (m : Int) (h : Bytes s.1) : Bytes (Pk.nC s m).1 ∧ (Pk.nC s m).1.length ≤ s.1.length := by
  by_cases hb : Pk.badC s m = true
  · rw [Pk.nC_bad s m hb]; exact ⟨bytes_nil', by simp⟩
  · rw [Pk.nC_good s m (by simpa using hb)]; exact nN_keep s h

theorem nT_keep (s : Pk.St) (h : Bytes s.1) : Bytes (Pk.nT s).1 ∧ (Pk.nT s).1.length ≤ s.1.length ∧ Bytes (Pk.vT s) ∧ (Pk.vT s).length ≤ s.1.length := by
  have hk := nN_keep s h
  by_cases hb : Pk.badT s = true
  · rw [Pk.nT_bad s hb, Pk.vT_bad s hb]; exact ⟨bytes_nil', by simp, bytes_nil', by simp⟩
  · have hb' : Pk.badT s = false := by simpa using hb
    rw [Pk.nT_good s hb', Pk.vT_good s hb']
    refine ⟨bytes_drop hk.1 _, ?_, bytes_take' hk.1 _, ?_⟩
    · show ((Pk.nN s).1.drop _).length ≤ _
      rw [List.length_drop]; omega
    · rw [List.length_take]; omega

theorem vC_range (s : Pk.St) (m : Int) (hm : 0 ≤ m) : 0 ≤ Pk.vC s m ∧ Pk.vC s m ≤ m := by
  by_cases hb : Pk.badC s m = true
  · rw [Pk.vC_bad s m hb]; omega
  · have hb' : Pk.badC s m = false := by simpa using hb
    rw [Pk.vC_good s m hb']
    unfold Pk.badC at hb'
    simp at hb'
    exact hb'

/-- What is read by f is what was written by enc, where the Reader stays valid. -/
structure Can {α : Type} (f : Pk.St → α × Pk.St) (enc : α → List Nat) : Prop where
  keep : ∀ s : Pk.St, Bytes s.1 → Bytes (f s).2.1 ∧ (f s).2.1.length ≤ s.1.length
  can : ∀ s : Pk.St, Bytes s.1 → (f s).2.2 = false → s.2 = false ∧ s.1 = enc (f s).1 ++ (f s).2.1

def rdN (s : Pk.St) : Int × Pk.St := (Pk.vN s, Pk.nN s)

theorem nN_can (s : Pk.St) (hB : Bytes s.1) (h : (Pk.nN s).2 = false) : s.2 = false ∧ s.1 = Pk.num (Pk.vN s) ++ (Pk.nN s).1 := by
  by_cases h0 : (Pk.rd s.1).2 = 0
  · rw [Pk.nN_none s h0] at h; exact absurd h (by decide)
  · rw [Pk.nN_some s h0] at h
    refine ⟨h, ?_⟩
    rw [Pk.nN_some s h0]
    show s.1 = Pk.encN 9 (Pk.fold (Pk.unf (Pk.rd s.1).1)) ++ s.1.drop (Pk.rd s.1).2
    rw [Pk.fold_unf, ← Pk.rd_canon s.1 hB h0, List.take_append_drop]

theorem rdN_can : Can rdN Pk.num := ⟨nN_keep, nN_can⟩

theorem nC_can (s : Pk.St) (m : Int) (hB : Bytes s.1) (h : (Pk.nC s m).2 = false) : s.2 = false ∧ s.1 = Pk.num (Pk.vC s m) ++ (Pk.nC s m).1 ∧ 0 ≤ Pk.vC s m ∧ Pk.vC s m ≤ m := by
  by_cases hb : Pk.badC s m = true
  · rw [Pk.nC_bad s m hb] at h; exact absurd h (by decide)
  · have hb' : Pk.badC s m = false := by simpa using hb
    rw [Pk.nC_good s m hb'] at h
    obtain ⟨h1, h2⟩ := nN_can s hB h
    rw [Pk.nC_good s m hb', Pk.vC_good s m hb']
    refine ⟨h1, h2, ?_⟩
    unfold Pk.badC at hb'
    simp at hb'
    exact hb'

theorem nT_can (s : Pk.St) (hB : Bytes s.1) (h : (Pk.nT s).2 = false) : s.2 = false ∧ s.1 = Pk.txt (Pk.vT s) ++ (Pk.nT s).1 := by
  by_cases hb : Pk.badT s = true
  · rw [Pk.nT_bad s hb] at h; exact absurd h (by decide)
  · have hb' : Pk.badT s = false := by simpa using hb
    have hn := Pk.badT_no s hb'
    rw [Pk.nT_good s hb'] at h
    obtain ⟨h1, h2⟩ := nN_can s hB h
    refine ⟨h1, ?_⟩
    rw [Pk.nT_good s hb', Pk.vT_good s hb']
    have hl : ((Pk.nN s).1.take (Pk.vN s).toNat).length = (Pk.vN s).toNat := by rw [List.length_take]; omega
    unfold Pk.txt
    rw [hl, Int.toNat_of_nonneg hn.1, List.append_assoc, List.take_append_drop]
    exact h2

theorem bytes_suffix {a b c : List Nat} (h : Bytes a) (e : a = b ++ c) : Bytes c := fun x hx => h x (by rw [e]; exact List.mem_append_right _ hx)
theorem bytes_prefix {a b c : List Nat} (h : Bytes a) (e : a = b ++ c) : Bytes b := fun x hx => h x (by rw [e]; exact List.mem_append_left _ hx)

/-! ## Lists -/

/-- n items, one behind the other. -/
def rdS {α : Type} (f : Pk.St → α × Pk.St) : Nat → Pk.St → List α × Pk.St
  | 0, s => ([], s)
  | n + 1, s => ((rdS f n s).1 ++ [(f (rdS f n s).2).1], (f (rdS f n s).2).2)

theorem rdS_zero {α : Type} (f : Pk.St → α × Pk.St) (s : Pk.St) : rdS f 0 s = ([], s) := rfl
theorem rdS_succ {α : Type} (f : Pk.St → α × Pk.St) (n : Nat) (s : Pk.St) : rdS f (n + 1) s = ((rdS f n s).1 ++ [(f (rdS f n s).2).1], (f (rdS f n s).2).2) := rfl

theorem rdS_len {α : Type} (f : Pk.St → α × Pk.St) (s : Pk.St) : ∀ n, (rdS f n s).1.length = n
  | 0 => rfl
  | n + 1 => by rw [rdS_succ]; simp [rdS_len f s n]

theorem rdS_all {α : Type} {P : α → Prop} (f : Pk.St → α × Pk.St) (Q : Pk.St → Prop) (hf : ∀ s, Q s → P (f s).1 ∧ Q (f s).2) (s : Pk.St) (hQ : Q s) : ∀ n, (∀ x ∈ (rdS f n s).1, P x) ∧ Q (rdS f n s).2
  | 0 => ⟨by simp [rdS], hQ⟩
  | n + 1 => by
    obtain ⟨h1, h2⟩ := rdS_all f Q hf s hQ n
    obtain ⟨h3, h4⟩ := hf _ h2
    rw [rdS_succ]
    refine ⟨fun x hx => ?_, h4⟩
    rcases List.mem_append.mp hx with hx | hx
    · exact h1 x hx
    · rw [List.mem_singleton.mp hx]; exact h3

def encL {α : Type} (enc : α → List Nat) (xs : List α) : List Nat := (xs.map enc).flatten

theorem encL_app {α : Type} (enc : α → List Nat) (xs ys : List α) : encL enc (xs ++ ys) = encL enc xs ++ encL enc ys := by simp [encL]
theorem encL_one {α : Type} (enc : α → List Nat) (x : α) : encL enc [x] = enc x := by simp [encL]
theorem encL_nil {α : Type} (enc : α → List Nat) : encL enc [] = [] := rfl
theorem encL_cons {α : Type} (enc : α → List Nat) (x : α) (xs : List α) : encL enc (x :: xs) = enc x ++ encL enc xs := by simp [encL]
theorem encs_eq (zs : List Int) : encs zs = encL Pk.num zs := rfl

theorem encL_bytes {α : Type} (enc : α → List Nat) (xs : List α) (h : ∀ x ∈ xs, Bytes (enc x)) : Bytes (encL enc xs) := by
  intro c hc
  unfold encL at hc
  rw [List.mem_flatten] at hc
  obtain ⟨l, hl, hc⟩ := hc
  obtain ⟨x, hx, rfl⟩ := List.mem_map.mp hl
  exact h x hx c hc

theorem encL_len {α : Type} (enc : α → List Nat) (k : Nat) : ∀ (xs : List α), (∀ x ∈ xs, (enc x).length ≤ k) → (encL enc xs).length ≤ k * xs.length
  | [], _ => by simp [encL]
  | x :: xs, h => by
    have h1 := encL_len enc k xs (fun y hy => h y (List.mem_cons_of_mem _ hy))
    have h2 := h x (List.mem_cons_self ..)
    rw [encL_cons, List.length_append, List.length_cons, Nat.mul_add]
    omega

theorem encL_snoc {α : Type} (enc : α → List Nat) (xs : List α) (d : α) (j : Nat) (h : j < xs.length) : encL enc (xs.take (j + 1)) = encL enc (xs.take j) ++ enc (xs.getD j d) := by
  rw [takeI xs d j h, encL_app, encL_one]

theorem encL_take {α : Type} (enc : α → List Nat) (xs : List α) (j : Nat) : (encL enc (xs.take j)).length ≤ (encL enc xs).length := by
  have : encL enc xs = encL enc (xs.take j) ++ encL enc (xs.drop j) := by rw [← encL_app, List.take_append_drop]
  rw [this, List.length_append]
  omega

theorem rdS_keep {α : Type} {f : Pk.St → α × Pk.St} {enc : α → List Nat} (hf : Can f enc) (s : Pk.St) (hB : Bytes s.1) : ∀ n, Bytes (rdS f n s).2.1 ∧ (rdS f n s).2.1.length ≤ s.1.length
  | 0 => ⟨hB, Nat.le_refl _⟩
  | n + 1 => by
    obtain ⟨h1, h2⟩ := rdS_keep hf s hB n
    obtain ⟨h3, h4⟩ := hf.keep _ h1
    exact ⟨h3, Nat.le_trans h4 h2⟩

theorem rdS_can {α : Type} {f : Pk.St → α × Pk.St} {enc : α → List Nat} (hf : Can f enc) (s : Pk.St) (hB : Bytes s.1) : ∀ n, (rdS f n s).2.2 = false → s.2 = false ∧ s.1 = encL enc (rdS f n s).1 ++ (rdS f n s).2.1
  | 0, h => ⟨h, rfl⟩
  | n + 1, h => by
    rw [rdS_succ] at h
    obtain ⟨h3, h4⟩ := hf.can (rdS f n s).2 (rdS_keep hf s hB n).1 h
    obtain ⟨h1, h2⟩ := rdS_can hf s hB n h3
    refine ⟨h1, ?_⟩
    rw [rdS_succ, encL_app, encL_one, List.append_assoc, ← h4]
    exact h2

theorem rdS_back {α : Type} {f : Pk.St → α × Pk.St} {enc : α → List Nat} (d : α) (xs : List α) (rest : List Nat) (b : Bool) (hf : ∀ x ∈ xs, ∀ r, f (enc x ++ r, b) = (x, (r, b))) :
    ∀ n, n ≤ xs.length → rdS f n (encL enc xs ++ rest, b) = (xs.take n, (encL enc (xs.drop n) ++ rest, b))
  | 0, _ => by simp [rdS]
  | n + 1, h => by
    have hx : xs.getD n d ∈ xs := by
      rw [List.getD_eq_getElem?_getD, List.getElem?_eq_getElem (by omega)]; exact List.getElem_mem _
    rw [rdS_succ, rdS_back d xs rest b hf n (by omega), dropI xs d n (by omega), encL_cons, List.append_assoc]
    show (xs.take n ++ [(f (enc (xs.getD n d) ++ (encL enc (xs.drop (n + 1)) ++ rest), b)).1], (f (enc (xs.getD n d) ++ (encL enc (xs.drop (n + 1)) ++ rest), b)).2) = _
    rw [hf _ hx, takeI xs d n (by omega)]

theorem rdS_whole {α : Type} {f : Pk.St → α × Pk.St} {enc : α → List Nat} (d : α) (xs : List α) (rest : List Nat) (b : Bool) (hf : ∀ x ∈ xs, ∀ r, f (enc x ++ r, b) = (x, (r, b))) :
    rdS f xs.length (encL enc xs ++ rest, b) = (xs, (rest, b)) := by
  rw [rdS_back d xs rest b hf xs.length (Nat.le_refl _), List.take_length, List.drop_length, encL_nil, List.nil_append]

/-! ## Entries -/

def I64 (n : Int) : Prop := -9223372036854775808 ≤ n ∧ n ≤ 9223372036854775807

theorem vN_i64 (s : Pk.St) : I64 (Pk.vN s) := Pk.vN_range s

/-- An entry's fields. -/
structure Pe where
  seq : Int
  client : Int
  num : Int
  op : Int
  key : List Nat
  size : Int
  sum : Nat
  frag : List Nat

def pe0 : Pe := ⟨0, 0, 0, 0, [], 0, 0, []⟩

/-- Each field is within its type. -/
structure Pe.Wf (e : Pe) : Prop where
  seq : I64 e.seq
  client : I64 e.client
  num : I64 e.num
  op : I64 e.op
  size : I64 e.size
  sum : e.sum < 4294967296
  key : Bytes e.key
  frag : Bytes e.frag

def win (n m : Int) : Bool := decide (0 ≤ n) && decide (n ≤ m)
theorem win_yes {n m : Int} (h : win n m = true) : 0 ≤ n ∧ n ≤ m := by unfold win at h; simpa using h

def sndE (e : Pe) : Bool := win e.seq 1099511627776 && win e.client 3 && win e.num 1099511627776 && win e.op 5 && decide (e.key.length ≤ 16) && win e.size 256 && decide (e.frag.length ≤ 256)

def encE (e : Pe) : List Nat := encs [e.seq, e.client, e.num, e.op, e.size, (e.sum : Int)] ++ Pk.txt e.key ++ Pk.txt e.frag

theorem encE_eq (e : Pe) : encE e = Pk.num e.seq ++ (Pk.num e.client ++ (Pk.num e.num ++ (Pk.num e.op ++ (Pk.num e.size ++ (Pk.num (e.sum : Int) ++ (Pk.txt e.key ++ Pk.txt e.frag)))))) := by
  simp [encE, encs]

theorem txt_bytes' (ps : List Nat) (h : Bytes ps) (hl : ps.length ≤ 1000000000) : Bytes (Pk.txt ps) := bytes_app' (Pk.num_bytes _ (by omega) (by omega)) h

theorem encs_bytes (zs : List Int) (h : ∀ z ∈ zs, I64 z) : Bytes (encs zs) := encL_bytes Pk.num zs fun z hz => Pk.num_bytes z (h z hz).1 (h z hz).2

theorem encE_bytes (e : Pe) (h : e.Wf) (hk : e.key.length ≤ 1000000000) (hf : e.frag.length ≤ 1000000000) : Bytes (encE e) := by
  refine bytes_app' (bytes_app' (encs_bytes _ ?_) (txt_bytes' _ h.key hk)) (txt_bytes' _ h.frag hf)
  intro z hz
  simp at hz
  have hs := h.sum
  rcases hz with rfl | rfl | rfl | rfl | rfl | rfl
  · exact h.seq
  · exact h.client
  · exact h.num
  · exact h.op
  · exact h.size
  · exact ⟨by omega, by omega⟩

theorem encE_len (e : Pe) : (encE e).length ≤ 80 + e.key.length + e.frag.length := by
  have h1 := encs_len [e.seq, e.client, e.num, e.op, e.size, (e.sum : Int)]
  have h2 := (Pk.txt_len e.key).2
  have h3 := (Pk.txt_len e.frag).2
  simp at h1
  unfold encE
  rw [List.length_append, List.length_append]
  omega

theorem sndE_lens (e : Pe) (h : sndE e = true) : e.key.length ≤ 16 ∧ e.frag.length ≤ 256 := by
  unfold sndE at h
  simp at h
  omega

theorem encE_small (e : Pe) (h : sndE e = true) : (encE e).length ≤ 352 := by
  have := encE_len e
  have := sndE_lens e h
  omega

def rdE (s : Pk.St) : Pe × Pk.St :=
  (⟨Pk.vN s, Pk.vN (Pk.nN s), Pk.vN (Pk.nN (Pk.nN s)), Pk.vN (Pk.nN (Pk.nN (Pk.nN s))), Pk.vT (Pk.nC (Pk.nN (Pk.nN (Pk.nN (Pk.nN (Pk.nN s))))) 4294967295), Pk.vN (Pk.nN (Pk.nN (Pk.nN (Pk.nN s)))), (Pk.vC (Pk.nN (Pk.nN (Pk.nN (Pk.nN (Pk.nN s))))) 4294967295).toNat, Pk.vT (Pk.nT (Pk.nC (Pk.nN (Pk.nN (Pk.nN (Pk.nN (Pk.nN s))))) 4294967295))⟩,
    Pk.nT (Pk.nT (Pk.nC (Pk.nN (Pk.nN (Pk.nN (Pk.nN (Pk.nN s))))) 4294967295)))

theorem rdE_keep (s : Pk.St) (h : Bytes s.1) : Bytes (rdE s).2.1 ∧ (rdE s).2.1.length ≤ s.1.length := by
  unfold rdE
  dsimp only
  obtain ⟨k1, l1⟩ := nN_keep s h
  generalize Pk.nN s = s1 at *
  obtain ⟨k2, l2⟩ := nN_keep s1 k1
  generalize Pk.nN s1 = s2 at *
  obtain ⟨k3, l3⟩ := nN_keep s2 k2
  generalize Pk.nN s2 = s3 at *
  obtain ⟨k4, l4⟩ := nN_keep s3 k3
  generalize Pk.nN s3 = s4 at *
  obtain ⟨k5, l5⟩ := nN_keep s4 k4
  generalize Pk.nN s4 = s5 at *
  obtain ⟨k6, l6⟩ := nC_keep s5 4294967295 k5
  generalize Pk.nC s5 4294967295 = s6 at *
  obtain ⟨k7, l7, _⟩ := nT_keep s6 k6
  generalize Pk.nT s6 = s7 at *
  obtain ⟨k8, l8, _⟩ := nT_keep s7 k7
  generalize Pk.nT s7 = s8 at *
  exact ⟨k8, by omega⟩

theorem rdE_back0 (s : Pk.St) (h : Bytes s.1) : (rdE s).2.2 = false → s.2 = false ∧ s.1 = encE (rdE s).1 ++ (rdE s).2.1 := by
  rw [encE_eq]
  unfold rdE
  dsimp only
  obtain ⟨k1, l1⟩ := nN_keep s h
  have c1 := nN_can s h
  generalize Pk.vN s = z1 at *
  generalize Pk.nN s = s1 at *
  obtain ⟨k2, l2⟩ := nN_keep s1 k1
  have c2 := nN_can s1 k1
  generalize Pk.vN s1 = z2 at *
  generalize Pk.nN s1 = s2 at *
  obtain ⟨k3, l3⟩ := nN_keep s2 k2
  have c3 := nN_can s2 k2
  generalize Pk.vN s2 = z3 at *
  generalize Pk.nN s2 = s3 at *
  obtain ⟨k4, l4⟩ := nN_keep s3 k3
  have c4 := nN_can s3 k3
  generalize Pk.vN s3 = z4 at *
  generalize Pk.nN s3 = s4 at *
  obtain ⟨k5, l5⟩ := nN_keep s4 k4
  have c5 := nN_can s4 k4
  generalize Pk.vN s4 = z5 at *
  generalize Pk.nN s4 = s5 at *
  obtain ⟨k6, l6⟩ := nC_keep s5 4294967295 k5
  have c6 := nC_can s5 4294967295 k5
  generalize Pk.vC s5 4294967295 = z6 at *
  generalize Pk.nC s5 4294967295 = s6 at *
  obtain ⟨k7, l7, _⟩ := nT_keep s6 k6
  have c7 := nT_can s6 k6
  generalize Pk.vT s6 = t7 at *
  generalize Pk.nT s6 = s7 at *
  have c8 := nT_can s7 k7
  generalize Pk.vT s7 = t8 at *
  generalize Pk.nT s7 = s8 at *
  intro hv
  obtain ⟨v7, e8⟩ := c8 hv
  obtain ⟨v6, e7⟩ := c7 v7
  obtain ⟨v5, e6, n0, n1⟩ := c6 v6
  obtain ⟨v4, e5⟩ := c5 v5
  obtain ⟨v3, e4⟩ := c4 v4
  obtain ⟨v2, e3⟩ := c3 v3
  obtain ⟨v1, e2⟩ := c2 v2
  obtain ⟨v0, e1⟩ := c1 v1
  refine ⟨v0, ?_⟩
  rw [Int.toNat_of_nonneg n0]
  simp only [List.append_assoc]
  rw [← e8, ← e7, ← e6, ← e5, ← e4, ← e3, ← e2, ← e1]

theorem rdE_can : Can rdE encE := ⟨rdE_keep, rdE_back0⟩

theorem rdE_back (e : Pe) (r : List Nat) (b : Bool) (h : e.Wf) (hk : e.key.length ≤ 1000000000) (hf : e.frag.length ≤ 1000000000) : rdE (encE e ++ r, b) = (e, (r, b)) := by
  have hs := h.sum
  have e0 : encE e ++ r = Pk.num e.seq ++ (Pk.num e.client ++ (Pk.num e.num ++ (Pk.num e.op ++ (Pk.num e.size ++ (Pk.num (e.sum : Int) ++ (Pk.txt e.key ++ (Pk.txt e.frag ++ r))))))) := by
    rw [encE_eq]; simp only [List.append_assoc]
  rw [e0]
  unfold rdE
  obtain ⟨v1, n1⟩ := Pk.vN_num e.seq (Pk.num e.client ++ (Pk.num e.num ++ (Pk.num e.op ++ (Pk.num e.size ++ (Pk.num (e.sum : Int) ++ (Pk.txt e.key ++ (Pk.txt e.frag ++ r))))))) b h.seq.1 h.seq.2
  obtain ⟨v2, n2⟩ := Pk.vN_num e.client (Pk.num e.num ++ (Pk.num e.op ++ (Pk.num e.size ++ (Pk.num (e.sum : Int) ++ (Pk.txt e.key ++ (Pk.txt e.frag ++ r)))))) b h.client.1 h.client.2
  obtain ⟨v3, n3⟩ := Pk.vN_num e.num (Pk.num e.op ++ (Pk.num e.size ++ (Pk.num (e.sum : Int) ++ (Pk.txt e.key ++ (Pk.txt e.frag ++ r))))) b h.num.1 h.num.2
  obtain ⟨v4, n4⟩ := Pk.vN_num e.op (Pk.num e.size ++ (Pk.num (e.sum : Int) ++ (Pk.txt e.key ++ (Pk.txt e.frag ++ r)))) b h.op.1 h.op.2
  obtain ⟨v5, n5⟩ := Pk.vN_num e.size (Pk.num (e.sum : Int) ++ (Pk.txt e.key ++ (Pk.txt e.frag ++ r))) b h.size.1 h.size.2
  obtain ⟨v6, n6⟩ := Pk.vN_num (e.sum : Int) (Pk.txt e.key ++ (Pk.txt e.frag ++ r)) b (by omega) (by omega)
  have hc : Pk.badC (Pk.num (e.sum : Int) ++ (Pk.txt e.key ++ (Pk.txt e.frag ++ r)), b) 4294967295 = false := by
    unfold Pk.badC
    rw [v6]
    simp
    omega
  obtain ⟨v7, n7⟩ := Pk.vT_txt e.key (Pk.txt e.frag ++ r) b hk
  obtain ⟨v8, n8⟩ := Pk.vT_txt e.frag r b hf
  rw [n1, n2, n3, n4, n5, Pk.nC_good _ _ hc, Pk.vC_good _ _ hc, v6, n6, n7, n8, v1, v2, v3, v4, v5, v7, v8, Int.toNat_natCast]

theorem encE_inj (a b : Pe) (ha : a.Wf) (hb : b.Wf) (h1 : a.key.length ≤ 1000000000) (h2 : a.frag.length ≤ 1000000000) (h3 : b.key.length ≤ 1000000000) (h4 : b.frag.length ≤ 1000000000) (h : encE a = encE b) : a = b := by
  have e1 := rdE_back a [] false ha h1 h2
  have e2 := rdE_back b [] false hb h3 h4
  rw [h, e2] at e1
  exact (Prod.mk.inj e1).1.symm

theorem rdE_wf (s : Pk.St) (h : Bytes s.1) : (rdE s).1.Wf ∧ (rdE s).1.key.length ≤ s.1.length ∧ (rdE s).1.frag.length ≤ s.1.length := by
  unfold rdE
  dsimp only
  have i1 := vN_i64 s
  generalize Pk.vN s = z1 at *
  obtain ⟨k1, l1⟩ := nN_keep s h
  generalize Pk.nN s = s1 at *
  have i2 := vN_i64 s1
  generalize Pk.vN s1 = z2 at *
  obtain ⟨k2, l2⟩ := nN_keep s1 k1
  generalize Pk.nN s1 = s2 at *
  have i3 := vN_i64 s2
  generalize Pk.vN s2 = z3 at *
  obtain ⟨k3, l3⟩ := nN_keep s2 k2
  generalize Pk.nN s2 = s3 at *
  have i4 := vN_i64 s3
  generalize Pk.vN s3 = z4 at *
  obtain ⟨k4, l4⟩ := nN_keep s3 k3
  generalize Pk.nN s3 = s4 at *
  have i5 := vN_i64 s4
  generalize Pk.vN s4 = z5 at *
  obtain ⟨k5, l5⟩ := nN_keep s4 k4
  generalize Pk.nN s4 = s5 at *
  have hc := vC_range s5 4294967295 (by omega)
  generalize Pk.vC s5 4294967295 = z6 at *
  obtain ⟨k6, l6⟩ := nC_keep s5 4294967295 k5
  generalize Pk.nC s5 4294967295 = s6 at *
  obtain ⟨k7, l7, b7, m7⟩ := nT_keep s6 k6
  generalize Pk.vT s6 = t7 at *
  generalize Pk.nT s6 = s7 at *
  obtain ⟨k8, l8, b8, m8⟩ := nT_keep s7 k7
  generalize Pk.vT s7 = t8 at *
  exact ⟨⟨i1, i2, i3, i4, i5, by show z6.toNat < _; omega, b7, b8⟩, by show t7.length ≤ _; omega, by show t8.length ≤ _; omega⟩

/-! ## Records -/

structure Pr where
  kind : Int
  epoch : Int
  mem : List Int
  pos : Int
  last : Int
  ents : List Pe

def pr0 : Pr := ⟨0, 0, [], 0, 0, []⟩

structure Pr.Wf (r : Pr) : Prop where
  kind : I64 r.kind
  epoch : I64 r.epoch
  mem : ∀ z ∈ r.mem, I64 z
  pos : I64 r.pos
  last : I64 r.last
  ents : ∀ e ∈ r.ents, e.Wf

def sndM (m : List Int) : Bool := decide (m.length ≤ 16) && m.all (fun z => win z 15)
def sndEs (es : List Pe) : Bool := decide (es.length ≤ 4096) && es.all sndE
def sndR (r : Pr) : Bool := decide (1 ≤ r.kind) && decide (r.kind ≤ 4) && win r.epoch 1099511627776 && sndM r.mem && win r.pos 15 && win r.last 1099511627776 && sndEs r.ents

def encR (r : Pr) : List Nat := encs [r.kind, r.epoch, r.pos, r.last, (r.mem.length : Int)] ++ encs r.mem ++ (encs [(r.ents.length : Int)] ++ encL encE r.ents)

theorem sndR_lens (r : Pr) (h : sndR r = true) : r.mem.length ≤ 16 ∧ r.ents.length ≤ 4096 ∧ ∀ e ∈ r.ents, sndE e = true := by
  unfold sndR sndM sndEs at h
  simp at h
  exact ⟨h.1.1.1.2.1, h.2.1, h.2.2⟩

theorem encR_len (r : Pr) (h : sndR r = true) : (encR r).length ≤ 2000000 := by
  obtain ⟨h1, h2, h3⟩ := sndR_lens r h
  have k1 := encs_len [r.kind, r.epoch, r.pos, r.last, (r.mem.length : Int)]
  have k2 := encs_len r.mem
  have k3 := encs_len [(r.ents.length : Int)]
  have k4 := encL_len encE 352 r.ents (fun e he => encE_small e (h3 e he))
  simp at k1 k3
  unfold encR
  rw [List.length_append, List.length_append, List.length_append]
  omega

theorem sndE_bytes (e : Pe) (h : e.Wf) (hs : sndE e = true) : Bytes (encE e) := by
  have := sndE_lens e hs
  exact encE_bytes e h (by omega) (by omega)

theorem encR_bytes (r : Pr) (hw : r.Wf) (h : sndR r = true) : Bytes (encR r) := by
  obtain ⟨h1, h2, h3⟩ := sndR_lens r h
  refine bytes_app' (bytes_app' (encs_bytes _ ?_) (encs_bytes _ hw.mem)) (bytes_app' (encs_bytes _ ?_) (encL_bytes encE _ fun e he => sndE_bytes e (hw.ents e he) (h3 e he)))
  · intro z hz
    simp at hz
    rcases hz with rfl | rfl | rfl | rfl | rfl
    · exact hw.kind
    · exact hw.epoch
    · exact hw.pos
    · exact hw.last
    · exact ⟨by omega, by omega⟩
  · intro z hz
    simp at hz
    subst hz
    exact ⟨by omega, by omega⟩

/-- The members, the state ahead of their number. -/
def rdM (s : Pk.St) : List Int × Pk.St := rdS rdN (Pk.vC s 16).toNat (Pk.nC s 16)
def rdEs (s : Pk.St) : List Pe × Pk.St := rdS rdE (Pk.vC s 4096).toNat (Pk.nC s 4096)

def rdR (s : Pk.St) : Pr × Pk.St :=
  (⟨Pk.vN s, Pk.vN (Pk.nN s), (rdM (Pk.nN (Pk.nN (Pk.nN (Pk.nN s))))).1, Pk.vN (Pk.nN (Pk.nN s)), Pk.vN (Pk.nN (Pk.nN (Pk.nN s))), (rdEs (rdM (Pk.nN (Pk.nN (Pk.nN (Pk.nN s))))).2).1⟩, (rdEs (rdM (Pk.nN (Pk.nN (Pk.nN (Pk.nN s))))).2).2)

theorem rdM_keep (s : Pk.St) (h : Bytes s.1) : Bytes (rdM s).2.1 ∧ (rdM s).2.1.length ≤ s.1.length := by
  obtain ⟨k, l⟩ := nC_keep s 16 h
  obtain ⟨k', l'⟩ := rdS_keep rdN_can (Pk.nC s 16) k (Pk.vC s 16).toNat
  exact ⟨k', Nat.le_trans l' l⟩

theorem rdM_can (s : Pk.St) (hB : Bytes s.1) (h : (rdM s).2.2 = false) : s.2 = false ∧ s.1 = Pk.num ((rdM s).1.length : Int) ++ (encs (rdM s).1 ++ (rdM s).2.1) := by
  obtain ⟨k, l⟩ := nC_keep s 16 hB
  obtain ⟨h1, h2⟩ := rdS_can rdN_can (Pk.nC s 16) k _ h
  obtain ⟨h3, h4, h5, h6⟩ := nC_can s 16 hB h1
  refine ⟨h3, ?_⟩
  have e : (((rdM s).1.length : Nat) : Int) = Pk.vC s 16 := by unfold rdM; rw [rdS_len]; omega
  rw [e, encs_eq]
  unfold rdM
  rw [← h2]
  exact h4

theorem rdEs_keep (s : Pk.St) (h : Bytes s.1) : Bytes (rdEs s).2.1 ∧ (rdEs s).2.1.length ≤ s.1.length := by
  obtain ⟨k, l⟩ := nC_keep s 4096 h
  obtain ⟨k', l'⟩ := rdS_keep rdE_can (Pk.nC s 4096) k (Pk.vC s 4096).toNat
  exact ⟨k', Nat.le_trans l' l⟩

theorem rdEs_can (s : Pk.St) (hB : Bytes s.1) (h : (rdEs s).2.2 = false) : s.2 = false ∧ s.1 = Pk.num ((rdEs s).1.length : Int) ++ (encL encE (rdEs s).1 ++ (rdEs s).2.1) := by
  obtain ⟨k, l⟩ := nC_keep s 4096 hB
  obtain ⟨h1, h2⟩ := rdS_can rdE_can (Pk.nC s 4096) k _ h
  obtain ⟨h3, h4, h5, h6⟩ := nC_can s 4096 hB h1
  refine ⟨h3, ?_⟩
  have e : (((rdEs s).1.length : Nat) : Int) = Pk.vC s 4096 := by unfold rdEs; rw [rdS_len]; omega
  rw [e]
  unfold rdEs
  rw [← h2]
  exact h4

theorem encR_eq (r : Pr) : encR r = Pk.num r.kind ++ (Pk.num r.epoch ++ (Pk.num r.pos ++ (Pk.num r.last ++ (Pk.num (r.mem.length : Int) ++ (encs r.mem ++ (Pk.num (r.ents.length : Int) ++ encL encE r.ents)))))) := by
  simp [encR, encs]

theorem rdR_keep (s : Pk.St) (h : Bytes s.1) : Bytes (rdR s).2.1 ∧ (rdR s).2.1.length ≤ s.1.length := by
  unfold rdR
  dsimp only
  obtain ⟨k1, l1⟩ := nN_keep s h
  generalize Pk.nN s = s1 at *
  obtain ⟨k2, l2⟩ := nN_keep s1 k1
  generalize Pk.nN s1 = s2 at *
  obtain ⟨k3, l3⟩ := nN_keep s2 k2
  generalize Pk.nN s2 = s3 at *
  obtain ⟨k4, l4⟩ := nN_keep s3 k3
  generalize Pk.nN s3 = s4 at *
  obtain ⟨k5, l5⟩ := rdM_keep s4 k4
  generalize rdM s4 = s5 at *
  obtain ⟨k6, l6⟩ := rdEs_keep s5.2 k5
  generalize rdEs s5.2 = s6 at *
  exact ⟨k6, by omega⟩

theorem rdR_back0 (s : Pk.St) (h : Bytes s.1) : (rdR s).2.2 = false → s.2 = false ∧ s.1 = encR (rdR s).1 ++ (rdR s).2.1 := by
  rw [encR_eq]
  unfold rdR
  dsimp only
  obtain ⟨k1, l1⟩ := nN_keep s h
  have c1 := nN_can s h
  generalize Pk.vN s = z1 at *
  generalize Pk.nN s = s1 at *
  obtain ⟨k2, l2⟩ := nN_keep s1 k1
  have c2 := nN_can s1 k1
  generalize Pk.vN s1 = z2 at *
  generalize Pk.nN s1 = s2 at *
  obtain ⟨k3, l3⟩ := nN_keep s2 k2
  have c3 := nN_can s2 k2
  generalize Pk.vN s2 = z3 at *
  generalize Pk.nN s2 = s3 at *
  obtain ⟨k4, l4⟩ := nN_keep s3 k3
  have c4 := nN_can s3 k3
  generalize Pk.vN s3 = z4 at *
  generalize Pk.nN s3 = s4 at *
  obtain ⟨k5, l5⟩ := rdM_keep s4 k4
  have c5 := rdM_can s4 k4
  generalize rdM s4 = s5 at *
  have c6 := rdEs_can s5.2 k5
  generalize rdEs s5.2 = s6 at *
  intro hv
  obtain ⟨v5, e6⟩ := c6 hv
  obtain ⟨v4, e5⟩ := c5 v5
  obtain ⟨v3, e4⟩ := c4 v4
  obtain ⟨v2, e3⟩ := c3 v3
  obtain ⟨v1, e2⟩ := c2 v2
  obtain ⟨v0, e1⟩ := c1 v1
  refine ⟨v0, ?_⟩
  simp only [List.append_assoc]
  rw [← e6, ← e5, ← e4, ← e3, ← e2, ← e1]

theorem rdR_can : Can rdR encR := ⟨rdR_keep, rdR_back0⟩

theorem rdR_back (r : Pr) (rest : List Nat) (b : Bool) (hw : r.Wf) (h : sndR r = true) : rdR (encR r ++ rest, b) = (r, (rest, b)) := by
  obtain ⟨h1, h2, h3⟩ := sndR_lens r h
  have e0 : encR r ++ rest = Pk.num r.kind ++ (Pk.num r.epoch ++ (Pk.num r.pos ++ (Pk.num r.last ++ (Pk.num (r.mem.length : Int) ++ (encs r.mem ++ (Pk.num (r.ents.length : Int) ++ (encL encE r.ents ++ rest))))))) := by
    rw [encR_eq]; simp only [List.append_assoc]
  rw [e0]
  unfold rdR
  obtain ⟨v1, n1⟩ := Pk.vN_num r.kind (Pk.num r.epoch ++ (Pk.num r.pos ++ (Pk.num r.last ++ (Pk.num (r.mem.length : Int) ++ (encs r.mem ++ (Pk.num (r.ents.length : Int) ++ (encL encE r.ents ++ rest))))))) b hw.kind.1 hw.kind.2
  obtain ⟨v2, n2⟩ := Pk.vN_num r.epoch (Pk.num r.pos ++ (Pk.num r.last ++ (Pk.num (r.mem.length : Int) ++ (encs r.mem ++ (Pk.num (r.ents.length : Int) ++ (encL encE r.ents ++ rest)))))) b hw.epoch.1 hw.epoch.2
  obtain ⟨v3, n3⟩ := Pk.vN_num r.pos (Pk.num r.last ++ (Pk.num (r.mem.length : Int) ++ (encs r.mem ++ (Pk.num (r.ents.length : Int) ++ (encL encE r.ents ++ rest))))) b hw.pos.1 hw.pos.2
  obtain ⟨v4, n4⟩ := Pk.vN_num r.last (Pk.num (r.mem.length : Int) ++ (encs r.mem ++ (Pk.num (r.ents.length : Int) ++ (encL encE r.ents ++ rest)))) b hw.last.1 hw.last.2
  obtain ⟨v5, n5⟩ := Pk.vN_num (r.mem.length : Int) (encs r.mem ++ (Pk.num (r.ents.length : Int) ++ (encL encE r.ents ++ rest))) b (by omega) (by omega)
  have c5 : Pk.badC (Pk.num (r.mem.length : Int) ++ (encs r.mem ++ (Pk.num (r.ents.length : Int) ++ (encL encE r.ents ++ rest))), b) 16 = false := by
    unfold Pk.badC; rw [v5]; simp; omega
  obtain ⟨v6, n6⟩ := Pk.vN_num (r.ents.length : Int) (encL encE r.ents ++ rest) b (by omega) (by omega)
  have c6 : Pk.badC (Pk.num (r.ents.length : Int) ++ (encL encE r.ents ++ rest), b) 4096 = false := by
    unfold Pk.badC; rw [v6]; simp; omega
  have m5 : rdM (Pk.num (r.mem.length : Int) ++ (encs r.mem ++ (Pk.num (r.ents.length : Int) ++ (encL encE r.ents ++ rest))), b) = (r.mem, (Pk.num (r.ents.length : Int) ++ (encL encE r.ents ++ rest), b)) := by
    unfold rdM
    rw [Pk.nC_good _ _ c5, Pk.vC_good _ _ c5, v5, n5, Int.toNat_natCast, encs_eq]
    refine rdS_whole 0 r.mem _ b fun z hz t => ?_
    obtain ⟨a1, a2⟩ := Pk.vN_num z t b (hw.mem z hz).1 (hw.mem z hz).2
    unfold rdN
    rw [a1, a2]
  have m6 : rdEs (Pk.num (r.ents.length : Int) ++ (encL encE r.ents ++ rest), b) = (r.ents, (rest, b)) := by
    unfold rdEs
    rw [Pk.nC_good _ _ c6, Pk.vC_good _ _ c6, v6, n6, Int.toNat_natCast]
    refine rdS_whole pe0 r.ents _ b fun e he t => ?_
    have := sndE_lens e (h3 e he)
    exact rdE_back e t b (hw.ents e he) (by omega) (by omega)
  rw [n1, n2, n3, n4, m5, m6, v1, v2, v3, v4]

theorem rdM_wf (s : Pk.St) : (∀ z ∈ (rdM s).1, I64 z) ∧ (rdM s).1.length ≤ 16 := by
  have c1 := vC_range s 16 (by omega)
  refine ⟨(rdS_all (P := I64) rdN (fun _ => True) (fun s _ => ⟨vN_i64 s, trivial⟩) (Pk.nC s 16) trivial (Pk.vC s 16).toNat).1, ?_⟩
  unfold rdM
  rw [rdS_len]
  omega

theorem rdEs_wf (s : Pk.St) (h : Bytes s.1) : (∀ e ∈ (rdEs s).1, e.Wf ∧ e.key.length ≤ s.1.length ∧ e.frag.length ≤ s.1.length) ∧ (rdEs s).1.length ≤ 4096 := by
  have c2 := vC_range s 4096 (by omega)
  obtain ⟨k6, l6⟩ := nC_keep s 4096 h
  refine ⟨(rdS_all (P := fun e : Pe => e.Wf ∧ e.key.length ≤ s.1.length ∧ e.frag.length ≤ s.1.length) rdE (fun t => Bytes t.1 ∧ t.1.length ≤ s.1.length)
    (fun t ht => by
      obtain ⟨a1, a2, a3⟩ := rdE_wf t ht.1
      obtain ⟨b1, b2⟩ := rdE_can.keep t ht.1
      exact ⟨⟨a1, by omega, by omega⟩, b1, by omega⟩)
    (Pk.nC s 4096) ⟨k6, l6⟩ (Pk.vC s 4096).toNat).1, ?_⟩
  unfold rdEs
  rw [rdS_len]
  omega

theorem rdR_wf (s : Pk.St) (h : Bytes s.1) : (rdR s).1.Wf ∧ (rdR s).1.mem.length ≤ 16 ∧ (rdR s).1.ents.length ≤ 4096 ∧ ∀ e ∈ (rdR s).1.ents, e.key.length ≤ s.1.length ∧ e.frag.length ≤ s.1.length := by
  unfold rdR
  dsimp only
  have i1 := vN_i64 s
  generalize Pk.vN s = z1 at *
  obtain ⟨k1, l1⟩ := nN_keep s h
  generalize Pk.nN s = s1 at *
  have i2 := vN_i64 s1
  generalize Pk.vN s1 = z2 at *
  obtain ⟨k2, l2⟩ := nN_keep s1 k1
  generalize Pk.nN s1 = s2 at *
  have i3 := vN_i64 s2
  generalize Pk.vN s2 = z3 at *
  obtain ⟨k3, l3⟩ := nN_keep s2 k2
  generalize Pk.nN s2 = s3 at *
  have i4 := vN_i64 s3
  generalize Pk.vN s3 = z4 at *
  obtain ⟨k4, l4⟩ := nN_keep s3 k3
  generalize Pk.nN s3 = s4 at *
  obtain ⟨k5, l5⟩ := rdM_keep s4 k4
  obtain ⟨m1, m2⟩ := rdM_wf s4
  generalize rdM s4 = s5 at *
  obtain ⟨e1, e2⟩ := rdEs_wf s5.2 k5
  generalize rdEs s5.2 = s6 at *
  exact ⟨⟨i1, i2, m1, i3, i4, fun e h' => (e1 e h').1⟩, m2, e2, fun e h' => by have := (e1 e h').2; omega⟩

/-- Valid, and nothing is left. -/
def finB (s : Pk.St) : Bool := !s.2 && decide (s.1.length = 0)

/-- Are these the bytes of a sound record? -/
def decB (bs : List Nat) : Bool := finB (rdR (bs, false)).2 && sndR (rdR (bs, false)).1
def decR (bs : List Nat) : Pr := (rdR (bs, false)).1

theorem dec_yes (r : Pr) (hw : r.Wf) (h : sndR r = true) : decB (encR r) = true ∧ decR (encR r) = r := by
  have := rdR_back r [] false hw h
  rw [List.append_nil] at this
  unfold decB decR
  rw [this]
  exact ⟨by simp [finB, h], rfl⟩

theorem dec_can (bs : List Nat) (hB : Bytes bs) (h : decB bs = true) : sndR (decR bs) = true ∧ (decR bs).Wf ∧ encR (decR bs) = bs := by
  unfold decB finB at h
  simp at h
  obtain ⟨⟨h1, h2⟩, h3⟩ := h
  obtain ⟨_, h4⟩ := rdR_can.can (bs, false) hB h1
  refine ⟨h3, (rdR_wf (bs, false) hB).1, ?_⟩
  rw [h2, List.append_nil] at h4
  exact h4.symm

theorem dec_less (r : Pr) (n : Nat) (hw : r.Wf) (h : sndR r = true) (hn : n < (encR r).length) : decB ((encR r).take n) = false := by
  cases hd : decB ((encR r).take n) with
  | false => rfl
  | true =>
    obtain ⟨h1, h2, h3⟩ := dec_can _ (bytes_take' (encR_bytes r hw h) n) hd
    have e1 := rdR_back (decR ((encR r).take n)) ((encR r).drop n) false h2 h1
    rw [h3, List.take_append_drop] at e1
    have e2 := rdR_back r [] false hw h
    rw [List.append_nil, e1] at e2
    have e3 : (encR r).drop n = [] := (Prod.mk.inj (Prod.mk.inj e2).2).1
    have := congrArg List.length e3
    rw [List.length_drop] at this
    simp at this
    omega

theorem dec_more (r : Pr) (x : Nat) (hx : x < 256) (hw : r.Wf) (h : sndR r = true) : decB (encR r ++ [x]) = false := by
  cases hd : decB (encR r ++ [x]) with
  | false => rfl
  | true =>
    obtain ⟨h1, h2, h3⟩ := dec_can _ (bytes_app' (encR_bytes r hw h) (by intro c hc; simp at hc; omega)) hd
    have e1 := rdR_back (decR (encR r ++ [x])) [] false h2 h1
    rw [List.append_nil, h3, rdR_back r [x] false hw h] at e1
    have e3 : [x] = [] := (Prod.mk.inj (Prod.mk.inj e1).2).1
    exact absurd e3 (by simp)

end Go.Proofs.YtdgpbdedaafdiaaGreat
