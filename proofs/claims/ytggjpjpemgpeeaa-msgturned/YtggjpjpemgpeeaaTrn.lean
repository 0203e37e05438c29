/-
  Bytes of which four in a row are turned: their checksum is another one; a message turned so is none. No text of the program is named here.
-/
import Derived.Test.YtggjpjpemgpeeaaMg
namespace Go.Proofs.Ytggjpjpemgpeeaa

/-- The bytes m with the bytes of t added from I on, k of them. -/
def trn (m : List Nat) (I t : Nat) : Nat → List Nat
  | 0 => m
  | k + 1 => (trn m I t k).set (I + k) ((trn m I t k).getD (I + k) 0 ^^^ t / 2 ^ (8 * k) % 2 ^ 8)

theorem trn_len (m : List Nat) (I t : Nat) : ∀ k, (trn m I t k).length = m.length
  | 0 => rfl
  | k + 1 => by show ((trn m I t k).set _ _).length = _; rw [List.length_set, trn_len m I t k]

theorem set_behind (ys L : List Nat) (k v : Nat) : (ys ++ L).set (ys.length + k) v = ys ++ L.set k v := by
  rw [List.set_append_right _ _ (by omega), Nat.add_sub_cancel_left]

theorem get_behind (ys L : List Nat) (k : Nat) : (ys ++ L).getD (ys.length + k) 0 = L.getD k 0 := by
  rw [List.getD_eq_getElem?_getD, List.getD_eq_getElem?_getD, List.getElem?_append_right (by omega), Nat.add_sub_cancel_left]

theorem trn_four (ys cs : List Nat) (a b c d t : Nat) : trn (ys ++ a :: b :: c :: d :: cs) ys.length t 4 = ys ++ Crc.add [a, b, c, d] (Crc.by4 t) ++ cs := by
  have e : ∀ k, trn (ys ++ a :: b :: c :: d :: cs) ys.length t k = ys ++ trn (a :: b :: c :: d :: cs) 0 t k := by
    intro k
    induction k with
    | zero => rfl
    | succ k ih =>
      show (trn _ _ _ k).set _ _ = ys ++ (trn _ _ _ k).set _ _
      rw [ih, get_behind, set_behind, Nat.zero_add]
  rw [e, List.append_assoc]
  congr 1
  simp [trn, Crc.add, Crc.by4]

theorem trn_turned (m : List Nat) (I t : Nat) (hI : I + 4 ≤ m.length) (hB : Gf.Bytes m) (ht : t < 2 ^ 32) (h0 : t ≠ 0) : Crc.sum (trn m I t 4) ≠ Crc.sum m := by
  obtain ⟨a, b, c, d, cs, e⟩ := Crc.four_of (m.drop I) (by simp; omega)
  have hm : m = m.take I ++ a :: b :: c :: d :: cs := by rw [← e, List.take_append_drop]
  have hl : (m.take I).length = I := by simp; omega
  have hB1 : Gf.Bytes (m.take I) := bytes_take' hB I
  have hB2 : Gf.Bytes [a, b, c, d] := by
    intro x hx
    refine hB x (List.mem_of_mem_drop (i := I) ?_)
    rw [e]
    simp at hx ⊢
    omega
  have h := Crc.sum_turned (m.take I) [a, b, c, d] cs t rfl hB1 hB2 ht h0
  have e1 : trn m I t 4 = m.take I ++ Crc.add [a, b, c, d] (Crc.by4 t) ++ cs := by
    conv => lhs; rw [hm]
    have := trn_four (m.take I) cs a b c d t
    rw [hl] at this
    exact this
  have e2 : m = m.take I ++ [a, b, c, d] ++ cs := by rw [List.append_assoc]; exact hm
  rw [e1]
  intro hh
  apply h
  rw [hh, ← e2]

theorem trn_app (x y : List Nat) (I t : Nat) : ∀ k, I + k ≤ x.length → trn (x ++ y) I t k = trn x I t k ++ y
  | 0, _ => rfl
  | k + 1, h => by
    have hl : I + k < (trn x I t k).length := by rw [trn_len]; omega
    show (trn (x ++ y) I t k).set _ ((trn (x ++ y) I t k).getD _ 0 ^^^ _) = (trn x I t k).set _ _ ++ y
    rw [trn_app x y I t k (by omega), List.set_append_left _ _ hl, List.getD_eq_getElem?_getD, List.getElem?_append_left hl, ← List.getD_eq_getElem?_getD]

theorem okMg_turned {m : Pm} (hw : m.Wf) (h : sndMg m = true) (i t : Nat) (hi : i + 8 ≤ (encMg m).length) (ht : t < 2 ^ 32) (h0 : t ≠ 0) : okMg (trn (encMg m) i t 4) = false := by
  have hs := sndMg_is h
  have hl : (encMg m).length = (bodM m).length + 4 := by unfold encMg; rw [List.length_append, be4_len]
  have e : trn (encMg m) i t 4 = trn (bodM m) i t 4 ++ be4 (Crc.sum (bodM m)) := by
    unfold encMg
    exact trn_app _ _ i t 4 (by omega)
  cases ho : okMg (trn (encMg m) i t 4) with
  | false => rfl
  | true =>
    exfalso
    unfold okMg at ho
    simp only [Bool.and_eq_true, decide_eq_true_eq] at ho
    obtain ⟨⟨⟨⟨_, _⟩, hc⟩, _⟩, _⟩ := ho
    have hlen : (trn (bodM m) i t 4 ++ be4 (Crc.sum (bodM m))).length - 4 = (trn (bodM m) i t 4).length := by
      rw [List.length_append, be4_len, Nat.add_sub_cancel]
    unfold cutMg at hc
    rw [e, hlen, List.drop_left' rfl, List.take_left' rfl] at hc
    have hb := bodM_bytes hw hs
    have e1 := num4_be4 (Crc.sum (bodM m)) (Crc.sum_lt _ hb) []
    have hb2 : Gf.Bytes (trn (bodM m) i t 4) := by
      obtain ⟨a, b, c, d, cs, e3⟩ := Crc.four_of ((bodM m).drop i) (by simp; omega)
      have hl2 : ((bodM m).take i).length = i := by simp; omega
      have hm : bodM m = (bodM m).take i ++ a :: b :: c :: d :: cs := by rw [← e3, List.take_append_drop]
      have e4 := trn_four ((bodM m).take i) cs a b c d t
      rw [hl2, ← hm] at e4
      rw [e4]
      have hd : Gf.Bytes (a :: b :: c :: d :: cs) := by rw [← e3]; exact bytes_drop hb i
      refine bytes_app' (bytes_app' (bytes_take' hb i) (Crc.add_bytes _ _ (fun x hx => hd x ?_) (Crc.by4_bytes t))) fun x hx => hd x (by simp [hx])
      simp at hx ⊢
      omega
    have e2 := num4_be4 (Crc.sum (trn (bodM m) i t 4)) (Crc.sum_lt _ hb2) []
    rw [← hc, e1] at e2
    exact trn_turned (bodM m) i t (by omega) hb ht h0 e2.symm

end Go.Proofs.Ytggjpjpemgpeeaa
