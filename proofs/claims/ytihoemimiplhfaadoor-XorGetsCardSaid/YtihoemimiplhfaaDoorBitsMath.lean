/-
  Plain facts: bytes as one number, the greatest first; bits put behind bits.
-/
import Derived.Test.YtihoemimiplhfaaDoorNums
namespace Go.Proofs.YtihoemimiplhfaaDoor
open Go.RowKit

def beVal (l : List UInt8) : Nat := l.foldl (fun a b => a * 256 + b.toNat) 0
theorem beVal_snoc (l : List UInt8) (b : UInt8) : beVal (l ++ [b]) = beVal l * 256 + b.toNat := by simp [beVal]
theorem snoc_of_len {α : Type} {l : List α} {n : Nat} (h : l.length = n + 1) : ∃ l' b, l = l' ++ [b] :=
  have hn : l ≠ [] := by intro e; subst e; simp at h
  ⟨l.dropLast, l.getLast hn, (List.dropLast_concat_getLast hn).symm⟩
theorem beVal_lt (l : List UInt8) : beVal l < 256 ^ l.length := by
  induction hn : l.length generalizing l with
  | zero => obtain rfl := List.length_eq_zero_iff.1 hn; decide
  | succ n ih =>
    obtain ⟨l', b, rfl⟩ := snoc_of_len hn
    have h := ih l' (by simpa using hn)
    rw [beVal_snoc, Nat.pow_succ]
    have := b.toNat_lt
    omega
def beBytes : Nat → Nat → List UInt8
  | 0, _ => []
  | k + 1, v => beBytes k (v / 256) ++ [UInt8.ofNat (v % 256)]
theorem beBytes_length : ∀ (k v : Nat), (beBytes k v).length = k
  | 0, _ => rfl
  | k + 1, v => by rw [beBytes, List.length_append, beBytes_length k]; rfl
theorem beBytes_val (l : List UInt8) : beBytes l.length (beVal l) = l := by
  induction hn : l.length generalizing l with
  | zero => obtain rfl := List.length_eq_zero_iff.1 hn; rfl
  | succ n ih =>
    obtain ⟨l', b, rfl⟩ := snoc_of_len hn
    have h := ih l' (by simpa using hn)
    have hb := b.toNat_lt
    rw [beVal_snoc, beBytes, show (beVal l' * 256 + b.toNat) / 256 = beVal l' by omega, h, show (beVal l' * 256 + b.toNat) % 256 = b.toNat by omega]
    simp
theorem beVal_inj {l m : List UInt8} (h1 : l.length = m.length) (h2 : beVal l = beVal m) : l = m := by rw [← beBytes_val l, ← beBytes_val m, h1, h2]

/-- l holds the n bits of V, and zeros behind -/
def WB (n V : Nat) (l : List UInt8) : Prop := n ≤ 8 * l.length ∧ 8 * l.length - n ≤ 8 ∧ beVal l = V * 2 ^ (8 * l.length - n) ∧ V < 2 ^ n
theorem wb_nil : WB 0 0 [] := ⟨by simp, by simp, by simp [beVal], by simp⟩
theorem wb_grow {n V : Nat} {l : List UInt8} (h : WB n V l) (hf : n = 8 * l.length) : WB n V (l ++ [0]) := by
  obtain ⟨h1, h2, h3, h4⟩ := h
  refine ⟨by simp; omega, by simp; omega, ?_, h4⟩
  rw [beVal_snoc, h3, hf]
  have e : 8 * (l ++ [0]).length - 8 * l.length = 8 := by simp; omega
  rw [e, Nat.sub_self]
  simp
theorem wb_put {n V size ch : Nat} {l : List UInt8} {c : UInt8} (h : WB n V (l ++ [c])) (hs : size ≤ 8 * (l.length + 1) - n) (hc : ch < 2 ^ size) :
    c.toNat ||| ch * 2 ^ (8 * (l.length + 1) - n - size) < 256 ∧ WB (n + size) (V * 2 ^ size + ch) (l ++ [UInt8.ofNat (c.toNat ||| ch * 2 ^ (8 * (l.length + 1) - n - size))]) := by
  obtain ⟨h1, h2, h3, h4⟩ := h
  rw [List.length_append, List.length_singleton] at h1 h2 h3
  generalize hf : 8 * (l.length + 1) - n = f at h2 h3 hs
  have hp : 2 ^ f = 2 ^ size * 2 ^ (f - size) := by rw [← Nat.pow_add]; congr 1; omega
  have hx : ch * 2 ^ (f - size) < 2 ^ f := by rw [hp]; exact Nat.mul_lt_mul_of_pos_right hc (Nat.pow_pos (by omega))
  have hf8 : 2 ^ f ≤ 2 ^ 8 := Nat.pow_le_pow_right (by omega) (by omega)
  have hd : 256 = 2 ^ f * 2 ^ (8 - f) := by rw [← Nat.pow_add, show f + (8 - f) = 8 by omega]
  -- the low bits of the last byte are zero
  rw [beVal_snoc] at h3
  have hb := c.toNat_lt
  have hcz : c.toNat % 2 ^ f = 0 := by
    have e1 : (beVal l * 256 + c.toNat) % 2 ^ f = 0 := by rw [h3]; exact Nat.mul_mod_left _ _
    rw [hd, Nat.add_mod, show beVal l * (2 ^ f * 2 ^ (8 - f)) = beVal l * 2 ^ (8 - f) * 2 ^ f by rw [Nat.mul_assoc, Nat.mul_comm (2 ^ f)], Nat.mul_mod_left, Nat.zero_add, Nat.mod_mod] at e1
    exact e1
  have hor : c.toNat ||| ch * 2 ^ (f - size) = c.toNat + ch * 2 ^ (f - size) := nat_join f c.toNat _ hcz hx
  have hlt : c.toNat + ch * 2 ^ (f - size) < 256 := by
    have e2 : c.toNat = c.toNat / 2 ^ f * 2 ^ f := by have := Nat.div_add_mod c.toNat (2 ^ f); rw [Nat.mul_comm] at this; omega
    have e3 : c.toNat / 2 ^ f < 2 ^ (8 - f) := by
      rw [Nat.div_lt_iff_lt_mul (Nat.pow_pos (by omega)), Nat.mul_comm, ← hd]; exact hb
    have e4 : (c.toNat / 2 ^ f + 1) * 2 ^ f ≤ 2 ^ (8 - f) * 2 ^ f := Nat.mul_le_mul_right _ e3
    rw [Nat.mul_comm (2 ^ (8 - f)), ← hd, Nat.add_mul, Nat.one_mul, ← e2] at e4
    omega
  rw [hor]
  refine ⟨hlt, by simp; omega, by simp; omega, ?_, ?_⟩
  · have e5 : 8 * (l ++ [UInt8.ofNat (c.toNat + ch * 2 ^ (f - size))]).length - (n + size) = f - size := by simp; omega
    rw [e5, beVal_snoc]
    have e6 : (UInt8.ofNat (c.toNat + ch * 2 ^ (f - size))).toNat = c.toNat + ch * 2 ^ (f - size) := by simp; omega
    rw [e6, ← Nat.add_assoc, h3, hp, Nat.add_mul, Nat.mul_assoc]
  · rw [Nat.pow_add]
    have : (V + 1) * 2 ^ size ≤ 2 ^ n * 2 ^ size := Nat.mul_le_mul_right _ h4
    rw [Nat.add_mul, Nat.one_mul] at this
    omega
/-- the byte that is or'ed, as the code reckons it -/
theorem chunk_byte (N c size f : Nat) (hs : size ≤ f) (hf : f ≤ 8) : N / 2 ^ c * 2 ^ (8 - size) % 256 / 2 ^ (8 - f) = N / 2 ^ c % 2 ^ size * 2 ^ (f - size) := by
  have h1 : 256 = 2 ^ size * 2 ^ (8 - size) := by rw [← Nat.pow_add, show size + (8 - size) = 8 by omega]
  rw [h1, Nat.mul_mod_mul_right]
  have h2 : 2 ^ (8 - size) = 2 ^ (f - size) * 2 ^ (8 - f) := by rw [← Nat.pow_add]; congr 1; omega
  rw [h2, ← Nat.mul_assoc, Nat.mul_div_cancel _ (Nat.pow_pos (by omega))]
/-- a number, put in two parts -/
theorem put_part (N c size : Nat) : N / 2 ^ (c + size) * 2 ^ size + N / 2 ^ c % 2 ^ size = N / 2 ^ c := by
  have := Nat.div_add_mod (N / 2 ^ c) (2 ^ size)
  rw [Nat.div_div_eq_div_mul, ← Nat.pow_add, Nat.mul_comm] at this
  exact this
/-- the bytes of the n bits of V -/
def packB (n V : Nat) : List UInt8 := beBytes ((n + 7) / 8) (V * 2 ^ (8 * ((n + 7) / 8) - n))
theorem wb_packB {n V : Nat} {l : List UInt8} (h : WB n V l) (hl : 8 * l.length - n < 8) : l = packB n V := by
  obtain ⟨h1, h2, h3, h4⟩ := h
  have e : (n + 7) / 8 = l.length := by omega
  rw [packB, e, ← h3, beBytes_val]
/-- the count bits behind the first 'at' ones -/
def getB (l : List UInt8) (i c : Nat) : Nat := beVal l / 2 ^ (8 * l.length - i - c) % 2 ^ c
theorem getB_lt (l : List UInt8) (i c : Nat) : getB l i c < 2 ^ c := Nat.mod_lt _ (Nat.pow_pos (by omega))
theorem getB_zero (l : List UInt8) (i : Nat) : getB l i 0 = 0 := by simp [getB, Nat.mod_one]
/-- got in two parts -/
theorem getB_part (l : List UInt8) (i c d : Nat) (h : i + c + d ≤ 8 * l.length) : getB l i (c + d) = getB l i c * 2 ^ d + getB l (i + c) d := by
  unfold getB
  generalize beVal l = B
  have e1 : 8 * l.length - i - c = (8 * l.length - i - (c + d)) + d := by omega
  have e2 : 8 * l.length - (i + c) - d = 8 * l.length - i - (c + d) := by omega
  rw [e1, e2]
  generalize 8 * l.length - i - (c + d) = k
  rw [show 2 ^ (k + d) = 2 ^ k * 2 ^ d from Nat.pow_add _ _ _, ← Nat.div_div_eq_div_mul]
  generalize B / 2 ^ k = X
  rw [show 2 ^ (c + d) = 2 ^ d * 2 ^ c by rw [← Nat.pow_add, Nat.add_comm], Nat.mod_mul, Nat.mul_comm (2 ^ d), Nat.add_comm]
theorem beVal_append (l m : List UInt8) : beVal (l ++ m) = beVal l * 256 ^ m.length + beVal m := by
  induction hn : m.length generalizing m with
  | zero => obtain rfl := List.length_eq_zero_iff.1 hn; simp [beVal]
  | succ n ih =>
    obtain ⟨m', b, rfl⟩ := snoc_of_len hn
    have h := ih m' (by simpa using hn)
    rw [← List.append_assoc, beVal_snoc, h, beVal_snoc, Nat.pow_succ, Nat.add_mul, Nat.mul_assoc, Nat.add_assoc]
/-- bits within one byte -/
theorem getB_byte (l : List UInt8) (i c : Nat) (hc : i % 8 + c ≤ 8) (h : i + c ≤ 8 * l.length) (hl : i / 8 < l.length) : getB l i c = l[i / 8].toNat * 2 ^ (i % 8) % 256 / 2 ^ (8 - c) := by
  have hsplit : l = l.take (i / 8) ++ ([l[i / 8]] ++ l.drop (i / 8 + 1)) := by simp
  have hb := l[i / 8].toNat_lt
  generalize hx : l[i / 8] = x at hsplit hb
  generalize hm : l.drop (i / 8 + 1) = m at hsplit
  have hml : m.length = l.length - (i / 8 + 1) := by rw [← hm]; simp
  generalize l.take (i / 8) = pre at hsplit
  have hv : beVal l = (beVal pre * 256 + x.toNat) * 256 ^ m.length + beVal m := by
    rw [hsplit, ← List.append_assoc, beVal_append, beVal_snoc]
  have hmlt := beVal_lt m
  unfold getB
  rw [hv]
  have e1 : 8 * l.length - i - c = 8 * m.length + (8 - i % 8 - c) := by omega
  have e2 : 2 ^ (8 * m.length) = 256 ^ m.length := by rw [Nat.pow_mul]
  rw [e1, Nat.pow_add, e2, ← Nat.div_div_eq_div_mul, Nat.mul_comm _ (256 ^ m.length), Nat.mul_add_div (Nat.pow_pos (by omega)), Nat.div_eq_of_lt hmlt, Nat.add_zero]
  -- now within one byte
  have hr : i % 8 < 8 := Nat.mod_lt _ (by omega)
  generalize i % 8 = r at hc hr
  generalize beVal pre = y
  generalize x.toNat = z at hb
  obtain ⟨t, ht⟩ : ∃ t, 8 - r - c = t := ⟨_, rfl⟩
  have hrt : r + c + t = 8 := by omega
  rw [ht]
  have e3 : (y * 256 + z) / 2 ^ t % 2 ^ c = z / 2 ^ t % 2 ^ c := by
    have : y * 256 = y * 2 ^ r * 2 ^ c * 2 ^ t := by rw [Nat.mul_assoc, Nat.mul_assoc, ← Nat.pow_add, ← Nat.pow_add, show r + (c + t) = 8 by omega]
    rw [this, Nat.mul_comm _ (2 ^ t), Nat.mul_add_div (Nat.pow_pos (by omega)), Nat.mul_comm _ (2 ^ c), Nat.mul_add_mod]
  rw [e3]
  have e4 : z * 2 ^ r % 256 = z % 2 ^ (c + t) * 2 ^ r := by
    rw [show 256 = 2 ^ (c + t) * 2 ^ r by rw [← Nat.pow_add, show c + t + r = 8 by omega], Nat.mul_mod_mul_right]
  rw [e4, show 8 - c = t + r by omega, show 2 ^ (t + r) = 2 ^ t * 2 ^ r from Nat.pow_add _ _ _, Nat.mul_div_mul_right _ _ (Nat.pow_pos (by omega))]
  rw [Nat.add_comm c t, Nat.pow_add, Nat.mod_mul_right_div_self]
end Go.Proofs.YtihoemimiplhfaaDoor
