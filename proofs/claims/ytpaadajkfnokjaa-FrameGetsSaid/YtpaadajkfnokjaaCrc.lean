/-
  Plain mathematics of the sum (CRC-32): one bit's step is linear over exclusive or and loses nothing; so a frame is told by one number, and bits turned within 32 in a row change that number.
  Conditions: none; no program is named here.
-/
namespace Go.Proofs.Ytpaadajkfnokjaa

def poly : Nat := 3988292384
/-- A bit goes out of a sum. -/
def T (v : Nat) : Nat := if v % 2 = 1 then (v / 2) ^^^ poly else v / 2
/-- So many bits go out. -/
def Tn (n v : Nat) : Nat := if n = 0 then v else T (Tn (n - 1) v)
  termination_by n
theorem Tn_0 (v : Nat) : Tn 0 v = v := by rw [Tn, if_pos rfl]
theorem Tn_s (n v : Nat) : Tn (n + 1) v = T (Tn n v) := by rw [Tn, if_neg (by omega), Nat.add_sub_cancel]

theorem xor4 (a b c d : Nat) : (a ^^^ b) ^^^ (c ^^^ d) = (a ^^^ c) ^^^ (b ^^^ d) := by
  rw [Nat.xor_assoc, ← Nat.xor_assoc b c d, Nat.xor_comm b c, Nat.xor_assoc c b d, ← Nat.xor_assoc a c]
theorem T_xor (a b : Nat) : T (a ^^^ b) = T a ^^^ T b := by
  have h1 : (a ^^^ b) / 2 = a / 2 ^^^ b / 2 := Nat.xor_div_two
  have h2 := @Nat.xor_mod_two_eq_one a b
  unfold T
  rw [h1]
  by_cases ha : a % 2 = 1 <;> by_cases hb : b % 2 = 1
  · rw [if_neg (by rw [h2]; simp [ha, hb]), if_pos ha, if_pos hb, xor4, Nat.xor_self, Nat.xor_zero]
  · rw [if_pos (by rw [h2]; simp [ha, hb]), if_pos ha, if_neg hb, Nat.xor_assoc, Nat.xor_comm (b / 2), ← Nat.xor_assoc]
  · rw [if_pos (by rw [h2]; simp [ha, hb]), if_neg ha, if_pos hb, Nat.xor_assoc]
  · rw [if_neg (by rw [h2]; simp [ha, hb]), if_neg ha, if_neg hb]
theorem T_zero : T 0 = 0 := by decide
theorem xor_lt (a b : Nat) (ha : a < 4294967296) (hb : b < 4294967296) : a ^^^ b < 4294967296 := Nat.xor_lt_two_pow (n := 32) ha hb
theorem T_lt (v : Nat) (h : v < 4294967296) : T v < 4294967296 := by
  unfold T
  split
  · exact xor_lt _ _ (by omega) (by decide)
  · omega
theorem xor_eq_zero {a b : Nat} (h : a ^^^ b = 0) : a = b := by
  have := congrArg (· ^^^ b) h
  simpa [Nat.xor_assoc] using this
theorem T_inj (v : Nat) (h : v < 4294967296) (h0 : T v = 0) : v = 0 := by
  unfold T at h0
  split at h0
  · have e := xor_eq_zero h0
    unfold poly at e
    omega
  · omega
theorem Tn_xor (n a b : Nat) : Tn n (a ^^^ b) = Tn n a ^^^ Tn n b := by
  induction n with
  | zero => rw [Tn_0, Tn_0, Tn_0]
  | succ n ih => rw [Tn_s, Tn_s, Tn_s, ih, T_xor]
theorem Tn_zero (n : Nat) : Tn n 0 = 0 := by
  induction n with
  | zero => rw [Tn_0]
  | succ n ih => rw [Tn_s, ih, T_zero]
theorem Tn_lt (n v : Nat) (h : v < 4294967296) : Tn n v < 4294967296 := by
  induction n with
  | zero => rw [Tn_0]; exact h
  | succ n ih => rw [Tn_s]; exact T_lt _ ih
theorem Tn_inj (n v : Nat) (h : v < 4294967296) (h0 : Tn n v = 0) : v = 0 := by
  induction n with
  | zero => rw [Tn_0] at h0; exact h0
  | succ n ih => rw [Tn_s] at h0; exact ih (T_inj _ (Tn_lt n v h) h0)
theorem Tn_add (m n v : Nat) : Tn (m + n) v = Tn n (Tn m v) := by
  induction n with
  | zero => rw [Nat.add_zero, Tn_0]
  | succ n ih => rw [← Nat.add_assoc, Tn_s, Tn_s, ih]
theorem T_double (x : Nat) : T (2 * x) = x := by
  unfold T
  rw [if_neg (by omega)]
  omega
theorem Tn_shift (k x : Nat) : Tn k (2 ^ k * x) = x := by
  induction k generalizing x with
  | zero => rw [Tn_0]; simp
  | succ k ih => rw [Tn_s, Nat.pow_succ, Nat.mul_assoc, ih, T_double]
theorem add_xor (k a b : Nat) (h : a < 2 ^ k) : a + 2 ^ k * b = a ^^^ (2 ^ k * b) := by
  apply Nat.eq_of_testBit_eq
  intro j
  rw [Nat.add_comm, Nat.testBit_two_pow_mul_add _ h, Nat.testBit_xor, Nat.testBit_two_pow_mul]
  by_cases hj : j < k
  · have : ¬ j ≥ k := by omega
    simp [hj, this]
  · have h2 : a.testBit j = false := Nat.testBit_lt_two_pow (Nat.lt_of_lt_of_le h (Nat.pow_le_pow_right (by decide) (by omega)))
    have : j ≥ k := by omega
    simp [hj, this, h2]
/-- Bits may be put in all at once, or some now and some later. -/
theorem Tn_later (m k v s : Nat) : Tn m (Tn k (v ^^^ s % 2 ^ k) ^^^ (s / 2 ^ k % 2 ^ m)) = Tn (k + m) (v ^^^ s % 2 ^ (k + m)) := by
  rw [Tn_add, Nat.pow_add, Nat.mod_mul, add_xor k (s % 2 ^ k) _ (Nat.mod_lt _ (Nat.two_pow_pos k)), ← Nat.xor_assoc, Tn_xor k (v ^^^ s % 2 ^ k), Tn_shift]
theorem xor_bit (v b : Nat) (hb : b < 2) : T (v ^^^ b) = if v % 2 = b then v / 2 else (v / 2) ^^^ poly := by
  rw [T_xor]
  unfold T
  rcases (show b = 0 ∨ b = 1 by omega) with rfl | rfl
  · by_cases h : v % 2 = 1
    · rw [if_pos h, if_neg (by omega), if_neg (by omega)]; simp
    · rw [if_neg h, if_neg (by omega), if_pos (by omega)]; simp
  · by_cases h : v % 2 = 1
    · rw [if_pos h, if_pos (by omega), if_pos (by omega)]; simp [Nat.xor_assoc]
    · rw [if_neg h, if_pos (by omega), if_neg (by omega)]; simp
/-- One bit more. -/
theorem bit_more (k v s : Nat) : T (Tn k (v ^^^ s % 2 ^ k) ^^^ (s / 2 ^ k % 2)) = Tn (k + 1) (v ^^^ s % 2 ^ (k + 1)) := by
  have := Tn_later 1 k v s
  rw [Tn_s, Tn_0, Nat.pow_one] at this
  exact this
/-- Four bits by the table. -/
theorem half_more (v h : Nat) : (v / 16) ^^^ Tn 4 ((v ^^^ h) % 16) = Tn 4 (v ^^^ h % 16) := by
  have e : v = (v % 2 ^ 4) ^^^ (2 ^ 4 * (v / 2 ^ 4)) := by
    rw [← add_xor 4 _ _ (Nat.mod_lt _ (by decide))]
    omega
  have e2 : (v ^^^ h) % 16 = v % 16 ^^^ h % 16 := Nat.xor_mod_two_pow (n := 4)
  have e3 : v ^^^ h % 16 = (v % 16 ^^^ h % 16) ^^^ (2 ^ 4 * (v / 16)) := by
    rw [Nat.xor_assoc, Nat.xor_comm (h % 16), ← Nat.xor_assoc, ← show v = (v % 16) ^^^ (2 ^ 4 * (v / 16)) from e]
  rw [e3, Tn_xor, Tn_shift, e2, Nat.xor_comm]
theorem byte_more (v c : Nat) (hc : c < 256) : Tn 4 (Tn 4 (v ^^^ c % 16) ^^^ (c / 16) % 16) = Tn 8 (v ^^^ c) := by
  have := Tn_later 4 4 v c
  rw [show c % 2 ^ (4 + 4) = c from Nat.mod_eq_of_lt hc] at this
  exact this

/-- What is left of a sum behind these bytes. -/
def reg (v : Nat) (l : List UInt8) : Nat := l.foldl (fun v b => Tn 8 (v ^^^ b.toNat)) v
theorem reg_nil (v : Nat) : reg v [] = v := List.foldl_nil
theorem reg_cons (v : Nat) (x : UInt8) (l : List UInt8) : reg v (x :: l) = reg (Tn 8 (v ^^^ x.toNat)) l := List.foldl_cons ..
theorem reg_append (v : Nat) (l m : List UInt8) : reg v (l ++ m) = reg (reg v l) m := List.foldl_append
theorem reg_snoc (v : Nat) (l : List UInt8) (x : UInt8) : reg v (l ++ [x]) = Tn 8 (reg v l ^^^ x.toNat) := by rw [reg_append, reg_cons, reg_nil]
theorem u8_lt (x : UInt8) : x.toNat < 4294967296 := Nat.lt_of_lt_of_le x.toNat_lt (by decide)
theorem reg_lt (v : Nat) (l : List UInt8) (h : v < 4294967296) : reg v l < 4294967296 := by
  induction l generalizing v with
  | nil => rw [reg_nil]; exact h
  | cons x l ih => rw [reg_cons]; exact ih _ (Tn_lt _ _ (xor_lt _ _ h (u8_lt x)))
theorem reg_lin (a d : Nat) (l : List UInt8) : reg (a ^^^ d) l = reg a l ^^^ Tn (8 * l.length) d := by
  induction l generalizing a d with
  | nil => rw [reg_nil, reg_nil, List.length_nil, Nat.mul_zero, Tn_0]
  | cons x l ih =>
    rw [reg_cons, reg_cons, Nat.xor_assoc, Nat.xor_comm d, ← Nat.xor_assoc, Tn_xor, ih, ← Tn_add, List.length_cons]
    congr 2
    omega

def full : Nat := 4294967295
theorem compl_xor (x : Nat) (h : x < 4294967296) : 4294967295 - x = x ^^^ 4294967295 := by
  apply Nat.eq_of_testBit_eq
  intro j
  have h1 := Nat.testBit_two_pow_sub_succ (n := 32) h j
  have h2 : (4294967295 : Nat).testBit j = decide (j < 32) := Nat.testBit_two_pow_sub_one 32 j
  rw [show 4294967295 - x = 2 ^ 32 - (x + 1) by omega, h1, Nat.testBit_xor, h2]
  by_cases hj : j < 32
  · simp [hj]
  · have h3 : x.testBit j = false := Nat.testBit_lt_two_pow (Nat.lt_of_lt_of_le h (Nat.pow_le_pow_right (n := 2) (by decide) (show 32 ≤ j by omega)))
    simp [hj, h3]
/-- The sum of bytes behind others. -/
def more (s : Nat) (l : List UInt8) : Nat := 4294967295 - reg (4294967295 - s) l
def sumOf (l : List UInt8) : Nat := more 0 l
theorem more_lt (s : Nat) (l : List UInt8) : more s l < 4294967296 := by unfold more; omega
theorem sumOf_lt (l : List UInt8) : sumOf l < 4294967296 := more_lt 0 l
theorem sumOf_eq (l : List UInt8) : sumOf l = 4294967295 - reg 4294967295 l := rfl
theorem more_more (s : Nat) (l m : List UInt8) : more (more s l) m = more s (l ++ m) := by
  have h := reg_lt (4294967295 - s) l (by omega)
  unfold more
  rw [reg_append, show 4294967295 - (4294967295 - reg (4294967295 - s) l) = reg (4294967295 - s) l by omega]
theorem more_sum (l m : List UInt8) : more (sumOf l) m = sumOf (l ++ m) := more_more 0 l m
theorem more_nil (s : Nat) (h : s < 4294967296) : more s [] = s := by unfold more; rw [reg_nil]; omega

/-- Four bytes, the lowest first. -/
def le4 (s : Nat) : List UInt8 := [UInt8.ofNat (s % 256), UInt8.ofNat (s / 256 % 256), UInt8.ofNat (s / 65536 % 256), UInt8.ofNat (s / 16777216 % 256)]
theorem reg_le4 (v s : Nat) (h : s < 4294967296) : reg v (le4 s) = Tn 32 (v ^^^ s) := by
  have a1 := Tn_later 8 8 v s
  have a2 := Tn_later 8 16 v s
  have a3 := Tn_later 8 24 v s
  rw [show s % 2 ^ (24 + 8) = s from Nat.mod_eq_of_lt h] at a3
  have e0 : (UInt8.ofNat (s % 256)).toNat = s % 2 ^ 8 := by simp
  have e1 : (UInt8.ofNat (s / 256 % 256)).toNat = s / 2 ^ 8 % 2 ^ 8 := by simp
  have e2 : (UInt8.ofNat (s / 65536 % 256)).toNat = s / 2 ^ 16 % 2 ^ 8 := by simp
  have e3 : (UInt8.ofNat (s / 16777216 % 256)).toNat = s / 2 ^ 24 % 2 ^ 8 := by simp
  unfold le4
  rw [reg_cons, reg_cons, reg_cons, reg_cons, reg_nil, e0, e1, e2, e3, a1, a2, a3]
theorem le4_length (s : Nat) : (le4 s).length = 4 := rfl
/-- Four bytes are those of one number. -/
theorem le4_of (t : List UInt8) (h : t.length = 4) : ∃ u, u < 4294967296 ∧ t = le4 u := by
  match t, h with
  | [a, b, c, d], _ =>
    have ha := a.toNat_lt
    have hb := b.toNat_lt
    have hc := c.toNat_lt
    have hd := d.toNat_lt
    refine ⟨a.toNat + 256 * b.toNat + 65536 * c.toNat + 16777216 * d.toNat, by omega, ?_⟩
    unfold le4
    rw [show (a.toNat + 256 * b.toNat + 65536 * c.toNat + 16777216 * d.toNat) % 256 = a.toNat by omega,
      show (a.toNat + 256 * b.toNat + 65536 * c.toNat + 16777216 * d.toNat) / 256 % 256 = b.toNat by omega,
      show (a.toNat + 256 * b.toNat + 65536 * c.toNat + 16777216 * d.toNat) / 65536 % 256 = c.toNat by omega,
      show (a.toNat + 256 * b.toNat + 65536 * c.toNat + 16777216 * d.toNat) / 16777216 % 256 = d.toNat by omega]
    simp
/-- Bytes with their sum behind. -/
def putL (l : List UInt8) : List UInt8 := l ++ le4 (sumOf l)
theorem putL_length (l : List UInt8) : (putL l).length = l.length + 4 := by simp [putL, le4_length]
/-- These bytes are a frame (but for how many there are). -/
def okL (l : List UInt8) : Bool := decide (4 ≤ l.length) && decide (putL (l.take (l.length - 4)) = l)
theorem okL_put (l : List UInt8) : okL (putL l) = true := by
  unfold okL
  rw [putL_length, show l.length + 4 - 4 = l.length by omega]
  have e : (putL l).take l.length = l := by simp [putL]
  rw [e]
  simp
theorem take_put (l : List UInt8) : (putL l).take l.length = l := by simp [putL]
/-- A frame is told by one number. -/
theorem okL_reg (l : List UInt8) (h : 4 ≤ l.length) : okL l = decide (reg 4294967295 l = Tn 32 4294967295) := by
  obtain ⟨u, hu, ht⟩ := le4_of (l.drop (l.length - 4)) (by simp; omega)
  have hl : l.take (l.length - 4) ++ le4 u = l := by rw [← ht]; exact List.take_append_drop _ _
  have hr : reg 4294967295 l = Tn 32 (reg 4294967295 (l.take (l.length - 4)) ^^^ u) := by
    rw [← reg_le4 _ u hu, ← reg_append, hl]
  have hs : sumOf (l.take (l.length - 4)) = reg 4294967295 (l.take (l.length - 4)) ^^^ 4294967295 := by
    rw [sumOf_eq, compl_xor _ (reg_lt _ _ (by decide))]
  have hlt := reg_lt 4294967295 (l.take (l.length - 4)) (by decide)
  unfold okL
  rw [hr]
  generalize l.take (l.length - 4) = c at hl hs hlt ⊢
  rw [show decide (4 ≤ l.length) = true by simpa using h, Bool.true_and]
  congr 1
  apply propext
  constructor
  · intro e
    have e2 : le4 (sumOf c) = le4 u := List.append_cancel_left (as := c) (e.trans hl.symm)
    have e3 := congrArg (reg 0) e2
    rw [reg_le4 _ _ (sumOf_lt c), reg_le4 _ _ hu, Nat.zero_xor, Nat.zero_xor] at e3
    have e4 : Tn 32 (sumOf c ^^^ u) = 0 := by rw [Tn_xor, e3, Nat.xor_self]
    have e5 := xor_eq_zero (Tn_inj 32 _ (xor_lt _ _ (sumOf_lt c) hu) e4)
    rw [← e5, hs, ← Nat.xor_assoc, Nat.xor_self, Nat.zero_xor]
  · intro e
    have e4 : Tn 32 ((reg 4294967295 c ^^^ u) ^^^ 4294967295) = 0 := by rw [Tn_xor, e, Nat.xor_self]
    have e5 := xor_eq_zero (Tn_inj 32 _ (xor_lt _ _ (xor_lt _ _ hlt hu) (by decide)) e4)
    have e6 : sumOf c = u := by
      rw [hs]
      generalize reg 4294967295 c = r at e5
      rw [← e5, ← Nat.xor_assoc, Nat.xor_self, Nat.zero_xor]
    unfold putL
    rw [e6]
    exact hl

/-- A bit is turned. -/
def flip (l : List UInt8) (i : Nat) : List UInt8 := l.set (i / 8) ((l.getD (i / 8) 0) ^^^ UInt8.ofNat (2 ^ (i % 8)))
theorem flip_length (l : List UInt8) (i : Nat) : (flip l i).length = l.length := by simp [flip]
theorem reg_flip (v : Nat) (l : List UInt8) (i : Nat) (hi : i < 8 * l.length) : reg v (flip l i) = reg v l ^^^ Tn (8 * l.length - i) 1 := by
  have hk : i / 8 < l.length := by omega
  obtain ⟨j, hj⟩ : ∃ j, j = i % 8 := ⟨_, rfl⟩
  have hj8 : j < 8 := by omega
  have hl : l = l.take (i / 8) ++ l[i / 8] :: l.drop (i / 8 + 1) := by
    rw [← List.drop_eq_getElem_cons hk, List.take_append_drop]
  have hf : flip l i = l.take (i / 8) ++ (l[i / 8] ^^^ UInt8.ofNat (2 ^ j)) :: l.drop (i / 8 + 1) := by
    unfold flip
    rw [← hj, List.set_eq_take_append_cons_drop, if_pos hk]
    simp [List.getD, List.getElem?_eq_getElem hk]
  have hn : (UInt8.ofNat (2 ^ j)).toNat = 2 ^ j := by
    rw [UInt8.toNat_ofNat']
    exact Nat.mod_eq_of_lt (Nat.pow_lt_pow_right (by decide) hj8)
  have h8 : Tn 8 (2 ^ j) = Tn (8 - j) 1 := by
    have := Tn_add j (8 - j) (2 ^ j * 1)
    rw [Tn_shift, Nat.mul_one, show j + (8 - j) = 8 by omega] at this
    exact this
  have hlen : (l.drop (i / 8 + 1)).length = l.length - (i / 8 + 1) := List.length_drop
  conv => rhs; rw [hl]
  rw [hf, reg_append, reg_append, reg_cons, reg_cons, UInt8.toNat_xor, hn, ← Nat.xor_assoc, Tn_xor, h8, reg_lin, ← Tn_add]
  congr 2
  rw [List.length_append, List.length_cons, hlen, List.length_take]
  omega
theorem flip_bit (n k : Nat) (h : k ≤ n) : Tn (n - k) 1 = Tn n (2 ^ k) := by
  have := Tn_add k (n - k) (2 ^ k * 1)
  rw [Tn_shift, Nat.mul_one, show k + (n - k) = n by omega] at this
  exact this.symm
/-- Which of the bits are turned before the round k: those that are there. -/
def seen (bits room k : Nat) : Nat := bits % 2 ^ (min k room)
theorem seen_zero (bits room : Nat) : seen bits room 0 = 0 := by simp [seen, Nat.mod_one]
theorem seen_lt (bits room k : Nat) (h : k ≤ 32) : seen bits room k < 4294967296 :=
  Nat.lt_of_lt_of_le (Nat.mod_lt _ (Nat.two_pow_pos _)) (Nat.pow_le_pow_right (n := 2) (by decide) (show min k room ≤ 32 by omega))
theorem seen_one (bits room k : Nat) (hk : k < room) (hb : bits / 2 ^ k % 2 = 1) : seen bits room (k + 1) = seen bits room k ^^^ 2 ^ k := by
  unfold seen
  rw [Nat.min_eq_left (by omega), Nat.min_eq_left (by omega), Nat.pow_succ, Nat.mod_mul, hb, add_xor k _ _ (Nat.mod_lt _ (Nat.two_pow_pos k)), Nat.mul_one]
theorem seen_none (bits room k : Nat) (h : room ≤ k ∨ bits / 2 ^ k % 2 = 0) : seen bits room (k + 1) = seen bits room k := by
  unfold seen
  by_cases hr : room ≤ k
  · rw [Nat.min_eq_right hr, Nat.min_eq_right (by omega)]
  · have hb : bits / 2 ^ k % 2 = 0 := by
      rcases h with h | h
      · omega
      · exact h
    rw [Nat.min_eq_left (by omega), Nat.min_eq_left (by omega), Nat.pow_succ, Nat.mod_mul, hb, Nat.mul_zero, Nat.add_zero]
theorem seen_ne (bits room k : Nat) (hk : k < room) (hb : bits / 2 ^ k % 2 = 1) : seen bits room (k + 1) ≠ 0 := by
  unfold seen
  rw [Nat.min_eq_left (by omega), Nat.pow_succ, Nat.mod_mul, hb]
  have := Nat.two_pow_pos k
  omega
/-- What the bytes are, when so many bits have been looked at: the number that tells a frame. -/
structure Burst (l0 l : List UInt8) (from_ bits k : Nat) : Prop where
  len : l.length = l0.length
  rg : reg 4294967295 l = reg 4294967295 l0 ^^^ Tn (8 * l0.length - from_) (seen bits (8 * l0.length - from_) k)
theorem Burst.start (l0 : List UInt8) (from_ bits : Nat) : Burst l0 l0 from_ bits 0 := ⟨rfl, by rw [seen_zero, Tn_zero, Nat.xor_zero]⟩
theorem Burst.one {l0 l : List UInt8} {from_ bits k : Nat} (h : Burst l0 l from_ bits k) (hk : from_ + k < 8 * l0.length) (hb : bits / 2 ^ k % 2 = 1) : Burst l0 (flip l (from_ + k)) from_ bits (k + 1) := by
  refine ⟨by rw [flip_length, h.len], ?_⟩
  rw [reg_flip _ _ _ (by rw [h.len]; exact hk), h.rg, h.len, seen_one _ _ _ (by omega) hb, Tn_xor, ← flip_bit _ k (by omega), Nat.xor_assoc]
  congr 3
  omega
theorem Burst.none {l0 l : List UInt8} {from_ bits k : Nat} (h : Burst l0 l from_ bits k) (hn : 8 * l0.length ≤ from_ + k ∨ bits / 2 ^ k % 2 = 0) : Burst l0 l from_ bits (k + 1) :=
  ⟨h.len, by rw [h.rg, seen_none _ _ _ (hn.imp (fun h => by omega) id)]⟩
/-- Short turns are seen. -/
theorem Burst.told {c l : List UInt8} {from_ bits : Nat} (h : Burst (putL c) l from_ bits (32 : Nat)) : okL l = decide (seen bits (8 * (putL c).length - from_) 32 = 0) := by
  have h4 : 4 ≤ (putL c).length := by rw [putL_length]; omega
  have h0 := okL_put c
  rw [okL_reg _ h4] at h0
  have h1 : reg 4294967295 (putL c) = Tn 32 4294967295 := by simpa using h0
  rw [okL_reg _ (by rw [h.len]; exact h4), h.rg, h1]
  congr 1
  apply propext
  constructor
  · intro e
    have e2 : Tn (8 * (putL c).length - from_) (seen bits (8 * (putL c).length - from_) 32) = 0 := by
      have := congrArg (Tn 32 4294967295 ^^^ ·) e
      simpa [← Nat.xor_assoc] using this
    exact Tn_inj _ _ (seen_lt _ _ _ (Nat.le_refl _)) e2
  · intro e
    rw [e, Tn_zero, Nat.xor_zero]

/-- Bytes turned by others, one by one. -/
def xorL : List UInt8 → List UInt8 → List UInt8
  | [], _ => []
  | x :: l, [] => x :: l
  | x :: l, y :: m => (x ^^^ y) :: xorL l m
theorem reg_xorL (l b : List UInt8) (v d : Nat) : reg (v ^^^ d) (xorL l b) = reg v l ^^^ reg d (xorL (List.replicate l.length 0) b) := by
  induction l generalizing v d b with
  | nil => rfl
  | cons x l ih =>
    cases b with
    | nil =>
      have := ih [] (Tn 8 (v ^^^ x.toNat)) (Tn 8 (d ^^^ (0 : UInt8).toNat))
      have e1 : xorL l [] = l := by cases l <;> rfl
      have e2 : xorL (List.replicate l.length 0) [] = List.replicate l.length 0 := by cases List.replicate l.length (0 : UInt8) <;> rfl
      rw [e1, e2] at this
      show reg (Tn 8 ((v ^^^ d) ^^^ x.toNat)) l = reg (Tn 8 (v ^^^ x.toNat)) l ^^^ reg (Tn 8 (d ^^^ (0 : UInt8).toNat)) (List.replicate l.length 0)
      rw [← this, ← Tn_xor]
      congr 2
      rw [xor4]
      simp
    | cons y m =>
      have := ih m (Tn 8 (v ^^^ x.toNat)) (Tn 8 (d ^^^ ((0 : UInt8) ^^^ y).toNat))
      show reg (Tn 8 ((v ^^^ d) ^^^ (x ^^^ y).toNat)) (xorL l m) = reg (Tn 8 (v ^^^ x.toNat)) l ^^^ reg (Tn 8 (d ^^^ ((0 : UInt8) ^^^ y).toNat)) (xorL (List.replicate l.length 0) m)
      rw [← this, ← Tn_xor]
      congr 2
      rw [xor4]
      simp [UInt8.toNat_xor]
theorem sum_xorL (a b : List UInt8) : sumOf (xorL a b) ^^^ sumOf a = sumOf (xorL (List.replicate a.length 0) b) ^^^ sumOf (List.replicate a.length 0) := by
  have key : ∀ c : List UInt8, c.length = a.length → sumOf (xorL c b) ^^^ sumOf c = reg 0 (xorL (List.replicate a.length 0) b) := by
    intro c hc
    have h := reg_xorL c b 4294967295 0
    rw [Nat.xor_zero, hc] at h
    rw [sumOf_eq, sumOf_eq, compl_xor _ (reg_lt _ _ (by decide)), compl_xor _ (reg_lt _ _ (by decide)), xor4, Nat.xor_self, Nat.xor_zero, h, Nat.xor_comm (reg 4294967295 c), Nat.xor_assoc, Nat.xor_self, Nat.xor_zero]
  rw [key a rfl, key _ (by simp)]
end Go.Proofs.Ytpaadajkfnokjaa
