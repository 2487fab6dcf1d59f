/-
  What a reader's calls answer wherever it stands, and what they answer if it stands ahead of what was written; what the texts of instructions that may be are made of.
  Classes as bytes, and how many bytes they are at most.
  Conditions: as each text of it says.
-/
import Derived.Test.YtpincofjopmaaaaGreatDoorM10
import Derived.Lib.ValidLaws
import Derived.Test.YtpincofjopmaaaaGreatDoorM07
namespace Go.Proofs.YtpincofjopmaaaaGreatDoor
open Go.RowKit
def plainC (c : UInt8) : Prop := c.toNat < 128 ∧ c.toNat ≠ 10 ∧ c.toNat ≠ 32
theorem okAt_plain {i : Nat} {c : UInt8} (h : okAt i c = true) : plainC c := by
  unfold okAt letterB digitB at h
  simp at h
  unfold plainC
  omega
theorem name_plain {l : List UInt8} (h : nameB l = true) : (∀ c ∈ l, plainC c) ∧ l.length ≤ 32 := by
  refine ⟨fun c hc => ?_, (nameB_pos h).2⟩
  obtain ⟨i, hi, rfl⟩ := List.getElem_of_mem hc
  have h1 := nameB_ok h i hi
  rw [List.getD, List.getElem?_eq_getElem hi, Option.getD_some] at h1
  exact okAt_plain h1
theorem right_plain : ∀ (n : Nat) (l : List UInt8), l.length ≤ n → rightB l = true → ∀ c ∈ l, plainC c := by
  intro n
  induction n with
  | zero =>
    intro l hl _ c hc
    rw [List.length_eq_zero_iff.1 (by omega : l.length = 0)] at hc
    simp at hc
  | succ n ih =>
    intro l hl hr c hc
    cases hE : endsB l with
    | false =>
      have hd := deepN_not hE
      have hb : baseL l = l := by unfold baseL; rw [hd]; simp
      have := right_base hr
      rw [hb] at this
      exact (name_plain this).1 c hc
    | true =>
      have hof := ends_of hE
      have h2 := endsB_two hE
      rw [← hof] at hr hc
      rw [ofL_right, Bool.and_eq_true] at hr
      unfold ofL at hc
      rw [List.mem_append] at hc
      rcases hc with hc | hc
      · exact ih _ (by rw [List.length_take]; omega) hr.1 c hc
      · simp at hc
        rcases hc with rfl | rfl <;> (unfold plainC; decide)
theorem right_len {l : List UInt8} (h : rightB l = true) : l.length ≤ 38 := by
  have h1 := (name_plain (right_base h)).2
  rw [baseL_length] at h1
  have h2 : deepN l ≤ 3 := by
    unfold rightB at h
    simp at h
    exact h.1
  omega
theorem parts_plain {l : List UInt8} (h : partsB l = true) : (∀ c ∈ l, plainC c) ∧ l.length ≤ 65 := by
  unfold partsB memberB at h
  simp only [Bool.and_eq_true, decide_eq_true_eq] at h
  obtain ⟨h0, h1, h2, _⟩ := h
  have p1 := name_plain (classB_name h1)
  have p2 := name_plain h2
  have hs : l = l.take (dotAt l) ++ (l[dotAt l] :: l.drop (dotAt l + 1)) := by
    rw [← List.drop_eq_getElem_cons h0, List.take_append_drop]
  have hdot : l[dotAt l] = 46 := by
    have := List.findIdx_getElem (p := fun c : UInt8 => c == 46) (xs := l) (w := h0)
    exact beq_iff_eq.1 this
  refine ⟨fun c hc => ?_, ?_⟩
  · rw [hs, List.mem_append, List.mem_cons] at hc
    rcases hc with hc | rfl | hc
    · exact p1.1 c hc
    · rw [hdot]; unfold plainC; decide
    · exact p2.1 c hc
  · have q1 := p1.2
    have q2 := p2.2
    rw [List.length_take] at q1
    rw [List.length_drop] at q2
    omega
theorem plain_valid {l : List UInt8} (h : ∀ c ∈ l, plainC c) : Lib.validD l = true := by
  rw [Lib.validD_ascii l.length l (fun c hc => (h c (List.mem_of_mem_take hc)).1), List.drop_length]
  exact Lib.validD_nil
theorem allows_text {h : Nat} {s : List UInt8} (ha : allowsB h s = true) : Lib.validD s = true ∧ s.length ≤ 4096 ∧ s.contains 10 = false := by
  have nolf : (∀ c ∈ s, plainC c) → s.contains 10 = false := fun hp => by
    rw [Bool.eq_false_iff]
    intro hc
    rw [List.contains_iff_mem] at hc
    exact (hp 10 hc).2.1 rfl
  unfold allowsB at ha
  by_cases e2 : h = 2
  · rw [if_pos e2] at ha
    simp only [Bool.and_eq_true, decide_eq_true_eq, Bool.not_eq_true'] at ha
    exact ⟨ha.1.2, by omega, ha.2⟩
  rw [if_neg e2] at ha
  by_cases e3 : h = 3
  · rw [if_pos e3] at ha
    have p := name_plain (classB_name ha)
    exact ⟨plain_valid p.1, by omega, nolf p.1⟩
  rw [if_neg e3] at ha
  by_cases e4 : h = 4
  · rw [if_pos e4, Bool.or_eq_true, decide_eq_true_eq] at ha
    rcases ha with ha | ha
    · have p := name_plain (classB_name ha)
      exact ⟨plain_valid p.1, by omega, nolf p.1⟩
    · have hr : rightB s = true := by
        cases hq : rightB s with
        | true => rfl
        | false => rw [depN_not hq] at ha; omega
      have p := right_plain _ s (Nat.le_refl _) hr
      have q := right_len hr
      exact ⟨plain_valid p, by omega, nolf p⟩
  rw [if_neg e4] at ha
  by_cases e5 : h = 5
  · rw [if_pos e5, Bool.and_eq_true] at ha
    have p := right_plain _ s (Nat.le_refl _) ha.1
    have q := right_len ha.1
    exact ⟨plain_valid p, by omega, nolf p⟩
  rw [if_neg e5] at ha
  by_cases e6 : h = 6
  · rw [if_pos e6] at ha
    have p := parts_plain ha
    exact ⟨plain_valid p.1, by omega, nolf p.1⟩
  rw [if_neg e6] at ha
  have : s = [] := by simpa using ha
  rw [this]
  exact ⟨rfl, by simp, rfl⟩
theorem ins_fine {x : Ins} (h : x.e = 0) : idx x.op < 42 ∧ nameAt (idx x.op) = x.op ∧ (hasAt (idx x.op) ≠ 1 → x.n = 0) ∧ allowsB (hasAt (idx x.op)) x.s = true := by
  unfold Ins.e checkE at h
  by_cases hN : idx x.op < 42
  · rw [if_pos hN] at h
    refine ⟨hN, beq_iff_eq.1 (idx_at x.op hN), fun h1 => ?_, ?_⟩
    · by_cases hn : x.n = 0
      · exact hn
      · rw [if_pos ⟨h1, hn⟩] at h; cases h
    · split at h
      · cases h
      · split at h
        · assumption
        · cases h
  · rw [if_neg hN] at h; cases h
end Go.Proofs.YtpincofjopmaaaaGreatDoor
namespace Go.Proofs.YtpincofjopmaaaaGreatDoor
open Go.RowKit
def listB {α : Type} (f : α → List UInt8) (l : List α) : List UInt8 := Lib.uvarint l.length ++ l.flatMap f
def Fld.bytes (f : Fld) : List UInt8 := (textBytes f.name ++ textBytes f.kind) ++ [flagByte f.tr]
def Cat.bytes (c : Cat) : List UInt8 := (Lib.uvarint c.fr.toNat ++ (Lib.uvarint c.till.toNat ++ Lib.uvarint c.at_.toNat)) ++ textBytes c.cls
def Mth.head (m : Mth) : List UInt8 := textBytes m.name ++ (listB textBytes m.params ++ (textBytes m.res ++ [flagByte m.abs]))
def Mth.tail (m : Mth) : List UInt8 := Lib.uvarint m.loc.toNat ++ (putL m.code ++ listB Cat.bytes m.cats)
def Mth.bytes (m : Mth) : List UInt8 := if m.abs then m.head else m.head ++ m.tail
def Cls.bytes (c : Cls) : List UInt8 := (textBytes c.name ++ textBytes c.sup) ++ (listB textBytes c.like ++ ([flagByte c.itf, flagByte c.abs, flagByte c.fin] ++ (listB Fld.bytes c.flds ++ listB Mth.bytes c.mths)))
def i64 (n : Int) : Prop := -9223372036854775808 ≤ n ∧ n ≤ 9223372036854775807
def Cat.held (c : Cat) : Prop := i64 c.fr ∧ i64 c.till ∧ i64 c.at_
def Mth.held (m : Mth) : Prop := i64 m.loc ∧ (∀ x ∈ m.code, i64 x.n) ∧ (∀ x ∈ m.cats, x.held)
def Cls.held (c : Cls) : Prop := ∀ m ∈ c.mths, m.held
theorem flat_le {α : Type} (f : α → List UInt8) (B : Nat) : ∀ (l : List α), (∀ x ∈ l, (f x).length ≤ B) → (l.flatMap f).length ≤ B * l.length
  | [], _ => by simp
  | x :: l, h => by
    have ih := flat_le f B l (fun y hy => h y (List.mem_cons_of_mem _ hy))
    have h0 := h x List.mem_cons_self
    rw [List.flatMap_cons, List.length_append, List.length_cons, Nat.mul_succ]
    omega
theorem listB_le {α : Type} (f : α → List UInt8) (B N : Nat) (l : List α) (h : ∀ x ∈ l, (f x).length ≤ B) (hl : l.length ≤ N) (hN : N < 18446744073709551616) : (listB f l).length ≤ 10 + B * N := by
  have h1 := flat_le f B l h
  have h2 : (Lib.uvarint l.length).length ≤ 10 := Lib.uvarint_length64 (by omega)
  have h3 : B * l.length ≤ B * N := Nat.mul_le_mul_left B hl
  unfold listB
  rw [List.length_append]
  omega
theorem text_le (s : List UInt8) (N : Nat) (h : s.length ≤ N) (hN : N < 18446744073709551616) : (textBytes s).length ≤ 10 + N := by
  have h2 : (Lib.uvarint s.length).length ≤ 10 := Lib.uvarint_length64 (by omega)
  unfold textBytes
  rw [List.length_append]
  omega
theorem memB_len {l : List UInt8} (h : memB l = true) : l.length ≤ 32 := by
  unfold memB at h
  rw [Bool.and_eq_true] at h
  exact (nameB_pos h.1).2
theorem classB_len {l : List UInt8} (h : classB l = true) : l.length ≤ 32 := (nameB_pos (classB_name h)).2
theorem fine_ok {x : Ins} (h : x.fine = true) (hn : i64 x.n) : x.e = 0 ∧ x.ok := by
  have h0 : x.e = 0 := by unfold Ins.fine at h; simpa using h
  have h1 := (allows_text (ins_fine h0).2.2.2).2.1
  exact ⟨h0, hn, by omega⟩
theorem allE_fine : ∀ (l : List Ins), (∀ x ∈ l, x.fine = true) → allE l = 0
  | [], _ => rfl
  | x :: l, h => by
    have h0 : x.e = 0 := by have := h x List.mem_cons_self; unfold Ins.fine at this; simpa using this
    unfold allE
    rw [if_pos h0]
    exact allE_fine l (fun y hy => h y (List.mem_cons_of_mem _ hy))
structure Mth.Good (m : Mth) : Prop where
  ok : m.ok = true
  few : m.many = false
  held : m.held
theorem Mth.Good.name {m : Mth} (h : m.Good) : memB m.name = true := by have := h.ok; unfold Mth.ok at this; simp only [Bool.and_eq_true] at this; exact this.1
theorem Mth.Good.params {m : Mth} (h : m.Good) : ∀ x ∈ m.params, rightB x = true := by have := h.ok; unfold Mth.ok at this; simp only [Bool.and_eq_true, List.all_eq_true] at this; exact this.2.1
theorem Mth.Good.res {m : Mth} (h : m.Good) : m.res = [] ∨ rightB m.res = true := by have := h.ok; unfold Mth.ok at this; simp only [Bool.and_eq_true, Bool.or_eq_true, decide_eq_true_eq] at this; exact this.2.2.1
theorem Mth.Good.body {m : Mth} (h : m.Good) : m.body = true := by have := h.ok; unfold Mth.ok at this; simp only [Bool.and_eq_true] at this; exact this.2.2.2
theorem Mth.Good.nums {m : Mth} (h : m.Good) : m.params.length ≤ 32 ∧ m.cats.length ≤ 32 ∧ m.code.length ≤ 200 ∧ m.loc ≤ 64 := by
  have := h.few
  unfold Mth.many at this
  simp only [Bool.or_eq_false_iff, decide_eq_false_iff_not] at this
  omega
theorem Mth.Good.real {m : Mth} (h : m.Good) (ha : m.abs = false) : 0 < m.code.length ∧ (∀ x ∈ m.code, x.fine = true) ∧ (∀ x ∈ m.cats, Cat.ok m.code.length x = true) ∧ (m.params.length : Int) < m.loc := by
  have := h.body
  unfold Mth.body at this
  rw [ha] at this
  simp only [Bool.false_eq_true, if_false, Bool.and_eq_true, List.all_eq_true, decide_eq_true_eq] at this
  exact ⟨this.2.1, this.2.2.1, this.2.2.2, this.1⟩
theorem Mth.Good.code {m : Mth} (h : m.Good) (ha : m.abs = false) : allE m.code = 0 ∧ ∀ x ∈ m.code, x.ok :=
  ⟨allE_fine _ (h.real ha).2.1, fun x hx => (fine_ok ((h.real ha).2.1 x hx) (h.held.2.1 x hx)).2⟩
theorem cat_nums {n : Nat} {c : Cat} (h : Cat.ok n c = true) (hn : n ≤ 200) : (0 ≤ c.fr ∧ c.fr ≤ 200) ∧ (0 ≤ c.till ∧ c.till ≤ 200) ∧ (0 ≤ c.at_ ∧ c.at_ ≤ 200) ∧ classB c.cls = true := by
  unfold Cat.ok at h
  simp only [Bool.and_eq_true, decide_eq_true_eq] at h
  refine ⟨by omega, by omega, by omega, h.2.2.2.2.2⟩
theorem uv200 {z : Int} (h : z ≤ 200) : (Lib.uvarint z.toNat).length ≤ 10 := Lib.uvarint_length64 (by omega)
theorem cat_le {n : Nat} {c : Cat} (h : Cat.ok n c = true) (hn : n ≤ 200) : c.bytes.length ≤ 100 := by
  obtain ⟨h1, h2, h3, h4⟩ := cat_nums h hn
  have a := uv200 h1.2
  have b := uv200 h2.2
  have d := uv200 h3.2
  have e := text_le c.cls 32 (classB_len h4) (by decide)
  unfold Cat.bytes
  simp only [List.length_append]
  omega
theorem Mth.Good.res_len {m : Mth} (h : m.Good) : m.res.length ≤ 38 := by
  rcases h.res with e | e
  · rw [e]; simp
  · exact right_len e
theorem Mth.Good.head_le {m : Mth} (h : m.Good) : m.head.length ≤ 2000 := by
  have a := text_le m.name 32 (memB_len h.name) (by decide)
  have b := listB_le textBytes 48 32 m.params (fun x hx => text_le x 38 (right_len (h.params x hx)) (by decide)) h.nums.1 (by decide)
  have c := text_le m.res 38 h.res_len (by decide)
  unfold Mth.head
  simp only [List.length_append, List.length_cons, List.length_nil]
  omega
theorem putL_le {l : List Ins} (h : ∀ x ∈ l, x.ok) (hl : l.length ≤ 200) : (putL l).length ≤ 209720010 := by
  have h1 := insBytes_le l h
  have h2 : (Lib.uvarint l.length).length ≤ 10 := Lib.uvarint_length64 (by omega)
  unfold putL
  rw [List.length_append]
  omega
theorem Mth.Good.tail_le {m : Mth} (h : m.Good) (ha : m.abs = false) : m.tail.length ≤ 209730000 := by
  have a : (Lib.uvarint m.loc.toNat).length ≤ 10 := Lib.uvarint_length64 (by have := h.nums.2.2.2; omega)
  have b := putL_le (h.code ha).2 h.nums.2.2.1
  have c := listB_le Cat.bytes 100 32 m.cats (fun x hx => cat_le ((h.real ha).2.2.1 x hx) h.nums.2.2.1) h.nums.2.1 (by decide)
  unfold Mth.tail
  simp only [List.length_append]
  omega
theorem Mth.Good.le {m : Mth} (h : m.Good) : m.bytes.length ≤ 209740000 := by
  have a := h.head_le
  unfold Mth.bytes
  cases ha : m.abs
  · have b := h.tail_le ha
    simp only [Bool.false_eq_true, if_false, List.length_append]
    omega
  · simp only [if_true]
    omega
theorem fld_le {f : Fld} (h : f.ok = true) : f.bytes.length ≤ 100 := by
  unfold Fld.ok at h
  rw [Bool.and_eq_true] at h
  have a := text_le f.name 32 (memB_len h.1) (by decide)
  have b := text_le f.kind 38 (right_len h.2) (by decide)
  unfold Fld.bytes
  simp only [List.length_append, List.length_cons, List.length_nil]
  omega
structure Cls.Good (c : Cls) : Prop where
  e : c.e = 0
  held : c.held
theorem Cls.Good.parts {c : Cls} (h : c.Good) : c.many = false ∧ c.fine = true := by
  have := h.e
  unfold Cls.e at this
  cases hm : c.many
  · cases hf : c.fine
    · rw [hm, hf] at this; simp at this
    · exact ⟨rfl, rfl⟩
  · rw [hm] at this; simp at this
theorem Cls.Good.nums {c : Cls} (h : c.Good) : c.like.length ≤ 32 ∧ c.flds.length ≤ 32 ∧ c.mths.length ≤ 32 := by
  have := h.parts.1
  unfold Cls.many at this
  simp only [Bool.or_eq_false_iff, decide_eq_false_iff_not] at this
  omega
theorem Cls.Good.name {c : Cls} (h : c.Good) : classB c.name = true := by
  have := h.parts.2
  unfold Cls.fine Cls.names at this
  simp only [Bool.and_eq_true] at this
  exact this.1.1
theorem Cls.Good.above {c : Cls} (h : c.Good) : classB c.sup = true ∧ ∀ x ∈ c.like, classB x = true := by
  have := h.parts.2
  unfold Cls.fine Cls.names at this
  simp only [Bool.and_eq_true, List.all_cons, List.all_eq_true] at this
  exact this.1.2.1
theorem Cls.Good.flds {c : Cls} (h : c.Good) : ∀ x ∈ c.flds, x.ok = true := by
  have := h.parts.2
  unfold Cls.fine at this
  simp only [Bool.and_eq_true, List.all_eq_true] at this
  exact this.2.2.1
theorem Cls.Good.mths {c : Cls} (h : c.Good) : ∀ x ∈ c.mths, x.Good := by
  have h1 := h.parts.2
  have h2 := h.parts.1
  unfold Cls.fine at h1
  unfold Cls.many at h2
  simp only [Bool.and_eq_true, List.all_eq_true] at h1
  simp only [Bool.or_eq_false_iff, List.any_eq_false] at h2
  intro x hx
  refine ⟨h1.2.2.2 x hx, ?_, h.held x hx⟩
  have := h2.2.2.2 x hx
  simpa using this
theorem Cls.Good.le {c : Cls} (h : c.Good) : c.bytes.length ≤ 6711700000 := by
  have a := text_le c.name 32 (classB_len h.name) (by decide)
  have b := text_le c.sup 32 (classB_len h.above.1) (by decide)
  have d := listB_le textBytes 42 32 c.like (fun x hx => text_le x 32 (classB_len (h.above.2 x hx)) (by decide)) h.nums.1 (by decide)
  have e := listB_le Fld.bytes 100 32 c.flds (fun x hx => fld_le (h.flds x hx)) h.nums.2.1 (by decide)
  have f := listB_le Mth.bytes 209740000 32 c.mths (fun x hx => (h.mths x hx).le) h.nums.2.2 (by decide)
  unfold Cls.bytes
  simp only [List.length_append, List.length_cons, List.length_nil]
  omega
end Go.Proofs.YtpincofjopmaaaaGreatDoor
