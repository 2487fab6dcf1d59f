/-
  The contract of the closure of package code's Show: an instruction's line goes behind what was written.
  Conditions: the tables hold what they hold at the start; texts have at most 2^20 bytes.
-/
import Derived.Test.YtcoobdbfgiiejaaDoorCEach
import Derived.Test.YtcoobdbfgiiejaaDoorShelfC
import Derived.Lib.AppendIntMem
import Derived.Lib.ItoaLen
namespace Go.Proofs.YtcoobdbfgiiejaaDoor
open Go.RowKit
/-- The table of powers of ten is as at the start. -/
def Pow10 (w : World) : Prop := ∃ t fz, w.heap[3]? = some (.cells (Lib.pow10Tab.map fun z => Value.int .u64 z).toArray t fz)
theorem Pow10.keep {w w' : World} (h : Pow10 w) (hb : Below w.heap.size w w') : Pow10 w' := by
  obtain ⟨t, fz, h⟩ := h
  exact ⟨t, fz, (Only.ofBelow (S := fun _ => False) hb).heap h id⟩
theorem pow10_name : Tryd.prog.globalNamed "internal/strconv.uint64pow10" = some 3 := by kernel_rfl
theorem Pow10.tab {w : World} (h : Pow10 w) : Lib.TabIs Tryd.prog w "internal/strconv.uint64pow10" .u64 Lib.pow10Tab := by
  obtain ⟨t, fz, h⟩ := h
  show (Tryd.prog.globalNamed "internal/strconv.uint64pow10").bind _ = _
  rw [pow10_name]
  show (match w.heap[3]? with | some (.cells cs _ _) => some cs | _ => none) = _
  rw [h]
/-- A whole number's decimal digits. -/
theorem digits_any (n : Int) (h0 : -9223372036854775808 ≤ n) (h1 : n ≤ 9223372036854775807) (w : World) (hp : Pow10 w) :
    Calls Tryd.prog 34 #[.int .i64 n, .int .i64 10] w fun e w' => e = .returned (.string (S (Lib.itoa n))) ∧ Below w.heap.size w w' := by
  refine (strconv_FormatInt_10 n h0 h1 w hp.tab).mono ?_
  rintro e w' ⟨rfl, k, os, rfl⟩
  exact ⟨rfl, Lib.below_grow _ w (Nat.le_refl _) k os⟩
/-- A builder of the call's own that holds these bytes. -/
structure SB (w0 w : World) (b : Nat) (l : List UInt8) : Prop where
  is : Lib.IsBuilderF 61 5 w0.heap.size b (Lib.byteCells l) w
  bel : Below w0.heap.size w0 w
theorem SB.alloc {w0 w : World} {b : Nat} {l : List UInt8} (h : SB w0 w b l) (o : Obj) : SB w0 (w.alloc o) b l := ⟨h.is.alloc o, h.bel.alloc h.bel.size o⟩
theorem atF_keep {w w' : World} {B b : Nat} {p : Value} {bs : List Value} (h : Lib.BuilderAtF 61 5 B b p bs w) (hb : Below w.heap.size w w') : Lib.BuilderAtF 61 5 B b p bs w' := by
  obtain ⟨hB, v, hbk, hown, hne⟩ := h
  have ho := Only.ofBelow (S := fun _ => False) hb
  refine ⟨hB, v, ho.heap hbk id, ⟨hown.1, ?_⟩, hne⟩
  rcases hown.2 with hv | ⟨g, cap, cur, fz, hv, hg, hgg, rest⟩
  · exact .inl hv
  · exact .inr ⟨g, cap, cur, fz, hv, hg, ho.heap hgg id, rest⟩
theorem SB.keep {w0 w w' : World} {b : Nat} {l : List UInt8} (h : SB w0 w b l) (hb : Below w.heap.size w w') : SB w0 w' b l :=
  ⟨h.is.elim (fun h => .inl (atF_keep h hb)) (fun h => .inr (atF_keep h hb)), h.bel.trans (hb.mono h.bel.size)⟩
theorem sbCells (s : List UInt8) : Lib.strCells (S s) = Lib.byteCells s := by simp [Lib.strCells, Lib.byteCells, S]
/-- A text goes behind what was written; every block stays that is neither the builder's nor a row of bytes. -/
theorem sb_write {w0 w : World} {b : Nat} {l : List UInt8} (h : SB w0 w b l) (s : List UInt8) (hlim : l.length + s.length ≤ 140737488355328) :
    Calls Tryd.prog 33 #[.pointer (some ⟨b, 0, none⟩), .string (S s)] w fun e w' => e = .returned (.tuple #[.int .i64 (s.length : Nat), .nilIface]) ∧ SB w0 w' b (l ++ s) ∧ Lib.OthersKept 5 (some b) w w' := by
  refine (builder_WriteString_k w0.heap.size b (Lib.byteCells l) (S s) w h.is (by rw [S_size, byteCells_length]; exact hlim) h.bel.size).mono ?_
  rintro e w' ⟨rfl, h1, h2, h3⟩
  rw [sbCells, ← byteCells_append] at h1
  rw [S_size]
  exact ⟨rfl, ⟨.inr h1, h.bel.trans h2⟩, h3⟩
/-- An instruction's operand as text. -/
def argText (h : Nat) (n : Int) (s : List UInt8) : List UInt8 := if h = 1 then 32 :: Lib.itoa n else if 2 ≤ h then 32 :: s else []
theorem ss_cat (s : List UInt8) : (⟨#[32]⟩ : ByteArray) ++ S s = S (32 :: s) := S_append [32] s
set_option maxHeartbeats 2000000 in
set_option maxRecDepth 100000 in
theorem show1_any {w0 w : World} {b : Nat} {l : List UInt8} (hw : SB w0 w b l) (hp : Pow10 w0) (op nm s : List UInt8) (n : Int) (q h : Nat) (hn : -9223372036854775808 ≤ n ∧ n ≤ 9223372036854775807) (hlim : l.length + (nm.length + s.length + 30) ≤ 1099511627776) :
    Calls Tryd.prog 32 #[insV op n s, .int .i64 (q : Nat), .agg #[.string (S nm), .int .i64 (h : Nat)], .pointer (some ⟨b, 0, none⟩)] w fun e w' => e = .returned (.tuple #[]) ∧ SB w0 w' b (l ++ (nm ++ (argText h n s ++ [10]))) := by
  have HW := Lib.hid hw
  have HL := Lib.hid hlim
  have HN := Lib.hid hn
  have HP := Lib.hid hp
  clear hw hlim hn hp
  go_enter Tryd.func32, Tryd.ntmps32
  go_upto_region 1 with fail
  have s0 := (HW.out.alloc (.cells #[.string (S op), .int .i64 n, .string (S s)] 23)).alloc (.cells #[.string (S nm), .int .i64 (h : Nat)] 43)
  have hI : ((w.alloc (.cells #[.string (S op), .int .i64 n, .string (S s)] 23)).alloc (.cells #[.string (S nm), .int .i64 (h : Nat)] 43)).heap[w.heap.size]? = some (.cells #[.string (S op), .int .i64 n, .string (S s)] 23 (0, 0)) := ((Only.refl (fun _ => False) _).alloc _).heap (heap_alloc_new w _) id
  have hP : ((w.alloc (.cells #[.string (S op), .int .i64 n, .string (S s)] 23)).alloc (.cells #[.string (S nm), .int .i64 (h : Nat)] 43)).heap[w.heap.size + 1]? = some (.cells #[.string (S nm), .int .i64 (h : Nat)] 43 (0, 0)) := (heap_alloc_new' (w.alloc _) _ _ (by simp)).trans rfl
  have hlt : b < w.heap.size := HW.out.is.elim (fun h => h.lt) (fun h => h.lt)
  have hbI : w.heap.size ≠ b := by omega
  have hbP : w.heap.size + 1 ≠ b := by omega
  clear hlt
  generalize (w.alloc (.cells #[.string (S op), .int .i64 n, .string (S s)] 23)).alloc (.cells #[.string (S nm), .int .i64 (h : Nat)] 43) = wA at s0 hI hP ⊢
  generalize w.heap.size = BI at hI hbI hP hbP ⊢
  generalize BI + 1 = BP at hP hbP ⊢
  have hp0 : wA.cell? ⟨BP, 0, none⟩ = some (.string (S nm)) := by simp [World.cell?, hP]
  have HS0 := Lib.hid s0
  have HII := Lib.hid hI
  have HPP := Lib.hid hP
  clear s0 hI hP HW
  go_wp2_with fail
  refine (sb_write HS0.out nm (by have := HL.out; omega)).mono ?_
  rintro e w1 ⟨rfl, s1, k1⟩
  have hI1 := k1 BI _ HII.out (by simpa using hbI) (by intro c fz hh; cases hh)
  have hP1 := k1 BP _ HPP.out (by simpa using hbP) (by intro c fz hh; cases hh)
  have hp1 : w1.cell? ⟨BP, 1, none⟩ = some (.int .i64 (h : Nat)) := by simp [World.cell?, hP1]
  have hi1 : w1.cell? ⟨BI, 1, none⟩ = some (.int .i64 n) := by simp [World.cell?, hI1]
  have hi2 : w1.cell? ⟨BI, 2, none⟩ = some (.string (S s)) := by simp [World.cell?, hI1]
  have HS1 := Lib.hid s1
  clear s1 k1 hI1 hP1 hp0 HS0 HII HPP hbI hbP
  have HEND : Hid (∀ w m, SB w0 w b m → m.length ≤ 1099511627776 → Calls Tryd.prog 33 #[.pointer (some ⟨b, 0, none⟩), .string ⟨#[10]⟩] w fun e w' => e = .returned (.tuple #[.int .i64 (1 : Nat), .nilIface]) ∧ SB w0 w' b (m ++ [10])) := Lib.hid (fun w m hm hl => (sb_write hm [10] (by simp; omega)).mono fun _ _ h => ⟨h.1, h.2.1⟩)
  by_cases h1 : h = 1
  · subst h1
    have HAB : Hid (argText 1 n s = 32 :: Lib.itoa n) := Lib.hid (if_pos rfl)
    have hln := Lib.itoa_length_le n HN.out.1 HN.out.2
    have HLN := Lib.hid hln
    have HD := Lib.hid (digits_any n HN.out.1 HN.out.2 w1 (HP.out.keep HS1.out.bel))
    clear hln
    go_wp2_with fail
    refine HD.out.mono ?_
    rintro e w2 ⟨rfl, hb2⟩
    have s2 := HS1.out.keep hb2
    have HS2 := Lib.hid s2
    have hcat := ss_cat (Lib.itoa n)
    clear s2 hb2 hp1 hi1 hi2
    generalize Lib.itoa n = dg at *
    have hbd : ¬ (9223372036854775807 < 1 + (S dg).size) := by rw [S_size]; have := HLN.out; omega
    go_wp2_with fail
    refine (sb_write HS2.out (32 :: dg) (by have := HL.out; have := HLN.out; simp; omega)).mono ?_
    rintro e w3 ⟨rfl, s3, _⟩
    have HS3 := Lib.hid s3
    have hl3 : (l ++ nm ++ 32 :: dg).length ≤ 1099511627776 := by have := HL.out; have := HLN.out; simp; omega
    have HL3 := Lib.hid hl3
    clear s3 hl3 hcat hbd
    go_wp2_with fail
    refine (HEND.out _ _ HS3.out HL3.out).mono ?_
    rintro e w4 ⟨rfl, s4⟩
    go_wp2
    go_end0
    rw [HAB.out]
    exact ⟨rfl, by simpa using s4⟩
  · have e1 : ((h : Int) == 1) = false := by rw [beq_eq_false_iff_ne]; omega
    have HIT : Hid (Calls Tryd.prog 16 #[.int .i64 h] w1 fun e w' => e = .returned (.bool (decide (2 ≤ h))) ∧ w1 = w') := Lib.hid (istext_any h w1)
    by_cases h2 : 2 ≤ h
    · have HAB : Hid (argText h n s = 32 :: s) := Lib.hid ((if_neg h1).trans (if_pos h2))
      rw [decide_eq_true h2] at HIT
      have hcat := ss_cat s
      have hbd : ¬ (9223372036854775807 < 1 + (S s).size) := by rw [S_size]; have := HL.out; omega
      clear h1 h2
      go_wp2_with (go_at_call 16; refine HIT.out.mono ?_; rintro e w2 ⟨rfl, rfl⟩)
      refine (sb_write HS1.out (32 :: s) (by have := HL.out; simp; omega)).mono ?_
      rintro e w3 ⟨rfl, s3, _⟩
      have HS3 := Lib.hid s3
      have hl3 : (l ++ nm ++ 32 :: s).length ≤ 1099511627776 := by have := HL.out; simp; omega
      have HL3 := Lib.hid hl3
      clear s3 hl3 hcat hbd
      go_wp2_with fail
      refine (HEND.out _ _ HS3.out HL3.out).mono ?_
      rintro e w4 ⟨rfl, s4⟩
      go_wp2
      go_end0
      rw [HAB.out]
      exact ⟨rfl, by simpa using s4⟩
    · have HAB : Hid (argText h n s = []) := Lib.hid ((if_neg h1).trans (if_neg h2))
      rw [decide_eq_false h2] at HIT
      clear h1 h2
      have hl3 : (l ++ nm).length ≤ 1099511627776 := by have := HL.out; simp; omega
      have HL3 := Lib.hid hl3
      clear hl3
      go_wp2_with (go_at_call 16; refine HIT.out.mono ?_; rintro e w2 ⟨rfl, rfl⟩)
      refine (HEND.out _ _ HS1.out HL3.out).mono ?_
      rintro e w4 ⟨rfl, s4⟩
      go_wp2
      go_end0
      rw [HAB.out]
      exact ⟨rfl, by simpa using s4⟩
end Go.Proofs.YtcoobdbfgiiejaaDoor
