/-
  The contracts of package pack's writer, the second half: Flag, Text, Bytes.
  Conditions: the writer's bytes and what is written stay below 2^47 bytes; what is written lies in memory that is not the writer's.
-/
import Derived.Test.YtcoobdbfgiiejaaGreatDoorWriter
namespace Go.Proofs.YtcoobdbfgiiejaaGreatDoor
open Go.RowKit
def flagByte (f : Bool) : UInt8 := if f then 1 else 0
/-- A text's bytes: how many, and these. -/
def textBytes (s : List UInt8) : List UInt8 := Lib.uvarint s.length ++ s
theorem strCells_S (s : List UInt8) : Lib.strCells (S s) = Lib.byteCells s := by simp [Lib.strCells, Lib.byteCells, S]
def texts (ts : List (List UInt8)) : List UInt8 := ts.flatMap textBytes
def textsMost (ts : List (List UInt8)) : Nat := (ts.map fun s => s.length + 10).sum
theorem textBytes_le (s : List UInt8) (h : s.length ≤ 140737488355328) : (textBytes s).length ≤ s.length + 10 := by
  have := Lib.uvarint_length64 (x := s.length) (by omega)
  simp only [textBytes, List.length_append]
  omega
theorem texts_le (ts : List (List UInt8)) (h : ∀ s ∈ ts, s.length ≤ 140737488355328) : (texts ts).length ≤ textsMost ts := by
  induction ts with
  | nil => simp [texts, textsMost]
  | cons x r ih =>
    have h1 := textBytes_le x (h x (by simp))
    have h2 := ih (fun y hy => h y (by simp [hy]))
    simp only [texts, textsMost, List.flatMap_cons, List.length_append, List.map_cons, List.sum_cons] at h2 ⊢
    omega
theorem textsMost_snoc (ts : List (List UInt8)) (k : Nat) (hk : k < ts.length) : textsMost (ts.take k) + ((ts.getD k []).length + 10) ≤ textsMost ts := by
  have e : ts = ts.take k ++ (ts[k] :: ts.drop (k + 1)) := by rw [List.getElem_cons_drop, List.take_append_drop]
  have h : textsMost ts = textsMost (ts.take k ++ (ts[k] :: ts.drop (k + 1))) := congrArg textsMost e
  rw [h, List.getD_eq_getElem?_getD, List.getElem?_eq_getElem hk]
  simp only [textsMost, List.map_append, List.map_cons, List.sum_append, List.sum_cons, Option.getD_some]
  omega
theorem mem_textsMost (ts : List (List UInt8)) (s : List UInt8) (h : s ∈ ts) : s.length ≤ textsMost ts := by
  induction ts with
  | nil => simp at h
  | cons x r ih =>
    simp only [textsMost, List.map_cons, List.sum_cons] at ih ⊢
    rcases List.mem_cons.1 h with rfl | h
    · omega
    · have := ih h; omega
theorem texts_snoc (ts : List (List UInt8)) (k : Nat) (hk : k < ts.length) : texts (ts.take (k + 1)) = texts (ts.take k) ++ textBytes (ts.getD k []) := by
  rw [List.take_succ_eq_append_getElem hk]
  unfold texts
  rw [List.flatMap_append]
  simp [hk]
theorem len_le_textsMost (ts : List (List UInt8)) : ts.length ≤ textsMost ts := by
  induction ts with
  | nil => simp
  | cons x r ih =>
    simp only [textsMost, List.map_cons, List.sum_cons, List.length_cons] at ih ⊢
    omega
set_option maxHeartbeats 4000000 in
set_option maxRecDepth 100000 in
theorem wtext_any (b ab off cap : Nat) (v : Value) (l : List UInt8) (ts : List (List UInt8)) (w : World) (hw : WrAt w b v l) (hab : ab ≠ b) (hav : v.ownBlock ≠ some ab)
    (hc : ∀ j, j < ts.length → w.cell? ⟨ab, off + j, none⟩ = some (.string (S (ts.getD j [])))) (hlim : l.length + textsMost ts ≤ 140737488355328) :
    Calls Tryz.prog 31 #[.pointer (some ⟨b, 0, none⟩), .slice (some ⟨ab, off, none⟩) ts.length cap] w (Wrote b v l (texts ts) w) := by
  obtain ⟨i0, hi, hz0, hz1, hz2⟩ := info_parts info_u8
  obtain ⟨n, hnn⟩ : ∃ n, n = ts.length := ⟨_, rfl⟩
  rw [← hnn]
  have hn1 : n ≤ 140737488355328 := by have := len_le_textsMost ts; omega
  have HN := Lib.hid hnn
  have HL := Lib.hid hlim
  have HC := Lib.hid hc
  clear hnn hlim hc
  go_enter Tryz.func31, Tryz.ntmps31
  go_wp2
  go_loopw [8] (fun vi wr => ∃ (k : Nat) (v' : Value), k ≤ n ∧ vi = .int .i64 k ∧ WrAt wr b v' (l ++ texts (ts.take k)) ∧ WrGrew w b v wr v') (fun vi _ => n - (intOf vi).toNat)
  case atStart => exact ⟨0, v, Nat.zero_le _, rfl, by simpa [texts] using hw, WrGrew.refl _ _ _⟩
  case round =>
    obtain ⟨k, v', hk, rfl, hwr, hgr⟩ := hrel
    by_cases hlt : k < n
    · have hkn : k < ts.length := by have := HN.out; omega
      have hcell : wr.cell? ⟨ab, off + k, none⟩ = some (.string (S (ts.getD k []))) := hgr.keeps hab hav (HC.out k hkn)
      have hsn : l ++ texts (ts.take (k + 1)) = (l ++ texts (ts.take k)) ++ textBytes (ts.getD k []) := by rw [texts_snoc ts k hkn, List.append_assoc]
      have hlen : (l ++ texts (ts.take k)).length + ((ts.getD k []).length + 10) ≤ 140737488355328 := by
        have h2 := HL.out
        have h3 := textsMost_snoc ts k hkn
        have h4 := texts_le (ts.take k) (fun s hs => by have := mem_textsMost ts s (List.mem_of_mem_take hs); omega)
        rw [List.length_append]
        omega
      obtain ⟨s, hs⟩ : ∃ s, s = ts.getD k [] := ⟨_, rfl⟩
      rw [← hs] at hcell hsn hlen
      obtain ⟨L, hL⟩ : ∃ L, L = l ++ texts (ts.take k) := ⟨_, rfl⟩
      rw [← hL] at hwr hsn hlen
      have HSN := Lib.hid hsn
      clear hs hsn hL
      obtain ⟨z, hz⟩ : ∃ z, z = s.length := ⟨_, rfl⟩
      have hz64 : z < 18446744073709551616 := by omega
      have hzi : z ≤ 140737488355328 := by omega
      have hsz : ((S s).size : Int) = (z : Int) := by rw [S_size, hz]
      have HZZ := Lib.hid hz
      have hnew := hwr.notNew
      have HCT := Lib.hid (wnum_one b wr.heap.size v' _ z (wr.alloc (.cells #[.int .u64 z] 37)) (hwr.alloc _) hnew.1 hnew.2 (by simp) hz64 (by omega))
      have HK := Lib.hid hlen
      have hl2 : (L ++ Lib.uvarint z).length + (S s).size ≤ 140737488355328 := by
        have := Lib.uvarint_length64 hz64
        rw [List.length_append, S_size]
        omega
      have HL2 := Lib.hid hl2
      clear hlen hnew hz hl2
      go_wp2_with (first | (go_at_call 26; refine HCT.out.mono ?_; rintro e w1 ⟨rfl, v2, hr2, hg2⟩; have hc2 := hr2.c0) | (at_builtin; refine wpList_append_fine_string _ rfl _ _ 25 9 rfl 5 i0 Tryz.underlying25 Tryz.underlying9 hi hz0 hz1 hz2 _ _ _ rfl hr2.row (S s) rfl (Nat.le_trans HL2.out (by decide)) HL2.out ?_; intro v3 w3 hr3 hg3; have hbk := hg3.only.heap hr2.blk (fun e => hr2.ne b e rfl); have hfr : w3.frozen? ⟨b, 0, none⟩ = false := free_of_one hbk; have hcw := cell_of_one hbk; clear hbk; obtain ⟨ao3, m3, c3, rfl⟩ := row_shape hr3))
      obtain ⟨R, G⟩ := hr2.step (l' := L ++ textBytes s) ((hgr.alloc _).trans hg2) hg3 (by
        have e1 : (L ++ textBytes s).length = (L ++ Lib.uvarint z).length + (S s).size := by rw [S_size, textBytes, HZZ.out]; simp; omega
        have e2 : Lib.byteCells (L ++ textBytes s) = Lib.byteCells (L ++ Lib.uvarint z) ++ Lib.strCells (S s) := by rw [strCells_S, textBytes, HZZ.out, ← byteCells_append, List.append_assoc]
        unfold RowIs
        rw [e1, e2]
        exact hr3)
      rw [← HSN.out] at R
      go_roundw
      case rel => exact ⟨k + 1, _, by omega, by go_num, R, G⟩
      case measure => simp [intOf]; omega
    · have hkn : ts.take k = ts := List.take_of_length_le (by have := HN.out; omega)
      rw [hkn] at hwr
      clear hkn
      go_wp2
      go_end0
      exact ⟨rfl, v', hwr, hgr⟩
theorem wbytes_any (b : Nat) (v : Value) (l : List UInt8) (w : World) (hw : WrAt w b v l) (hlim : l.length ≤ 140737488355328) :
    Calls Tryz.prog 32 #[.pointer (some ⟨b, 0, none⟩)] w fun e w' => ∃ v', e = .returned v' ∧ RowIs w' v' l ∧ Below w.heap.size w w' ∧ (∀ g, v'.ownBlock = some g → w.heap.size ≤ g) := by
  have hc0 := hw.c0
  have HCT := Lib.hid (clone_any v l w (.ofRow hw.row) hlim)
  go_enter Tryz.func32, Tryz.ntmps32
  go_wp2_with (go_at_call 41; refine HCT.out.mono ?_; rintro e w1 ⟨v2, rfl, h1, h2, h3⟩)
  go_ret
  exact ⟨v2, rfl, h1, h2, h3⟩
theorem wtext_one (b ab : Nat) (v : Value) (l s : List UInt8) (w : World) (hw : WrAt w b v l) (hab : ab ≠ b) (hav : v.ownBlock ≠ some ab)
    (hc : w.cell? ⟨ab, 0, none⟩ = some (.string (S s))) (hlim : l.length + (s.length + 10) ≤ 140737488355328) :
    Calls Tryz.prog 31 #[.pointer (some ⟨b, 0, none⟩), .slice (some ⟨ab, 0, none⟩) 1 1] w (Wrote b v l (textBytes s) w) := by
  have h := wtext_any b ab 0 1 v l [s] w hw hab hav (fun j hj => by (obtain rfl : j = 0 := (by simpa using hj)); simpa using hc) (by simpa [textsMost] using hlim)
  simpa [texts] using h
end Go.Proofs.YtcoobdbfgiiejaaGreatDoor
