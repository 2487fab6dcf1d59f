/-
  The contracts of the strings functions that package kind calls: HasSuffix and TrimSuffix at a pair of brackets, Clone, Cut at a point.
  Conditions: the text has at most 2^40 bytes.
  The contracts of package kind's upper, lower, digit, of the closure of Name, and of named: names that begin with a letter of one sort.
  Conditions: the text has at most 2^40 bytes; the test that is handed to named answers without touching memory, and yes at letters alone.
-/
import Derived.Test.YtpincofjopmaaaaGreatDoorM03
import Derived.Lib.Bytealg
import Derived.Lib.BufferWrite
import Derived.Lib.UnsafeStr
import Derived.Laws.MakeOwn
import Derived.Laws.Strings3
import Derived.Deep.QuietTactic
import Derived.BigQuiet
import Derived.Laws.RangeAny
namespace Go.Proofs.YtpincofjopmaaaaGreatDoor
open Go.RowKit
set_option maxHeartbeats 400000 in
set_option maxRecDepth 100000 in
theorem hassuf_any (l : List UInt8) (w : World) (hlim : l.length ≤ 9223372036854775807) :
    Calls Tryz.prog 199 #[.string (S l), .string ⟨#[91, 93]⟩] w fun e w' => e = .returned (.bool (endsB l)) ∧ w = w' := by
  have hsz : ((S l).size : Int) = (l.length : Int) := by rw [S_size]
  by_cases h2 : 2 ≤ l.length
  · obtain ⟨m, hm⟩ : ∃ m, m = l.length - 2 := ⟨_, rfl⟩
    have hcut := S_drop l m
    have hm2 : (l.length : Int) - 2 = (m : Int) := by omega
    have hm3 : (2 : Int) ≤ (l.length : Int) := by omega
    have hm4 : (0 : Int) ≤ m := by omega
    have hm5 : (m : Int) ≤ (l.length : Int) := by omega
    have HE := Lib.hid (show endsB l = ((S (l.drop m)).toList == [91, 93]) by rw [S_toList, hm]; unfold endsB; rw [decide_eq_true h2, Bool.true_and, Bool.eq_iff_iff, decide_eq_true_eq, beq_iff_eq])
    clear hm h2
    generalize l.length = L at *
    go_enter Tryz.func199, Tryz.ntmps199
    go_wp2
    go_ret
    exact ⟨ret_bool HE.out.symm, rfl⟩
  · have hm3 : (l.length : Int) < 2 := by omega
    have HE := Lib.hid (show endsB l = false by unfold endsB; rw [decide_eq_false h2, Bool.false_and])
    clear h2
    generalize l.length = L at *
    go_enter Tryz.func199, Tryz.ntmps199
    go_wp2
    go_ret
    exact ⟨ret_bool HE.out.symm, rfl⟩
set_option maxHeartbeats 400000 in
set_option maxRecDepth 100000 in
theorem trimsuf_yes (l : List UInt8) (w : World) (hlim : l.length ≤ 9223372036854775807) (he : endsB l = true) :
    Calls Tryz.prog 200 #[.string (S l), .string ⟨#[91, 93]⟩] w fun e w' => e = .returned (.string (S (l.take (l.length - 2)))) ∧ w = w' := by
  have hsz : ((S l).size : Int) = (l.length : Int) := by rw [S_size]
  have h2 := endsB_two he
  obtain ⟨m, hm⟩ : ∃ m, m = l.length - 2 := ⟨_, rfl⟩
  have hcut := S_drop l m
  have htk := S_take l m
  have hm2 : (l.length : Int) - 2 = (m : Int) := by omega
  have hm3 : (2 : Int) ≤ (l.length : Int) := by omega
  have hm4 : (0 : Int) ≤ m := by omega
  have hm5 : (m : Int) ≤ (l.length : Int) := by omega
  have hdrop : l.drop m = [91, 93] := by
    unfold endsB at he
    simp at he
    rw [hm]
    exact he.2
  rw [hdrop] at hcut
  have hq : ((S [91, 93]).toList == [91, 93]) = true := by rw [S_toList]; rfl
  rw [← hm]
  clear hm h2 he hdrop
  generalize l.length = L at *
  go_enter Tryz.func200, Tryz.ntmps200
  go_wp2
  go_ret
  exact ⟨rfl, rfl⟩
theorem info8 : (Tryz.prog.info? 5).map (fun i => (i.zero, i.size, i.bytes)) = some (some (.int .u8 0), 1, 1) := by kernel_rfl
set_option maxHeartbeats 4000000 in
set_option maxRecDepth 100000 in
/-- A copy: the same bytes; of what was there nothing has changed. -/
theorem sclone_any (s : ByteArray) (w : World) (hlim : s.size ≤ 281474976710656) :
    Calls Tryz.prog 83 #[.string s] w fun e w' => e = .returned (.string s) ∧ Below w.heap.size w w' := by
  by_cases h0 : s.size = 0
  · have hs : s = ⟨#[]⟩ := by
      apply ByteArray.ext
      exact Array.eq_empty_of_size_eq_zero h0
    subst hs
    go_enter Tryz.func83, Tryz.ntmps83
    go_wp2
    go_ret
    exact ⟨rfl, Below.refl _ _⟩
  · obtain ⟨i0, hi, hz0, hz1, hz2⟩ := info_parts info8
    have hinfo : (Tryz.prog.info? 5).map (·.size) = some 1 := by rw [hi]; simp [hz1]
    have hco : Tryz.prog.cellsOf 5 = 1 := by simp [Program.cellsOf, hi, hz1]
    obtain ⟨M, hM⟩ : ∃ M, M = madeCells (Value.int .u8 0).cells (((s.size : Nat) : Int).toNat * i0.size) := ⟨_, rfl⟩
    have hMs : M.size = s.size := by rw [hM, size_madeCells, hz1]; simp
    have hmk : ∀ W : World, (Instr.makeSlice 71 (.int .i64 (s.size : Int)) (.int .i64 (s.size : Int))).run Tryz.prog W = .ok (.slice (some ⟨W.heap.size, 0, none⟩) s.size s.size) (W.alloc (.cells M 5)) := fun W => by
      have h := run_make (P := Tryz.prog) W 71 5 i0 (.int .u8 0) Tryz.underlying71 hi hz0 .i64 .i64 (s.size : Int) (s.size : Int) (by omega) (by omega) (by rw [hz2]; omega) (by omega)
      rw [← hM] at h
      simpa using h
    clear hM
    have hcp := Lib.run_copy_row_string (P := Tryz.prog) (w.alloc (.cells M 5)) 71 9 3 5 w.heap.size 0 s.size s.size s M 5 Tryz.underlying71 hinfo (heap_alloc_new w _) (Nat.le_refl _) (by omega)
    obtain ⟨Y, hY⟩ : ∃ Y, Y = (M.toList.take 0 ++ Lib.byteCells s.data.toList ++ M.toList.drop (0 + s.size)).toArray := ⟨_, rfl⟩
    rw [← hY] at hcp
    have hYl : Y.toList = Lib.byteCells s.data.toList := by
      rw [hY, List.toList_toArray, List.take_zero, List.nil_append, List.drop_of_length_le (by rw [Array.length_toList]; omega), List.append_nil]
    have hYs : Y.size = s.size := by rw [← Array.length_toList, hYl, Lib.byteCells_length, ← Lib.size_eq]
    have hgY : ((w.alloc (.cells M 5)).setRow w.heap.size Y).heap[w.heap.size]? = some (.cells Y 5 (0, 0)) := setRow_heap _ _ M _ 5 (0, 0) (heap_alloc_new w _)
    have hne : s.data.toList ≠ [] := fun e => h0 (by rw [Lib.size_eq, e]; rfl)
    have hUS := Lib.run_unsafeString_row (P := Tryz.prog) ((w.alloc (.cells M 5)).setRow w.heap.size Y) 152 3 9 5 Tryz.underlying152 hco w.heap.size Y.size (by unfold World.shape?; rw [hgY]) s.data.toList hne (by rw [← Lib.size_eq]; omega) (by rw [← Lib.size_eq]; omega)
      (fun j x hx => Lib.cells_of_row hgY Y.size j _ (by rw [List.take_of_length_le (by rw [Array.length_toList]; exact Nat.le_refl _), hYl]; simp [Lib.byteCells, hx]))
    rw [← Lib.size_eq] at hUS
    clear hY
    go_enter Tryz.func83, Tryz.ntmps83
    go_wp2
    go_ret
    have hb1 : Below w.heap.size w (w.alloc (.cells M 5)) := (Below.refl _ w).alloc (Nat.le_refl _) _
    have hb2 : Below w.heap.size (w.alloc (.cells M 5)) ((w.alloc (.cells M 5)).setRow w.heap.size Y) := ⟨rfl, rfl, rfl, by simp, fun k hk => setRow_other _ _ _ _ (by omega)⟩
    exact ⟨rfl, Lib.below_freeze (hb1.trans hb2) (p := ⟨w.heap.size, 0, none⟩) (Nat.le_refl _) _⟩
/-- Where the first point stands, as the library tells it. -/
theorem index_dot (l : List UInt8) : Lib.indexByte l 46 = if dotAt l < l.length then (dotAt l : Int) else -1 := by
  unfold dotAt
  induction l with
  | nil => rfl
  | cons b l ih =>
    rw [Lib.indexByte, List.findIdx_cons, ih]
    cases hb : (b == 46) with
    | true => simp
    | false =>
      have hle : List.findIdx (fun c => c == 46) l ≤ l.length := List.findIdx_le_length
      simp only [Bool.false_eq_true, if_false, cond_false, List.length_cons]
      by_cases h : List.findIdx (fun c => c == 46) l < l.length
      · have h1 : List.findIdx (fun c => c == 46) l + 1 < l.length + 1 := by omega
        rw [if_pos h, if_pos h1, if_neg (by simp)]
        omega
      · have h1 : ¬ List.findIdx (fun c => c == 46) l + 1 < l.length + 1 := by omega
        rw [if_neg h, if_neg h1]
        rfl
set_option maxHeartbeats 1000000 in
set_option maxRecDepth 100000 in
theorem indexbyte_any (s : ByteArray) (c : Int) (w : World) :
    Calls Tryz.prog 298 #[.string s, .int .u8 c] w fun e w' => e = .returned (.int .i64 (Lib.indexByte s.data.toList c.toNat.toUInt8)) ∧ w = w' := by
  go_enter Tryz.func298, Tryz.ntmps298
  go_wp2
  rw [run_callFunc_extern Tryz.func302 (by kernel_rfl) (by kernel_rfl) (by kernel_rfl) (e := Extern.BytealgIndexByte.indexByte) (by kernel_rfl), Lib.run_indexByteString]
  simp only [Result.andThen]
  rw [Oper.upon_value]
  go_wp2
  go_ret
  exact ⟨rfl, rfl⟩
set_option maxHeartbeats 2000000 in
set_option maxRecDepth 100000 in
theorem index_one (s : ByteArray) (w : World) :
    Calls Tryz.prog 296 #[.string s, .string ⟨#[46]⟩] w fun e w' => e = .returned (.int .i64 (Lib.indexByte s.data.toList 46)) ∧ w = w' := by
  go_enter Tryz.func296, Tryz.ntmps296
  go_wp2_with (go_at_call 298; refine (indexbyte_any _ _ _).mono ?_; rintro e w' ⟨rfl, rfl⟩)
  · have h : ([46] == s.toList) = true := by assumption
    go_ret
    refine ⟨?_, rfl⟩
    have e : s.data.toList = [46] := by rw [← Lib.toList_data]; exact (beq_iff_eq.1 h).symm
    rw [e]
    simp [Lib.indexByte]
  · go_ret
    exact ⟨rfl, rfl⟩
/-- What strings.Cut answers at a point. -/
def CutAt (l : List UInt8) (w : World) (e : Ending) (w' : World) : Prop :=
  (∃ q, w' = w.drewN q) ∧ ((dotAt l < l.length ∧ e = .returned (.tuple #[.string (S (l.take (dotAt l))), .string (S (l.drop (dotAt l + 1))), .bool true])) ∨
    (l.length ≤ dotAt l ∧ e = .returned (.tuple #[.string (S l), .string ⟨#[]⟩, .bool false])))
set_option maxHeartbeats 1000000 in
set_option maxRecDepth 100000 in
theorem cutlite_any (l : List UInt8) (w : World) (hlim : l.length ≤ 9223372036854775807) :
    Calls Tryz.prog 297 #[.string (S l), .string ⟨#[46]⟩] w (CutAt l w) := by
  have hix := index_one (S l) w
  rw [S_list, index_dot] at hix
  by_cases h : dotAt l < l.length
  · rw [if_pos h] at hix
    have HIX := Lib.hid hix
    have hsz : ((S l).size : Int) = (l.length : Int) := by rw [S_size]
    have HL := Lib.hid h
    obtain ⟨k, hk⟩ : ∃ k, k = dotAt l := ⟨_, rfl⟩
    rw [← hk] at h HIX
    have HK := Lib.hid hk
    have hcut1 := S_take l k
    have hcut2 := S_drop l (k + 1)
    have w3 : (0 : Int) ≤ (k : Int) + 1 := by omega
    have w4 : (k : Int) + 1 ≤ (l.length : Int) := by omega
    have w5 : (0 : Int) ≤ (k : Int) := by omega
    have w6 : (k : Int) ≤ (l.length : Int) := by omega
    have w2 : ((k : Int) + 1).toNat = k + 1 := by omega
    have w1 : IntKind.i64.wrap ((k : Int) + 1) = (k : Int) + 1 := IntWalk.i64_in _ (by omega)
    clear hix hk h
    go_enter Tryz.func297, Tryz.ntmps297
    go_wp2_with (go_at_call 296; refine HIX.out.mono ?_; rintro e w' ⟨rfl, rfl⟩)
    go_quiet (fail)
    go_wp2
    go_ret3
    exact ⟨⟨nq, rfl⟩, .inl ⟨HL.out, by rw [← HK.out]; rfl⟩⟩
  · rw [if_neg h] at hix
    have HIX := Lib.hid hix
    have HL := Lib.hid (show l.length ≤ dotAt l by omega)
    clear hix h
    go_enter Tryz.func297, Tryz.ntmps297
    go_wp2_with (go_at_call 296; refine HIX.out.mono ?_; rintro e w' ⟨rfl, rfl⟩)
    go_ret3
    exact ⟨⟨0, rfl⟩, .inr ⟨HL.out, rfl⟩⟩
set_option maxHeartbeats 400000 in
set_option maxRecDepth 100000 in
theorem cut_any (l : List UInt8) (w : World) (hlim : l.length ≤ 9223372036854775807) :
    Calls Tryz.prog 295 #[.string (S l), .string ⟨#[46]⟩] w (CutAt l w) := by
  go_enter Tryz.func295, Tryz.ntmps295
  go_wp2_with fail
  refine (cutlite_any l w hlim).mono ?_
  rintro e w' ⟨hw, h⟩
  have HW := Lib.hid hw
  clear hw
  rcases h with ⟨h, rfl⟩ | ⟨h, rfl⟩
  · have HL := Lib.hid h
    clear h
    go_wp2
    go_ret3
    exact ⟨HW.out, .inl ⟨HL.out, rfl⟩⟩
  · have HL := Lib.hid h
    clear h
    go_wp2
    go_ret3
    exact ⟨HW.out, .inr ⟨HL.out, rfl⟩⟩
end Go.Proofs.YtpincofjopmaaaaGreatDoor
namespace Go.Proofs.YtpincofjopmaaaaGreatDoor
open Go.RowKit
/-- May this byte stand at this place of a name that begins by the test p? -/
def okP (p : Int → Bool) (i : Nat) (c : UInt8) : Bool := (decide (i ≠ 0) || p c.toNat) && (letterB c || digitB c)
def okPTo (p : Int → Bool) (l : List UInt8) (k : Nat) : Bool := (List.range k).all fun i => okP p i (l.getD i 0)
def namedB (p : Int → Bool) (l : List UInt8) : Bool := okPTo p l l.length && (decide (1 ≤ l.length) && decide (l.length ≤ 32))
theorem okPTo_succ (p : Int → Bool) (l : List UInt8) (k : Nat) : okPTo p l (k + 1) = (okPTo p l k && okP p k (l.getD k 0)) := by
  unfold okPTo
  rw [List.range_succ, List.all_append]
  simp
theorem okPTo_zero (p : Int → Bool) (l : List UInt8) : okPTo p l 0 = true := by simp [okPTo]
theorem namedB_bad {p : Int → Bool} {l : List UInt8} {k : Nat} (hk : k < l.length) (h : okP p k (l.getD k 0) = false) : namedB p l = false := by
  have h1 : okPTo p l l.length = false := by
    unfold okPTo
    rw [List.all_eq_false]
    exact ⟨k, by simpa using hk, by rw [h]; decide⟩
  unfold namedB
  rw [h1, Bool.false_and]
theorem namedB_long {p : Int → Bool} {l : List UInt8} (h : 32 < l.length) : namedB p l = false := by
  unfold namedB
  rw [decide_eq_false (show ¬ l.length ≤ 32 by omega), Bool.and_false, Bool.and_false]
theorem namedB_none (p : Int → Bool) : namedB p [] = false := by unfold namedB; simp
def upI (r : Int) : Bool := decide (65 ≤ r) && decide (r ≤ 90)
def loI (r : Int) : Bool := decide (97 ≤ r) && decide (r ≤ 122)
def leI (r : Int) : Bool := upI r || loI r
theorem namedB_of (p : Int → Bool) (q : UInt8 → Bool) (l : List UInt8) (hq : ∀ c : UInt8, (p c.toNat && (letterB c || digitB c)) = (letterB c && q c)) : namedB p l = (nameB l && q (l.getD 0 0)) := by
  unfold namedB nameB
  cases l with
  | nil => simp
  | cons b t =>
    have h1 : okPTo p (b :: t) (b :: t).length = (okTo (b :: t) (b :: t).length && q b) := by
      unfold okPTo okTo
      rw [List.length_cons, List.range_succ_eq_map, List.all_cons, List.all_cons]
      have e0 : okP p 0 ((b :: t).getD 0 0) = (okAt 0 ((b :: t).getD 0 0) && q b) := by
        show okP p 0 b = (okAt 0 b && q b)
        unfold okP okAt
        have := hq b
        simp only [ne_eq, not_true_eq_false, decide_false, Bool.false_or, Bool.false_and, Bool.or_false]
        exact this
      have e1 : ((List.range t.length).map Nat.succ).all (fun i => okP p i ((b :: t).getD i 0)) = ((List.range t.length).map Nat.succ).all (fun i => okAt i ((b :: t).getD i 0)) := by
        rw [List.all_map, List.all_map]
        exact congrArg (fun f => (List.range t.length).all f) (funext fun i => by simp [okP, okAt])
      rw [e0, e1, Bool.and_assoc, Bool.and_assoc]
      congr 1
      exact Bool.and_comm _ _
    rw [h1]
    show _ = (_ && q b)
    cases okTo (b :: t) (b :: t).length <;> cases q b <;> simp
theorem namedB_up (l : List UInt8) : namedB upI l = classB l := by
  unfold classB
  rw [namedB_of upI (fun c => decide (c.toNat ≤ 90)) l (fun c => by
    unfold upI letterB digitB
    rw [Bool.eq_iff_iff]
    simp only [Bool.and_eq_true, Bool.or_eq_true, decide_eq_true_eq]
    omega)]
theorem namedB_lo (l : List UInt8) : namedB loI l = memberB l := by
  unfold memberB
  rw [namedB_of loI (fun c => decide (97 ≤ c.toNat)) l (fun c => by
    unfold loI letterB digitB
    rw [Bool.eq_iff_iff]
    simp only [Bool.and_eq_true, Bool.or_eq_true, decide_eq_true_eq]
    omega)]
theorem namedB_le (l : List UInt8) : namedB leI l = nameB l := by
  rw [namedB_of leI (fun _ => true) l (fun c => by
    unfold leI upI loI letterB digitB
    rw [Bool.eq_iff_iff]
    simp only [Bool.and_eq_true, Bool.or_eq_true, decide_eq_true_eq, and_true]
    omega), Bool.and_true]
/-- The rune at a place: the byte itself, or nothing below 128. -/
theorem rune_at (l : List UInt8) (k : Nat) (hk : k < l.length) (h : k < (S l).size) :
    ((l.getD k 0).toNat < 128 ∧ Utf8.decode (S l) k = ((l.getD k 0).toNat, 1)) ∨
    (128 ≤ (l.getD k 0).toNat ∧ 128 ≤ (Utf8.decode (S l) k).1 ∧ (Utf8.decode (S l) k).1 ≤ 2147483647 ∧ 1 ≤ (Utf8.decode (S l) k).2) := by
  have e := S_at l k hk h
  by_cases ha : (l.getD k 0).toNat < 128
  · exact .inl ⟨ha, by rw [decode_ascii (S l) k h (by rw [e]; exact ha), e]⟩
  · have := decode_high (S l) k h (by rw [e]; omega)
    exact .inr ⟨by omega, this.1, decode_le (S l) k, this.2⟩
theorem upper_any (r : Int) (w : World) : Calls Tryz.prog 227 #[.int .i32 r] w fun e w' => e = .returned (.bool (upI r)) ∧ w = w' := by
  unfold upI
  by_cases h1 : 65 ≤ r
  · rw [decide_eq_true h1, Bool.true_and]
    go_enter Tryz.func227, Tryz.ntmps227
    go_wp2
    go_ret
    exact ⟨rfl, rfl⟩
  · rw [decide_eq_false h1, Bool.false_and]
    have h2 : r < 65 := by omega
    go_enter Tryz.func227, Tryz.ntmps227
    go_wp2
    go_ret
    exact ⟨rfl, rfl⟩
theorem lower_any (r : Int) (w : World) : Calls Tryz.prog 261 #[.int .i32 r] w fun e w' => e = .returned (.bool (loI r)) ∧ w = w' := by
  unfold loI
  by_cases h1 : 97 ≤ r
  · rw [decide_eq_true h1, Bool.true_and]
    go_enter Tryz.func261, Tryz.ntmps261
    go_wp2
    go_ret
    exact ⟨rfl, rfl⟩
  · rw [decide_eq_false h1, Bool.false_and]
    have h2 : r < 97 := by omega
    go_enter Tryz.func261, Tryz.ntmps261
    go_wp2
    go_ret
    exact ⟨rfl, rfl⟩
theorem letter_any (r : Int) (w : World) : Calls Tryz.prog 263 #[.int .i32 r] w fun e w' => e = .returned (.bool (leI r)) ∧ w = w' := by
  have HU := Lib.hid (upper_any r w)
  have HL := Lib.hid (lower_any r w)
  unfold leI
  cases hu : upI r with
  | true =>
    rw [hu] at HU
    rw [Bool.true_or]
    clear hu
    go_enter Tryz.func263, Tryz.ntmps263
    go_wp2_with fail
    refine HU.out.mono ?_
    rintro e w' ⟨rfl, rfl⟩
    go_wp2
    go_ret
    exact ⟨rfl, rfl⟩
  | false =>
    rw [hu] at HU
    rw [Bool.false_or]
    clear hu
    go_enter Tryz.func263, Tryz.ntmps263
    go_wp2_with fail
    refine HU.out.mono ?_
    rintro e w' ⟨rfl, rfl⟩
    go_wp2_with fail
    refine HL.out.mono ?_
    rintro e w' ⟨rfl, rfl⟩
    go_wp2
    go_ret
    exact ⟨rfl, rfl⟩
end Go.Proofs.YtpincofjopmaaaaGreatDoor
