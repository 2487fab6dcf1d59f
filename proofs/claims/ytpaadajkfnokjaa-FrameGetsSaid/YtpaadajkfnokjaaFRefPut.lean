/-
  The contracts of the document's Put and Get: a text with its sum behind; what is ahead of a sum that is its own, or the error.
  Conditions: the text has fewer than 2^40 bytes.
-/
import Derived.Test.YtpaadajkfnokjaaFRefSum
import Derived.Test.YtpaadajkfnokjaaFPut
namespace Go.Proofs.Ytpaadajkfnokjaa
open Go.RowKit
set_option maxHeartbeats 400000 in
set_option maxRecDepth 100000 in
theorem refput_any (l : List UInt8) (w : World) (hlim : l.length ≤ 1099511627776) :
    Calls Try.prog 16 #[.string (S l)] w fun e w' => e = .returned (.string (S (putL l))) ∧ Below w.heap.size w w' := by
  have HSUM := Lib.hid (refsum_any l w hlim)
  have hsz : ((S l).size : Int) = (l.length : Int) := by rw [S_size]
  go_enter Try.func16, Try.ntmps16
  go_wp2_with fail
  refine HSUM.out.mono ?_
  rintro e w' ⟨rfl, rfl⟩
  obtain ⟨s, hs⟩ : ∃ s, s = sumOf l := ⟨_, rfl⟩
  rw [← hs]
  have hs32 : s < 4294967296 := by rw [hs]; exact sumOf_lt l
  have HS := Lib.hid hs
  clear hs
  have hcv := conv_src (.inr ⟨_, 4, rfl, at_le4 w s hs32⟩)
  rw [le4_length] at hcv
  have hsz2 : ((S (le4 s)).size : Int) = 4 := by rw [S_size, le4_length]; rfl
  go_wp2
  rw [S_append, show l ++ le4 s = putL l by rw [HS.out]; rfl]
  go_ret
  exact ⟨rfl, (Below.refl _ _).alloc (Nat.le_refl _) _⟩
theorem refget_short (l : List UInt8) (w : World) (h4 : l.length < 4) :
    Calls Try.prog 17 #[.string (S l)] w fun e w' => e = .returned (.tuple #[.string ⟨#[]⟩, .int .i64 20]) ∧ w = w' := by
  have hsz : ((S l).size : Int) = (l.length : Int) := by rw [S_size]
  have h4' : (l.length : Int) < 4 := by omega
  go_enter Try.func17, Try.ntmps17
  go_wp2
  go_ret2
  exact ⟨rfl, rfl⟩
set_option maxHeartbeats 400000 in
set_option maxRecDepth 100000 in
theorem refget_some (l : List UInt8) (w : World) (h4 : 4 ≤ l.length) (hlim : l.length ≤ 32772) :
    Calls Try.prog 17 #[.string (S l)] w fun e w' => Below w.heap.size w w' ∧
      ((okL l = true ∧ e = .returned (.tuple #[.string (S (l.take (l.length - 4))), .int .i64 0])) ∨ (okL l = false ∧ e = .returned (.tuple #[.string ⟨#[]⟩, .int .i64 20]))) := by
  have hsz : ((S l).size : Int) = (l.length : Int) := by rw [S_size]
  obtain ⟨n, hn⟩ : ∃ n, n = l.length - 4 := ⟨_, rfl⟩
  have hln : l.length = n + 4 := by omega
  have hok : okL l = decide (putL (l.take n) = l) := by unfold okL; rw [← hn]; simp [h4]
  have hcut : (S l).extract 0 n = S (l.take n) := S_take l n
  have HPUT := Lib.hid (refput_any (l.take n) w (by rw [List.length_take]; omega))
  have HOK := Lib.hid hok
  rw [← hn]
  have hsub : (l.length : Int) - 4 = (n : Int) := by omega
  have hm4 : (4 : Int) ≤ (l.length : Int) := by omega
  have hm5 : (l.length : Int) ≤ 32772 := by omega
  have hnm : (n : Int) ≤ (l.length : Int) := by omega
  have hn1 : n ≤ 32768 := by omega
  have hn0 : (0 : Int) ≤ n := by omega
  clear hok hn hln h4 hlim
  generalize l.length = m at *
  go_enter Try.func17, Try.ntmps17
  go_wp2_with fail
  refine HPUT.out.mono ?_
  rintro e w1 ⟨rfl, hb1⟩
  by_cases heq : putL (l.take n) = l
  · have HT := Lib.hid (show okL l = true by rw [HOK.out]; simpa using heq)
    rw [heq]
    have hq : ((S l).toList == (S l).toList) = true := by simp
    clear heq
    go_wp2
    go_ret2
    exact ⟨hb1, .inl ⟨HT.out, rfl⟩⟩
  · have HT := Lib.hid (show okL l = false by rw [HOK.out]; simpa using heq)
    have hq : ((S (putL (l.take n))).toList == (S l).toList) = false := by rw [S_toList, S_toList, beq_eq_false_iff_ne]; exact heq
    clear heq
    go_wp2
    go_ret2
    exact ⟨hb1, .inr ⟨HT.out, rfl⟩⟩
end Go.Proofs.Ytpaadajkfnokjaa
