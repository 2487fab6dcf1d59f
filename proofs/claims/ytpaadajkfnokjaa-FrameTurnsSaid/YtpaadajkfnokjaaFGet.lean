/-
  The contract of frame.Get: what is ahead of a sum that is its own, or the error.
  Conditions: the slice that is handed in has no more bytes than its capacity.
-/
import Derived.Test.YtpaadajkfnokjaaFPut
import Derived.Test.YtpaadajkfnokjaaFTurn
namespace Go.Proofs.Ytpaadajkfnokjaa
open Go.RowKit

theorem At.take {w : World} {a : Addr} {l : List UInt8} (h : At w a l) (k : Nat) : At w a (l.take k) := by
  intro j u hj
  refine h j u ?_
  rw [byteCells_at] at hj ⊢
  by_cases hjk : j < k
  · rw [List.getElem?_take, if_pos hjk] at hj; exact hj
  · rw [List.getElem?_take, if_neg hjk] at hj; cases hj
theorem get_long (ao : Option Addr) (n c : Nat) (w : World) (hn : 32772 < n) (hm : n ≤ 1099511627776) :
    Calls Try.prog 15 #[.slice ao n c] w fun e w' => e = .returned (.tuple #[.slice none 0 0, .int .i64 21]) ∧ w = w' := by
  have hn1 : (32768 : Int) < (n : Int) - 4 := by omega
  go_enter Try.func15, Try.ntmps15
  go_wp2
  go_ret2
  exact ⟨rfl, rfl⟩
theorem get_short (ao : Option Addr) (n c : Nat) (w : World) (hn : n < 4) :
    Calls Try.prog 15 #[.slice ao n c] w fun e w' => e = .returned (.tuple #[.slice none 0 0, .int .i64 20]) ∧ w = w' := by
  have hn1 : (n : Int) - 4 ≤ 32768 := by omega
  have hn2 : (n : Int) - 4 < 0 := by omega
  go_enter Try.func15, Try.ntmps15
  go_wp2
  go_ret2
  exact ⟨rfl, rfl⟩
set_option maxHeartbeats 400000 in
set_option maxRecDepth 100000 in
theorem get_some (l : List UInt8) (a : Addr) (c : Nat) (w : World) (hat : At w a l) (hcap : l.length ≤ c) (h4 : 4 ≤ l.length) (hlim : l.length ≤ 32772) :
    Calls Try.prog 15 #[.slice (some a) l.length c] w fun e w' =>
      (okL l = true ∧ ∃ v', e = .returned (.tuple #[v', .int .i64 0]) ∧ SrcIs w' v' (l.take (l.length - 4)) ∧ Below w.heap.size w w') ∨ (okL l = false ∧ e = .returned (.tuple #[.slice none 0 0, .int .i64 20]) ∧ Below w.heap.size w w') := by
  obtain ⟨n, hn⟩ : ∃ n, n = l.length - 4 := ⟨_, rfl⟩
  have hln : l.length = n + 4 := by omega
  have hok : okL l = decide (putL (l.take n) = l) := by unfold okL; rw [← hn]; simp [h4]
  have htl : (l.take n).length = n := by rw [List.length_take]; omega
  have kput := put_some (l.take n) a n w (hat.take n) (by omega) (by omega)
  rw [htl] at kput
  have HPUT := Lib.hid kput
  have HAT := Lib.hid hat
  have HOK := Lib.hid hok
  have HTL := Lib.hid htl
  have HLN := Lib.hid hln
  rw [← hn, hln]
  have hc : n + 4 ≤ c := by omega
  have hn32 : n ≤ 32768 := by omega
  clear kput hat hok htl hn hln h4 hlim hcap
  have hsub : ((n + 4 : Nat) : Int) - 4 = (n : Int) := by omega
  have hcc : (n : Int) ≤ c := by omega
  have hn0 : (0 : Int) ≤ n := by omega
  go_enter Try.func15, Try.ntmps15
  go_wp2_with fail
  refine HPUT.out.mono ?_
  rintro e w1 ⟨v1, rfl, hbs⟩
  have hpl : (putL (l.take n)).length = n + 4 := by rw [putL_length, HTL.out]
  obtain ⟨g, cap1, rfl, hg⟩ := hbs.form (by omega)
  have hcap1 := hbs.srcC.cap _ _ _ rfl
  rw [hpl] at hbs hcap1 ⊢
  have hcv1 := conv_src (SrcIs.ofRow hbs.row)
  have hcv2 : Sem.run Try.prog (convert 25 9 (.slice (some a) (n + 4) c)) w1 = .ok (.string (S l)) w1 := by
    rw [← HLN.out]
    exact conv_src (.inr ⟨a, c, rfl, HAT.out.below hbs.bel⟩)
  have hcap2 : (n : Int) ≤ cap1 := by omega
  have HB := Lib.hid hbs
  clear hbs hpl
  by_cases heq : putL (l.take n) = l
  · have hok : okL l = true := by rw [HOK.out]; simpa using heq
    have hsrc : SrcIs w1 (.slice (some ⟨g, 0, none⟩) n n) (l.take n) := by
      have hat : At w1 ⟨g, 0, none⟩ (putL (l.take n)) := by
        rcases SrcIs.ofRow HB.out.row with ⟨h, _⟩ | ⟨a', c', h, hc'⟩
        · simp at h
        · simp at h
          obtain ⟨rfl, _⟩ := h
          exact hc'
      have hat2 := hat.take n
      rw [show (putL (l.take n)).take n = l.take n by have := take_put (l.take n); rw [HTL.out] at this; exact this] at hat2
      exact .inr ⟨⟨g, 0, none⟩, n, by rw [HTL.out], hat2⟩
    have hb := HB.out.bel
    have HSRC := Lib.hid hsrc
    have HOKT := Lib.hid hok
    rw [heq] at hcv1
    clear heq hok hsrc
    go_wp2
    go_ret2
    exact .inl ⟨HOKT.out, _, rfl, HSRC.out, hb⟩
  · have hok : okL l = false := by rw [HOK.out]; simpa using heq
    have hne : ((S (putL (l.take n))).toList == (S l).toList) = false := by rw [S_toList, S_toList, beq_eq_false_iff_ne]; exact heq
    have hb := HB.out.bel
    have HOKT := Lib.hid hok
    clear heq hok
    go_wp2
    go_ret2
    exact .inr ⟨HOKT.out, rfl, hb⟩
/-- What Get answers. -/
def GotL (l : List UInt8) (w : World) (e : Ending) (w' : World) : Prop :=
  Below w.heap.size w w' ∧ ((l.length ≤ 32772 ∧ okL l = true ∧ ∃ v', e = .returned (.tuple #[v', .int .i64 0]) ∧ SrcIs w' v' (l.take (l.length - 4))) ∨
    (l.length ≤ 32772 ∧ okL l = false ∧ e = .returned (.tuple #[.slice none 0 0, .int .i64 20])) ∨ (32772 < l.length ∧ e = .returned (.tuple #[.slice none 0 0, .int .i64 21])))
theorem get_any (l : List UInt8) (sv : Value) (w : World) (hsrc : SrcC w sv l) (hlim : l.length ≤ 1099511627776) : Calls Try.prog 15 #[sv] w (GotL l w) := by
  have hshort : l.length < 4 → okL l = false := fun h => by unfold okL; simp; intro; omega
  by_cases hl : 32772 < l.length
  · rcases hsrc.form with ⟨rfl, rfl⟩ | ⟨a, c, rfl, hc, hat⟩
    · simp at hl
    · refine (get_long (some a) l.length c w hl hlim).mono ?_
      rintro e w' ⟨rfl, rfl⟩
      exact ⟨Below.refl _ _, .inr (.inr ⟨hl, rfl⟩)⟩
  · by_cases h4 : l.length < 4
    · have key : ∀ ao c, Calls Try.prog 15 #[.slice ao l.length c] w (GotL l w) := fun ao c => by
        refine (get_short ao l.length c w h4).mono ?_
        rintro e w' ⟨rfl, rfl⟩
        exact ⟨Below.refl _ _, .inr (.inl ⟨by omega, hshort h4, rfl⟩)⟩
      rcases hsrc.form with ⟨rfl, rfl⟩ | ⟨a, c, rfl, hc, hat⟩
      · exact key none 0
      · exact key (some a) c
    · rcases hsrc.form with ⟨rfl, rfl⟩ | ⟨a, c, rfl, hc, hat⟩
      · simp at h4
      · refine (get_some l a c w hat hc (by omega) (by omega)).mono ?_
        rintro e w' (⟨hok, v', he, hs, hb⟩ | ⟨hok, he, hb⟩)
        · exact ⟨hb, .inl ⟨by omega, hok, v', he, hs⟩⟩
        · exact ⟨hb, .inr (.inl ⟨by omega, hok, he⟩)⟩
end Go.Proofs.Ytpaadajkfnokjaa
