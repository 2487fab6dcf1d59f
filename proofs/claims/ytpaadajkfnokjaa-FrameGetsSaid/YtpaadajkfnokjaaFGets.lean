/-
  FrameGets's contract: it answers true at any text, and writes nothing that was there.
  Conditions: none.
-/
import Derived.Test.YtpaadajkfnokjaaFAwake
import Derived.Test.YtpaadajkfnokjaaFRefPut
namespace Go.Proofs.Ytpaadajkfnokjaa
open Go.RowKit
/-- What the document's Get answers. -/
def RefGot (l : List UInt8) (w : World) (e : Ending) (w' : World) : Prop :=
  Below w.heap.size w w' ∧ ((okL l = true ∧ e = .returned (.tuple #[.string (S (l.take (l.length - 4))), .int .i64 0])) ∨ (okL l = false ∧ e = .returned (.tuple #[.string ⟨#[]⟩, .int .i64 20])))
theorem refget_any (l : List UInt8) (w : World) (hlim : l.length ≤ 32772) : Calls Try.prog 17 #[.string (S l)] w (RefGot l w) := by
  by_cases h4 : l.length < 4
  · refine (refget_short l w h4).mono ?_
    rintro e w' ⟨rfl, rfl⟩
    exact ⟨Below.refl _ _, .inr ⟨by unfold okL; simp; intro; omega, rfl⟩⟩
  · exact refget_some l w (by omega) hlim
set_option maxHeartbeats 400000 in
set_option maxRecDepth 100000 in
theorem gets_any (s : List UInt8) (w : World) (hs : s.length ≤ 9223372036854775807) :
    Calls Try.prog 5 #[.string (S s)] w fun e w' => e = .returned (.bool true) ∧ Below w.heap.size w w' := by
  have hsz : ((S s).size : Int) = (s.length : Int) := by rw [S_size]
  have HA := Lib.hid awake_any
  by_cases hbig : 2000 < s.length
  · have hz : (2000 : Int) < (s.length : Int) := by omega
    go_enter Try.func5, Try.ntmps5
    go_wp2_with (go_at_call 10; refine (HA.out _).mono ?_; rintro e w1 ⟨rfl, hb⟩)
    go_ret
    exact ⟨rfl, hb⟩
  have hz : (s.length : Int) ≤ 2000 := by omega
  have hcv := conv_back s w
  have HS1 := Lib.hid (back_srcC s w)
  have HB1 := Lib.hid (below_back s w)
  generalize Lib.bytesWorld w 5 (S s) = w1 at hcv HS1 HB1
  go_enter Try.func5, Try.ntmps5
  go_wp2_with fail
  refine (get_any s _ w1 HS1.out (by omega)).mono ?_
  rintro e w2 ⟨hb2, hg⟩
  have B2 := Lib.hid (HB1.out.trans (hb2.mono HB1.out.size))
  clear hcv HS1 HB1 hb2
  rcases hg with ⟨_, hok, v', rfl, hsrc⟩ | ⟨_, hok, rfl⟩ | ⟨h, _⟩
  · have HOK := Lib.hid hok
    have HSRC := Lib.hid hsrc
    clear hok hsrc
    go_wp2_with fail
    refine (refget_any s w2 (by omega)).mono ?_
    rintro e w3 ⟨hb3, hr⟩
    have B3 := Lib.hid (B2.out.trans (hb3.mono B2.out.size))
    have HSRC3 := Lib.hid (HSRC.out.below hb3)
    clear hb3
    rcases hr with ⟨_, rfl⟩ | ⟨hn, _⟩
    · go_wp2_with fail
      refine (HA.out w3).mono ?_
      rintro e w4 ⟨rfl, hb4⟩
      have B4 := Lib.hid (B3.out.trans (hb4.mono B3.out.size))
      have hcv := conv_src (HSRC3.out.below hb4)
      clear hb4
      go_wp2
      go_ret
      exact ⟨rfl, B4.out⟩
    · rw [HOK.out] at hn; cases hn
  · have HOK := Lib.hid hok
    clear hok
    go_wp2_with fail
    refine (refget_any s w2 (by omega)).mono ?_
    rintro e w3 ⟨hb3, hr⟩
    have B3 := Lib.hid (B2.out.trans (hb3.mono B2.out.size))
    clear hb3
    rcases hr with ⟨hn, _⟩ | ⟨_, rfl⟩
    · rw [HOK.out] at hn; cases hn
    · go_wp2_with fail
      refine (HA.out w3).mono ?_
      rintro e w4 ⟨rfl, hb4⟩
      have B4 := Lib.hid (B3.out.trans (hb4.mono B3.out.size))
      have hcv : Sem.run Try.prog (convert 25 9 (.slice none 0 0)) w4 = .ok (.string ⟨#[]⟩) w4 := conv_src (.inl ⟨rfl, rfl⟩)
      clear hb4
      go_wp2
      go_ret
      exact ⟨rfl, B4.out⟩
  · omega
end Go.Proofs.Ytpaadajkfnokjaa
