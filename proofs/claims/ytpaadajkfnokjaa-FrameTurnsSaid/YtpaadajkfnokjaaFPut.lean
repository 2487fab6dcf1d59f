/-
  The contracts of frame.Put and frame.Get: bytes with their sum behind, in new memory; what is ahead of a sum that is its own, or the error.
  Conditions: the slice that is handed in has no more bytes than its capacity.
-/
import Derived.Test.YtpaadajkfnokjaaFSum
namespace Go.Proofs.Ytpaadajkfnokjaa
open Go.RowKit

/-- A slice's bytes, within its capacity. -/
structure SrcC (w : World) (v : Value) (l : List UInt8) : Prop where
  src : SrcIs w v l
  cap : ∀ a n c, v = .slice a n c → n ≤ c
theorem SrcC.form {w : World} {v : Value} {l : List UInt8} (h : SrcC w v l) : (v = .slice none 0 0 ∧ l = []) ∨ ∃ a c, v = .slice (some a) l.length c ∧ l.length ≤ c ∧ At w a l := by
  rcases h.src with h1 | ⟨a, c, rfl, hc⟩
  · exact .inl h1
  · exact .inr ⟨a, c, rfl, h.cap _ _ _ rfl, hc⟩
theorem At.below {w w' : World} {a : Addr} {l : List UInt8} (h : At w a l) (hb : Below w.heap.size w w') : At w' a l := fun j u hj => (Only.ofBelow (S := fun _ => False) hb).cell (h j u hj) id
theorem SrcC.below {w w' : World} {v : Value} {l : List UInt8} (h : SrcC w v l) (hb : Below w.heap.size w w') : SrcC w' v l := ⟨h.src.below hb, h.cap⟩
theorem BS.srcC {w0 w : World} {v : Value} {l : List UInt8} (h : BS w0 w v l) : SrcC w v l := by
  refine ⟨.ofRow h.row, fun a n c hv => ?_⟩
  rcases h.row.2 with ⟨rfl, h0⟩ | ⟨g, cap, cur, rfl, hb, hgg, hn, rest⟩
  · simp at hv; omega
  · simp at hv; omega
theorem back_srcC (s : List UInt8) (w : World) : SrcC (Lib.bytesWorld w 5 (S s)) (.slice (some ⟨w.heap.size, 0, none⟩) s.length (grownCap w s.length 0 5)) s :=
  ⟨src_back s w _, fun a n c hv => by have := grownCap_ge w s.length 0 5; simp at hv; omega⟩
theorem at_le4 (w : World) (s : Nat) (hs : s < 4294967296) : At (w.alloc (.cells #[.int .u8 ((s : Int) % 256), .int .u8 ((s : Int) / 256 % 256), .int .u8 ((s : Int) / 65536 % 256), .int .u8 ((s : Int) / 16777216)] 5)) ⟨w.heap.size, 0, none⟩ (le4 s) := by
  intro j u hj
  have e3 : (s : Int) / 16777216 = ((s / 16777216 % 256 : Nat) : Int) := by omega
  rw [e3]
  match j, hj with
  | 0, hj => simp [Lib.byteCells, le4] at hj; subst hj; simp [Addr.add]
  | 1, hj => simp [Lib.byteCells, le4] at hj; subst hj; simp [Addr.add]
  | 2, hj => simp [Lib.byteCells, le4] at hj; subst hj; simp [Addr.add]
  | 3, hj => simp [Lib.byteCells, le4] at hj; subst hj; simp [Addr.add]
  | j + 4, hj => simp [Lib.byteCells, le4] at hj
set_option maxHeartbeats 400000 in
set_option maxRecDepth 100000 in
theorem put_some (l : List UInt8) (a : Addr) (c : Nat) (w : World) (hat : At w a l) (hcap : l.length ≤ c) (hlim : l.length ≤ 32768) :
    Calls Try.prog 14 #[.slice (some a) l.length c] w fun e w' => ∃ v', e = .returned (.tuple #[v', .int .i64 0]) ∧ BS w w' v' (putL l) := by
  have HSUM := Lib.hid (sum_any l (.slice (some a) l.length c) w (.inr ⟨a, c, rfl, hat⟩) (by omega))
  obtain ⟨n, hn⟩ : ∃ n, n = l.length := ⟨_, rfl⟩
  rw [← hn] at HSUM ⊢
  have hn1 : (n : Int) ≤ 32768 := by omega
  have hn2 : (n : Int) ≤ c := by omega
  have hn3 : (0 : Int) ≤ n := by omega
  have HN := Lib.hid hn
  have HAT := Lib.hid hat
  clear hn hat hlim hcap
  go_enter Try.func14, Try.ntmps14
  go_wp2_with fail
  refine HSUM.out.mono ?_
  rintro e w1 ⟨rfl, hb1⟩
  obtain ⟨s, hs⟩ : ∃ s, s = sumOf l := ⟨_, rfl⟩
  rw [← hs]
  have hs32 : s < 4294967296 := by rw [hs]; exact sumOf_lt l
  have HS := Lib.hid hs
  clear hs
  obtain ⟨v', w2, hrun, hbs⟩ := append_full (w1.alloc (.cells #[.int .u8 ((s : Int) % 256), .int .u8 ((s : Int) / 256 % 256), .int .u8 ((s : Int) / 65536 % 256), .int .u8 ((s : Int) / 16777216)] 5)) 25 (.slice (some a) l.length l.length) l (le4 s) ⟨w1.heap.size, 0, none⟩ 4 (.inr ⟨a, rfl, (HAT.out.below hb1).below ((Below.refl _ _).alloc (Nat.le_refl _) _)⟩) (at_le4 w1 s hs32) (by rw [le4_length]; decide) (by rw [le4_length, ← HN.out]; omega)
  rw [← HN.out, le4_length] at hrun
  have hsum : l ++ le4 s = putL l := by rw [HS.out]; rfl
  rw [hsum] at hbs
  have HRUN := Lib.hid hrun
  clear hrun hsum
  go_wp2_with (at_builtin; refine wpList_append_eq (by rfl) _ _ 25 (by rfl) _ _ v' w2 (by rfl) (by rfl) HRUN.out ?_)
  go_ret2
  have hb0 : Below w.heap.size w (w1.alloc (.cells #[.int .u8 ((s : Int) % 256), .int .u8 ((s : Int) / 256 % 256), .int .u8 ((s : Int) / 65536 % 256), .int .u8 ((s : Int) / 16777216)] 5)) := hb1.alloc hb1.size _
  exact ⟨_, rfl, hbs.row, fun g hg => Nat.le_trans hb0.size (hbs.own g hg), hb0.trans (hbs.bel.mono hb0.size)⟩
set_option maxHeartbeats 400000 in
set_option maxRecDepth 100000 in
theorem put_none (w : World) :
    Calls Try.prog 14 #[.slice none 0 0] w fun e w' => ∃ v', e = .returned (.tuple #[v', .int .i64 0]) ∧ BS w w' v' (putL []) := by
  have HSUM := Lib.hid (sum_any [] (.slice none 0 0) w (.inl ⟨rfl, rfl⟩) (by decide))
  go_enter Try.func14, Try.ntmps14
  go_wp2_with fail
  refine HSUM.out.mono ?_
  rintro e w1 ⟨rfl, hb1⟩
  obtain ⟨s, hs⟩ : ∃ s, s = sumOf [] := ⟨_, rfl⟩
  rw [← hs]
  have hs32 : s < 4294967296 := by rw [hs]; exact sumOf_lt []
  have HS := Lib.hid hs
  clear hs
  obtain ⟨v', w2, hrun, hbs⟩ := append_full (w1.alloc (.cells #[.int .u8 ((s : Int) % 256), .int .u8 ((s : Int) / 256 % 256), .int .u8 ((s : Int) / 65536 % 256), .int .u8 ((s : Int) / 16777216)] 5)) 25 (.slice none 0 0) [] (le4 s) ⟨w1.heap.size, 0, none⟩ 4 (.inl ⟨rfl, rfl⟩) (at_le4 w1 s hs32) (by rw [le4_length]; decide) (by rw [le4_length]; decide)
  rw [le4_length] at hrun
  have hsum : [] ++ le4 s = putL [] := by rw [HS.out]; rfl
  rw [hsum] at hbs
  have HRUN := Lib.hid hrun
  clear hrun hsum
  go_wp2_with (at_builtin; refine wpList_append_eq (by rfl) _ _ 25 (by rfl) _ _ v' w2 (by rfl) (by rfl) HRUN.out ?_)
  go_ret2
  have hb0 : Below w.heap.size w (w1.alloc (.cells #[.int .u8 ((s : Int) % 256), .int .u8 ((s : Int) / 256 % 256), .int .u8 ((s : Int) / 65536 % 256), .int .u8 ((s : Int) / 16777216)] 5)) := hb1.alloc hb1.size _
  exact ⟨_, rfl, hbs.row, fun g hg => Nat.le_trans hb0.size (hbs.own g hg), hb0.trans (hbs.bel.mono hb0.size)⟩
theorem put_ok (l : List UInt8) (sv : Value) (w : World) (hsrc : SrcC w sv l) (hlim : l.length ≤ 32768) :
    Calls Try.prog 14 #[sv] w fun e w' => ∃ v', e = .returned (.tuple #[v', .int .i64 0]) ∧ BS w w' v' (putL l) := by
  rcases hsrc.form with ⟨rfl, rfl⟩ | ⟨a, c, rfl, hc, hat⟩
  · exact put_none w
  · exact put_some l a c w hat hc hlim
theorem put_long (ao : Option Addr) (n c : Nat) (w : World) (hlim : 32768 < n) :
    Calls Try.prog 14 #[.slice ao n c] w fun e w' => e = .returned (.tuple #[.slice none 0 0, .int .i64 21]) ∧ w = w' := by
  have hn1 : (32768 : Int) < n := by omega
  go_enter Try.func14, Try.ntmps14
  go_wp2
  go_ret2
  exact ⟨rfl, rfl⟩
end Go.Proofs.Ytpaadajkfnokjaa
