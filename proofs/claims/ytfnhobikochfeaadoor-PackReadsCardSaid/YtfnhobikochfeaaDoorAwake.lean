/-
  What a law's own writers and readers are (all in new memory), and the contract of the laws' awake: the chapter's examples come out as the chapter says.
  Conditions: unicode/utf8's two tables hold what they hold at the start.
-/
import Derived.Test.YtfnhobikochfeaaDoorText
namespace Go.Proofs.YtfnhobikochfeaaDoor
open Go.RowKit

/-- A writer of the call's own. -/
structure WS (w0 w : World) (b : Nat) (v : Value) (l : List UInt8) : Prop where
  wr : WrAt w b v l
  lo : w0.heap.size ≤ b
  own : ∀ g, v.ownBlock = some g → w0.heap.size ≤ g
  bel : Below w0.heap.size w0 w
/-- A reader of the call's own. -/
structure RS (w0 w : World) (b : Nat) (v : Value) (l : List UInt8) (i err : Nat) : Prop where
  rd : RdAt w b v l i err
  lo : w0.heap.size ≤ b
  own : ∀ g, v.ownBlock = some g → w0.heap.size ≤ g
  bel : Below w0.heap.size w0 w
theorem WS.new {w0 w : World} (h : Below w0.heap.size w0 w) : WS w0 (w.alloc (.cells #[.slice none 0 0] 68)) w.heap.size (.slice none 0 0) [] :=
  ⟨⟨heap_alloc_new w _, World.ownsRow_nil _ _ _ _⟩, h.size, fun g hg => by simp [Value.ownBlock] at hg, h.alloc h.size _⟩
theorem WS.alloc {w0 w : World} {b : Nat} {v : Value} {l : List UInt8} (h : WS w0 w b v l) (o : Obj) : WS w0 (w.alloc o) b v l := ⟨h.wr.alloc o, h.lo, h.own, h.bel.alloc h.bel.size o⟩
theorem WS.step {w0 w w' : World} {b : Nat} {v v' : Value} {l l' : List UInt8} (h : WS w0 w b v l) (hw : WrAt w' b v' l') (hg : WrGrew w b v w' v') : WS w0 w' b v' l' := by
  have hs := h.bel.size
  refine ⟨hw, h.lo, fun g hv => ?_, h.bel.trans (hg.only.below hs (fun i hi => hi.elim (fun e => e ▸ h.lo) (fun e => h.own i e)))⟩
  rcases hg.came with e | e
  · exact h.own g (e ▸ hv)
  · exact Nat.le_trans hs (e g hv)
/-- What is said of a law's call of its writer. -/
def Wrote' (w0 : World) (b : Nat) (l : List UInt8) (e : Ending) (w' : World) : Prop := e = .returned (.tuple #[]) ∧ ∃ v', WS w0 w' b v' l
theorem Wrote.ws {w0 w w' : World} {b : Nat} {v : Value} {l m : List UInt8} {e : Ending} (h : WS w0 w b v l) (hw : Wrote b v l m w e w') : Wrote' w0 b (l ++ m) e w' := by
  obtain ⟨he, v', h1, h2⟩ := hw
  exact ⟨he, v', h.step h1 h2⟩
theorem ws_num {w0 w : World} {b : Nat} {v : Value} {l : List UInt8} (h : WS w0 w b v l) (x : Nat) (hx : x < 18446744073709551616) (hlim : l.length + 10 ≤ 140737488355328) :
    Calls Tryd.prog 18 #[.pointer (some ⟨b, 0, none⟩), .slice (some ⟨w.heap.size, 0, none⟩) 1 1] (w.alloc (.cells #[.int .u64 x] 22)) (Wrote' w0 b (l ++ Lib.uvarint x)) :=
  (wnum_one b w.heap.size v l x _ (h.wr.alloc _) h.wr.notNew.1 h.wr.notNew.2 (by simp) hx hlim).mono fun _ _ hw => (hw.ws (h.alloc _))
theorem ws_int {w0 w : World} {b : Nat} {v : Value} {l : List UInt8} (h : WS w0 w b v l) (x : Int) (hx : -9223372036854775808 ≤ x ∧ x ≤ 9223372036854775807) (hlim : l.length + 10 ≤ 140737488355328) :
    Calls Tryd.prog 19 #[.pointer (some ⟨b, 0, none⟩), .slice (some ⟨w.heap.size, 0, none⟩) 1 1] (w.alloc (.cells #[.int .i64 x] 2)) (Wrote' w0 b (l ++ Lib.uvarint (Lib.zigzag x))) :=
  (wint_one b w.heap.size v l x _ (h.wr.alloc _) h.wr.notNew.1 h.wr.notNew.2 (by simp) hx hlim).mono fun _ _ hw => (hw.ws (h.alloc _))
theorem ws_text {w0 w : World} {b : Nat} {v : Value} {l : List UInt8} (h : WS w0 w b v l) (s : List UInt8) (hlim : l.length + (s.length + 10) ≤ 140737488355328) :
    Calls Tryd.prog 23 #[.pointer (some ⟨b, 0, none⟩), .slice (some ⟨w.heap.size, 0, none⟩) 1 1] (w.alloc (.cells #[.string (S s)] 9)) (Wrote' w0 b (l ++ textBytes s)) :=
  (wtext_one b w.heap.size v l s _ (h.wr.alloc _) h.wr.notNew.1 h.wr.notNew.2 (by simp) hlim).mono fun _ _ hw => (hw.ws (h.alloc _))
theorem ws_flag {w0 w : World} {b : Nat} {v : Value} {l : List UInt8} (h : WS w0 w b v l) (f : Bool) (hlim : l.length + 1 ≤ 140737488355328) :
    Calls Tryd.prog 21 #[.pointer (some ⟨b, 0, none⟩), .slice (some ⟨w.heap.size, 0, none⟩) 1 1] (w.alloc (.cells #[.bool f] 4)) (Wrote' w0 b (l ++ [flagByte f])) :=
  (wflag_one b w.heap.size v l f _ (h.wr.alloc _) h.wr.notNew.1 h.wr.notNew.2 (by simp) hlim).mono fun _ _ hw => (hw.ws (h.alloc _))
/-- A row of the call's own. -/
structure BS (w0 w : World) (v : Value) (l : List UInt8) : Prop where
  row : RowIs w v l
  own : ∀ g, v.ownBlock = some g → w0.heap.size ≤ g
  bel : Below w0.heap.size w0 w
def Bytes' (w0 : World) (l : List UInt8) (e : Ending) (w' : World) : Prop := ∃ v, e = .returned v ∧ BS w0 w' v l
theorem ws_bytes {w0 w : World} {b : Nat} {v : Value} {l : List UInt8} (h : WS w0 w b v l) (hlim : l.length ≤ 140737488355328) :
    Calls Tryd.prog 25 #[.pointer (some ⟨b, 0, none⟩)] w (Bytes' w0 l) :=
  (wbytes_any b v l w h.wr hlim).mono fun _ _ ⟨v', he, h1, h2, h3⟩ => ⟨v', he, h1, fun g hg => Nat.le_trans h.bel.size (h3 g hg), h.bel.trans (h2.mono h.bel.size)⟩
def Read' (w0 w : World) (l : List UInt8) (e : Ending) (w' : World) : Prop := ∃ b v, e = .returned (.pointer (some ⟨b, 0, none⟩)) ∧ RS w0 w' b v l 0 0 ∧ Below w.heap.size w w'
theorem rs_read {w0 w : World} (hb : Below w0.heap.size w0 w) (sv : Value) (l : List UInt8) (hs : SrcIs w sv l) (hlim : l.length ≤ 140737488355328) :
    Calls Tryd.prog 26 #[sv] w (Read' w0 w l) :=
  (read_any sv l w hs hlim).mono fun _ _ ⟨b, v, he, h1, h2, h3, h4⟩ => ⟨b, v, he, ⟨h2, Nat.le_trans hb.size h3, fun g hg => Nat.le_trans hb.size (h4 g hg), hb.trans (h1.mono hb.size)⟩, h1⟩
theorem RS.step {w0 w w' : World} {b : Nat} {v : Value} {l : List UInt8} {i err i' err' : Nat} (h : RS w0 w b v l i err) (ho : Only (fun k => k = b) w w') (hr : RdAt w' b v l i' err') : RS w0 w' b v l i' err' :=
  ⟨hr, h.lo, h.own, h.bel.trans (ho.below h.bel.size (fun _ hi => hi ▸ h.lo))⟩
theorem RS.drewN {w0 w : World} {b : Nat} {v : Value} {l : List UInt8} {i err : Nat} (h : RS w0 w b v l i err) (q : Nat) : RS w0 (w.drewN q) b v l i err :=
  h.step ((Only.refl _ _).drewN q) (h.rd.drewN q)
def Got' (w0 : World) (b : Nat) (v : Value) (l : List UInt8) (i err : Nat) (x : Value) (e : Ending) (w' : World) : Prop := e = .returned x ∧ RS w0 w' b v l i err
theorem Got.rs {w0 w w' : World} {b : Nat} {v : Value} {l : List UInt8} {i err i' err' : Nat} {x : Value} {e : Ending} (h : RS w0 w b v l i err) (g : Got b v l i' err' x w e w') : Got' w0 b v l i' err' x e w' := ⟨g.1, h.step g.2.1 g.2.2⟩
theorem Tabs.below {w0 w : World} (h : Tabs w0) (hb : Below w0.heap.size w0 w) : Tabs w := Utf8Tabs_below h hb
theorem Tabs.two {w : World} (h : Tabs w) : 2 ≤ w.heap.size := by
  have := World.block_lt_of_cell? w _ (h.2 0 (by decide)).1
  exact this
theorem RS.ne {w0 w : World} {b : Nat} {v : Value} {l : List UInt8} {i err : Nat} (h : RS w0 w b v l i err) (hT : Tabs w0) : b ≠ 0 ∧ b ≠ 1 := by
  have h1 := hT.two
  have h2 := h.lo
  omega
theorem RS.keep {w0 w w' : World} {b : Nat} {v : Value} {l : List UInt8} {i err : Nat} (h : RS w0 w b v l i err) (hb : Below w.heap.size w w') : RS w0 w' b v l i err :=
  ⟨h.rd.keep (S := fun _ => False) (Only.ofBelow hb) id (fun _ _ => id), h.lo, h.own, h.bel.trans (hb.mono h.bel.size)⟩
theorem BS.keep {w0 w w' : World} {v : Value} {l : List UInt8} (h : BS w0 w v l) (hb : Below w.heap.size w w') : BS w0 w' v l :=
  ⟨(Only.ofBelow (S := fun _ => False) hb).row h.row (fun _ _ => id), h.own, h.bel.trans (hb.mono h.bel.size)⟩
theorem WS.keep {w0 w w' : World} {b : Nat} {v : Value} {l : List UInt8} (h : WS w0 w b v l) (hb : Below w.heap.size w w') : WS w0 w' b v l :=
  ⟨h.wr.keep (S := fun _ => False) (Only.ofBelow hb) id (fun _ _ => id), h.lo, h.own, h.bel.trans (hb.mono h.bel.size)⟩

theorem BS.past {w0 w w' : World} {v x : Value} {l m : List UInt8} {b i err : Nat} (h : BS w0 w v l) (r : RS w0 w b x m i err) (ho : Only (fun k => k = b) w w') : BS w0 w' v l := by
  refine ⟨ho.row h.row (fun g hg e => ?_), h.own, h.bel.trans (ho.below h.bel.size (fun _ hi => hi ▸ r.lo))⟩
  subst e
  rcases h.row.2 with ⟨rfl, _⟩ | ⟨g', cap, cur, rfl, hb, hgg, rest⟩
  · simp [Value.ownBlock] at hg
  · simp [Value.ownBlock] at hg
    subst hg
    have := r.rd.blk
    rw [hgg] at this
    simp at this
theorem BS.alloc {w0 w : World} {v : Value} {l : List UInt8} (h : BS w0 w v l) (o : Obj) : BS w0 (w.alloc o) v l := h.keep ((Below.refl _ _).alloc (Nat.le_refl _) o)
theorem BS.drewN {w0 w : World} {v : Value} {l : List UInt8} (h : BS w0 w v l) (q : Nat) : BS w0 (w.drewN q) v l := ⟨h.row, h.own, ⟨h.bel.os, h.bel.tape, h.bel.output, h.bel.size, h.bel.block⟩⟩
theorem enc_a : [] ++ Lib.uvarint (Lib.zigzag (-3)) = [5] := by
  rw [show Lib.zigzag (-3) = 5 from by decide, Lib.uvarint_small (by decide)]; decide
theorem enc_b : [5] ++ Lib.uvarint 300 = [5, 172, 2] := by
  rw [Lib.uvarint_big (by decide), Lib.uvarint_small (by decide)]; decide
theorem enc_c : [5, 172, 2] ++ textBytes [195, 169] = [5, 172, 2, 2, 195, 169] := by
  rw [textBytes, show ([195, 169] : List UInt8).length = 2 from rfl, Lib.uvarint_small (by decide)]; decide
theorem enc_d : [5, 172, 2, 2, 195, 169] ++ [flagByte true] = [5, 172, 2, 2, 195, 169, 1] := by decide
theorem src_two (w : World) (x y : UInt8) : SrcIs (w.alloc (.cells #[.int .u8 (x.toNat : Int), .int .u8 (y.toNat : Int)] 5)) (.slice (some ⟨w.heap.size, 0, none⟩) 2 2) [x, y] := by
  refine .inr ⟨_, 2, rfl, fun j u hj => ?_⟩
  match j, hj with
  | 0, hj => simp [Lib.byteCells] at hj; subst hj; simp [Addr.add]
  | 1, hj => simp [Lib.byteCells] at hj; subst hj; simp [Addr.add]
  | j + 2, hj => simp [Lib.byteCells] at hj
theorem valid_e : Lib.validD [195, 169] = true := by decide +kernel
set_option maxHeartbeats 4000000 in
set_option maxRecDepth 100000 in
theorem awake_any (w : World) (hT : Tabs w) :
    Calls Tryd.prog 11 #[] w fun e w' => e = .returned (.bool true) ∧ Below w.heap.size w w' := by
  have HT := Lib.hid hT
  clear hT
  go_enter Tryd.func11, Tryd.ntmps11
  go_wp2_with fail
  refine (write_any _).mono ?_
  rintro e w1 ⟨rfl, rfl⟩
  have s1 := WS.new (Below.refl w.heap.size w)
  generalize hA : w.alloc (.cells #[.slice none 0 0] 68) = wA at s1 ⊢
  clear hA
  go_wp2_with fail
  have k1 := ws_int s1 (-3) (by decide) (by decide)
  rw [enc_a] at k1
  refine k1.mono ?_
  clear k1
  rintro e w2 ⟨rfl, v2, s2⟩
  go_wp2_with fail
  have k2 := ws_num s2 300 (by decide) (by decide)
  rw [enc_b] at k2
  refine k2.mono ?_
  clear k2
  rintro e w3 ⟨rfl, v3, s3⟩
  go_wp2_with fail
  have k3 := ws_text s3 [195, 169] (by decide)
  rw [enc_c] at k3
  refine k3.mono ?_
  clear k3
  rintro e w4 ⟨rfl, v4, s4⟩
  go_wp2_with fail
  have k4 := ws_flag s4 true (by decide)
  rw [enc_d] at k4
  refine k4.mono ?_
  clear k4
  rintro e w5 ⟨rfl, v5, s5⟩
  go_wp2_with fail
  refine (ws_bytes s5 (by decide)).mono ?_
  rintro e w6 ⟨v6, rfl, s6⟩
  clear s1 s2 s3 s4 s5
  go_wp2_with fail
  have b6 : Below w.heap.size w (w6.alloc (.cells #[.int .u8 128, .int .u8 0] 5)) := s6.bel.alloc s6.bel.size _
  refine (rs_read b6 _ [128, 0] (src_two w6 128 0) (by decide)).mono ?_
  rintro e w7 ⟨br, vr, rfl, r7, bb7⟩
  have s7 := (s6.alloc _).keep bb7
  clear s6 b6 bb7
  have hcv := conv_owned s7.row
  rw [show S [5, 172, 2, 2, 195, 169, 1] = ⟨#[5, 172, 2, 2, 195, 169, 1]⟩ from rfl] at hcv
  go_wp2_with fail
  refine (rnum_bad br vr [128, 0] 0 11 0 2 w7 r7.rd (by decide) (by decide)).mono ?_
  rintro e w8 ⟨rfl, hon8, hrd8⟩
  have s8 := s7.past r7 hon8
  have r8 := r7.step hon8 hrd8
  clear s7 r7 hon8 hrd8 hcv
  go_wp2_with fail
  refine (err_bad br vr [128, 0] 0 11 w8 r8.rd (by decide)).mono ?_
  rintro e w9 ⟨rfl, q9, rfl⟩
  have s9 := s8.drewN q9
  generalize hw9 : w8.drewN q9 = w9 at s9 ⊢
  clear hw9 r8 s8
  go_wp2_with fail
  refine (rs_read s9.bel v6 _ (.ofRow s9.row) (by decide)).mono ?_
  rintro e wa ⟨bq, vq, rfl, ra, bba⟩
  clear s9 bba
  go_wp2_with fail
  refine (rint_ok bq vq _ 0 5 1 wa ra.rd (by decide)).mono ?_
  rintro e wb ⟨rfl, honb, hrdb⟩
  rw [show zag 5 = -3 from by decide]
  have rb := ra.step honb hrdb
  clear ra honb hrdb
  go_wp2_with fail
  refine (rnum_ok bq vq _ 1 300 2 wb rb.rd (by decide)).mono ?_
  rintro e wc ⟨rfl, honc, hrdc⟩
  have rc := rb.step honc hrdc
  clear rb honc hrdc
  go_wp2_with fail
  refine (rtext_ok bq vq _ 3 2 1 wc rc.rd (HT.out.below rc.bel) (rc.ne HT.out).1 (rc.ne HT.out).2 (by decide) (by decide) (by decide) (by decide +kernel)).mono ?_
  rintro e wd ⟨rfl, hond, hrdd⟩
  rw [show S (List.take 2 (List.drop (3 + 1) [5, 172, 2, 2, 195, 169, 1])) = ⟨#[195, 169]⟩ from rfl]
  have rd := rc.step hond hrdd
  clear rc hond hrdd
  go_wp2_with fail
  refine (rflag_ok bq vq _ 6 true wd rd.rd (by decide) (by decide)).mono ?_
  rintro e we ⟨rfl, hone, hrde⟩
  have re := rd.step hone hrde
  clear rd hone hrde
  go_wp2_with fail
  refine (end_ok bq vq _ we re.rd).mono ?_
  rintro e wf ⟨rfl, qf, rfl⟩
  have rf := re.drewN qf
  clear re
  have HZ : Hid (∀ w, Calls Tryd.prog 12 #[.int .i64 (-3)] w fun e w' => e = .returned (.int .u64 5) ∧ w = w') := fun w => zig_any (-3) w (by decide) (by decide)
  have HG : Hid (∀ w, Calls Tryd.prog 14 #[.int .u64 5] w fun e w' => e = .returned (.int .i64 (-3)) ∧ w = w') := fun w => zag_any 5 w (by decide)
  go_wp2_with (first | (go_at_call 12; refine (HZ.out _).mono ?_; rintro e w' ⟨rfl, rfl⟩) | (go_at_call 14; refine (HG.out _).mono ?_; rintro e w' ⟨rfl, rfl⟩))
  go_ret
  exact ⟨rfl, rf.bel⟩
end Go.Proofs.YtfnhobikochfeaaDoor
