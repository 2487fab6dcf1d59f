/-
  The contracts of the document's Whole and Text over the program.
  Conditions: the text is at most 2^62 bytes.
  What a law's own writers and readers are (all in new memory): their calls.
  Conditions: unicode/utf8's two tables hold what they hold at the start.
  The contracts of package pack's reader, Count, and of the laws' get: a field that is read, by its kind.
  Conditions: the reader holds its bytes (at most 2^47), stands within them.
-/
import Derived.Test.YtpincofjopmaaaaGreatDoorM13
import Derived.Lib.Bytes
import Derived.Test.YtpincofjopmaaaaGreatDoorM10
namespace Go.Proofs.YtpincofjopmaaaaGreatDoor
open Go.RowKit Go.Lib
theorem charB_S (l : List UInt8) : charB (S l) = charL l := by unfold charB charL; rw [S_size, S_get, S_get, S_get, S_get]
set_option maxHeartbeats 2000000 in
set_option maxRecDepth 100000 in
theorem whole_any (s : List UInt8) (w : World) (hs : s.length ≤ 4611686018427387904) :
    Calls Tryz.prog 270 #[.string (S s)] w fun e w' => e = .returned (.bool (validD s)) ∧ ∃ q, w' = w.drewN q := by
  obtain ⟨R, hR⟩ : ∃ R, R = validD s := ⟨_, rfl⟩
  rw [← hR]
  have HR := Lib.hid hR
  clear hR
  go_enter Tryz.func270, Tryz.ntmps270
  go_wp2
  go_loopg [0] (s.length + 1) (fun gk v0 wr => (∃ q, wr = w.drewN q) ∧ ∃ t : List UInt8, v0 = .string (S t) ∧ validD t = R ∧ t.length < gk ∧ t.length ≤ 4611686018427387904)
  case atStart => exact ⟨⟨0, rfl⟩, s, rfl, HR.out.symm, by omega, hs⟩
  case round =>
    obtain ⟨⟨q, rfl⟩, t, rfl, hv, hg, hts⟩ := hrel
    have HV := Lib.hid hv
    clear hv
    cases t with
    | nil =>
      have hR : R = true := by rw [← HV.out]; rfl
      subst hR
      rw [show S [] = ⟨#[]⟩ from rfl]
      go_wp2
      go_ret
      exact ⟨rfl, _, rfl⟩
    | cons b t =>
      rw [List.length_cons] at hg hts
      obtain ⟨u, hu⟩ : ∃ u, u = S (b :: t) := ⟨_, rfl⟩
      have hus : u.size = t.length + 1 := by rw [hu, S_size]; rfl
      have HCH := Lib.hid (char_any u (w.drewN q) (by omega))
      have hl : t.length + 1 ≤ 4611686018427387904 := hts
      have hK := charL_le (b :: t) (by simp)
      rw [← charB_S, ← hu] at hK
      obtain ⟨K, hKK⟩ : ∃ K, K = charB u := ⟨_, rfl⟩
      rw [← hKK] at HCH hK
      rw [← hu]
      have h1 : (0 : Int) < (u.size : Int) := by omega
      have h2 : (K : Int) ≤ (u.size : Int) := by rw [hus]; simp at hK; omega
      have hsz : (u.size : Int) ≤ 4611686018427387904 := by omega
      have hne : (!u.toList.isEmpty) = true := by rw [hu, S_toList]; rfl
      have HU := Lib.hid hu
      have HUS := Lib.hid hus
      have HKK := Lib.hid hKK
      clear hu hus hKK
      go_wp2_with (go_at_call 282; refine HCH.out.mono ?_; rintro e w1 ⟨rfl, q1, rfl⟩)
      · go_ret
        have hk0 : ((K : Int) == 0) = true := by assumption
        rw [beq_iff_eq] at hk0
        have hb : validD (b :: t) = false := by
          rw [valid_char _ (by simp), ← charB_S, ← HU.out, ← HKK.out, if_pos (by omega)]
        exact ⟨by rw [← HV.out, hb]; rfl, _, rfl⟩
      · have hk0 : ((K : Int) == 0) = false := by assumption
        rw [beq_eq_false_iff_ne] at hk0
        have hb : validD (b :: t) = validD ((b :: t).drop K) := by
          rw [valid_char _ (by simp), ← charB_S, ← HU.out, ← HKK.out, if_neg (by omega)]
        obtain ⟨g', rfl⟩ : ∃ g', gk = g' + 1 := ⟨gk - 1, by omega⟩
        go_roundg g'
        case measure => omega
        case rel => exact ⟨⟨_, rfl⟩, (b :: t).drop K, by rw [HU.out, S_drop], by rw [← hb]; exact HV.out, by rw [List.length_drop, List.length_cons]; omega, by rw [List.length_drop, List.length_cons]; omega⟩
end Go.Proofs.YtpincofjopmaaaaGreatDoor
namespace Go.Proofs.YtpincofjopmaaaaGreatDoor
open Go.RowKit

/-- A writer of the call's own. -/
structure WS (w0 w : World) (b : Nat) (v : Value) (l : List UInt8) : Prop where
  wr : WrAt w b v l
  lo : w0.heap.size ≤ b
  own : ∀ g, v.ownBlock = some g → w0.heap.size ≤ g
  bel : Below w0.heap.size w0 w
/-- A reader of the call's own. -/
structure RS (w0 w : World) (b : Nat) (v : Value) (l : List UInt8) (i err : Nat) : Prop where
  rd : RdAt w b v l i err
  lo : w0.heap.size ≤ b
  own : ∀ g, v.ownBlock = some g → w0.heap.size ≤ g
  bel : Below w0.heap.size w0 w
theorem WS.new {w0 w : World} (h : Below w0.heap.size w0 w) : WS w0 (w.alloc (.cells #[.slice none 0 0] 237)) w.heap.size (.slice none 0 0) [] :=
  ⟨⟨heap_alloc_new w _, World.ownsRow_nil _ _ _ _⟩, h.size, fun g hg => by simp [Value.ownBlock] at hg, h.alloc h.size _⟩
theorem WS.alloc {w0 w : World} {b : Nat} {v : Value} {l : List UInt8} (h : WS w0 w b v l) (o : Obj) : WS w0 (w.alloc o) b v l := ⟨h.wr.alloc o, h.lo, h.own, h.bel.alloc h.bel.size o⟩
theorem WS.step {w0 w w' : World} {b : Nat} {v v' : Value} {l l' : List UInt8} (h : WS w0 w b v l) (hw : WrAt w' b v' l') (hg : WrGrew w b v w' v') : WS w0 w' b v' l' := by
  have hs := h.bel.size
  refine ⟨hw, h.lo, fun g hv => ?_, h.bel.trans (hg.only.below hs (fun i hi => hi.elim (fun e => e ▸ h.lo) (fun e => h.own i e)))⟩
  rcases hg.came with e | e
  · exact h.own g (e ▸ hv)
  · exact Nat.le_trans hs (e g hv)
/-- What is said of a law's call of its writer. -/
def Wrote' (w0 : World) (b : Nat) (l : List UInt8) (e : Ending) (w' : World) : Prop := e = .returned (.tuple #[]) ∧ ∃ v', WS w0 w' b v' l
theorem Wrote.ws {w0 w w' : World} {b : Nat} {v : Value} {l m : List UInt8} {e : Ending} (h : WS w0 w b v l) (hw : Wrote b v l m w e w') : Wrote' w0 b (l ++ m) e w' := by
  obtain ⟨he, v', h1, h2⟩ := hw
  exact ⟨he, v', h.step h1 h2⟩
theorem ws_num {w0 w : World} {b : Nat} {v : Value} {l : List UInt8} (h : WS w0 w b v l) (x : Nat) (hx : x < 18446744073709551616) (hlim : l.length + 10 ≤ 140737488355328) :
    Calls Tryz.prog 246 #[.pointer (some ⟨b, 0, none⟩), .slice (some ⟨w.heap.size, 0, none⟩) 1 1] (w.alloc (.cells #[.int .u64 x] 213)) (Wrote' w0 b (l ++ Lib.uvarint x)) :=
  (wnum_one b w.heap.size v l x _ (h.wr.alloc _) h.wr.notNew.1 h.wr.notNew.2 (by simp) hx hlim).mono fun _ _ hw => (hw.ws (h.alloc _))
theorem ws_int {w0 w : World} {b : Nat} {v : Value} {l : List UInt8} (h : WS w0 w b v l) (x : Int) (hx : -9223372036854775808 ≤ x ∧ x ≤ 9223372036854775807) (hlim : l.length + 10 ≤ 140737488355328) :
    Calls Tryz.prog 249 #[.pointer (some ⟨b, 0, none⟩), .slice (some ⟨w.heap.size, 0, none⟩) 1 1] (w.alloc (.cells #[.int .i64 x] 2)) (Wrote' w0 b (l ++ Lib.uvarint (Lib.zigzag x))) :=
  (wint_one b w.heap.size v l x _ (h.wr.alloc _) h.wr.notNew.1 h.wr.notNew.2 (by simp) hx hlim).mono fun _ _ hw => (hw.ws (h.alloc _))
theorem ws_text {w0 w : World} {b : Nat} {v : Value} {l : List UInt8} (h : WS w0 w b v l) (s : List UInt8) (hlim : l.length + (s.length + 10) ≤ 140737488355328) :
    Calls Tryz.prog 206 #[.pointer (some ⟨b, 0, none⟩), .slice (some ⟨w.heap.size, 0, none⟩) 1 1] (w.alloc (.cells #[.string (S s)] 9)) (Wrote' w0 b (l ++ textBytes s)) :=
  (wtext_one b w.heap.size v l s _ (h.wr.alloc _) h.wr.notNew.1 h.wr.notNew.2 (by simp) hlim).mono fun _ _ hw => (hw.ws (h.alloc _))
theorem ws_flag {w0 w : World} {b : Nat} {v : Value} {l : List UInt8} (h : WS w0 w b v l) (f : Bool) (hlim : l.length + 1 ≤ 140737488355328) :
    Calls Tryz.prog 209 #[.pointer (some ⟨b, 0, none⟩), .slice (some ⟨w.heap.size, 0, none⟩) 1 1] (w.alloc (.cells #[.bool f] 4)) (Wrote' w0 b (l ++ [flagByte f])) :=
  (wflag_one b w.heap.size v l f _ (h.wr.alloc _) h.wr.notNew.1 h.wr.notNew.2 (by simp) hlim).mono fun _ _ hw => (hw.ws (h.alloc _))
def Bytes' (w0 : World) (l : List UInt8) (e : Ending) (w' : World) : Prop := ∃ v, e = .returned v ∧ BS w0 w' v l
theorem ws_bytes {w0 w : World} {b : Nat} {v : Value} {l : List UInt8} (h : WS w0 w b v l) (hlim : l.length ≤ 140737488355328) :
    Calls Tryz.prog 207 #[.pointer (some ⟨b, 0, none⟩)] w (Bytes' w0 l) :=
  (wbytes_any b v l w h.wr hlim).mono fun _ _ ⟨v', he, h1, h2, h3⟩ => ⟨v', he, h1, fun g hg => Nat.le_trans h.bel.size (h3 g hg), h.bel.trans (h2.mono h.bel.size)⟩
def Read' (w0 w : World) (l : List UInt8) (e : Ending) (w' : World) : Prop := ∃ b v, e = .returned (.pointer (some ⟨b, 0, none⟩)) ∧ RS w0 w' b v l 0 0 ∧ Below w.heap.size w w'
theorem rs_read {w0 w : World} (hb : Below w0.heap.size w0 w) (sv : Value) (l : List UInt8) (hs : SrcIs w sv l) (hlim : l.length ≤ 140737488355328) :
    Calls Tryz.prog 96 #[sv] w (Read' w0 w l) :=
  (read_any sv l w hs hlim).mono fun _ _ ⟨b, v, he, h1, h2, h3, h4⟩ => ⟨b, v, he, ⟨h2, Nat.le_trans hb.size h3, fun g hg => Nat.le_trans hb.size (h4 g hg), hb.trans (h1.mono hb.size)⟩, h1⟩
theorem RS.step {w0 w w' : World} {b : Nat} {v : Value} {l : List UInt8} {i err i' err' : Nat} (h : RS w0 w b v l i err) (ho : Only (fun k => k = b) w w') (hr : RdAt w' b v l i' err') : RS w0 w' b v l i' err' :=
  ⟨hr, h.lo, h.own, h.bel.trans (ho.below h.bel.size (fun _ hi => hi ▸ h.lo))⟩
theorem RS.drewN {w0 w : World} {b : Nat} {v : Value} {l : List UInt8} {i err : Nat} (h : RS w0 w b v l i err) (q : Nat) : RS w0 (w.drewN q) b v l i err :=
  h.step ((Only.refl _ _).drewN q) (h.rd.drewN q)
def Got' (w0 : World) (b : Nat) (v : Value) (l : List UInt8) (i err : Nat) (x : Value) (e : Ending) (w' : World) : Prop := e = .returned x ∧ RS w0 w' b v l i err
theorem Got.rs {w0 w w' : World} {b : Nat} {v : Value} {l : List UInt8} {i err i' err' : Nat} {x : Value} {e : Ending} (h : RS w0 w b v l i err) (g : Got b v l i' err' x w e w') : Got' w0 b v l i' err' x e w' := ⟨g.1, h.step g.2.1 g.2.2⟩
theorem Tabs.below {w0 w : World} (h : Tabs w0) (hb : Below w0.heap.size w0 w) : Tabs w := Utf8Tabs_below h hb
theorem Tabs.one {w : World} (h : Tabs w) : 2 < w.heap.size := World.block_lt_of_cell? w _ (h.1 0 (by decide))
theorem Tabs.two {w : World} (h : Tabs w) : 3 < w.heap.size := World.block_lt_of_cell? w _ (h.2 0 (by decide)).1
theorem RS.ne {w0 w : World} {b : Nat} {v : Value} {l : List UInt8} {i err : Nat} (h : RS w0 w b v l i err) (hT : Tabs w0) : b ≠ 2 ∧ b ≠ 3 := by
  have h1 := hT.two
  have h3 := hT.one
  have h2 := h.lo
  omega
theorem RS.keep {w0 w w' : World} {b : Nat} {v : Value} {l : List UInt8} {i err : Nat} (h : RS w0 w b v l i err) (hb : Below w.heap.size w w') : RS w0 w' b v l i err :=
  ⟨h.rd.keep (S := fun _ => False) (Only.ofBelow hb) id (fun _ _ => id), h.lo, h.own, h.bel.trans (hb.mono h.bel.size)⟩
theorem WS.keep {w0 w w' : World} {b : Nat} {v : Value} {l : List UInt8} (h : WS w0 w b v l) (hb : Below w.heap.size w w') : WS w0 w' b v l :=
  ⟨h.wr.keep (S := fun _ => False) (Only.ofBelow hb) id (fun _ _ => id), h.lo, h.own, h.bel.trans (hb.mono h.bel.size)⟩

theorem BS.past {w0 w w' : World} {v x : Value} {l m : List UInt8} {b i err : Nat} (h : BS w0 w v l) (r : RS w0 w b x m i err) (ho : Only (fun k => k = b) w w') : BS w0 w' v l := by
  refine ⟨ho.row h.row (fun g hg e => ?_), h.own, h.bel.trans (ho.below h.bel.size (fun _ hi => hi ▸ r.lo))⟩
  subst e
  rcases h.row.2 with ⟨rfl, _⟩ | ⟨g', cap, cur, rfl, hb, hgg, rest⟩
  · simp [Value.ownBlock] at hg
  · simp [Value.ownBlock] at hg
    subst hg
    have := r.rd.blk
    rw [hgg] at this
    simp at this
end Go.Proofs.YtpincofjopmaaaaGreatDoor
namespace Go.Proofs.YtpincofjopmaaaaGreatDoor
open Go.RowKit
set_option maxHeartbeats 2000000 in
set_option maxRecDepth 100000 in
theorem rcount_stop (b : Nat) (v : Value) (l : List UInt8) (i err : Nat) (most : Int) (w : World) (h : RdAt w b v l i err) (he : err ≠ 0) :
    Calls Tryz.prog 216 #[.pointer (some ⟨b, 0, none⟩), .int .i64 most] w (Got b v l i err (.int .i64 0) w) := by
  have hlt := lt_of_block h.blk
  have c2 := ((h.alloc (.cells #[.pointer (some ⟨b, 0, none⟩)] 127)).alloc (.cells #[.int .i64 most] 3)).c2
  have hb : ((err : Int) != 0) = true := by rw [bne_iff_ne]; omega
  have HH := Lib.hid h
  clear h
  go_enter Tryz.func216, Tryz.ntmps216
  go_wp2_with go_in
  go_ret
  exact ⟨rfl, ((Only.refl _ _).alloc _).alloc _, (HH.out.alloc _).alloc _⟩
theorem get_done {w w1 w' : World} {b : Nat} {v : Value} {l : List UInt8} {i err i' err' : Nat} {o1 o2 : Obj} (h0 : RdAt w b v l i err) (hon : Only (fun k => k = b) ((w.alloc o1).alloc o2) w1) (hrd : RdAt w1 b v l i' err') (ho : Only (fun k => k = w.heap.size ∨ k = w.heap.size + 1) w1 w') :
    Only (fun k => k = b) w w' ∧ RdAt w' b v l i' err' := by
  have hlt := lt_of_block h0.blk
  refine ⟨((((Only.refl (fun k => k = b) w).alloc o1).alloc o2).trans hon).then ho (fun i hi q => by omega), hrd.keep ho (by omega) (fun g hg q => ?_)⟩
  have := (h0.row.lt g hg).2
  omega
theorem two_blocks {w w1 : World} {b : Nat} {o1 o2 : Obj} (hb : b < w.heap.size) (hon : Only (fun k => k = b) ((w.alloc o1).alloc o2) w1) : w1.heap[w.heap.size]? = some o1 ∧ w1.heap[w.heap.size + 1]? = some o2 := by
  constructor
  · refine hon.heap ?_ (by omega)
    rw [Below.heap_alloc _ _ _ (by simp)]
    exact heap_alloc_new w o1
  · refine hon.heap ?_ (by omega)
    have := heap_alloc_new (w.alloc o1) o2
    simpa using this
theorem cells6 {w : World} {b t : Nat} {x0 x1 x2 x3 x4 x5 : Value} (h : w.heap[b]? = some (.cells #[x0, x1, x2, x3, x4, x5] t (0, 0))) : w.cell? ⟨b, 0, none⟩ = some x0 ∧ w.cell? ⟨b, 1, none⟩ = some x1 ∧ w.cell? ⟨b, 2, none⟩ = some x2 ∧ w.cell? ⟨b, 3, none⟩ = some x3 ∧ w.cell? ⟨b, 4, none⟩ = some x4 ∧ w.cell? ⟨b, 5, none⟩ = some x5 := by simp [World.cell?, h]
theorem free6 {w : World} {b t : Nat} {cs : Array Value} (h : w.heap[b]? = some (.cells cs t (0, 0))) : ∀ o, w.frozen? ⟨b, o, none⟩ = false := by intro o; simp [World.frozen?, h]
/-- A field that is read. -/
def fieldVal (kind most : Int) (n : Nat) (i : Int) (yes : Bool) (s : List UInt8) : Value := .agg #[.int .i64 kind, .int .i64 most, .int .u64 n, .int .i64 i, .bool yes, .string (S s)]
end Go.Proofs.YtpincofjopmaaaaGreatDoor
