/-
  The contract of package code's each, at whatever closure it is handed.
  Conditions: the tables hold what they hold at the start; the instructions lie in memory that was there before; their texts have at most 2^40 bytes.
  The contracts of package code's Put and of its closure: instructions that may be are their bytes, else the first error.
  Conditions: the tables hold what they hold at the start; the instructions lie in memory that was there before; at most 2^20 of them, of at most 2^20 bytes each.
  The shelf's contracts of strings.Builder (WriteString, String) and of strconv.FormatInt at base 10, laid at this translation.
  Conditions: none of its own; each field is a closed fact of the translation.
  The contract of the closure of package code's Show: an instruction's line goes behind what was written.
  Conditions: the tables hold what they hold at the start; texts have at most 2^20 bytes.
  The contract of package code's Show: instructions that may be are their text, else the first error.
  Conditions: the tables hold what they hold at the start; the instructions lie in memory that was there before; at most 2^19 of them, of at most 2^20 bytes each.
  The contract of the laws' awake of layer 4: the chapter's examples come out as the chapter says.
  Conditions: the tables hold what they hold at the start.
  The contract of the laws' few: instructions that are not too many or long.
  Conditions: the instructions lie in memory that was there before.
-/
import Derived.Test.YtcoobdbfgiiejaaGreatDoorCA
import Derived.Test.YtcoobdbfgiiejaaGreatDoorWS
import Derived.Shelf.Strings.BuilderK
import Derived.Shelf.Strings.Builder1
import Derived.Shelf.LaysM
import Derived.Shelf.Strconv.Itoa4
import Derived.Test.YtcoobdbfgiiejaaGreatDoorProg
import Derived.Lib.AppendIntMem
import Derived.Lib.ItoaLen
namespace Go.Proofs.YtcoobdbfgiiejaaGreatDoor
open Go.RowKit
/-- An instruction: operator, number, text. -/
structure Ins where
  op : List UInt8
  n : Int
  s : List UInt8
abbrev Ins.v (x : Ins) : Value := insV x.op x.n x.s
def Ins.e (x : Ins) : Nat := checkE x.op x.n x.s
/-- The first error of instructions; 0: none. -/
def allE : List Ins → Nat
  | [] => 0
  | x :: l => if x.e = 0 then allE l else x.e
/-- Instructions that a slice holds. -/
def InsSrc (w : World) (sv : Value) (l : List Ins) : Prop :=
  (∃ ao cap, sv = .slice ao 0 cap ∧ l = []) ∨ ∃ b o cap, sv = .slice (some ⟨b, o, none⟩) l.length cap ∧
    ∀ k x, l[k]? = some x → w.cell? ⟨b, o + k * 3, none⟩ = some (.string (S x.op)) ∧ w.cell? ⟨b, o + k * 3 + 1, none⟩ = some (.int .i64 x.n) ∧ w.cell? ⟨b, o + k * 3 + 2, none⟩ = some (.string (S x.s))
theorem allE_drop (l : List Ins) (k : Nat) (x : Ins) (h : l[k]? = some x) : allE (l.drop k) = if x.e = 0 then allE (l.drop (k + 1)) else x.e := by
  have hl : k < l.length := by
    rcases Nat.lt_or_ge k l.length with h1 | h1
    · exact h1
    · rw [List.getElem?_eq_none h1] at h; cases h
  rw [List.getElem?_eq_getElem hl] at h
  rw [List.drop_eq_getElem_cons hl, Option.some.inj h]
  rfl
set_option maxHeartbeats 2000000 in
set_option maxRecDepth 100000 in
theorem each_any (F : Nat) (cp : Value) (w0 w : World) (l : List Ins) (sv : Value) (Inv : Nat → World → Prop) (he : ∀ args w, (callFunc F args).run Tryz.prog w = .ok (.enter F args) w)
    (hT : CT w0) (hs : InsSrc w0 sv l) (hlim : ∀ x ∈ l, x.s.length ≤ 1099511627776) (hlen : l.length ≤ 1099511627776)
    (h0 : Inv 0 w) (hB : ∀ k w', Inv k w' → Below w0.heap.size w0 w') (hK : ∀ k w' w'', Inv k w' → Below w'.heap.size w' w'' → Inv k w'')
    (hF : ∀ (k : Nat) (x : Ins) (w' : World), l[k]? = some x → x.e = 0 → Inv k w' → Calls Tryz.prog F #[x.v, .int .i64 (idx x.op : Nat), .agg #[.string (S (nameAt (idx x.op))), .int .i64 (hasAt (idx x.op) : Nat)], cp] w' fun e w'' => e = .returned (.tuple #[]) ∧ Inv (k + 1) w'') :
    Calls Tryz.prog 27 #[sv, .func (.func F) #[] #[cp]] w fun e w' => e = .returned (.int .i64 (allE l : Nat)) ∧ (allE l = 0 → Inv l.length w') ∧ Below w0.heap.size w0 w' := by
  have HF := Lib.hid hF
  have HE := Lib.hid he
  have HT := Lib.hid hT
  have HB := Lib.hid hB
  have HK := Lib.hid hK
  have HL := Lib.hid hlim
  clear hF he hT hB hK hlim
  rcases hs with ⟨ao, cp0, rfl, rfl⟩ | ⟨b, o, cap, rfl, hc⟩
  · go_enter Tryz.func27, Tryz.ntmps27
    go_wp2
    go_loopw [13] (fun v13 wr => v13 = .int .i64 0 ∧ wr = w) (fun _ _ => 0)
    case atStart => exact ⟨rfl, rfl⟩
    case round =>
      obtain ⟨rfl, rfl⟩ := hrel
      go_wp2
      go_ret
      exact ⟨rfl, fun _ => h0, HB.out 0 _ h0⟩
  · have HC := Lib.hid hc
    obtain ⟨n, hn⟩ : ∃ n, n = l.length := ⟨_, rfl⟩
    rw [← hn] at hlen ⊢
    have HN := Lib.hid hn
    clear hc hn
    go_enter Tryz.func27, Tryz.ntmps27
    go_wp2
    go_loopw [13] (fun v13 wr => ∃ k : Nat, k ≤ n ∧ v13 = .int .i64 k ∧ Inv k wr ∧ allE l = allE (l.drop k)) (fun v13 _ => n - (intOf v13).toNat)
    case atStart => exact ⟨0, Nat.zero_le _, rfl, h0, rfl⟩
    case round =>
      obtain ⟨k, hk, rfl, hinv, hall⟩ := hrel
      have HA := Lib.hid hall
      have HI := Lib.hid hinv
      clear hall hinv
      by_cases hlt : k < n
      · have hkl : k < l.length := by have := HN.out; omega
        obtain ⟨x, hx⟩ : ∃ x, l[k]? = some x := ⟨_, List.getElem?_eq_getElem hkl⟩
        have hbw := HB.out k wr HI.out
        obtain ⟨c0, c1, c2⟩ := HC.out k x hx
        have d0 := (Only.ofBelow (S := fun _ => False) hbw).cell c0 id
        have d1 := (Only.ofBelow (S := fun _ => False) hbw).cell c1 id
        have d2 := (Only.ofBelow (S := fun _ => False) hbw).cell c2 id
        have HX := Lib.hid hx
        have HXL := Lib.hid (HL.out x (List.mem_of_getElem? hx))
        have HTW := Lib.hid (HT.out.keep hbw)
        clear c0 c1 c2 hx hkl hbw
        have hk0 : (0 : Int) ≤ k := by omega
        have hkn : (k : Int) < (n : Int) := by omega
        have he := HE.out
        go_wp2_with fail
        have hbA : Below wr.heap.size wr (wr.alloc (.cells #[.string (S x.op), .int .i64 x.n, .string (S x.s)] 50)) := (Below.refl _ wr).alloc (Nat.le_refl _) _
        refine (check_any x.op x.n x.s _ (HTW.out.keep hbA) HXL.out).mono ?_
        rintro e w1 ⟨rfl, hb1⟩
        have hi1 : w1.heap[wr.heap.size]? = some (.cells #[.string (S x.op), .int .i64 x.n, .string (S x.s)] 50 (0, 0)) := (Only.ofBelow (S := fun _ => False) hb1).heap (heap_alloc_new wr _) id
        have hbw1 : Below wr.heap.size wr w1 := hbA.trans (hb1.mono hbA.size)
        have hdr := allE_drop l k x HX.out
        unfold Ins.e at hdr
        have HDR := Lib.hid hdr
        clear hb1 hbA hdr d0 d1 d2
        by_cases hz : checkE x.op x.n x.s = 0
        · rw [hz]
          have hcO : w1.cell? ⟨wr.heap.size, 0, none⟩ = some (.string (S x.op)) := by simp [World.cell?, hi1]
          have hI1 := Lib.hid hi1
          have HW1 := Lib.hid hbw1
          clear hi1 hbw1
          go_wp2_with fail
          refine (cnamed_any x.op w1 (HTW.out.keep HW1.out).ops).mono ?_
          rintro e w2 ⟨rfl, hb2⟩
          have hN : idx x.op < 42 := by
            rcases Nat.lt_or_ge (idx x.op) 42 with h | h
            · exact h
            · have : checkE x.op x.n x.s = 40 := if_neg (by omega)
              omega
          have hi2 := (Only.ofBelow (S := fun _ => False) hb2).heap hI1.out id
          have e0 : w2.cell? ⟨wr.heap.size, 0, none⟩ = some (.string (S x.op)) := by simp [World.cell?, hi2]
          have e1 : w2.cell? ⟨wr.heap.size, 1, none⟩ = some (.int .i64 x.n) := by simp [World.cell?, hi2]
          have e2 : w2.cell? ⟨wr.heap.size, 2, none⟩ = some (.string (S x.s)) := by simp [World.cell?, hi2]
          have hlt2 : wr.heap.size < w2.heap.size := lt_of_block hi2
          have hbw2 : Below wr.heap.size wr w2 := HW1.out.trans (hb2.mono HW1.out.size)
          have HW2 := Lib.hid hbw2
          unfold lookV
          rw [if_pos hN, decide_eq_true hN]
          have HFX : Hid (∀ w', Inv k w' → Calls Tryz.prog F #[.agg #[.string (S x.op), .int .i64 x.n, .string (S x.s)], .int .i64 (idx x.op : Nat), .agg #[.string (S (nameAt (idx x.op))), .int .i64 (hasAt (idx x.op) : Nat)], cp] w' fun e w'' => e = .returned (.tuple #[]) ∧ Inv (k + 1) w'') := Lib.hid (fun w' hi => HF.out k x w' HX.out hz hi)
          rw [if_pos hz] at HDR
          clear hi2 hbw2 hb2 hcO hz hN
          generalize idx x.op = q at HFX ⊢
          generalize nameAt q = nm at HFX ⊢
          generalize hasAt q = h at HFX ⊢
          go_wp2_with fail
          refine (HFX.out _ (HK.out k wr _ HI.out (HW2.out.alloc HW2.out.size _))).mono ?_
          rintro e w3 ⟨rfl, hi3⟩
          have HI3 := Lib.hid hi3
          clear hi3 e0 e1 e2
          go_wp2
          go_roundw
          case rel => exact ⟨k + 1, by omega, by go_num, HI3.out, by rw [HA.out]; exact HDR.out⟩
          case measure => simp [intOf]; omega
        · rw [if_neg hz] at HDR
          have HI1 := HK.out k wr w1 HI.out hbw1
          have HZ := Lib.hid hz
          have hze : ((checkE x.op x.n x.s : Nat) : Int) ≠ 0 := by omega
          have hzb : (((checkE x.op x.n x.s : Nat) : Int) != 0) = true := by rw [bne_iff_ne]; exact hze
          clear hi1 hbw1 hz
          generalize checkE x.op x.n x.s = E at *
          go_wp2
          go_ret
          refine ⟨by rw [HA.out, HDR.out]; rfl, fun h => ?_, HB.out k _ HI1⟩
          rw [HA.out, HDR.out] at h
          exact absurd h HZ.out
      · obtain rfl : k = n := by omega
        have hz : allE l = 0 := by rw [HA.out, List.drop_of_length_le (by rw [HN.out]; exact Nat.le_refl _)]; rfl
        have HZ := Lib.hid hz
        clear hz
        go_wp2
        go_ret
        refine ⟨by rw [HZ.out]; rfl, fun _ => ?_, HB.out _ _ HI.out⟩
        exact HI.out
end Go.Proofs.YtcoobdbfgiiejaaGreatDoor
namespace Go.Proofs.YtcoobdbfgiiejaaGreatDoor
open Go.RowKit
/-- A writer of the call's own, and a cell that points to it. -/
structure WC (w0 w : World) (b c : Nat) (v : Value) (l : List UInt8) : Prop where
  ws : WS w0 w b v l
  cell : w.cell? ⟨c, 0, none⟩ = some (.pointer (some ⟨b, 0, none⟩))
  ne : c ≠ b
  nv : v.ownBlock ≠ some c
theorem WC.lt {w0 w : World} {b c : Nat} {v : Value} {l : List UInt8} (h : WC w0 w b c v l) : c < w.heap.size := World.block_lt_of_cell? w _ h.cell
theorem WC.alloc {w0 w : World} {b c : Nat} {v : Value} {l : List UInt8} (h : WC w0 w b c v l) (o : Obj) : WC w0 (w.alloc o) b c v l :=
  ⟨h.ws.alloc o, ((Only.refl (fun _ => False) w).alloc o).cell h.cell id, h.ne, h.nv⟩
theorem WC.keep {w0 w w' : World} {b c : Nat} {v : Value} {l : List UInt8} (h : WC w0 w b c v l) (hb : Below w.heap.size w w') : WC w0 w' b c v l :=
  ⟨h.ws.keep hb, (Only.ofBelow (S := fun _ => False) hb).cell h.cell id, h.ne, h.nv⟩
/-- What is said of a call that writes. -/
def WroteC (w0 : World) (b c : Nat) (l : List UInt8) (e : Ending) (w' : World) : Prop := e = .returned (.tuple #[]) ∧ ∃ v', WC w0 w' b c v' l
/-- The same, with what else stays: the blocks that are not the writer's. -/
def WroteG (w0 w : World) (b c : Nat) (v : Value) (l : List UInt8) (e : Ending) (w' : World) : Prop := e = .returned (.tuple #[]) ∧ ∃ v', WC w0 w' b c v' l ∧ WrGrew w b v w' v'
theorem WC.wrote {w0 w w' : World} {b c : Nat} {v : Value} {l m : List UInt8} {e : Ending} (h : WC w0 w b c v l) (hw : Wrote b v l m w e w') : WroteG w0 w b c v (l ++ m) e w' := by
  obtain ⟨he, v', h1, h2⟩ := hw
  refine ⟨he, v', ⟨h.ws.step h1 h2, h2.keeps h.ne h.nv h.cell, h.ne, fun q => ?_⟩, h2⟩
  rcases h2.came with e | e
  · exact h.nv (e ▸ q)
  · have h3 := e c q
    have h4 := h.lt
    omega
theorem wc_num {w0 w : World} {b c : Nat} {v : Value} {l : List UInt8} (h : WC w0 w b c v l) (x : Nat) (hx : x < 18446744073709551616) (hlim : l.length + 10 ≤ 140737488355328) :
    Calls Tryz.prog 26 #[.pointer (some ⟨b, 0, none⟩), .slice (some ⟨w.heap.size, 0, none⟩) 1 1] (w.alloc (.cells #[.int .u64 x] 37)) (WroteG w0 (w.alloc (.cells #[.int .u64 x] 37)) b c v (l ++ Lib.uvarint x)) :=
  (wnum_one b w.heap.size v l x _ (h.ws.wr.alloc _) h.ws.wr.notNew.1 h.ws.wr.notNew.2 (by simp) hx hlim).mono fun _ _ hw => (h.alloc _).wrote hw
theorem wc_int {w0 w : World} {b c : Nat} {v : Value} {l : List UInt8} (h : WC w0 w b c v l) (x : Int) (hx : -9223372036854775808 ≤ x ∧ x ≤ 9223372036854775807) (hlim : l.length + 10 ≤ 140737488355328) :
    Calls Tryz.prog 29 #[.pointer (some ⟨b, 0, none⟩), .slice (some ⟨w.heap.size, 0, none⟩) 1 1] (w.alloc (.cells #[.int .i64 x] 2)) (WroteG w0 (w.alloc (.cells #[.int .i64 x] 2)) b c v (l ++ Lib.uvarint (Lib.zigzag x))) :=
  (wint_one b w.heap.size v l x _ (h.ws.wr.alloc _) h.ws.wr.notNew.1 h.ws.wr.notNew.2 (by simp) hx hlim).mono fun _ _ hw => (h.alloc _).wrote hw
theorem wc_text {w0 w : World} {b c : Nat} {v : Value} {l : List UInt8} (h : WC w0 w b c v l) (s : List UInt8) (hlim : l.length + (s.length + 10) ≤ 140737488355328) :
    Calls Tryz.prog 31 #[.pointer (some ⟨b, 0, none⟩), .slice (some ⟨w.heap.size, 0, none⟩) 1 1] (w.alloc (.cells #[.string (S s)] 9)) (WroteG w0 (w.alloc (.cells #[.string (S s)] 9)) b c v (l ++ textBytes s)) :=
  (wtext_one b w.heap.size v l s _ (h.ws.wr.alloc _) h.ws.wr.notNew.1 h.ws.wr.notNew.2 (by simp) hlim).mono fun _ _ hw => (h.alloc _).wrote hw
/-- An instruction's operand as bytes. -/
def argBytes (h : Nat) (n : Int) (s : List UInt8) : List UInt8 := if h = 1 then Lib.uvarint (Lib.zigzag n) else if 2 ≤ h then textBytes s else []
set_option maxHeartbeats 2000000 in
set_option maxRecDepth 100000 in
theorem put1_any {w0 w : World} {b c : Nat} {v : Value} {l : List UInt8} (hw : WC w0 w b c v l) (op nm s : List UInt8) (n : Int) (q h : Nat) (hq : q ≤ 42) (hn : -9223372036854775808 ≤ n ∧ n ≤ 9223372036854775807) (hlim : l.length + (s.length + 30) ≤ 140737488355328) :
    Calls Tryz.prog 28 #[insV op n s, .int .i64 (q : Nat), .agg #[.string (S nm), .int .i64 (h : Nat)], .pointer (some ⟨c, 0, none⟩)] w (WroteC w0 b c (l ++ (Lib.uvarint q ++ argBytes h n s))) := by
  have HW := Lib.hid hw
  have HL := Lib.hid hlim
  have HN := Lib.hid hn
  have huv : (Lib.uvarint q).length ≤ 10 := Lib.uvarint_length64 (by omega)
  have HU := Lib.hid huv
  clear hw hlim hn huv
  go_enter Tryz.func28, Tryz.ntmps28
  go_upto_region 1 with fail
  have s0 := (HW.out.alloc (.cells #[.string (S op), .int .i64 n, .string (S s)] 50)).alloc (.cells #[.string (S nm), .int .i64 (h : Nat)] 59)
  have hI : ((w.alloc (.cells #[.string (S op), .int .i64 n, .string (S s)] 50)).alloc (.cells #[.string (S nm), .int .i64 (h : Nat)] 59)).heap[w.heap.size]? = some (.cells #[.string (S op), .int .i64 n, .string (S s)] 50 (0, 0)) := ((Only.refl (fun _ => False) _).alloc _).heap (heap_alloc_new w _) id
  have hP : ((w.alloc (.cells #[.string (S op), .int .i64 n, .string (S s)] 50)).alloc (.cells #[.string (S nm), .int .i64 (h : Nat)] 59)).heap[w.heap.size + 1]? = some (.cells #[.string (S nm), .int .i64 (h : Nat)] 59 (0, 0)) := (heap_alloc_new' (w.alloc _) _ _ (by simp)).trans rfl
  have hbI : w.heap.size ≠ b := HW.out.ws.wr.notNew.1
  have hvI : v.ownBlock ≠ some w.heap.size := HW.out.ws.wr.notNew.2
  have hbP : w.heap.size + 1 ≠ b := by have := lt_of_block HW.out.ws.wr.blk; omega
  have hvP : v.ownBlock ≠ some (w.heap.size + 1) := fun e => by have := (HW.out.ws.wr.row.lt _ e).2; omega
  generalize (w.alloc (.cells #[.string (S op), .int .i64 n, .string (S s)] 50)).alloc (.cells #[.string (S nm), .int .i64 (h : Nat)] 59) = wA at s0 hI hP ⊢
  generalize w.heap.size = BI at hI hbI hvI hP hbP hvP ⊢
  generalize BI + 1 = BP at hP hbP hvP ⊢
  have hcc := s0.cell
  have HS0 := Lib.hid s0
  have HII := Lib.hid hI
  have HPP := Lib.hid hP
  clear s0 hI hP HW
  go_wp2_with fail
  refine (wc_num HS0.out q (by omega) (by have := HL.out; omega)).mono ?_
  rintro e w1 ⟨rfl, v1, s1, g1⟩
  have hI1 := g1.only.heap (((Only.refl (fun _ => False) wA).alloc _).heap HII.out id) (fun z => z.elim hbI hvI)
  have hP1 := g1.only.heap (((Only.refl (fun _ => False) wA).alloc _).heap HPP.out id) (fun z => z.elim hbP hvP)
  have hp1 : w1.cell? ⟨BP, 1, none⟩ = some (.int .i64 (h : Nat)) := by simp [World.cell?, hP1]
  have hi1 : w1.cell? ⟨BI, 1, none⟩ = some (.int .i64 n) := by simp [World.cell?, hI1]
  have hi2 : w1.cell? ⟨BI, 2, none⟩ = some (.string (S s)) := by simp [World.cell?, hI1]
  have hc1 := s1.cell
  have HS1 := Lib.hid s1
  have hlen : (l ++ Lib.uvarint q).length + (s.length + 10) ≤ 140737488355328 := by
    rw [List.length_append]
    have h1 := HL.out
    have h2 := HU.out
    omega
  have HLL := Lib.hid hlen
  clear s1 g1 hI1 hP1 hcc HS0 HII HPP hbI hvI hbP hvP hlen
  by_cases h1 : h = 1
  · subst h1
    have HAB : Hid (argBytes 1 n s = Lib.uvarint (Lib.zigzag n)) := Lib.hid (if_pos rfl)
    have HCT := Lib.hid (wc_int HS1.out n HN.out (by have := HLL.out; omega))
    go_wp2_with (go_at_call 29; refine HCT.out.mono ?_; rintro e w2 ⟨rfl, v2, s2, g2⟩)
    go_end0
    rw [HAB.out, ← List.append_assoc]
    exact ⟨rfl, v2, s2⟩
  · have e1 : ((h : Int) == 1) = false := by rw [beq_eq_false_iff_ne]; omega
    have HIT : Hid (Calls Tryz.prog 30 #[.int .i64 h] w1 fun e w' => e = .returned (.bool (decide (2 ≤ h))) ∧ w1 = w') := Lib.hid (istext_any h w1)
    by_cases h2 : 2 ≤ h
    · have HAB : Hid (argBytes h n s = textBytes s) := Lib.hid ((if_neg h1).trans (if_pos h2))
      rw [decide_eq_true h2] at HIT
      have HCT := Lib.hid (wc_text HS1.out s HLL.out)
      clear h1 h2
      go_wp2_with (first | (go_at_call 30; refine HIT.out.mono ?_; rintro e w2 ⟨rfl, rfl⟩) | (go_at_call 31; refine HCT.out.mono ?_; rintro e w2 ⟨rfl, v2, s2, g2⟩))
      go_end0
      rw [HAB.out, ← List.append_assoc]
      exact ⟨rfl, v2, s2⟩
    · have HAB : Hid (argBytes h n s = []) := Lib.hid ((if_neg h1).trans (if_neg h2))
      rw [decide_eq_false h2] at HIT
      clear h1 h2
      go_wp2_with (go_at_call 30; refine HIT.out.mono ?_; rintro e w2 ⟨rfl, rfl⟩)
      go_end0
      rw [HAB.out, List.append_nil]
      exact ⟨rfl, v1, HS1.out⟩
/-- An instruction as bytes. -/
def Ins.bytes (x : Ins) : List UInt8 := Lib.uvarint (idx x.op) ++ argBytes (hasAt (idx x.op)) x.n x.s
/-- Instructions as bytes. -/
def putL (l : List Ins) : List UInt8 := Lib.uvarint l.length ++ l.flatMap Ins.bytes
/-- Numbers of 64 bits, texts that are not too long. -/
def Ins.ok (x : Ins) : Prop := (-9223372036854775808 ≤ x.n ∧ x.n ≤ 9223372036854775807) ∧ x.s.length ≤ 1048576
theorem Ins.bytes_le (x : Ins) (h : x.ok) : x.bytes.length ≤ 1048600 := by
  have h1 : (Lib.uvarint (idx x.op)).length ≤ 10 := Lib.uvarint_length64 (by have := idx_le x.op; omega)
  have h2 : (Lib.uvarint (Lib.zigzag x.n)).length ≤ 10 := Lib.uvarint_length64 (Lib.zigzag_lt h.1.1 h.1.2)
  have h3 : (Lib.uvarint x.s.length).length ≤ 10 := Lib.uvarint_length64 (by have := h.2; omega)
  have h4 := h.2
  unfold Ins.bytes argBytes textBytes
  rw [List.length_append]
  split
  · omega
  · split
    · rw [List.length_append]; omega
    · simp; omega
theorem insBytes_le (l : List Ins) (h : ∀ x ∈ l, x.ok) : (l.flatMap Ins.bytes).length ≤ 1048600 * l.length := by
  induction l with
  | nil => simp
  | cons x r ih =>
    have h1 := x.bytes_le (h x (by simp))
    have h2 := ih (fun y hy => h y (by simp [hy]))
    rw [List.flatMap_cons, List.length_append, List.length_cons]
    omega
theorem ins_snoc (l : List Ins) (k : Nat) (x : Ins) (h : l[k]? = some x) : (l.take (k + 1)).flatMap Ins.bytes = (l.take k).flatMap Ins.bytes ++ x.bytes := by
  rw [List.take_add_one, h, List.flatMap_append]
  simp
set_option maxHeartbeats 2000000 in
set_option maxRecDepth 100000 in
theorem put_any (l : List Ins) (sv : Value) (w : World) (hT : CT w) (hs : InsSrc w sv l) (hlen : l.length ≤ 1048576) (hok : ∀ x ∈ l, x.ok) :
    Calls Tryz.prog 10 #[sv] w fun e w' => (allE l = 0 → ∃ v, e = .returned (.tuple #[v, .int .i64 0]) ∧ BS w w' v (putL l)) ∧ (allE l ≠ 0 → e = .returned (.tuple #[.slice none 0 0, .int .i64 (allE l : Nat)]) ∧ Below w.heap.size w w') := by
  have hmf : ∀ (fn : Fn) (first cap : Array Value) (w : World), (Instr.makeFunc fn first cap).run Tryz.prog w = .ok (.func fn first cap) w := fun _ _ _ _ => rfl
  obtain ⟨so, sn, sc, rfl, hsn⟩ : ∃ so sn sc, sv = .slice so sn sc ∧ sn = l.length := by
    rcases hs with ⟨ao, cp0, rfl, rfl⟩ | ⟨b, o, cap, rfl, _⟩
    · exact ⟨_, _, _, rfl, rfl⟩
    · exact ⟨_, _, _, rfl, rfl⟩
  have HSN := Lib.hid hsn
  have HT := Lib.hid hT
  have HS := Lib.hid hs
  have HOK := Lib.hid hok
  have HLN := Lib.hid hlen
  have hsn1 : sn ≤ 1048576 := by omega
  clear hsn hT hs hok hlen
  go_enter Tryz.func10, Tryz.ntmps10
  go_wp2_with fail
  refine (write_any _).mono ?_
  rintro e w1 ⟨rfl, rfl⟩
  go_upto_region 2 with fail
  have s0 : WC w ((w.alloc (.cells #[.slice none 0 0] 98)).alloc (.cells #[.pointer (some ⟨w.heap.size, 0, none⟩)] 53)) w.heap.size (w.heap.size + 1) (.slice none 0 0) [] :=
    ⟨(WS.new (Below.refl _ w)).alloc _, by simp, by omega, by simp [Value.ownBlock]⟩
  have HQ := Lib.hid (Nat.le_refl w.heap.size)
  generalize (w.alloc (.cells #[.slice none 0 0] 98)).alloc (.cells #[.pointer (some ⟨w.heap.size, 0, none⟩)] 53) = wB at s0 ⊢
  generalize hbc : w.heap.size + 1 = c at s0 ⊢
  generalize hbb : w.heap.size = b at s0 HQ ⊢
  clear hbc
  have hcc := s0.cell
  have HS0 := Lib.hid s0
  clear s0
  go_wp2_with fail
  have hk1 := wc_num HS0.out sn (by omega) (by simp)
  refine hk1.mono ?_
  rintro e w2 ⟨rfl, v2, s2, g2⟩
  rw [List.nil_append] at s2
  clear hk1 g2 hcc
  have HS2 := Lib.hid s2
  clear s2
  go_wp2_with fail
  have hea := each_any 28 (.pointer (some ⟨c, 0, none⟩)) w w2 l (.slice so sn sc) (fun k w' => ∃ v, WC w w' b c v (Lib.uvarint l.length ++ (l.take k).flatMap Ins.bytes)) (enters_cf Tryz.func28 (by kernel_rfl) rfl)
    HT.out HS.out (fun x hx => by have := (HOK.out x hx).2; omega) (by have := HLN.out; omega) ⟨v2, by have h := HS2.out; rw [HSN.out] at h; simpa using h⟩ (fun k w' ⟨v, h⟩ => h.ws.bel) (fun k w' w'' ⟨v, h⟩ hb => ⟨v, h.keep hb⟩)
    (fun k x w' hx he ⟨v, h⟩ => by
      have hxo := HOK.out x (List.mem_of_getElem? hx)
      have hl1 := insBytes_le (l.take k) (fun y hy => HOK.out y (List.mem_of_mem_take hy))
      have hl2 : (l.take k).length ≤ l.length := by rw [List.length_take]; omega
      have hl3 : (Lib.uvarint l.length).length ≤ 10 := Lib.uvarint_length64 (by have := HLN.out; omega)
      have hl4 := HLN.out
      have hp := put1_any h x.op (nameAt (idx x.op)) x.s x.n (idx x.op) (hasAt (idx x.op)) (idx_le x.op) hxo.1 (by rw [List.length_append]; have := hxo.2; omega)
      refine hp.mono ?_
      rintro e w'' ⟨rfl, v', h'⟩
      refine ⟨rfl, v', ?_⟩
      rw [ins_snoc l k x hx, ← List.append_assoc]
      exact h')
  refine hea.mono ?_
  clear hea
  rintro e w3 ⟨rfl, h3, hb3⟩
  by_cases hz : allE l = 0
  · obtain ⟨v3, s3⟩ := h3 hz
    rw [List.take_of_length_le (Nat.le_refl _)] at s3
    have hlb : (Lib.uvarint l.length ++ l.flatMap Ins.bytes).length ≤ 140737488355328 := by
      have h1 := insBytes_le l HOK.out
      have h2 : (Lib.uvarint l.length).length ≤ 10 := Lib.uvarint_length64 (by have := HLN.out; omega)
      have h4 := HLN.out
      rw [List.length_append]
      omega
    have HBY := Lib.hid (ws_bytes s3.ws hlb)
    have hc3 := s3.cell
    have HZ := Lib.hid hz
    rw [hz]
    clear h3 s3 hlb hz
    go_wp2_with (go_at_call 32; refine HBY.out.mono ?_; rintro e w4 ⟨v4, rfl, s4⟩; obtain ⟨ao4, m4, c4, rfl⟩ := row_shape s4.row)
    go_ret2
    exact ⟨fun _ => ⟨_, rfl, s4⟩, fun h => absurd HZ.out h⟩
  · have hzb : (((allE l : Nat) : Int) != 0) = true := by rw [bne_iff_ne]; omega
    have HZ := Lib.hid hz
    clear h3 hz
    generalize hE : allE l = E at hzb HZ ⊢
    have HE := Lib.hid hE
    clear hE
    go_wp2
    go_ret2
    rw [HE.out]
    exact ⟨fun h => absurd h HZ.out, fun _ => ⟨rfl, hb3⟩⟩
end Go.Proofs.YtcoobdbfgiiejaaGreatDoor
namespace Go.Proofs.YtcoobdbfgiiejaaGreatDoor
open Go.Shelf Go.RowKit Go.Lib Go.Sort
def lays166_ren : Go.Shelf.Ren := ⟨fun | 166 => 52 | 240 => 79 | 276 => 99 | n => n, fun | 70 => 87 | 9 => 9 | 0 => 0 | 72 => 89 | 37 => 25 | 3 => 3 | 4 => 4 | 5 => 5 | 20 => 20 | 75 => 91 | 80 => 95 | 164 => 130 | n => n, fun | n => n⟩
theorem lays166 : Go.Proofs.Lays.n166 Tryz.prog lays166_ren := {
  mixed := by kernel_rfl
  f166 := Tryz.func52.trans (congrArg some (by kernel_rfl))
  f240 := Tryz.func79.trans (congrArg some (by kernel_rfl))
  f276 := Tryz.func99.trans (congrArg some (by kernel_rfl))
  t0 := Tryz.underlying0
  a0 := Tryz.isAgg0
  z0 := Tryz.sizeOf0
  v0 := Tryz.zeroValue0
  t3 := Tryz.underlying3
  a3 := Tryz.isAgg3
  z3 := Tryz.sizeOf3
  v3 := Tryz.zeroValue3
  t4 := Tryz.underlying4
  a4 := Tryz.isAgg4
  z4 := Tryz.sizeOf4
  v4 := Tryz.zeroValue4
  t9 := Tryz.underlying9
  a9 := Tryz.isAgg9
  z9 := Tryz.sizeOf9
  v9 := Tryz.zeroValue9
  t20 := Tryz.underlying20
  a20 := Tryz.isAgg20
  z20 := Tryz.sizeOf20
  v20 := Tryz.zeroValue20
  t37 := Tryz.underlying25
  a37 := Tryz.isAgg25
  z37 := Tryz.sizeOf25
  v37 := Tryz.zeroValue25
  t70 := Tryz.underlying87
  a70 := Tryz.isAgg87
  z70 := Tryz.sizeOf87
  v70 := Tryz.zeroValue87
  t72 := Tryz.underlying89
  a72 := Tryz.isAgg89
  z72 := Tryz.sizeOf89
  v72 := Tryz.zeroValue89
  t75 := Tryz.underlying91
  a75 := Tryz.isAgg91
  z75 := Tryz.sizeOf91
  v75 := Tryz.zeroValue91
  t164 := Tryz.underlying130
  a164 := Tryz.isAgg130
  z164 := Tryz.sizeOf130
  v164 := Tryz.zeroValue130 }
theorem builder_Extra_166 : Builder.Extra Tryz.prog lays166_ren := {
  sizeBuilder := by kernel_rfl
  liesBuilder := by kernel_rfl
  t5 := Tryz.underlying5
  a5 := Tryz.isAgg5
  z5 := Tryz.sizeOf5
  v5 := Tryz.zeroValue5
  infoByte := by kernel_rfl
  cellsByte := by kernel_rfl
  sizeByte := by kernel_rfl
  neB5 := by decide }
theorem builder_WriteString (B b : Nat) (bs : List Value) (s : ByteArray) (w : World) (h : Lib.IsBuilder 89 5 B b bs w) (hlen : bs.length + s.size ≤ 140737488355328) (hBw : B ≤ w.heap.size) :
    Calls Tryz.prog 52 #[.pointer (some ⟨b, 0, none⟩), .string s] w fun e w' => e = .returned (.tuple #[.int .i64 s.size, .nilIface]) ∧ (Lib.BuilderAt 89 5 B b (.pointer (some ⟨b, 0, none⟩)) (bs ++ Lib.strCells s) w' ∧ Below B w w') := Any.Builder_WriteString lays166 builder_Extra_166 B b bs s w h hlen hBw
def lays169_ren : Go.Shelf.Ren := ⟨fun | 169 => 54 | n => n, fun | 70 => 87 | 9 => 9 | 0 => 0 | 72 => 89 | 37 => 25 | 127 => 120 | 3 => 3 | 5 => 5 | n => n, fun | n => n⟩
theorem lays169 : Go.Proofs.Lays.n169 Tryz.prog lays169_ren := {
  mixed := by kernel_rfl
  f169 := Tryz.func54.trans (congrArg some (by kernel_rfl))
  t0 := Tryz.underlying0
  a0 := Tryz.isAgg0
  z0 := Tryz.sizeOf0
  v0 := Tryz.zeroValue0
  t3 := Tryz.underlying3
  a3 := Tryz.isAgg3
  z3 := Tryz.sizeOf3
  v3 := Tryz.zeroValue3
  t9 := Tryz.underlying9
  a9 := Tryz.isAgg9
  z9 := Tryz.sizeOf9
  v9 := Tryz.zeroValue9
  t37 := Tryz.underlying25
  a37 := Tryz.isAgg25
  z37 := Tryz.sizeOf25
  v37 := Tryz.zeroValue25
  t70 := Tryz.underlying87
  a70 := Tryz.isAgg87
  z70 := Tryz.sizeOf87
  v70 := Tryz.zeroValue87
  t72 := Tryz.underlying89
  a72 := Tryz.isAgg89
  z72 := Tryz.sizeOf89
  v72 := Tryz.zeroValue89
  t127 := Tryz.underlying120
  a127 := Tryz.isAgg120
  z127 := Tryz.sizeOf120
  v127 := Tryz.zeroValue120 }
theorem builder_Extra_169 : Builder.Extra Tryz.prog lays169_ren := {
  sizeBuilder := by kernel_rfl
  liesBuilder := by kernel_rfl
  t5 := Tryz.underlying5
  a5 := Tryz.isAgg5
  z5 := Tryz.sizeOf5
  v5 := Tryz.zeroValue5
  infoByte := by kernel_rfl
  cellsByte := by kernel_rfl
  sizeByte := by kernel_rfl
  neB5 := by decide }
theorem builder_String_any (B b : Nat) (l : List UInt8) (w : World) (h : Lib.IsBuilder 89 5 B b (Lib.byteCells l) w) (hBw : B ≤ w.heap.size) :
    Calls Tryz.prog 54 #[.pointer (some ⟨b, 0, none⟩)] w fun e w' => e = .returned (.string ⟨l.toArray⟩) ∧ Below B w w' := Any.Builder_String_any lays169 builder_Extra_169 B b l w h hBw
def laysM173_ren : Go.Shelf.Ren := ⟨fun | 173 => 53 | 246 => 80 | 283 => 100 | 284 => 101 | 285 => 102 | 286 => 103 | 129 => 120 | 317 => 119 | 318 => 121 | 319 => 122 | 320 => 123 | 337 => 137 | 338 => 138 | n => n, fun | 2 => 2 | 3 => 3 | 9 => 9 | 4 => 4 | 171 => 133 | 0 => 0 | 53 => 37 | 37 => 25 | 5 => 5 | 173 => 136 | 212 => 152 | 51 => 153 | 20 => 20 | 213 => 154 | 46 => 121 | 232 => 176 | 233 => 177 | n => n, fun | 17 => 1 | 18 => 7 | 19 => 8 | n => n⟩
theorem laysM173 : Go.Proofs.LaysM.n173 Tryz.prog laysM173_ren := {
  mixed := by kernel_rfl
  f129 := Tryz.func120.trans (congrArg some (by kernel_rfl))
  f173 := Tryz.func53.trans (congrArg some (by kernel_rfl))
  f246 := Tryz.func80.trans (congrArg some (by kernel_rfl))
  f283 := Tryz.func100.trans (congrArg some (by kernel_rfl))
  f284 := Tryz.func101.trans (congrArg some (by kernel_rfl))
  f285 := Tryz.func102.trans (congrArg some (by kernel_rfl))
  f286 := Tryz.func103.trans (congrArg some (by kernel_rfl))
  f317 := Tryz.func119.trans (congrArg some (by kernel_rfl))
  f318 := Tryz.func121.trans (congrArg some (by kernel_rfl))
  f319 := Tryz.func122.trans (congrArg some (by kernel_rfl))
  f320 := Tryz.func123.trans (congrArg some (by kernel_rfl))
  f337 := Tryz.func137.trans (congrArg some (by kernel_rfl))
  f338 := Tryz.func138.trans (congrArg some (by kernel_rfl))
  t0 := Tryz.underlying0
  a0 := Tryz.isAgg0
  z0 := Tryz.sizeOf0
  v0 := Tryz.zeroValue0
  t2 := Tryz.underlying2
  a2 := Tryz.isAgg2
  z2 := Tryz.sizeOf2
  v2 := Tryz.zeroValue2
  t3 := Tryz.underlying3
  a3 := Tryz.isAgg3
  z3 := Tryz.sizeOf3
  v3 := Tryz.zeroValue3
  t4 := Tryz.underlying4
  a4 := Tryz.isAgg4
  z4 := Tryz.sizeOf4
  v4 := Tryz.zeroValue4
  t5 := Tryz.underlying5
  a5 := Tryz.isAgg5
  z5 := Tryz.sizeOf5
  v5 := Tryz.zeroValue5
  t9 := Tryz.underlying9
  a9 := Tryz.isAgg9
  z9 := Tryz.sizeOf9
  v9 := Tryz.zeroValue9
  t20 := Tryz.underlying20
  a20 := Tryz.isAgg20
  z20 := Tryz.sizeOf20
  v20 := Tryz.zeroValue20
  t37 := Tryz.underlying25
  a37 := Tryz.isAgg25
  z37 := Tryz.sizeOf25
  v37 := Tryz.zeroValue25
  t46 := Tryz.underlying121
  a46 := Tryz.isAgg121
  z46 := Tryz.sizeOf121
  v46 := Tryz.zeroValue121
  t51 := Tryz.underlying153
  a51 := Tryz.isAgg153
  z51 := Tryz.sizeOf153
  v51 := Tryz.zeroValue153
  t53 := Tryz.underlying37
  a53 := Tryz.isAgg37
  z53 := Tryz.sizeOf37
  v53 := Tryz.zeroValue37
  t171 := Tryz.underlying133
  a171 := Tryz.isAgg133
  z171 := Tryz.sizeOf133
  v171 := Tryz.zeroValue133
  t173 := Tryz.underlying136
  a173 := Tryz.isAgg136
  z173 := Tryz.sizeOf136
  v173 := Tryz.zeroValue136
  t212 := Tryz.underlying152
  a212 := Tryz.isAgg152
  z212 := Tryz.sizeOf152
  v212 := Tryz.zeroValue152
  t213 := Tryz.underlying154
  a213 := Tryz.isAgg154
  z213 := Tryz.sizeOf154
  t232 := Tryz.underlying176
  a232 := Tryz.isAgg176
  z232 := Tryz.sizeOf176
  v232 := Tryz.zeroValue176
  t233 := Tryz.underlying177
  a233 := Tryz.isAgg177
  z233 := Tryz.sizeOf177
  v233 := Tryz.zeroValue177
  g17 := by kernel_rfl
  g18 := by kernel_rfl
  g19 := by kernel_rfl
  i0 := by kernel_rfl
  i2 := by kernel_rfl
  i3 := by kernel_rfl
  i4 := by kernel_rfl
  i5 := by kernel_rfl
  i9 := by kernel_rfl
  i20 := by kernel_rfl
  i37 := by kernel_rfl
  i46 := by kernel_rfl
  i51 := by kernel_rfl
  i53 := by kernel_rfl
  i171 := by kernel_rfl
  i173 := by kernel_rfl
  i212 := by kernel_rfl
  i232 := by kernel_rfl
  i233 := by kernel_rfl
  m17 := by kernel_rfl
  m18 := by kernel_rfl
  m19 := by kernel_rfl }
theorem strconv_FormatInt_10 (n : Int) (h0 : -9223372036854775808 ≤ n) (h1 : n ≤ 9223372036854775807) (w : World) (htab : Lib.TabIs Tryz.prog w "internal/strconv.uint64pow10" .u64 Lib.pow10Tab) :
    Calls Tryz.prog 53 #[.int .i64 n, .int .i64 10] w fun e w' => e = .returned (.string ⟨(Lib.itoa n).toArray⟩) ∧ ∃ k os, w' = grow (w.drewN k) os := Any.strconv_FormatInt_10 laysM173 n h0 h1 w htab
theorem builder_WriteString_k (B b : Nat) (bs : List Value) (s : ByteArray) (w : World) (h : Lib.IsBuilderF 89 5 B b bs w) (hlen : bs.length + s.size ≤ 140737488355328) (hBw : B ≤ w.heap.size) :
    Calls Tryz.prog 52 #[.pointer (some ⟨b, 0, none⟩), .string s] w fun e w' => e = .returned (.tuple #[.int .i64 s.size, .nilIface]) ∧ (Lib.BuilderAtF 89 5 B b (.pointer (some ⟨b, 0, none⟩)) (bs ++ Lib.strCells s) w' ∧ Below B w w' ∧ Lib.OthersKept 5 (some b) w w') := Any.Builder_WriteString_k lays166 builder_Extra_166 B b bs s w h hlen hBw
theorem builder_String_k (B b : Nat) (l : List UInt8) (w : World) (h : Lib.IsBuilderF 89 5 B b (Lib.byteCells l) w) (hBw : B ≤ w.heap.size) :
    Calls Tryz.prog 54 #[.pointer (some ⟨b, 0, none⟩)] w fun e w' => e = .returned (.string ⟨l.toArray⟩) ∧ (Lib.IsBuilderF 89 5 B b (Lib.byteCells l) w' ∧ Below B w w' ∧ Lib.OthersKept 5 (some b) w w') := Any.Builder_String_any_k lays169 builder_Extra_169 B b l w h hBw
end Go.Proofs.YtcoobdbfgiiejaaGreatDoor
namespace Go.Proofs.YtcoobdbfgiiejaaGreatDoor
open Go.RowKit
/-- The table of powers of ten is as at the start. -/
def Pow10 (w : World) : Prop := ∃ t fz, w.heap[1]? = some (.cells (Lib.pow10Tab.map fun z => Value.int .u64 z).toArray t fz)
theorem Pow10.keep {w w' : World} (h : Pow10 w) (hb : Below w.heap.size w w') : Pow10 w' := by
  obtain ⟨t, fz, h⟩ := h
  exact ⟨t, fz, (Only.ofBelow (S := fun _ => False) hb).heap h id⟩
theorem pow10_name : Tryz.prog.globalNamed "internal/strconv.uint64pow10" = some 1 := by kernel_rfl
theorem Pow10.tab {w : World} (h : Pow10 w) : Lib.TabIs Tryz.prog w "internal/strconv.uint64pow10" .u64 Lib.pow10Tab := by
  obtain ⟨t, fz, h⟩ := h
  show (Tryz.prog.globalNamed "internal/strconv.uint64pow10").bind _ = _
  rw [pow10_name]
  show (match w.heap[1]? with | some (.cells cs _ _) => some cs | _ => none) = _
  rw [h]
/-- A whole number's decimal digits. -/
theorem digits_any (n : Int) (h0 : -9223372036854775808 ≤ n) (h1 : n ≤ 9223372036854775807) (w : World) (hp : Pow10 w) :
    Calls Tryz.prog 53 #[.int .i64 n, .int .i64 10] w fun e w' => e = .returned (.string (S (Lib.itoa n))) ∧ Below w.heap.size w w' := by
  refine (strconv_FormatInt_10 n h0 h1 w hp.tab).mono ?_
  rintro e w' ⟨rfl, k, os, rfl⟩
  exact ⟨rfl, Lib.below_grow _ w (Nat.le_refl _) k os⟩
/-- A builder of the call's own that holds these bytes. -/
structure SB (w0 w : World) (b : Nat) (l : List UInt8) : Prop where
  is : Lib.IsBuilderF 89 5 w0.heap.size b (Lib.byteCells l) w
  bel : Below w0.heap.size w0 w
theorem SB.alloc {w0 w : World} {b : Nat} {l : List UInt8} (h : SB w0 w b l) (o : Obj) : SB w0 (w.alloc o) b l := ⟨h.is.alloc o, h.bel.alloc h.bel.size o⟩
theorem atF_keep {w w' : World} {B b : Nat} {p : Value} {bs : List Value} (h : Lib.BuilderAtF 89 5 B b p bs w) (hb : Below w.heap.size w w') : Lib.BuilderAtF 89 5 B b p bs w' := by
  obtain ⟨hB, v, hbk, hown, hne⟩ := h
  have ho := Only.ofBelow (S := fun _ => False) hb
  refine ⟨hB, v, ho.heap hbk id, ⟨hown.1, ?_⟩, hne⟩
  rcases hown.2 with hv | ⟨g, cap, cur, fz, hv, hg, hgg, rest⟩
  · exact .inl hv
  · exact .inr ⟨g, cap, cur, fz, hv, hg, ho.heap hgg id, rest⟩
theorem SB.keep {w0 w w' : World} {b : Nat} {l : List UInt8} (h : SB w0 w b l) (hb : Below w.heap.size w w') : SB w0 w' b l :=
  ⟨h.is.elim (fun h => .inl (atF_keep h hb)) (fun h => .inr (atF_keep h hb)), h.bel.trans (hb.mono h.bel.size)⟩
theorem sbCells (s : List UInt8) : Lib.strCells (S s) = Lib.byteCells s := by simp [Lib.strCells, Lib.byteCells, S]
/-- A text goes behind what was written; every block stays that is neither the builder's nor a row of bytes. -/
theorem sb_write {w0 w : World} {b : Nat} {l : List UInt8} (h : SB w0 w b l) (s : List UInt8) (hlim : l.length + s.length ≤ 140737488355328) :
    Calls Tryz.prog 52 #[.pointer (some ⟨b, 0, none⟩), .string (S s)] w fun e w' => e = .returned (.tuple #[.int .i64 (s.length : Nat), .nilIface]) ∧ SB w0 w' b (l ++ s) ∧ Lib.OthersKept 5 (some b) w w' := by
  refine (builder_WriteString_k w0.heap.size b (Lib.byteCells l) (S s) w h.is (by rw [S_size, byteCells_length]; exact hlim) h.bel.size).mono ?_
  rintro e w' ⟨rfl, h1, h2, h3⟩
  rw [sbCells, ← byteCells_append] at h1
  rw [S_size]
  exact ⟨rfl, ⟨.inr h1, h.bel.trans h2⟩, h3⟩
/-- An instruction's operand as text. -/
def argText (h : Nat) (n : Int) (s : List UInt8) : List UInt8 := if h = 1 then 32 :: Lib.itoa n else if 2 ≤ h then 32 :: s else []
theorem ss_cat (s : List UInt8) : (⟨#[32]⟩ : ByteArray) ++ S s = S (32 :: s) := S_append [32] s
set_option maxHeartbeats 2000000 in
set_option maxRecDepth 100000 in
theorem show1_any {w0 w : World} {b : Nat} {l : List UInt8} (hw : SB w0 w b l) (hp : Pow10 w0) (op nm s : List UInt8) (n : Int) (q h : Nat) (hn : -9223372036854775808 ≤ n ∧ n ≤ 9223372036854775807) (hlim : l.length + (nm.length + s.length + 30) ≤ 1099511627776) :
    Calls Tryz.prog 51 #[insV op n s, .int .i64 (q : Nat), .agg #[.string (S nm), .int .i64 (h : Nat)], .pointer (some ⟨b, 0, none⟩)] w fun e w' => e = .returned (.tuple #[]) ∧ SB w0 w' b (l ++ (nm ++ (argText h n s ++ [10]))) := by
  have HW := Lib.hid hw
  have HL := Lib.hid hlim
  have HN := Lib.hid hn
  have HP := Lib.hid hp
  clear hw hlim hn hp
  go_enter Tryz.func51, Tryz.ntmps51
  go_upto_region 1 with fail
  have s0 := (HW.out.alloc (.cells #[.string (S op), .int .i64 n, .string (S s)] 50)).alloc (.cells #[.string (S nm), .int .i64 (h : Nat)] 59)
  have hI : ((w.alloc (.cells #[.string (S op), .int .i64 n, .string (S s)] 50)).alloc (.cells #[.string (S nm), .int .i64 (h : Nat)] 59)).heap[w.heap.size]? = some (.cells #[.string (S op), .int .i64 n, .string (S s)] 50 (0, 0)) := ((Only.refl (fun _ => False) _).alloc _).heap (heap_alloc_new w _) id
  have hP : ((w.alloc (.cells #[.string (S op), .int .i64 n, .string (S s)] 50)).alloc (.cells #[.string (S nm), .int .i64 (h : Nat)] 59)).heap[w.heap.size + 1]? = some (.cells #[.string (S nm), .int .i64 (h : Nat)] 59 (0, 0)) := (heap_alloc_new' (w.alloc _) _ _ (by simp)).trans rfl
  have hlt : b < w.heap.size := HW.out.is.elim (fun h => h.lt) (fun h => h.lt)
  have hbI : w.heap.size ≠ b := by omega
  have hbP : w.heap.size + 1 ≠ b := by omega
  clear hlt
  generalize (w.alloc (.cells #[.string (S op), .int .i64 n, .string (S s)] 50)).alloc (.cells #[.string (S nm), .int .i64 (h : Nat)] 59) = wA at s0 hI hP ⊢
  generalize w.heap.size = BI at hI hbI hP hbP ⊢
  generalize BI + 1 = BP at hP hbP ⊢
  have hp0 : wA.cell? ⟨BP, 0, none⟩ = some (.string (S nm)) := by simp [World.cell?, hP]
  have HS0 := Lib.hid s0
  have HII := Lib.hid hI
  have HPP := Lib.hid hP
  clear s0 hI hP HW
  go_wp2_with fail
  refine (sb_write HS0.out nm (by have := HL.out; omega)).mono ?_
  rintro e w1 ⟨rfl, s1, k1⟩
  have hI1 := k1 BI _ HII.out (by simpa using hbI) (by intro c fz hh; cases hh)
  have hP1 := k1 BP _ HPP.out (by simpa using hbP) (by intro c fz hh; cases hh)
  have hp1 : w1.cell? ⟨BP, 1, none⟩ = some (.int .i64 (h : Nat)) := by simp [World.cell?, hP1]
  have hi1 : w1.cell? ⟨BI, 1, none⟩ = some (.int .i64 n) := by simp [World.cell?, hI1]
  have hi2 : w1.cell? ⟨BI, 2, none⟩ = some (.string (S s)) := by simp [World.cell?, hI1]
  have HS1 := Lib.hid s1
  clear s1 k1 hI1 hP1 hp0 HS0 HII HPP hbI hbP
  have HEND : Hid (∀ w m, SB w0 w b m → m.length ≤ 1099511627776 → Calls Tryz.prog 52 #[.pointer (some ⟨b, 0, none⟩), .string ⟨#[10]⟩] w fun e w' => e = .returned (.tuple #[.int .i64 (1 : Nat), .nilIface]) ∧ SB w0 w' b (m ++ [10])) := Lib.hid (fun w m hm hl => (sb_write hm [10] (by simp; omega)).mono fun _ _ h => ⟨h.1, h.2.1⟩)
  by_cases h1 : h = 1
  · subst h1
    have HAB : Hid (argText 1 n s = 32 :: Lib.itoa n) := Lib.hid (if_pos rfl)
    have hln := Lib.itoa_length_le n HN.out.1 HN.out.2
    have HLN := Lib.hid hln
    have HD := Lib.hid (digits_any n HN.out.1 HN.out.2 w1 (HP.out.keep HS1.out.bel))
    clear hln
    go_wp2_with fail
    refine HD.out.mono ?_
    rintro e w2 ⟨rfl, hb2⟩
    have s2 := HS1.out.keep hb2
    have HS2 := Lib.hid s2
    have hcat := ss_cat (Lib.itoa n)
    clear s2 hb2 hp1 hi1 hi2
    generalize Lib.itoa n = dg at *
    have hbd : ¬ (9223372036854775807 < 1 + (S dg).size) := by rw [S_size]; have := HLN.out; omega
    go_wp2_with fail
    refine (sb_write HS2.out (32 :: dg) (by have := HL.out; have := HLN.out; simp; omega)).mono ?_
    rintro e w3 ⟨rfl, s3, _⟩
    have HS3 := Lib.hid s3
    have hl3 : (l ++ nm ++ 32 :: dg).length ≤ 1099511627776 := by have := HL.out; have := HLN.out; simp; omega
    have HL3 := Lib.hid hl3
    clear s3 hl3 hcat hbd
    go_wp2_with fail
    refine (HEND.out _ _ HS3.out HL3.out).mono ?_
    rintro e w4 ⟨rfl, s4⟩
    go_wp2
    go_end0
    rw [HAB.out]
    exact ⟨rfl, by simpa using s4⟩
  · have e1 : ((h : Int) == 1) = false := by rw [beq_eq_false_iff_ne]; omega
    have HIT : Hid (Calls Tryz.prog 30 #[.int .i64 h] w1 fun e w' => e = .returned (.bool (decide (2 ≤ h))) ∧ w1 = w') := Lib.hid (istext_any h w1)
    by_cases h2 : 2 ≤ h
    · have HAB : Hid (argText h n s = 32 :: s) := Lib.hid ((if_neg h1).trans (if_pos h2))
      rw [decide_eq_true h2] at HIT
      have hcat := ss_cat s
      have hbd : ¬ (9223372036854775807 < 1 + (S s).size) := by rw [S_size]; have := HL.out; omega
      clear h1 h2
      go_wp2_with (go_at_call 30; refine HIT.out.mono ?_; rintro e w2 ⟨rfl, rfl⟩)
      refine (sb_write HS1.out (32 :: s) (by have := HL.out; simp; omega)).mono ?_
      rintro e w3 ⟨rfl, s3, _⟩
      have HS3 := Lib.hid s3
      have hl3 : (l ++ nm ++ 32 :: s).length ≤ 1099511627776 := by have := HL.out; simp; omega
      have HL3 := Lib.hid hl3
      clear s3 hl3 hcat hbd
      go_wp2_with fail
      refine (HEND.out _ _ HS3.out HL3.out).mono ?_
      rintro e w4 ⟨rfl, s4⟩
      go_wp2
      go_end0
      rw [HAB.out]
      exact ⟨rfl, by simpa using s4⟩
    · have HAB : Hid (argText h n s = []) := Lib.hid ((if_neg h1).trans (if_neg h2))
      rw [decide_eq_false h2] at HIT
      clear h1 h2
      have hl3 : (l ++ nm).length ≤ 1099511627776 := by have := HL.out; simp; omega
      have HL3 := Lib.hid hl3
      clear hl3
      go_wp2_with (go_at_call 30; refine HIT.out.mono ?_; rintro e w2 ⟨rfl, rfl⟩)
      refine (HEND.out _ _ HS1.out HL3.out).mono ?_
      rintro e w4 ⟨rfl, s4⟩
      go_wp2
      go_end0
      rw [HAB.out]
      exact ⟨rfl, by simpa using s4⟩
end Go.Proofs.YtcoobdbfgiiejaaGreatDoor
namespace Go.Proofs.YtcoobdbfgiiejaaGreatDoor
open Go.RowKit
/-- An instruction as a line of text. -/
def Ins.text (x : Ins) : List UInt8 := nameAt (idx x.op) ++ (argText (hasAt (idx x.op)) x.n x.s ++ [10])
/-- Instructions as a text. -/
def showL (l : List Ins) : List UInt8 := l.flatMap Ins.text
theorem nameAt_le (k : Nat) : (nameAt k).length ≤ 6 := by
  by_cases h : k < 42
  · exact (show ∀ k : Fin 42, (nameAt k.val).length ≤ 6 by decide) ⟨k, h⟩
  · unfold nameAt
    rw [List.getD_eq_getElem?_getD, List.getElem?_eq_none (by rw [opTab_len]; omega)]
    decide
theorem Ins.text_le (x : Ins) (h : x.ok) : x.text.length ≤ 1048700 := by
  have h1 := nameAt_le (idx x.op)
  have h2 := Lib.itoa_length_le x.n h.1.1 h.1.2
  have h3 := h.2
  unfold Ins.text argText
  rw [List.length_append, List.length_append, List.length_singleton]
  split
  · rw [List.length_cons]; omega
  · split
    · rw [List.length_cons]; omega
    · simp; omega
theorem showL_le (l : List Ins) (h : ∀ x ∈ l, x.ok) : (showL l).length ≤ 1048700 * l.length := by
  induction l with
  | nil => simp [showL]
  | cons x r ih =>
    have h1 := x.text_le (h x (by simp))
    have h2 := ih (fun y hy => h y (by simp [hy]))
    unfold showL at h2 ⊢
    rw [List.flatMap_cons, List.length_append, List.length_cons]
    omega
theorem show_snoc (l : List Ins) (k : Nat) (x : Ins) (h : l[k]? = some x) : showL (l.take (k + 1)) = showL (l.take k) ++ x.text := by
  unfold showL
  rw [List.take_add_one, h, List.flatMap_append]
  simp
theorem SB.new (w : World) : SB w (w.alloc (.cells #[.pointer none, .slice none 0 0] 89)) w.heap.size [] :=
  ⟨.inl ⟨Nat.le_refl _, _, heap_alloc_new w _, World.ownsRowF_nil _ _ _ _, by simp [Value.ownBlock]⟩, (Below.refl _ w).alloc (Nat.le_refl _) _⟩
theorem sb_string {w0 w : World} {b : Nat} {l : List UInt8} (h : SB w0 w b l) :
    Calls Tryz.prog 54 #[.pointer (some ⟨b, 0, none⟩)] w fun e w' => e = .returned (.string (S l)) ∧ Below w0.heap.size w0 w' := by
  refine (builder_String_k w0.heap.size b l w h.is h.bel.size).mono ?_
  rintro e w' ⟨rfl, _, h2, _⟩
  exact ⟨rfl, h.bel.trans h2⟩
set_option maxHeartbeats 2000000 in
set_option maxRecDepth 100000 in
theorem show_any (l : List Ins) (sv : Value) (w : World) (hT : CT w) (hp : Pow10 w) (hs : InsSrc w sv l) (hlen : l.length ≤ 524288) (hok : ∀ x ∈ l, x.ok) :
    Calls Tryz.prog 23 #[sv] w fun e w' => e = .returned (.tuple #[.string (S (if allE l = 0 then showL l else [])), .int .i64 (allE l : Nat)]) ∧ Below w.heap.size w w' := by
  have hmf : ∀ (fn : Fn) (first cap : Array Value) (w : World), (Instr.makeFunc fn first cap).run Tryz.prog w = .ok (.func fn first cap) w := fun _ _ _ _ => rfl
  have HT := Lib.hid hT
  have HP := Lib.hid hp
  have HS := Lib.hid hs
  have HOK := Lib.hid hok
  have HLN := Lib.hid hlen
  obtain ⟨TX, hTX⟩ : ∃ TX, TX = (if allE l = 0 then showL l else []) := ⟨_, rfl⟩
  obtain ⟨EE, hEE⟩ : ∃ EE, EE = allE l := ⟨_, rfl⟩
  rw [← hTX, ← hEE]
  have HTX := Lib.hid hTX
  have HEE := Lib.hid hEE
  clear hT hp hs hok hlen hTX hEE
  go_enter Tryz.func23, Tryz.ntmps23
  go_wp2_with fail
  have s0 := SB.new w
  generalize w.alloc (.cells #[.pointer none, .slice none 0 0] 89) = wB at s0 ⊢
  have hea := each_any 51 (.pointer (some ⟨w.heap.size, 0, none⟩)) w wB l sv (fun k w' => SB w w' w.heap.size (showL (l.take k))) (enters_cf Tryz.func51 (by kernel_rfl) rfl)
    HT.out HS.out (fun x hx => by have := (HOK.out x hx).2; omega) (by have := HLN.out; omega) (by simpa [showL] using s0) (fun k w' h => h.bel) (fun k w' w'' h hb => h.keep hb)
    (fun k x w' hx he h => by
      have hxo := HOK.out x (List.mem_of_getElem? hx)
      have hl1 := showL_le (l.take k) (fun y hy => HOK.out y (List.mem_of_mem_take hy))
      have hl2 : (l.take k).length ≤ l.length := by rw [List.length_take]; omega
      have hl4 := HLN.out
      have hl5 := nameAt_le (idx x.op)
      have hp := show1_any h HP.out x.op (nameAt (idx x.op)) x.s x.n (idx x.op) (hasAt (idx x.op)) hxo.1 (by have := hxo.2; omega)
      refine hp.mono ?_
      rintro e w'' ⟨rfl, h'⟩
      refine ⟨rfl, ?_⟩
      rw [show_snoc l k x hx]
      exact h')
  refine hea.mono ?_
  clear hea s0
  rintro e w3 ⟨rfl, h3, hb3⟩
  by_cases hz : allE l = 0
  · have s3 := h3 hz
    rw [List.take_of_length_le (Nat.le_refl _)] at s3
    have HBY := Lib.hid (sb_string s3)
    obtain rfl : TX = showL l := HTX.out.trans (if_pos hz)
    obtain rfl : EE = 0 := HEE.out.trans hz
    rw [hz]
    clear h3 s3 hz HTX HEE
    go_wp2_with (go_at_call 54; refine HBY.out.mono ?_; rintro e w4 ⟨rfl, hb4⟩)
    go_ret2
    exact ⟨rfl, hb4⟩
  · have hzb : (((allE l : Nat) : Int) != 0) = true := by rw [bne_iff_ne]; omega
    obtain rfl : TX = [] := HTX.out.trans (if_neg hz)
    obtain rfl : EE = allE l := HEE.out
    clear h3 hz HTX HEE
    generalize hE : allE l = E at hzb ⊢
    have HE := Lib.hid hE
    clear hE
    go_wp2
    go_ret2
    exact ⟨by rw [HE.out]; rfl, hb3⟩
end Go.Proofs.YtcoobdbfgiiejaaGreatDoor
namespace Go.Proofs.YtcoobdbfgiiejaaGreatDoor
open Go.RowKit
theorem InsSrc.keep {w w' : World} {sv : Value} {l : List Ins} (h : InsSrc w sv l) (hb : Below w.heap.size w w') : InsSrc w' sv l := by
  rcases h with h | ⟨b, o, cap, he, hc⟩
  · exact .inl h
  · refine .inr ⟨b, o, cap, he, fun k x hx => ?_⟩
    obtain ⟨h0, h1, h2⟩ := hc k x hx
    have ho := Only.ofBelow (S := fun _ => False) hb
    exact ⟨ho.cell h0 id, ho.cell h1 id, ho.cell h2 id⟩
def exL : List Ins := [⟨[105, 110, 116], -3, []⟩, ⟨[108, 111, 97, 100], 1, []⟩, ⟨[97, 100, 100], 0, []⟩]
def exCells : Array Value := #[.string ⟨#[105, 110, 116]⟩, .int .i64 (-3), .string ⟨#[]⟩, .string ⟨#[108, 111, 97, 100]⟩, .int .i64 1, .string ⟨#[]⟩, .string ⟨#[97, 100, 100]⟩, .int .i64 0, .string ⟨#[]⟩]
theorem ex_all : allE exL = 0 := by decide +kernel
theorem ex_put : putL exL = [3, 0, 5, 5, 2, 10] := by
  have h1 : (⟨[105, 110, 116], -3, []⟩ : Ins).bytes = [0, 5] := by
    rw [Ins.bytes, show idx [105, 110, 116] = 0 from by decide, show hasAt 0 = 1 from by decide, argBytes, if_pos rfl, show Lib.zigzag (-3) = 5 from by decide, Lib.uvarint_small (by decide), Lib.uvarint_small (by decide)]
    decide
  have h2 : (⟨[108, 111, 97, 100], 1, []⟩ : Ins).bytes = [5, 2] := by
    rw [Ins.bytes, show idx [108, 111, 97, 100] = 5 from by decide, show hasAt 5 = 1 from by decide, argBytes, if_pos rfl, show Lib.zigzag 1 = 2 from by decide, Lib.uvarint_small (by decide), Lib.uvarint_small (by decide)]
    decide
  have h3 : (⟨[97, 100, 100], 0, []⟩ : Ins).bytes = [10] := by
    rw [Ins.bytes, show idx [97, 100, 100] = 10 from by decide, show hasAt 10 = 0 from by decide, argBytes, if_neg (by decide), if_neg (by decide), Lib.uvarint_small (by decide)]
    decide
  rw [putL, exL, List.flatMap_cons, List.flatMap_cons, List.flatMap_cons, h1, h2, h3, show ([⟨[105, 110, 116], -3, []⟩, ⟨[108, 111, 97, 100], 1, []⟩, ⟨[97, 100, 100], 0, []⟩] : List Ins).length = 3 from rfl, Lib.uvarint_small (by decide)]
  decide
theorem ex_show : showL exL = [105, 110, 116, 32, 45, 51, 10, 108, 111, 97, 100, 32, 49, 10, 97, 100, 100, 10] := by decide +kernel
theorem ex_ok : ∀ x ∈ exL, x.ok := by
  intro x hx
  simp [exL] at hx
  rcases hx with rfl | rfl | rfl <;> exact ⟨by decide, by decide⟩
theorem ex_src (w : World) : InsSrc (w.alloc (.cells exCells 50)) (.slice (some ⟨w.heap.size, 0, none⟩) 3 3) exL := by
  refine .inr ⟨_, 0, 3, rfl, fun k x hx => ?_⟩
  have hn := heap_alloc_new w (.cells exCells 50)
  have hc : ∀ o, (w.alloc (.cells exCells 50)).cell? ⟨w.heap.size, o, none⟩ = exCells[o]? := fun o => by
    unfold World.cell?
    rw [hn]
    rfl
  match k, hx with
  | 0, hx => simp [exL] at hx; subst hx; exact ⟨(hc _).trans rfl, (hc _).trans rfl, (hc _).trans rfl⟩
  | 1, hx => simp [exL] at hx; subst hx; exact ⟨(hc _).trans rfl, (hc _).trans rfl, (hc _).trans rfl⟩
  | 2, hx => simp [exL] at hx; subst hx; exact ⟨(hc _).trans rfl, (hc _).trans rfl, (hc _).trans rfl⟩
  | k + 3, hx => simp [exL] at hx
set_option maxHeartbeats 2000000 in
set_option maxRecDepth 100000 in
theorem awake_any (w : World) (hT : CT w) (hp : Pow10 w) :
    Calls Tryz.prog 9 #[] w fun e w' => e = .returned (.bool true) ∧ Below w.heap.size w w' := by
  have HT := Lib.hid hT
  have HP := Lib.hid hp
  clear hT hp
  go_enter Tryz.func9, Tryz.ntmps9
  go_wp2_with fail
  have hb0 : Below w.heap.size w (w.alloc (.cells exCells 50)) := (Below.refl _ w).alloc (Nat.le_refl _) _
  have hs0 := ex_src w
  unfold exCells at hb0 hs0
  generalize w.alloc (.cells _ 50) = wA at hb0 hs0 ⊢
  refine (put_any exL _ wA (HT.out.keep hb0) hs0 (by decide) ex_ok).mono ?_
  rintro e w1 ⟨h1, _⟩
  obtain ⟨v1, rfl, s1⟩ := h1 ex_all
  rw [ex_put] at s1
  clear h1
  have hb1 : Below w.heap.size w w1 := hb0.trans (s1.bel.mono hb0.size)
  have hs1 := hs0.keep s1.bel
  clear hs0
  obtain ⟨ao1, m1, c1, rfl⟩ := row_shape s1.row
  have HS1 := Lib.hid s1
  clear s1
  go_wp2_with fail
  have hsh := show_any exL _ w1 (HT.out.keep hb1) (HP.out.keep hb1) hs1 (by decide) ex_ok
  rw [if_pos ex_all, ex_all, ex_show] at hsh
  refine hsh.mono ?_
  clear hsh hs1
  rintro e w2 ⟨he, hb2⟩
  obtain rfl : e = .returned (.tuple #[.string ⟨#[105, 110, 116, 32, 45, 51, 10, 108, 111, 97, 100, 32, 49, 10, 97, 100, 100, 10]⟩, .int .i64 0]) := he
  have s2 := HS1.out.keep hb2
  have hbw : Below w.heap.size w w2 := hb1.trans (hb2.mono hb1.size)
  have hcv := conv_owned s2.row
  rw [show S [3, 0, 5, 5, 2, 10] = ⟨#[3, 0, 5, 5, 2, 10]⟩ from rfl] at hcv
  clear s2 hb2 hb1 hb0 HS1
  go_wp2_with fail
  refine (ops_any w2 (HT.out.keep hbw).ops).mono ?_
  rintro e w3 ⟨v3, rfl, hr3, _, hb3⟩
  have hb4 : Below w.heap.size w w3 := hbw.trans (hb3.mono hbw.size)
  obtain ⟨ao3, c3, rfl⟩ : ∃ ao c, v3 = .slice ao 42 c := by
    rcases hr3.2 with ⟨_, h⟩ | ⟨g, cap, cur, rfl, _⟩
    · simp at h
    · exact ⟨_, _, rfl⟩
  clear hr3 hb3 hbw hcv
  go_wp2
  go_ret
  exact ⟨rfl, hb4⟩
end Go.Proofs.YtcoobdbfgiiejaaGreatDoor
namespace Go.Proofs.YtcoobdbfgiiejaaGreatDoor
open Go.RowKit
theorem ret_boolF {a b : Bool} (h : a = b) : Ending.returned (.bool a) = .returned (.bool b) := by rw [h]
def Ins.short (x : Ins) : Bool := decide (x.op.length ≤ 300) && decide (x.s.length ≤ 300)
def fewB (l : List Ins) : Bool := decide (l.length ≤ 250) && l.all Ins.short
theorem short_drop (l : List Ins) (k : Nat) (x : Ins) (h : l[k]? = some x) : (l.drop k).all Ins.short = (x.short && (l.drop (k + 1)).all Ins.short) := by
  have hl : k < l.length := by
    rcases Nat.lt_or_ge k l.length with h1 | h1
    · exact h1
    · rw [List.getElem?_eq_none h1] at h; cases h
  rw [List.getElem?_eq_getElem hl] at h
  rw [List.drop_eq_getElem_cons hl, Option.some.inj h]
  rfl
set_option maxHeartbeats 2000000 in
set_option maxRecDepth 100000 in
theorem few_any (l : List Ins) (sv : Value) (w : World) (hs : InsSrc w sv l) (hlen : l.length ≤ 9223372036854775807) :
    Calls Tryz.prog 8 #[sv] w fun e w' => e = .returned (.bool (fewB l)) ∧ w = w' := by
  obtain ⟨R, hR⟩ : ∃ R, R = fewB l := ⟨_, rfl⟩
  rw [← hR]
  have HR := Lib.hid hR
  clear hR
  rcases hs with ⟨ao, cp0, rfl, rfl⟩ | ⟨b, o, cap, rfl, hc⟩
  · obtain rfl : R = true := HR.out
    go_enter Tryz.func8, Tryz.ntmps8
    go_wp2
    go_loop [3] (fun v3 => v3 = .int .i64 0) (fun _ => 0)
    case atStart => exact rfl
    case round =>
      subst hrel
      go_wp2
      go_ret
      exact ⟨rfl, rfl⟩
  · have HC := Lib.hid hc
    obtain ⟨n, hn⟩ : ∃ n, n = l.length := ⟨_, rfl⟩
    rw [← hn] at hlen ⊢
    have HN := Lib.hid hn
    clear hc hn
    by_cases h250 : n ≤ 250
    · have h250' : ¬ (250 < (n : Int)) := by omega
      have HRA : Hid (R = l.all Ins.short) := Lib.hid (by rw [HR.out, fewB, ← HN.out, decide_eq_true h250, Bool.true_and])
      clear HR
      go_enter Tryz.func8, Tryz.ntmps8
      go_wp2
      go_loop [3] (fun v3 => ∃ k : Nat, k ≤ n ∧ v3 = .int .i64 k ∧ R = (l.drop k).all Ins.short) (fun v3 => n - (intOf v3).toNat)
      case atStart => exact ⟨0, Nat.zero_le _, rfl, HRA.out⟩
      case round =>
        obtain ⟨k, hk, rfl, hall⟩ := hrel
        have HA := Lib.hid hall
        clear hall
        by_cases hlt : k < n
        · have hkl : k < l.length := by have := HN.out; omega
          obtain ⟨x, hx⟩ : ∃ x, l[k]? = some x := ⟨_, List.getElem?_eq_getElem hkl⟩
          obtain ⟨c0, c1, c2⟩ := HC.out k x hx
          have hsd := short_drop l k x hx
          have hk0 : (0 : Int) ≤ k := by omega
          have hkn : (k : Int) < (n : Int) := by omega
          have z0 : ((S x.op).size : Int) = (x.op.length : Int) := by rw [S_size]
          have z2 : ((S x.s).size : Int) = (x.s.length : Int) := by rw [S_size]
          clear hx hkl c1
          unfold Ins.short at hsd
          by_cases p0 : x.op.length ≤ 300
          · have p0' : ¬ (300 < (x.op.length : Int)) := by omega
            by_cases p2 : x.s.length ≤ 300
            · have p2' : ¬ (300 < (x.s.length : Int)) := by omega
              rw [decide_eq_true p0, decide_eq_true p2] at hsd
              have HSD := Lib.hid hsd
              clear hsd p0 p2
              go_wp2
              go_round
              case rel => exact ⟨k + 1, by omega, by go_num, by rw [HA.out]; exact HSD.out⟩
              case measure => simp [intOf]; omega
            · have p2' : 300 < (x.s.length : Int) := by omega
              rw [decide_eq_true p0, decide_eq_false p2] at hsd
              have HSD := Lib.hid hsd
              clear hsd p0 p2
              go_wp2
              go_ret
              exact ⟨ret_boolF (by rw [HA.out]; exact HSD.out.symm), rfl⟩
          · have p0' : 300 < (x.op.length : Int) := by omega
            rw [decide_eq_false p0] at hsd
            have HSD := Lib.hid hsd
            clear hsd p0
            go_wp2
            go_ret
            exact ⟨ret_boolF (by rw [HA.out]; exact HSD.out.symm), rfl⟩
        · obtain rfl : k = n := by omega
          have hz : R = true := by rw [HA.out, List.drop_of_length_le (by rw [HN.out]; exact Nat.le_refl _)]; rfl
          subst hz
          go_wp2
          go_ret
          exact ⟨rfl, rfl⟩
    · have h250' : 250 < (n : Int) := by omega
      obtain rfl : R = false := by rw [HR.out, fewB, ← HN.out, decide_eq_false h250, Bool.false_and]
      go_enter Tryz.func8, Tryz.ntmps8
      go_wp2
      go_ret
      exact ⟨rfl, rfl⟩
end Go.Proofs.YtcoobdbfgiiejaaGreatDoor
