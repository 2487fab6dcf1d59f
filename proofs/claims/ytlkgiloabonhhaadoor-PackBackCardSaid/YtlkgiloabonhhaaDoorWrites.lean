/-
  PackWrites's contract: it answers true at any fields, and writes nothing that was there, in whatever order Go evaluates.
  Conditions: unicode/utf8's two tables hold what they hold at the start.
-/
import Derived.Test.YtlkgiloabonhhaaDoorFields
import Derived.Test.YtlkgiloabonhhaaDoorRefWhole
namespace Go.Proofs.YtlkgiloabonhhaaDoor
open Go.RowKit
def encs (fs : List Fld) : List UInt8 := fs.flatMap Fld.enc
theorem encs_snoc (fs : List Fld) (k : Nat) (hk : k < fs.length) : encs (fs.take (k + 1)) = encs (fs.take k) ++ fs[k].enc := by
  rw [List.take_succ_eq_append_getElem hk]
  unfold encs
  rw [List.flatMap_append]
  simp
theorem grow_le {fs : List Fld} {k : Nat} {L E : List UInt8} (h : encs (fs.take (k + 1)) = L ++ E) (hL : L.length ≤ 310 * k) (hE : E.length ≤ 310) : (encs (fs.take (k + 1))).length ≤ 310 * (k + 1) := by
  rw [h, List.length_append]
  omega
theorem enc_le (f : Fld) (ho : f.Ok) (hs : f.s.length ≤ 300) : f.enc.length ≤ 310 := by
  have h1 := Lib.uvarint_length64 ho.n
  have h2 := Lib.uvarint_length64 (Lib.zigzag_lt ho.i.1 ho.i.2)
  have h3 := textBytes_le f.s (by omega)
  unfold Fld.enc
  repeat' split
  all_goals simp
  all_goals omega
/-- Cells of other blocks than a writer's are as they were. -/
def KeepsBut (w : World) (b : Nat) (v : Value) (w' : World) : Prop := ∀ a u, w.cell? a = some u → a.block ≠ b → v.ownBlock ≠ some a.block → w'.cell? a = some u
def Did (w0 w : World) (b : Nat) (v : Value) (l : List UInt8) (e : Ending) (w' : World) : Prop := e = .returned (.tuple #[]) ∧ ∃ v', WS w0 w' b v' l ∧ KeepsBut w b v w'
theorem Wrote.did {w0 w w1 w' : World} {b : Nat} {v : Value} {l m : List UInt8} {e : Ending} {o : Obj} (h : WS w0 w b v l) (hw1 : w1 = w.alloc o) (hw : Wrote b v l m w1 e w') : Did w0 w b v (l ++ m) e w' := by
  subst hw1
  obtain ⟨he, v', h1, h2⟩ := hw
  exact ⟨he, v', (h.alloc o).step h1 h2, fun a u hc hb hv => h2.only.cell (((Only.refl (fun _ => False) w).alloc o).cell hc id) (fun q => q.elim hb hv)⟩
theorem did_num {w0 w : World} {b : Nat} {v : Value} {l : List UInt8} (h : WS w0 w b v l) (ab : Nat) (hab : ab = w.heap.size) (x : Nat) (hx : x < 18446744073709551616) (hlim : l.length + 10 ≤ 140737488355328) :
    Calls Tryd.prog 18 #[.pointer (some ⟨b, 0, none⟩), .slice (some ⟨ab, 0, none⟩) 1 1] (w.alloc (.cells #[.int .u64 x] 22)) (Did w0 w b v (l ++ Lib.uvarint x)) := by
  subst hab
  exact (wnum_one b w.heap.size v l x _ (h.wr.alloc _) h.wr.notNew.1 h.wr.notNew.2 (by simp) hx hlim).mono fun _ _ hw => hw.did h rfl
theorem did_int {w0 w : World} {b : Nat} {v : Value} {l : List UInt8} (h : WS w0 w b v l) (ab : Nat) (hab : ab = w.heap.size) (x : Int) (hx : -9223372036854775808 ≤ x ∧ x ≤ 9223372036854775807) (hlim : l.length + 10 ≤ 140737488355328) :
    Calls Tryd.prog 19 #[.pointer (some ⟨b, 0, none⟩), .slice (some ⟨ab, 0, none⟩) 1 1] (w.alloc (.cells #[.int .i64 x] 2)) (Did w0 w b v (l ++ Lib.uvarint (Lib.zigzag x))) := by
  subst hab
  exact (wint_one b w.heap.size v l x _ (h.wr.alloc _) h.wr.notNew.1 h.wr.notNew.2 (by simp) hx hlim).mono fun _ _ hw => hw.did h rfl
theorem did_text {w0 w : World} {b : Nat} {v : Value} {l : List UInt8} (h : WS w0 w b v l) (ab : Nat) (hab : ab = w.heap.size) (s : List UInt8) (hlim : l.length + (s.length + 10) ≤ 140737488355328) :
    Calls Tryd.prog 23 #[.pointer (some ⟨b, 0, none⟩), .slice (some ⟨ab, 0, none⟩) 1 1] (w.alloc (.cells #[.string (S s)] 9)) (Did w0 w b v (l ++ textBytes s)) := by
  subst hab
  exact (wtext_one b w.heap.size v l s _ (h.wr.alloc _) h.wr.notNew.1 h.wr.notNew.2 (by simp) hlim).mono fun _ _ hw => hw.did h rfl
theorem did_flags {w0 w : World} {b : Nat} {v : Value} {l : List UInt8} (h : WS w0 w b v l) (ab : Nat) (hab : ab = w.heap.size) (f g : Bool) (hlim : l.length + 2 ≤ 140737488355328) :
    Calls Tryd.prog 21 #[.pointer (some ⟨b, 0, none⟩), .slice (some ⟨ab, 0, none⟩) 2 2] (w.alloc (.cells #[.bool f, .bool g] 4)) (Did w0 w b v (l ++ [flagByte f, flagByte g])) := by
  subst hab
  exact (wflag_any b w.heap.size 0 2 v l [f, g] _ (h.wr.alloc _) h.wr.notNew.1 h.wr.notNew.2 (fun j hj => by
    match j, hj with
    | 0, _ => simp
    | 1, _ => simp) (by simpa using hlim)).mono fun _ _ hw => Wrote.did h rfl hw
theorem did_flag {w0 w : World} {b : Nat} {v : Value} {l : List UInt8} (h : WS w0 w b v l) (ab : Nat) (hab : ab = w.heap.size) (f : Bool) (hlim : l.length + 1 ≤ 140737488355328) :
    Calls Tryd.prog 21 #[.pointer (some ⟨b, 0, none⟩), .slice (some ⟨ab, 0, none⟩) 1 1] (w.alloc (.cells #[.bool f] 4)) (Did w0 w b v (l ++ [flagByte f])) := by
  subst hab
  exact (wflag_one b w.heap.size v l f _ (h.wr.alloc _) h.wr.notNew.1 h.wr.notNew.2 (by simp) hlim).mono fun _ _ hw => Wrote.did h rfl hw
set_option maxHeartbeats 8000000 in
set_option maxRecDepth 100000 in
theorem writes_some (a : Addr) (cap : Nat) (fs : List Fld) (w : World) (hT : Tabs w) (hA : ArgFields w (some a) cap fs) (hsm : fs.length ≤ 40) :
    Calls Tryd.prog 5 #[.slice (some a) fs.length cap] w fun e w' => e = .returned (.bool true) ∧ Below w.heap.size w w' := by
  obtain ⟨n, hn⟩ : ∃ n, n = fs.length := ⟨_, rfl⟩
  rw [← hn]
  have HN := Lib.hid hn
  have hz : (n : Int) ≤ 40 := by omega
  have HA := Lib.hid hA
  have HT := Lib.hid hT
  clear hn hA hT hsm
  go_enter Tryd.func5, Tryd.ntmps5
  go_wp2_with fail
  refine (write_any _).mono ?_
  rintro e w1 ⟨rfl, rfl⟩
  have s1 := WS.new (Below.refl w.heap.size w)
  generalize w.alloc (.cells #[.slice none 0 0] 68) = w1 at s1 ⊢
  go_wp2_with fail
  refine (awake_any _ (HT.out.below s1.bel)).mono ?_
  rintro e w2 ⟨rfl, b2⟩
  have s2 := s1.keep b2
  clear s1 b2
  go_wp2_with fail
  go_loopw [4, 5] (fun vs vi wr => ∃ (k : Nat) (v : Value), k ≤ n ∧ vi = .int .i64 k ∧ vs = .string (S (encs (fs.take k))) ∧ (encs (fs.take k)).length ≤ 310 * k ∧ WS w wr w.heap.size v (encs (fs.take k))) (fun _ vi _ => n - (intOf vi).toNat)
  case atStart => exact ⟨0, _, Nat.zero_le _, rfl, rfl, by simp [encs], by simpa [encs] using s2⟩
  case round =>
    obtain ⟨k, v, hk, rfl, rfl, hlen, hws⟩ := hrel
    by_cases hlt : k < n
    · have hkn : k < fs.length := by have := HN.out; omega
      obtain ⟨f, hf⟩ : ∃ f, fs[k]? = some f := ⟨_, List.getElem?_eq_getElem hkn⟩
      have hfe : fs[k] = f := by rw [List.getElem?_eq_getElem hkn] at hf; exact Option.some.inj hf
      have hok := HA.out.ok f (by rw [← hfe]; exact List.getElem_mem hkn)
      have hsn := encs_snoc fs k hkn
      rw [hfe] at hsn
      have A1 := HA.out.below hws.bel
      obtain ⟨b, off, rfl⟩ := add_plain (A1.c0 a rfl 0 fs[0] (by simp))
      have pl : ∀ j, (⟨b, off, none⟩ : Addr).add j = ⟨b, off + j, none⟩ := fun j => by unfold Addr.add; split <;> simp_all
      have c0 := A1.c0 _ rfl k f hf
      have c1 := A1.c1 _ rfl k f hf
      have c2 := A1.c2 _ rfl k f hf
      have c3 := A1.c3 _ rfl k f hf
      have c4 := A1.c4 _ rfl k f hf
      have c5 := A1.c5 _ rfl k f hf
      rw [pl] at c0 c1 c2 c3 c4 c5
      rw [← Nat.add_assoc] at c1 c2 c3 c4 c5
      obtain ⟨kind, most, fn, fi, yes, fstr⟩ := f
      have hss : ((S fstr).size : Int) = (fstr.length : Int) := by rw [S_size]
      have hlo := hws.lo
      have hbz := lt_of_block hws.wr.blk
      have hrow := Lib.hid hws.wr.row
      obtain ⟨L, hL⟩ : ∃ L, L = encs (fs.take k) := ⟨_, rfl⟩
      rw [← hL] at hlen hws hsn ⊢
      have hLs : (S L).size ≤ 310 * k := by rw [S_size]; exact hlen
      have HSN := Lib.hid hsn
      have HOK := Lib.hid hok
      have HWS := Lib.hid hws
      have HLE := Lib.hid hlen
      clear hsn hok hf hfe A1 pl hlen hL
      by_cases h300 : 300 < fstr.length
      · have h3z : (300 : Int) < (fstr.length : Int) := by omega
        clear hws
        go_wp2
        go_ret
        exact ⟨rfl, HWS.out.bel.alloc HWS.out.bel.size _⟩
      have h3z : (fstr.length : Int) ≤ 300 := by omega
      have hw1 := hws.alloc (.cells #[.int .i64 kind, .int .i64 most, .int .u64 fn, .int .i64 fi, .bool yes, .string (S fstr)] 35)
      have hel := Lib.hid (enc_le ⟨kind, most, fn, fi, yes, fstr⟩ HOK.out (by show fstr.length ≤ 300; omega))
      by_cases q0 : kind = 0
      · have HD := Lib.hid (did_num hw1 (wr.heap.size + 1) (by simp) fn HOK.out.n (by have := HLE.out; omega))
        have q0b : (kind == 0) = true := beq_iff_eq.2 q0
        have HQ := Lib.hid q0
        clear q0 hws
        go_wp2_with (first | (go_at_call 18; refine HD.out.mono ?_; rintro e w3 ⟨rfl, v3, s3, kp3⟩; have d2 : w3.cell? ⟨wr.heap.size, 2, none⟩ = some (.int .u64 fn) := kp3 ⟨wr.heap.size, 2, none⟩ _ (by simp) (by simp; omega) (by simp; exact HWS.out.wr.notNew.2)) | (go_at_call 16; refine (refvar_any fn HOK.out.n _).mono ?_; rintro e w4 ⟨rfl, b4⟩; have huv : (S (Lib.uvarint fn)).size ≤ 10 := by (rw [S_size]; exact Lib.uvarint_length64 HOK.out.n)))
        have he : (Fld.mk kind most fn fi yes fstr).enc = Lib.uvarint fn := by simp [Fld.enc, HQ.out]
        go_roundw
        case rel => exact ⟨k + 1, v3, by omega, by go_num, by rw [HSN.out, he, S_append], grow_le HSN.out HLE.out hel.out, by rw [HSN.out, he]; exact s3.keep b4⟩
        case measure => simp [intOf]; omega
      by_cases q1 : kind = 1
      · have HD := Lib.hid (did_int hw1 (wr.heap.size + 1) (by simp) fi HOK.out.i (by have := HLE.out; omega))
        have q0b : (kind == 0) = false := beq_eq_false_iff_ne.2 q0
        have q1b : (kind == 1) = true := beq_iff_eq.2 q1
        have HQ := Lib.hid q1
        clear q0 q1 hws
        go_wp2_with (first | (go_at_call 19; refine HD.out.mono ?_; rintro e w3 ⟨rfl, v3, s3, kp3⟩; have d3 : w3.cell? ⟨wr.heap.size, 3, none⟩ = some (.int .i64 fi) := kp3 ⟨wr.heap.size, 3, none⟩ _ (by simp) (by simp; omega) (by simp; exact HWS.out.wr.notNew.2)) | (go_at_call 20; refine (refint_any fi _ HOK.out.i.1 HOK.out.i.2).mono ?_; rintro e w4 ⟨rfl, b4⟩; have huv : (S (Lib.uvarint (Lib.zigzag fi))).size ≤ 10 := by (rw [S_size]; exact Lib.uvarint_length64 (Lib.zigzag_lt HOK.out.i.1 HOK.out.i.2))))
        have he : (Fld.mk kind most fn fi yes fstr).enc = Lib.uvarint (Lib.zigzag fi) := by simp [Fld.enc, HQ.out]
        go_roundw
        case rel => exact ⟨k + 1, v3, by omega, by go_num, by rw [HSN.out, he, S_append], grow_le HSN.out HLE.out hel.out, by rw [HSN.out, he]; exact s3.keep b4⟩
        case measure => simp [intOf]; omega
      by_cases q3 : kind = 3
      · have HD := Lib.hid (did_flags hw1 (wr.heap.size + 1) (by simp) yes (!yes) (by have := HLE.out; omega))
        have q0b : (kind == 0) = false := beq_eq_false_iff_ne.2 q0
        have q1b : (kind == 1) = false := beq_eq_false_iff_ne.2 q1
        have q3b : (kind == 3) = true := beq_iff_eq.2 q3
        have HQ := Lib.hid q3
        have hu1 : (S [flagByte yes]).size ≤ 1 := by rw [S_size]; exact Nat.le_refl _
        have hu2 : (S [flagByte (!yes)]).size ≤ 1 := by rw [S_size]; exact Nat.le_refl _
        clear q0 q1 q3 hws
        go_wp2_with (first | (go_at_call 21; refine HD.out.mono ?_; rintro e w3 ⟨rfl, v3, s3, kp3⟩; have d4 : w3.cell? ⟨wr.heap.size, 4, none⟩ = some (.bool yes) := kp3 ⟨wr.heap.size, 4, none⟩ _ (by simp) (by simp; omega) (by simp; exact HWS.out.wr.notNew.2)))
        have HF : Hid (∀ f w, Calls Tryd.prog 22 #[.bool f] w fun e w' => e = .returned (.string (S [flagByte f])) ∧ w' = w) := fun f w => (refflag_any f w).mono fun _ _ h => ⟨h.1, h.2.symm⟩
        have hu3 : (S [flagByte yes] ++ S [flagByte (!yes)]).size ≤ 2 := by rw [S_append, S_size]; exact Nat.le_refl _
        go_quiet ((go_at_call 22; exact Calls.quiet_of_same (HF.out _ _)))
        go_wp2
        have he : (Fld.mk kind most fn fi yes fstr).enc = [flagByte yes, flagByte (!yes)] := by simp [Fld.enc, HQ.out]
        have s4 : WS w (w3.drewN nq) w.heap.size v3 (L ++ [flagByte yes, flagByte (!yes)]) := s3.keep ⟨rfl, rfl, rfl, Nat.le_refl _, fun _ _ => rfl⟩
        go_roundw
        case rel => exact ⟨k + 1, v3, by omega, by go_num, by rw [HSN.out, he, S_append, S_append]; rfl, grow_le HSN.out HLE.out hel.out, by rw [HSN.out, he]; exact s4⟩
        case measure => simp [intOf]; omega
      by_cases q4 : kind = 4
      · have HD := Lib.hid (did_text hw1 (wr.heap.size + 1) (by simp) fstr (by have := HLE.out; omega))
        have q0b : (kind == 0) = false := beq_eq_false_iff_ne.2 q0
        have q1b : (kind == 1) = false := beq_eq_false_iff_ne.2 q1
        have q3b : (kind == 3) = false := beq_eq_false_iff_ne.2 q3
        have q4b : (kind == 4) = true := beq_iff_eq.2 q4
        have HQ := Lib.hid q4
        have HTX : Hid (∀ w, Calls Tryd.prog 24 #[.string (S fstr)] w fun e w' => e = .returned (.string (S (textBytes fstr))) ∧ Below w.heap.size w w') := fun w => reftext_any fstr w (by omega)
        clear q0 q1 q3 q4 hws
        have huv : (S (textBytes fstr)).size ≤ 310 := by rw [S_size]; have := textBytes_le fstr (by omega); omega
        go_wp2_with (first | (go_at_call 23; refine HD.out.mono ?_; rintro e w3 ⟨rfl, v3, s3, kp3⟩; have d5 : w3.cell? ⟨wr.heap.size, 5, none⟩ = some (.string (S fstr)) := kp3 ⟨wr.heap.size, 5, none⟩ _ (by simp) (by simp; omega) (by simp; exact HWS.out.wr.notNew.2)) | (go_at_call 24; refine (HTX.out _).mono ?_; rintro e w4 ⟨rfl, b4⟩))
        have he : (Fld.mk kind most fn fi yes fstr).enc = textBytes fstr := by simp [Fld.enc, HQ.out]
        go_roundw
        case rel => exact ⟨k + 1, v3, by omega, by go_num, by rw [HSN.out, he, S_append], grow_le HSN.out HLE.out hel.out, by rw [HSN.out, he]; exact s3.keep b4⟩
        case measure => simp [intOf]; omega
      · have q0b : (kind == 0) = false := beq_eq_false_iff_ne.2 q0
        have q1b : (kind == 1) = false := beq_eq_false_iff_ne.2 q1
        have q3b : (kind == 3) = false := beq_eq_false_iff_ne.2 q3
        have q4b : (kind == 4) = false := beq_eq_false_iff_ne.2 q4
        have he := Lib.hid (show (Fld.mk kind most fn fi yes fstr).enc = [] by simp [Fld.enc, q0, q1, q3, q4])
        have W1 := Lib.hid hw1
        clear q0 q1 q3 q4 hws hw1
        go_wp2
        go_roundw
        case rel => exact ⟨k + 1, v, by omega, by go_num, by rw [HSN.out, he.out, List.append_nil], grow_le HSN.out HLE.out hel.out, by rw [HSN.out, he.out, List.append_nil]; exact W1.out⟩
        case measure => simp [intOf]; omega
    · have hkn : fs.take k = fs := List.take_of_length_le (by have := HN.out; omega)
      rw [hkn] at hws hlen ⊢
      clear hkn
      have hl2 : (encs fs).length ≤ 140737488355328 := by omega
      go_wp2_with fail
      refine (ws_bytes hws hl2).mono ?_
      rintro e w3 ⟨v3, rfl, s3⟩
      have hcv := conv_owned s3.row
      go_wp2
      go_ret
      exact ⟨rfl, s3.bel⟩
set_option maxHeartbeats 4000000 in
set_option maxRecDepth 100000 in
theorem writes_nil (w : World) (hT : Tabs w) :
    Calls Tryd.prog 5 #[.slice none 0 0] w fun e w' => e = .returned (.bool true) ∧ Below w.heap.size w w' := by
  have HT := Lib.hid hT
  clear hT
  go_enter Tryd.func5, Tryd.ntmps5
  go_wp2_with fail
  refine (write_any _).mono ?_
  rintro e w1 ⟨rfl, rfl⟩
  have s1 := WS.new (Below.refl w.heap.size w)
  generalize w.alloc (.cells #[.slice none 0 0] 68) = w1 at s1 ⊢
  go_wp2_with fail
  refine (awake_any _ (HT.out.below s1.bel)).mono ?_
  rintro e w2 ⟨rfl, b2⟩
  have s2 := s1.keep b2
  clear s1 b2
  go_wp2_with fail
  refine wp_loop_rounds 1 ?_
  rw [rounds_succ]
  go_wp2_with fail
  refine (ws_bytes s2 (by decide)).mono ?_
  rintro e w3 ⟨v3, rfl, s3⟩
  have hcv := conv_owned s3.row
  rw [show S [] = ⟨#[]⟩ from rfl] at hcv
  go_wp2
  go_ret
  exact ⟨rfl, s3.bel⟩
set_option maxHeartbeats 4000000 in
set_option maxRecDepth 100000 in
theorem writes_big (ao : Option Addr) (n cap : Nat) (w : World) (hT : Tabs w) (hn : 40 < n) :
    Calls Tryd.prog 5 #[.slice ao n cap] w fun e w' => e = .returned (.bool true) ∧ Below w.heap.size w w' := by
  have hz : (40 : Int) < (n : Int) := by omega
  have HA := Lib.hid (awake_any w hT)
  clear hT
  go_enter Tryd.func5, Tryd.ntmps5
  go_wp2_with (go_at_call 11; refine HA.out.mono ?_; rintro e w1 ⟨rfl, hb⟩)
  go_ret
  exact ⟨rfl, hb⟩
theorem writes_any (ao : Option Addr) (cap : Nat) (fs : List Fld) (w : World) (hT : Tabs w) (hA : ArgFields w ao cap fs) :
    Calls Tryd.prog 5 #[.slice ao fs.length cap] w fun e w' => e = .returned (.bool true) ∧ Below w.heap.size w w' := by
  by_cases h : 40 < fs.length
  · exact writes_big ao _ cap w hT h
  · cases ao with
    | none =>
      obtain ⟨rfl, rfl⟩ := hA.nil rfl
      exact writes_nil w hT
    | some a => exact writes_some a cap fs w hT hA (by omega)
end Go.Proofs.YtlkgiloabonhhaaDoor
