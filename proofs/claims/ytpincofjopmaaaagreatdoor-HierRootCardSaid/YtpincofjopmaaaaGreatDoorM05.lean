/-
  The contracts of package kind's Elem and Parts, and of the laws' awake.
  What a writer and a reader of package pack hold in memory.
  The contracts of pack.Zig, pack.Zag and the document's Zig: each returns the zigzag encoding (or the number that it encodes) and leaves the world alone.
  The contracts of pack.appendVar, pack.Var and the document's Var: the varint of a number, appended to a slice of the caller's own, in new memory, or as a string.
  The contract of the document's Var, Int, Text and Flag: the bytes as a string.
  The contracts of bytes.Clone and of package pack's writer: Write, Num, Int, Flag, Text, Bytes: a writer holds the encodings of what was written, one behind the other.
  Conditions: as each text of it says.
-/
import Derived.Test.YtpincofjopmaaaaGreatDoorM04
import Derived.Test.YtpincofjopmaaaaGreatDoorProg
import Derived.Lib.Zigzag
import Derived.IntWalk
import Derived.Laws.BytesArg
import Derived.Laws.BitsAllLaws
import Derived.Lib.SliceRun
namespace Go.Proofs.YtpincofjopmaaaaGreatDoor
open Go.RowKit
set_option maxHeartbeats 400000 in
theorem elem_any (l : List UInt8) (w : World) (hlim : l.length ≤ 9223372036854775807) :
    Calls Tryz.prog 131 #[.string (S l)] w (SaidS (elemL l) w) := by
  have HD := Lib.hid (deep_any l w hlim)
  unfold SaidN at HD
  by_cases h0 : depN l = 0
  · have HE := Lib.hid (show elemL l = [] by
      unfold elemL
      rw [if_neg]
      rintro ⟨hr, hd⟩
      rw [depN_right hr] at h0
      omega)
    rw [h0] at HD
    clear h0
    go_enter Tryz.func131, Tryz.ntmps131
    go_wp2_with fail
    refine HD.out.mono ?_
    rintro e w' ⟨rfl, hb⟩
    go_wp2
    go_ret
    exact ⟨by rw [HE.out]; rfl, hb⟩
  · have hr : rightB l = true := by
      cases hr : rightB l with
      | true => rfl
      | false => exact absurd (depN_not hr) h0
    have hd : 1 ≤ deepN l := by rw [depN_right hr] at h0; omega
    have he := deep_ends hd
    have HE := Lib.hid (show elemL l = l.take (l.length - 2) by unfold elemL; rw [if_pos ⟨hr, hd⟩])
    have HT := Lib.hid (fun w => trimsuf_yes l w hlim he)
    have hlen : l.length ≤ 281474976710656 := by
      have hr' := hr
      unfold rightB at hr'
      simp only [Bool.and_eq_true] at hr'
      have h1 := (nameB_pos (baseB_name hr'.2)).2
      rw [baseL_length] at h1
      have h2 := deepN_le l
      have h3 := hr'.1
      simp at h3
      omega
    have HC := Lib.hid (fun w => sclone_any (S (l.take (l.length - 2))) w (by rw [S_size, List.length_take]; omega))
    clear hlen
    have hne : ((depN l : Int) == 0) = false := by rw [beq_eq_false_iff_ne]; omega
    clear hr hd he h0
    generalize depN l = N at *
    go_enter Tryz.func131, Tryz.ntmps131
    go_wp2_with fail
    refine HD.out.mono ?_
    rintro e w' ⟨rfl, hb⟩
    go_wp2_with fail
    refine (HT.out _).mono ?_
    rintro e w2 ⟨rfl, rfl⟩
    go_wp2_with fail
    refine (HC.out _).mono ?_
    rintro e w2 ⟨rfl, hb2⟩
    go_wp2
    go_ret
    exact ⟨by rw [HE.out]; rfl, hb.trans (hb2.mono hb.size)⟩
def SaidParts (l : List UInt8) (w : World) (e : Ending) (w' : World) : Prop :=
  (if partsB l = true then e = .returned (.tuple #[.string (S (l.take (dotAt l))), .string (S (l.drop (dotAt l + 1))), .int .i64 0]) else e = .returned (.tuple #[.string ⟨#[]⟩, .string ⟨#[]⟩, .int .i64 30])) ∧ Below w.heap.size w w'
theorem below_drewN (w : World) (q : Nat) : Below w.heap.size w (w.drewN q) := by
  induction q with
  | zero => exact Below.refl _ _
  | succ q ih => exact ih.drew
set_option maxHeartbeats 1000000 in
theorem parts_any (l : List UInt8) (w : World) (hlim : l.length ≤ 9223372036854775807) :
    Calls Tryz.prog 291 #[.string (S l)] w (SaidParts l w) := by
  go_enter Tryz.func291, Tryz.ntmps291
  go_wp2_with fail
  refine (cut_any l w hlim).mono ?_
  rintro e w' ⟨⟨q, rfl⟩, hc⟩
  have hb0 := below_drewN w q
  generalize w.drewN q = w1 at *
  rcases hc with ⟨hd, rfl⟩ | ⟨hd, rfl⟩
  · have HP := Lib.hid (show partsB l = (classB (l.take (dotAt l)) && memberB (l.drop (dotAt l + 1))) by unfold partsB; rw [decide_eq_true hd, Bool.true_and])
    have HA := Lib.hid (fun w => class_any (l.take (dotAt l)) w (by rw [List.length_take]; omega))
    have HB := Lib.hid (fun w => named_lo (l.drop (dotAt l + 1)) w (by rw [List.length_drop]; omega))
    have HC1 := Lib.hid (fun w (hcb : classB (l.take (dotAt l)) = true) => sclone_any (S (l.take (dotAt l))) w (by have q := (nameB_pos (classB_name hcb)).2; rw [S_size]; omega))
    have HC2 := Lib.hid (fun w (hmb : memberB (l.drop (dotAt l + 1)) = true) => sclone_any (S (l.drop (dotAt l + 1))) w (by unfold memberB at hmb; rw [Bool.and_eq_true] at hmb; have q := (nameB_pos hmb.1).2; rw [S_size]; omega))
    unfold Said at HA HB
    clear hd
    have HF : Hid (∀ e w', (if partsB l = true then e = .returned (.tuple #[.string (S (l.take (dotAt l))), .string (S (l.drop (dotAt l + 1))), .int .i64 0]) else e = .returned (.tuple #[.string ⟨#[]⟩, .string ⟨#[]⟩, .int .i64 30])) → Below w.heap.size w w' → SaidParts l w e w') := fun e w' h h2 => ⟨h, h2⟩
    generalize S (l.take (dotAt l)) = A at *
    generalize S (l.drop (dotAt l + 1)) = B at *
    generalize memberB (l.drop (dotAt l + 1)) = mb at *
    generalize classB (l.take (dotAt l)) = cb at *
    cases cb with
    | false =>
      go_wp2_with fail
      refine (HA.out _).mono ?_
      rintro e w2 ⟨rfl, hb2⟩
      go_wp2
      go_ret3
      exact HF.out _ _ (by rw [HP.out]; rfl) (hb0.trans (hb2.mono hb0.size))
    | true =>
      cases mb with
      | false =>
        go_wp2_with fail
        refine (HA.out _).mono ?_
        rintro e w2 ⟨rfl, hb2⟩
        go_wp2_with fail
        refine (HB.out _).mono ?_
        rintro e w3 ⟨rfl, hb3⟩
        have b2 := hb0.trans (hb2.mono hb0.size)
        have b3 := b2.trans (hb3.mono b2.size)
        go_wp2
        go_ret3
        exact HF.out _ _ (by rw [HP.out]; rfl) b3
      | true =>
        go_wp2_with fail
        refine (HA.out _).mono ?_
        rintro e w2 ⟨rfl, hb2⟩
        go_wp2_with fail
        refine (HB.out _).mono ?_
        rintro e w3 ⟨rfl, hb3⟩
        go_wp2_with fail
        refine (HC1.out _ trivial).mono ?_
        rintro e w4 ⟨rfl, hb4⟩
        go_wp2_with fail
        refine (HC2.out _ trivial).mono ?_
        rintro e w5 ⟨rfl, hb5⟩
        have b2 := hb0.trans (hb2.mono hb0.size)
        have b3 := b2.trans (hb3.mono b2.size)
        have b4 := b3.trans (hb4.mono b3.size)
        have b5 := b4.trans (hb5.mono b4.size)
        go_wp2
        go_ret3
        exact HF.out _ _ (by rw [HP.out]; rfl) b5
  · have HP := Lib.hid (show partsB l = false by unfold partsB; rw [decide_eq_false (show ¬ dotAt l < l.length by omega), Bool.false_and])
    have HA := Lib.hid (fun w => class_any l w hlim)
    have HB := Lib.hid (fun w => named_lo [] w (by simp))
    rw [show memberB [] = false from rfl] at HB
    unfold Said at HA HB
    clear hd
    cases hcb : classB l with
    | false =>
      rw [hcb] at HA
      clear hcb
      go_wp2_with fail
      refine (HA.out _).mono ?_
      rintro e w2 ⟨rfl, hb2⟩
      go_wp2
      go_ret3
      exact ⟨by rw [HP.out]; rfl, hb0.trans (hb2.mono hb0.size)⟩
    | true =>
      rw [hcb] at HA
      clear hcb
      go_wp2_with fail
      refine (HA.out _).mono ?_
      rintro e w2 ⟨rfl, hb2⟩
      go_wp2_with fail
      refine (HB.out _).mono ?_
      rintro e w3 ⟨rfl, hb3⟩
      have b2 := hb0.trans (hb2.mono hb0.size)
      have b3 := b2.trans (hb3.mono b2.size)
      go_wp2
      go_ret3
      exact ⟨by rw [HP.out]; rfl, b3⟩
theorem parts_yes (l : List UInt8) (w : World) (hlim : l.length ≤ 9223372036854775807) (h : partsB l = true) :
    Calls Tryz.prog 291 #[.string (S l)] w fun e w' => e = .returned (.tuple #[.string (S (l.take (dotAt l))), .string (S (l.drop (dotAt l + 1))), .int .i64 0]) ∧ Below w.heap.size w w' := by
  refine (parts_any l w hlim).mono ?_
  rintro e w' ⟨h1, h2⟩
  rw [if_pos h] at h1
  exact ⟨h1, h2⟩
theorem parts_no (l : List UInt8) (w : World) (hlim : l.length ≤ 9223372036854775807) (h : partsB l = false) :
    Calls Tryz.prog 291 #[.string (S l)] w fun e w' => e = .returned (.tuple #[.string ⟨#[]⟩, .string ⟨#[]⟩, .int .i64 30]) ∧ Below w.heap.size w w' := by
  refine (parts_any l w hlim).mono ?_
  rintro e w' ⟨h1, h2⟩
  rw [if_neg (by rw [h]; decide)] at h1
  exact ⟨h1, h2⟩
theorem of_yes (l : List UInt8) (w : World) (hlim : l.length ≤ 9223372036854775807) (h : rightB l = true) (h2 : deepN l ≤ 2) :
    Calls Tryz.prog 290 #[.string (S l)] w fun e w' => e = .returned (.tuple #[.string (S (ofL l)), .int .i64 0]) ∧ Below w.heap.size w w' := by
  refine (of_any l w hlim).mono ?_
  rintro e w' ⟨h3, h4⟩
  rw [if_pos ⟨h, h2⟩] at h3
  exact ⟨h3, h4⟩
theorem of_no (l : List UInt8) (w : World) (hlim : l.length ≤ 9223372036854775807) (h : ¬ (rightB l = true ∧ deepN l ≤ 2)) :
    Calls Tryz.prog 290 #[.string (S l)] w fun e w' => e = .returned (.tuple #[.string ⟨#[]⟩, .int .i64 30]) ∧ Below w.heap.size w w' := by
  refine (of_any l w hlim).mono ?_
  rintro e w' ⟨h3, h4⟩
  rw [if_neg h] at h3
  exact ⟨h3, h4⟩
end Go.Proofs.YtpincofjopmaaaaGreatDoor
namespace Go.Proofs.YtpincofjopmaaaaGreatDoor
open Go.RowKit

structure WrAt (w : World) (b : Nat) (v : Value) (l : List UInt8) : Prop where
  blk : w.heap[b]? = some (.cells #[v] 237 (0, 0))
  row : RowIs w v l
def WrFoot (b : Nat) (v : Value) (k : Nat) : Prop := k = b ∨ v.ownBlock = some k
structure WrGrew (w : World) (b : Nat) (v : Value) (w' : World) (v' : Value) : Prop where
  only : Only (WrFoot b v) w w'
  came : v'.ownBlock = v.ownBlock ∨ ∀ g, v'.ownBlock = some g → w.heap.size ≤ g
theorem WrGrew.refl (w : World) (b : Nat) (v : Value) : WrGrew w b v w v := ⟨Only.refl _ _, .inl rfl⟩
theorem WrGrew.trans {a c d : World} {b : Nat} {u v x : Value} (h : WrGrew a b u c v) (k : WrGrew c b v d x) : WrGrew a b u d x := by
  refine ⟨h.only.then k.only ?_, ?_⟩
  · rintro i hi (e | e)
    · exact .inl e
    · rcases h.came with q | q
      · exact .inr (by rw [← q]; exact e)
      · have := q i e; omega
  · rcases k.came with e | e
    · rw [e]; exact h.came
    · exact .inr fun g hg => Nat.le_trans h.only.size (e g hg)
theorem WrGrew.alloc {a w : World} {b : Nat} {u v : Value} (h : WrGrew a b u w v) (o : Obj) : WrGrew a b u (w.alloc o) v := ⟨h.only.alloc o, h.came⟩
theorem WrGrew.ofGrew {w w' : World} {b : Nat} {v v' : Value} (h : Grew w v w' v') : WrGrew w b v w' v' := ⟨h.only.mono (fun _ _ s => .inr s), h.came⟩
theorem WrGrew.setCell {a w : World} {b : Nat} {u v : Value} (h : WrGrew a b u w v) (x : Value) : WrGrew a b u (w.setCell ⟨b, 0, none⟩ x) v := ⟨h.only.setCell (.inl rfl) x, h.came⟩
theorem WrAt.ne {w : World} {b : Nat} {v : Value} {l : List UInt8} (h : WrAt w b v l) : ∀ g, v.ownBlock = some g → g ≠ b := by
  intro g hg e
  subst e
  rcases h.row.2 with ⟨rfl, _⟩ | ⟨g', cap, cur, rfl, hb, hgg, rest⟩
  · simp [Value.ownBlock] at hg
  · simp [Value.ownBlock] at hg
    subst hg
    have := h.blk
    rw [hgg] at this
    simp at this
theorem WrAt.keep {S : Nat → Prop} {w w' : World} {b : Nat} {v : Value} {l : List UInt8} (h : WrAt w b v l) (ho : Only S w w') (hb : ¬ S b) (hv : ∀ g, v.ownBlock = some g → ¬ S g) : WrAt w' b v l :=
  ⟨ho.heap h.blk hb, ho.row h.row hv⟩
theorem WrAt.alloc {w : World} {b : Nat} {v : Value} {l : List UInt8} (h : WrAt w b v l) (o : Obj) : WrAt (w.alloc o) b v l :=
  h.keep ((Only.refl (fun _ => False) w).alloc o) id (fun _ _ => id)
theorem WrAt.free {w : World} {b : Nat} {v : Value} {l : List UInt8} (h : WrAt w b v l) : w.frozen? ⟨b, 0, none⟩ = false := free_of_one h.blk
theorem WrAt.put {w w' : World} {b : Nat} {v v' : Value} {l l' : List UInt8} (h : WrAt w b v l) (g : Grew w v w' v') (r : RowIs w' v' l') : WrAt (w'.setCell ⟨b, 0, none⟩ v') b v' l' := by
  have hb := g.only.heap h.blk (fun e => h.ne b e rfl)
  refine ⟨one_setCell hb, ownsRow_setCell_other r ?_ _⟩
  intro e
  have hbl := lt_of_block h.blk
  exact h.ne b (g.into b hbl e) rfl

theorem WrAt.step {w0 w w' : World} {b : Nat} {u v v' : Value} {l l' : List UInt8} (h : WrAt w b v l) (hg : WrGrew w0 b u w v) (g : Grew w v w' v') (r : RowIs w' v' l') :
    WrAt (w'.setCell ⟨b, 0, none⟩ v') b v' l' ∧ WrGrew w0 b u (w'.setCell ⟨b, 0, none⟩ v') v' := ⟨h.put g r, (hg.trans (.ofGrew g)).setCell _⟩

structure RdAt (w : World) (b : Nat) (v : Value) (l : List UInt8) (at_ : Nat) (err : Nat) : Prop where
  blk : w.heap[b]? = some (.cells #[v, .int .i64 at_, .int .i64 err] 180 (0, 0))
  row : RowIs w v l
  le : at_ ≤ l.length
  small : l.length ≤ 140737488355328

theorem RdAt.ne {w : World} {b : Nat} {v : Value} {l : List UInt8} {i err : Nat} (h : RdAt w b v l i err) : ∀ g, v.ownBlock = some g → g ≠ b := by
  intro g hg e
  subst e
  rcases h.row.2 with ⟨rfl, _⟩ | ⟨g', cap, cur, rfl, hb, hgg, rest⟩
  · simp [Value.ownBlock] at hg
  · simp [Value.ownBlock] at hg
    subst hg
    have := h.blk
    rw [hgg] at this
    simp at this
theorem RdAt.free {w : World} {b : Nat} {v : Value} {l : List UInt8} {i err : Nat} (h : RdAt w b v l i err) (o : Nat) : w.frozen? ⟨b, o, none⟩ = false := by simp [World.frozen?, h.blk]
theorem RdAt.keep {S : Nat → Prop} {w w' : World} {b : Nat} {v : Value} {l : List UInt8} {i err : Nat} (h : RdAt w b v l i err) (ho : Only S w w') (hb : ¬ S b) (hv : ∀ g, v.ownBlock = some g → ¬ S g) : RdAt w' b v l i err :=
  ⟨ho.heap h.blk hb, ho.row h.row hv, h.le, h.small⟩
end Go.Proofs.YtpincofjopmaaaaGreatDoor
namespace Go.Proofs.YtpincofjopmaaaaGreatDoor
open Go.RowKit

end Go.Proofs.YtpincofjopmaaaaGreatDoor
namespace Go.Proofs.YtpincofjopmaaaaGreatDoor
open Go.RowKit
end Go.Proofs.YtpincofjopmaaaaGreatDoor
namespace Go.Proofs.YtpincofjopmaaaaGreatDoor
open Go.RowKit
end Go.Proofs.YtpincofjopmaaaaGreatDoor
namespace Go.Proofs.YtpincofjopmaaaaGreatDoor
open Go.RowKit
def nums (ns : List Nat) : List UInt8 := ns.flatMap Lib.uvarint
def Wrote (b : Nat) (v : Value) (l m : List UInt8) (w : World) (e : Ending) (w' : World) : Prop :=
  e = .returned (.tuple #[]) ∧ ∃ v', WrAt w' b v' (l ++ m) ∧ WrGrew w b v w' v'

end Go.Proofs.YtpincofjopmaaaaGreatDoor
