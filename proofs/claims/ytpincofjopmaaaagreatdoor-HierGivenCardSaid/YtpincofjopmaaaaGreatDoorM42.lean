/-
  The chapter's example: what the table of its three classes answers.
  Conditions: as each text of it says.
-/
import Derived.Test.YtpincofjopmaaaaGreatDoorM41
import Derived.Test.YtpincofjopmaaaaGreatDoorM25
import Derived.Test.YtpincofjopmaaaaGreatDoorM24
import Derived.Test.YtpincofjopmaaaaGreatDoorM27
set_option maxHeartbeats 8000000
set_option maxRecDepth 100000
namespace Go.Proofs.YtpincofjopmaaaaGreatDoor
open Go.RowKit
def exA : Cls := ⟨[65], [79, 98, 106, 101, 99, 116], [], false, false, false, [⟨[120], [105, 110, 116], false⟩, ⟨[116], [116, 101, 120, 116], true⟩], []⟩
def exB : Cls := ⟨[66], [65], [], false, false, false, [], []⟩
def exCC : Cls := ⟨[67], [65], [], false, false, false, [], []⟩
def exT : List Cls := [exA, exB, exCC]
theorem exT_e : ∀ c ∈ exT, c.e = 0 := by decide +kernel
theorem exT_held : ∀ c ∈ exT, c.held := by
  intro c hc m hm
  simp [exT, exA, exB, exCC] at hc
  rcases hc with rfl | rfl | rfl <;> simp at hm
theorem exT_fit : ∀ c ∈ exT, c.Fit := by
  intro c hc
  simp [exT] at hc
  rcases hc with rfl | rfl | rfl
  · exact ⟨by simp [exA, strOk], by simp [exA, strOk], by simp [exA], fun f hf => by simp [exA] at hf; rcases hf with rfl | rfl <;> simp [strOk], by simp [exA], by simp [exA], by simp [exA], by simp [exA]⟩
  · exact ⟨by simp [exB, strOk], by simp [exB, strOk], by simp [exB], by simp [exB], by simp [exB], by simp [exB], by simp [exB], by simp [exB]⟩
  · exact ⟨by simp [exCC, strOk], by simp [exCC, strOk], by simp [exCC], by simp [exCC], by simp [exCC], by simp [exCC], by simp [exCC], by simp [exCC]⟩
theorem exT_names : ∀ k c, exT[k]? = some c → placeE (enteredE exT k) c.name = none := by
  intro k c h
  match k, h with
  | 0, h => obtain rfl := Option.some.inj h; decide +kernel
  | 1, h => obtain rfl := Option.some.inj h; decide +kernel
  | 2, h => obtain rfl := Option.some.inj h; decide +kernel
  | k + 3, h => simp [exT] at h
theorem exT_ups : ∀ c ∈ exT, (upE (allE0 exT) c.sup).isSome = true := by decide +kernel
theorem exT_likes : ∀ c ∈ exT, likesOk (allE0 exT) c.like = true := by decide +kernel
theorem exT_loops : firstT (loopedP (newT exT) (newT exT).length).loop < 0 := by decide +kernel
theorem exT_checks : ∀ x ∈ orderP (newT exT) (newT exT).length, chkT (newT exT) x = 0 := by decide +kernel
theorem exT_good {w : World} {e : Ending} {w' : World} (h : NewG exT w e w') : NewOk exT ∧ ∃ T mb B, e = .returned (.tuple #[.pointer (some ⟨T, 0, none⟩), .int .i64 0, .int .i64 0]) ∧ Tb w.heap.size w' T mb B (newT exT) (newT exT).length ∧ Below w.heap.size w w' := by
  rcases h with ⟨i, z, h, _⟩ | h
  · exfalso
    rcases h with ⟨k, c, _, hc, _, hn, _⟩ | ⟨_, ⟨k, c, _, hc, _, hn, _⟩ | ⟨_, ⟨k, c, _, hc, hn, _⟩ | ⟨_, ⟨hn, _⟩ | ⟨_, k, x, hx, _, _, hn, _⟩⟩⟩⟩
    · exact hn (exT_e c (List.mem_of_getElem? hc))
    · rw [exT_names k c hc] at hn; cases hn
    · rcases hn with ⟨_, hn⟩ | ⟨_, _, hn⟩
      · have := exT_ups c (List.mem_of_getElem? hc); rw [hn] at this; cases this
      · have := exT_likes c (List.mem_of_getElem? hc); rw [hn] at this; cases this
    · have := exT_loops; omega
    · exact hn (exT_checks x (List.mem_of_getElem? hx))
  · exact h
theorem exT_j1 : joinE (newT exT) [66] [67] = [65] := by decide +kernel
theorem exT_j2 : joinE (newT exT) [66] [66, 91, 93] = [79, 98, 106, 101, 99, 116] := by decide +kernel
theorem exT_j3 : joinE (newT exT) [105, 110, 116] [65] = [] := by decide +kernel
theorem exT_p1 : printE (newT exT) [65] = [65, 40, 41, 32, 120, 58, 105, 110, 116, 46] := by decide +kernel
theorem exT_p2 : printE (newT exT) [66] = [66, 40, 65, 40, 41, 32, 120, 58, 105, 110, 116, 46, 41, 46] := by decide +kernel
theorem exT_s : subE (newT exT) [66] [65] = true := by decide +kernel
theorem exT_o : objE (newT exT) [66] = true := by decide +kernel
theorem exT_f : (placeF (newT exT) [66] [116]) = some 1 := by decide +kernel
theorem src_two {α : Type} {n : Nat} {R : ElemRel α} {w : World} {b : Nat} {t : TypeId} (x y : α) (u v : Value) (hu : R Anyw w x u) (hv : R Anyw w y v) (hs : u.cells.size = n) (hs2 : v.cells.size = n) (hb : w.heap[b]? = some (.cells (u.cells ++ v.cells) t (0, 0))) : Src n R Anyw w (.slice (some ⟨b, 0, none⟩) 2 2) [x, y] := by
  refine .inr ⟨b, 0, 2, rfl, ⟨trivial, lt_of_block hb, by simp, by decide⟩, fun k z hz => ?_⟩
  match k, hz with
  | 0, hz =>
    simp at hz
    subst hz
    refine ⟨u, hu, hs, fun j q hj => ?_⟩
    have hjl := cells_lt hs hj
    simp only [Nat.zero_mul, Nat.zero_add]
    unfold World.cell?
    rw [hb]
    show (u.cells ++ v.cells)[j]? = some q
    rw [Array.getElem?_append_left (by omega)]
    exact hj
  | 1, hz =>
    simp at hz
    subst hz
    refine ⟨v, hv, hs2, fun j q hj => ?_⟩
    rw [Nat.one_mul, Nat.zero_add]
    unfold World.cell?
    rw [hb]
    show (u.cells ++ v.cells)[n + j]? = some q
    rw [Array.getElem?_append_right (by omega), hs, Nat.add_sub_cancel_left]
    exact hj
  | k + 2, hz => simp at hz
theorem src_three {α : Type} {n : Nat} {R : ElemRel α} {w : World} {b : Nat} {t : TypeId} (x y z : α) (u v s : Value) (hu : R Anyw w x u) (hv : R Anyw w y v) (hz : R Anyw w z s) (h1 : u.cells.size = n) (h2 : v.cells.size = n) (h3 : s.cells.size = n) (hb : w.heap[b]? = some (.cells (u.cells ++ v.cells ++ s.cells) t (0, 0))) : Src n R Anyw w (.slice (some ⟨b, 0, none⟩) 3 3) [x, y, z] := by
  refine .inr ⟨b, 0, 3, rfl, ⟨trivial, lt_of_block hb, by simp, by decide⟩, fun k c hc => ?_⟩
  match k, hc with
  | 0, hc =>
    simp at hc
    subst hc
    refine ⟨u, hu, h1, fun j q hj => ?_⟩
    have hjl := cells_lt h1 hj
    simp only [Nat.zero_mul, Nat.zero_add]
    unfold World.cell?
    rw [hb]
    show (u.cells ++ v.cells ++ s.cells)[j]? = some q
    rw [Array.getElem?_append_left (by simp; omega), Array.getElem?_append_left (by omega)]
    exact hj
  | 1, hc =>
    simp at hc
    subst hc
    refine ⟨v, hv, h2, fun j q hj => ?_⟩
    have hjl := cells_lt h2 hj
    rw [Nat.one_mul, Nat.zero_add]
    unfold World.cell?
    rw [hb]
    show (u.cells ++ v.cells ++ s.cells)[n + j]? = some q
    rw [Array.getElem?_append_left (by simp; omega), Array.getElem?_append_right (by omega), h1, Nat.add_sub_cancel_left]
    exact hj
  | 2, hc =>
    simp at hc
    subst hc
    refine ⟨s, hz, h3, fun j q hj => ?_⟩
    unfold World.cell?
    rw [hb]
    show (u.cells ++ v.cells ++ s.cells)[0 + 2 * n + j]? = some q
    rw [Array.getElem?_append_right (by simp; omega), Array.size_append, h1, h2, show 0 + 2 * n + j - (n + n) = j by omega]
    exact hj
  | k + 3, hc => simp at hc
def ThreeG (w : World) (e : Ending) (w' : World) : Prop := ∃ v, e = .returned v ∧ Src 8 ClsR Anyw w' v exT ∧ Below w.heap.size w w'
theorem three_any (w : World) : Calls Tryz.prog 58 #[] w (ThreeG w) := by
  unfold ThreeG
  go_enter Tryz.func58, Tryz.ntmps58
  go_wp2_with fail
  go_ret
  have hF : ∀ o : Obj, ((w.alloc (.cells #[.string ⟨#[120]⟩, .string ⟨#[105, 110, 116]⟩, .bool false, .string ⟨#[116]⟩, .string ⟨#[116, 101, 120, 116]⟩, .bool true] 62)).alloc o).heap[w.heap.size]? = some (.cells #[.string ⟨#[120]⟩, .string ⟨#[105, 110, 116]⟩, .bool false, .string ⟨#[116]⟩, .string ⟨#[116, 101, 120, 116]⟩, .bool true] 62 (0, 0)) := fun o => ((Only.refl (fun _ => False) _).alloc _).heap (heap_alloc_new w _) id
  refine ⟨_, rfl, src_three exA exB exCC
    (.agg #[.string ⟨#[65]⟩, .string ⟨#[79, 98, 106, 101, 99, 116]⟩, .slice none 0 0, .bool false, .bool false, .bool false, .slice (some ⟨w.heap.size, 0, none⟩) 2 2, .slice none 0 0])
    (.agg #[.string ⟨#[66]⟩, .string ⟨#[65]⟩, .slice none 0 0, .bool false, .bool false, .bool false, .slice none 0 0, .slice none 0 0])
    (.agg #[.string ⟨#[67]⟩, .string ⟨#[65]⟩, .slice none 0 0, .bool false, .bool false, .bool false, .slice none 0 0, .slice none 0 0])
    ⟨_, _, _, rfl, Src.nil, src_two _ _ (fldV ⟨[120], [105, 110, 116], false⟩) (fldV ⟨[116], [116, 101, 120, 116], true⟩) rfl rfl rfl rfl (hF _), Src.nil⟩
    ⟨_, _, _, rfl, Src.nil, Src.nil, Src.nil⟩ ⟨_, _, _, rfl, Src.nil, Src.nil, Src.nil⟩ rfl rfl rfl ((heap_alloc_new' (w.alloc _) _ _ (by simp)).trans rfl), below_alloc (below_alloc (Below.refl _ _) _) _⟩
theorem NewOk.acyc {cs : List Cls} (h : NewOk cs) : Acyc (newT cs) := acyc_of (loopedP_flag (by have := h.lined.len; rw [newT_len]; omega) (fun c d hd => h.lined.par c d hd) h.lined.self) h.loops
theorem NewOk.shape {cs : List Cls} (h : NewOk cs) : Shape (newT cs) := h.lined.shape h.acyc
theorem awake6_any (w : World) (hF : FaultTab w) (hC : CT w) :
    Calls Tryz.prog 22 #[] w (Said true w) := by
  have HF := Lib.hid hF
  have HC := Lib.hid hC
  clear hF hC
  go_enter Tryz.func22, Tryz.ntmps22
  go_wp2_with fail
  with_reducible refine (three_any w).mono ?_
  unfold ThreeG
  rintro e w1 ⟨v, rfl, hs, hb1⟩
  have HN := Lib.hid (new_any exT v w1 hs (HF.out.keep hb1) (HC.out.keep hb1) exT_fit exT_held (by decide))
  have HB1 := Lib.hid hb1
  clear hs hb1
  go_wp2_with fail
  with_reducible refine HN.out.mono ?_
  rintro e w2 h
  obtain ⟨ok, T, mb, B, rfl, tb, hb2⟩ := exT_good h
  have HSH := Lib.hid ok.shape
  have HT := Lib.hid tb.tab
  have HB2 := Lib.hid (HB1.out.trans (hb2.mono HB1.out.size))
  clear h ok tb hb2 HN
  have HJ0 : Hid (∀ W, Below w2.heap.size w2 W → Calls Tryz.prog 34 #[.pointer (some ⟨T, 0, none⟩), .string ⟨#[66]⟩, .string ⟨#[67]⟩] W (fun e w' => e = .returned (.string ⟨#[65]⟩) ∧ Below W.heap.size W w')) := Lib.hid (fun W hW => by
    have h := joint_any HT.out HSH.out [66] [67] W hW (by decide) (by decide)
    rw [exT_j1] at h
    exact h)
  have HJ1 : Hid (∀ W, Below w2.heap.size w2 W → Calls Tryz.prog 34 #[.pointer (some ⟨T, 0, none⟩), .string ⟨#[66]⟩, .string ⟨#[66, 91, 93]⟩] W (fun e w' => e = .returned (.string ⟨#[79, 98, 106, 101, 99, 116]⟩) ∧ Below W.heap.size W w')) := Lib.hid (fun W hW => by
    have h := joint_any HT.out HSH.out [66] [66, 91, 93] W hW (by decide) (by decide)
    rw [exT_j2] at h
    exact h)
  have HJ2 : Hid (∀ W, Below w2.heap.size w2 W → Calls Tryz.prog 34 #[.pointer (some ⟨T, 0, none⟩), .string ⟨#[105, 110, 116]⟩, .string ⟨#[65]⟩] W (fun e w' => e = .returned (.string ⟨#[]⟩) ∧ Below W.heap.size W w')) := Lib.hid (fun W hW => by
    have h := joint_any HT.out HSH.out [105, 110, 116] [65] W hW (by decide) (by decide)
    rw [exT_j3] at h
    exact h)
  have HP0 : Hid (∀ W, Below w2.heap.size w2 W → Calls Tryz.prog 28 #[.pointer (some ⟨T, 0, none⟩), .string ⟨#[65]⟩] W (fun e w' => e = .returned (.string ⟨#[65, 40, 41, 32, 120, 58, 105, 110, 116, 46]⟩) ∧ Below W.heap.size W w')) := Lib.hid (fun W hW => by
    have h := printt_any HT.out HSH.out [65] W hW (by decide) (by rw [exT_p1]; decide)
    rw [exT_p1] at h
    exact h)
  have HP1 : Hid (∀ W, Below w2.heap.size w2 W → Calls Tryz.prog 28 #[.pointer (some ⟨T, 0, none⟩), .string ⟨#[66]⟩] W (fun e w' => e = .returned (.string ⟨#[66, 40, 65, 40, 41, 32, 120, 58, 105, 110, 116, 46, 41, 46]⟩) ∧ Below W.heap.size W w')) := Lib.hid (fun W hW => by
    have h := printt_any HT.out HSH.out [66] W hW (by decide) (by rw [exT_p2]; decide)
    rw [exT_p2] at h
    exact h)
  have HS0 : Hid (∀ W, Below w2.heap.size w2 W → Calls Tryz.prog 30 #[.pointer (some ⟨T, 0, none⟩), .string ⟨#[66]⟩, .string ⟨#[65]⟩] W (fun e w' => e = .returned (.bool true) ∧ Below W.heap.size W w')) := Lib.hid (fun W hW => by
    have h := sub_any HT.out HSH.out [66] [65] W hW (by decide) (by decide)
    rw [exT_s] at h
    exact h)
  have HS1 : Hid (∀ W, Below w2.heap.size w2 W → Calls Tryz.prog 38 #[.pointer (some ⟨T, 0, none⟩), .string ⟨#[66]⟩, .string ⟨#[116]⟩] W (fun e w' => e = .returned (.int .i64 1) ∧ Below W.heap.size W w')) := Lib.hid (fun W hW => by
    have h := placet_any HT.out HSH.out [66] [116] W hW (by decide)
    rw [exT_f] at h
    exact h)
  have HS2 : Hid (∀ W, Below w2.heap.size w2 W → Calls Tryz.prog 27 #[.pointer (some ⟨T, 0, none⟩), .string ⟨#[66]⟩] W (fun e w' => e = .returned (.bool true) ∧ Below W.heap.size W w')) := Lib.hid (fun W hW => by
    have h := objects_any HT.out [66] W hW (by decide)
    rw [exT_o] at h
    exact h)
  have hz2 : Below w2.heap.size w2 w2 := Below.refl _ _
  have HZ := Lib.hid hz2
  clear hz2 HT HSH
  go_wp2_with fail
  with_reducible refine (HJ0.out w2 HZ.out).mono ?_
  rintro e v0 ⟨rfl, hb⟩
  have HZ0 := Lib.hid (HZ.out.trans (hb.mono HZ.out.size))
  clear hb HZ
  rename Hid (Below w2.heap.size w2 v0) => HZ
  go_wp2_with fail
  with_reducible refine (HJ1.out v0 HZ.out).mono ?_
  rintro e v1 ⟨rfl, hb⟩
  have HZ1 := Lib.hid (HZ.out.trans (hb.mono HZ.out.size))
  clear hb HZ
  rename Hid (Below w2.heap.size w2 v1) => HZ
  go_wp2_with fail
  with_reducible refine (HJ2.out v1 HZ.out).mono ?_
  rintro e v2 ⟨rfl, hb⟩
  have HZ2 := Lib.hid (HZ.out.trans (hb.mono HZ.out.size))
  clear hb HZ
  rename Hid (Below w2.heap.size w2 v2) => HZ
  go_wp2_with fail
  with_reducible refine (HP0.out v2 HZ.out).mono ?_
  rintro e v3 ⟨rfl, hb⟩
  have HZ3 := Lib.hid (HZ.out.trans (hb.mono HZ.out.size))
  clear hb HZ
  rename Hid (Below w2.heap.size w2 v3) => HZ
  go_wp2_with fail
  with_reducible refine (HP1.out v3 HZ.out).mono ?_
  rintro e v4 ⟨rfl, hb⟩
  have HZ4 := Lib.hid (HZ.out.trans (hb.mono HZ.out.size))
  clear hb HZ
  rename Hid (Below w2.heap.size w2 v4) => HZ
  go_wp2_with fail
  with_reducible refine (HS0.out v4 HZ.out).mono ?_
  rintro e v5 ⟨rfl, hb⟩
  have HZ5 := Lib.hid (HZ.out.trans (hb.mono HZ.out.size))
  clear hb HZ
  rename Hid (Below w2.heap.size w2 v5) => HZ
  go_wp2_with fail
  with_reducible refine (HS1.out v5 HZ.out).mono ?_
  rintro e v6 ⟨rfl, hb⟩
  have HZ6 := Lib.hid (HZ.out.trans (hb.mono HZ.out.size))
  clear hb HZ
  rename Hid (Below w2.heap.size w2 v6) => HZ
  go_wp2_with fail
  with_reducible refine (HS2.out v6 HZ.out).mono ?_
  rintro e v7 ⟨rfl, hb⟩
  have HZ7 := Lib.hid (HZ.out.trans (hb.mono HZ.out.size))
  clear hb HZ
  rename Hid (Below w2.heap.size w2 v7) => HZ
  go_wp2_with fail
  with_reducible refine (given_any v7 (HF.out.keep (HB2.out.trans (HZ.out.mono HB2.out.size)))).mono ?_
  unfold GivenG
  rintro e w9 ⟨gv, us, rfl, ht, hb⟩
  obtain ⟨go, gc, rfl⟩ := ht.shape
  rw [show givenL.length = 8 from rfl]
  have HW := Lib.hid ((HB2.out.trans (HZ.out.mono HB2.out.size)).trans (hb.mono (HB2.out.trans (HZ.out.mono HB2.out.size)).size))
  clear ht hb
  go_wp2
  go_ret
  exact ⟨rfl, HW.out⟩
end Go.Proofs.YtpincofjopmaaaaGreatDoor
