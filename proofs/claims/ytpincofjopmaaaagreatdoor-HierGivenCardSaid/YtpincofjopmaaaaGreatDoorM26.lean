/-
  Copies of slices: what slices.Clone makes, and rows of cells that are stored anew.
  Conditions: none; these are laws of worlds.
  The contracts of slices.Clone and of package hier's copyList at the five sorts of elements.
  Conditions: the elements lie in memory that was there before; at most 2^20 of them; the function makes of each element a new one that is alike.
  The contracts of the functions that copy a field, an instruction and a catch.
  Conditions: their texts are at most 2^48 bytes long.
-/
import Derived.Test.YtpincofjopmaaaaGreatDoorM25
import Derived.Lib.SliceRun
namespace Go.Proofs.YtpincofjopmaaaaGreatDoor
open Go.RowKit
/-- What slices.Clone makes of a slice. -/
def Cloned {α : Type} (n : Nat) (R : ElemRel α) (A : Nat → Prop) (lo : Nat) (w : World) (v : Value) (l : List α) : Prop :=
  (l = [] ∧ ∃ ao c, v = .slice ao 0 c) ∨
  ∃ g c, v = .slice (some ⟨g, 0, none⟩) l.length c ∧ lo ≤ g ∧ g < w.heap.size ∧ l.length ≤ c ∧ c ≤ 9223372036854775807 ∧ (∀ m, w.frozen? ⟨g, m, none⟩ = false) ∧
    ∀ (j : Nat) (x : α), l[j]? = some x → ∃ u, R A w x u ∧ u.cells.size = n ∧ ∀ (i : Nat) c, u.cells[i]? = some c → w.cell? ⟨g, j * n + i, none⟩ = some c
section
variable {P : Program} {w : World}
theorem clone_run {α : Type} {n : Nat} (hn : 0 < n) {R : ElemRel α} (hR : Stays R) {A : Nat → Prop} {sv : Value} {l : List α} (hone : ∀ x v, R A w x v → ∀ u ∈ v.cells.toList, u.oneCell' = true) (t ty e : TypeId) (i : TypeInfo) (z : Value) (bytes : Nat)
    (ht : P.underlying t = some (.slice e)) (hi : P.info? e = some i) (hz : i.zero = some z) (hsize : i.size = n) (hby : i.bytes = bytes) (hzs : z.cells.size = n) (hs : Src n R A w sv l) (hlim : l.length * bytes ≤ 140737488355328) (h63 : l.length ≤ 9223372036854775807) :
    ∃ v' w', (Builtin.append_ #[t, t] ty #[.slice (some ⟨w.heap.size, 0, none⟩) 0 0, sv]).run P (w.alloc (.cells #[] e)) = .ok v' w' ∧ Cloned n R A w.heap.size w' v' l ∧ Below w.heap.size w w' := by
  have hb0 : Below w.heap.size w (w.alloc (.cells #[] e)) := (Below.refl _ w).alloc (Nat.le_refl _) _
  have hown : (w.alloc (.cells #[] e)).ownsRow 0 e n (.slice (some ⟨w.heap.size, 0, none⟩) 0 0) 0 [] :=
    ⟨by simp, .inr ⟨w.heap.size, 0, #[], rfl, Nat.zero_le _, heap_alloc_new w _, Nat.le_refl _, Nat.zero_le _, by simp, by simp⟩⟩
  rcases hs with ⟨ao, cp, rfl, rfl⟩ | ⟨b, o, cap, rfl, _, hc⟩
  · exact ⟨_, _, run_append_empty _ t ty e i n ht hi _ 0 [] hown ao cp, .inl ⟨rfl, _, _, rfl⟩, hb0⟩
  · have ho := Only.ofBelow (S := fun _ => False) hb0
    obtain ⟨us, hul, hu⟩ := Src.vals hc
    have husz : ∀ u ∈ us, u.cells.size = n := fun u hm => by
      obtain ⟨k, hk⟩ := List.getElem?_of_mem hm
      obtain ⟨_, _, _, h, _⟩ := hu k u hk
      exact h
    have hcl : (cellsL us).length = l.length * n := by rw [cellsL_len us husz, hul]
    have hnews := Src.cells us hu hn
    have h1 : ∀ u ∈ cellsL us, u.oneCell' = true := fun q hq => by
      unfold cellsL at hq
      obtain ⟨u, hum, hqu⟩ := List.mem_flatMap.1 hq
      obtain ⟨k, hk⟩ := List.getElem?_of_mem hum
      obtain ⟨x, _, hx, _, _⟩ := hu k u hk
      exact hone x u hx q hqu
    obtain ⟨v', w', hr, h2, h3⟩ := run_append_fine (P := P) (w.alloc (.cells #[] e)) t ty e i z n bytes ht hi hz hsize hby hzs hn _ 0 [] hown ⟨b, o, none⟩ l.length cap (cellsL us) hcl (fun j q hq => ho.cell (hnews j q hq) id) h1 (by unfold maxLen; omega) (by rw [Nat.zero_add]; exact hlim)
    rw [Nat.zero_add, List.nil_append] at h2
    have hbw : Below w.heap.size w w' := hb0.trans (h3.only.below hb0.size (fun k hk => by simp [Value.ownBlock] at hk; omega))
    refine ⟨v', w', hr, ?_, hbw⟩
    have hlo : ∀ g, v'.ownBlock = some g → w.heap.size ≤ g := fun g hg => by
      rcases h3.came with e1 | e1
      · rw [e1] at hg
        simp [Value.ownBlock] at hg
        omega
      · have h5 := e1 g hg
        have h6 := hb0.size
        omega
    rcases h2.2 with ⟨hv, h0⟩ | ⟨g, c, cur, rfl, _, hg, hnc, hcm, hcs, htake⟩
    · exact .inl ⟨List.length_eq_zero_iff.1 h0, _, _, hv⟩
    · refine .inr ⟨g, c, rfl, hlo g rfl, lt_of_block hg, hnc, hcm, fun m => ?_, fun j x hx => ?_⟩
      · unfold World.frozen?
        rw [hg]
        simp
      · have hj : j < l.length := (List.getElem?_eq_some_iff.1 hx).1
        have huk : us[j]? = some us[j] := List.getElem?_eq_getElem (by omega)
        obtain ⟨y, hy, hyR, hys, _⟩ := hu j _ huk
        rw [hx] at hy
        obtain rfl := Option.some.inj hy
        refine ⟨us[j], hR.keep hyR (Only.ofBelow (S := fun _ => False) hbw) (fun _ _ => id), hys, fun q c hq => ?_⟩
        have hqn := cells_lt hys hq
        have := h2.cells (g := g) rfl (j * n + q) c (by rw [cellsL_at us j q _ husz huk hqn]; exact hq)
        rw [Addr.add_mid, Nat.zero_add] at this
        exact this
end
/-- Cells stored one behind the other. -/
noncomputable def setRow (w : World) (g o : Nat) : List Value → World
  | [] => w
  | c :: r => setRow (w.setCell ⟨g, o, none⟩ c) g (o + 1) r
theorem setRow_only {S : Nat → Prop} {a : World} : ∀ (vs : List Value) (w : World) (g o : Nat), Only S a w → S g → Only S a (setRow w g o vs)
  | [], _, _, _, h, _ => h
  | c :: r, _, g, o, h, hg => setRow_only r _ g (o + 1) (h.setCell (p := ⟨g, o, none⟩) hg c) hg
theorem setRow_far : ∀ (vs : List Value) (w : World) (g o m : Nat) (v : Value), w.cell? ⟨g, m, none⟩ = some v → (m < o ∨ o + vs.length ≤ m) → (setRow w g o vs).cell? ⟨g, m, none⟩ = some v
  | [], _, _, _, _, _, h, _ => h
  | c :: r, w, g, o, m, v, h, hm => by
    unfold setRow
    simp only [List.length_cons] at hm
    refine setRow_far r _ g (o + 1) m v ?_ (by omega)
    rw [World.cell?_setCell_other w ⟨g, o, none⟩ ⟨g, m, none⟩ c (by intro e; injection e with _ e; omega)]
    exact h
theorem setRow_at : ∀ (vs : List Value) (w : World) (g o i : Nat) (u : Value), (∀ m, m < vs.length → ∃ v, w.cell? ⟨g, o + m, none⟩ = some v) → vs[i]? = some u → (setRow w g o vs).cell? ⟨g, o + i, none⟩ = some u
  | [], _, _, _, i, _, _, hi => by simp at hi
  | c :: r, w, g, o, 0, u, hw, hi => by
    simp at hi
    subst hi
    unfold setRow
    refine setRow_far r _ g (o + 1) (o + 0) c ?_ (by omega)
    obtain ⟨v, hv⟩ := hw 0 (by simp)
    exact World.cell?_setCell_same w _ _ hv
  | c :: r, w, g, o, i + 1, u, hw, hi => by
    unfold setRow
    have := setRow_at r (w.setCell ⟨g, o, none⟩ c) g (o + 1) i u (fun m hm => by
      obtain ⟨v, hv⟩ := hw (m + 1) (by simp; omega)
      refine ⟨v, ?_⟩
      rw [World.cell?_setCell_other w ⟨g, o, none⟩ ⟨g, o + 1 + m, none⟩ c (by intro e; injection e with _ e; omega), show o + 1 + m = o + (m + 1) from by omega]
      exact hv) (by simpa using hi)
    rw [show o + (i + 1) = o + 1 + i from by omega]
    exact this
theorem setRow_frozen : ∀ (vs : List Value) (w : World) (g o : Nat) (a : Addr), (setRow w g o vs).frozen? a = w.frozen? a
  | [], _, _, _, _ => rfl
  | c :: r, w, g, o, a => by
    unfold setRow
    rw [setRow_frozen r _ g (o + 1) a]
    exact World.frozen?_setCell _ _ _ _
/-- A row at block g, of which the first k elements are new. -/
structure CInv {α : Type} (n : Nat) (R : ElemRel α) (lo g k : Nat) (w : World) (l : List α) : Prop where
  lt : g < w.heap.size
  ge : lo ≤ g
  free : ∀ m, w.frozen? ⟨g, m, none⟩ = false
  at_ : ∀ (j : Nat) (x : α), l[j]? = some x → ∃ u, (if j < k then R (fun i => lo ≤ i ∧ i ≠ g) w x u else R (fun i => i < lo) w x u) ∧ u.cells.size = n ∧ ∀ (i : Nat) c, u.cells[i]? = some c → w.cell? ⟨g, j * n + i, none⟩ = some c
theorem CInv.only {α : Type} {n : Nat} {R : ElemRel α} (hR : Stays R) {lo g k : Nat} {w w' : World} {l : List α} (h : CInv n R lo g k w l) (hb : Below w.heap.size w w') : CInv n R lo g k w' l := by
  have ho := Only.ofBelow (S := fun _ => False) hb
  refine ⟨Nat.lt_of_lt_of_le h.lt hb.size, h.ge, fun m => ?_, fun j x hx => ?_⟩
  · rw [hb.frozen (p := ⟨g, m, none⟩) h.lt]
    exact h.free m
  · obtain ⟨u, h1, h2, h3⟩ := h.at_ j x hx
    refine ⟨u, ?_, h2, fun i c hc => ho.cell (h3 i c hc) id⟩
    split
    · rename_i hjk
      rw [if_pos hjk] at h1
      exact hR.keep h1 ho (fun _ _ => id)
    · rename_i hjk
      rw [if_neg hjk] at h1
      exact hR.keep h1 ho (fun _ _ => id)
theorem CInv.elem {α : Type} {n : Nat} {R : ElemRel α} {lo g k : Nat} {w : World} {l : List α} {x : α} (h : CInv n R lo g k w l) (hx : l[k]? = some x) : ∃ u, R (fun i => i < lo) w x u ∧ u.cells.size = n ∧ ∀ (i : Nat) c, u.cells[i]? = some c → w.cell? ⟨g, k * n + i, none⟩ = some c := by
  obtain ⟨u, h1, h2, h3⟩ := h.at_ k x hx
  rw [if_neg (Nat.lt_irrefl k)] at h1
  exact ⟨u, h1, h2, h3⟩
theorem CInv.store {α : Type} {n : Nat} {R : ElemRel α} (hR : Stays R) {lo g k : Nat} {w w' : World} {l : List α} {x : α} {u : Value} (h : CInv n R lo g k w l) (hb : Below w.heap.size w w') (hx : l[k]? = some x)
    (hu : R (fun i => w.heap.size ≤ i) w' x u) (hs : u.cells.size = n) : CInv n R lo g (k + 1) (setRow w' g (k * n) u.cells.toList) l := by
  have h' := h.only hR hb
  have ho : Only (fun i => i = g) w' (setRow w' g (k * n) u.cells.toList) := setRow_only _ _ _ _ (Only.refl _ _) rfl
  have hlen : u.cells.toList.length = n := by rw [Array.length_toList, hs]
  refine ⟨Nat.lt_of_lt_of_le h'.lt ho.size, h.ge, fun m => by rw [setRow_frozen]; exact h'.free m, fun j y hy => ?_⟩
  obtain ⟨v, h1, h2, h3⟩ := h'.at_ j y hy
  by_cases hjk : j = k
  · subst hjk
    rw [hx] at hy
    obtain rfl := Option.some.inj hy
    refine ⟨u, ?_, hs, fun i c hc => ?_⟩
    · rw [if_pos (Nat.lt_succ_self j)]
      have hlt := h.lt
      have hlo := h.ge
      exact hR.keep (hR.mono hu (fun i _ hi => show lo ≤ i ∧ i ≠ g from ⟨by omega, by omega⟩)) ho (fun i hi => hi.2)
    · refine setRow_at u.cells.toList w' g (j * n) i c (fun m hm => ?_) (by rw [Array.getElem?_toList]; exact hc)
      have hm' : m < v.cells.size := by rw [h2]; omega
      exact ⟨_, h3 m v.cells[m] (Array.getElem?_eq_getElem hm')⟩
  · refine ⟨v, ?_, h2, fun i c hc => ?_⟩
    · by_cases hj : j < k
      · rw [if_pos hj] at h1
        rw [if_pos (by omega)]
        exact hR.keep h1 ho (fun i hi => hi.2)
      · rw [if_neg hj] at h1
        rw [if_neg (by omega)]
        have hlo := h.ge
        exact hR.keep h1 ho (fun i (hi : i < lo) (q : i = g) => by omega)
    · have hin := cells_lt h2 hc
      refine setRow_far _ _ _ _ _ _ (h3 i c hc) ?_
      rw [hlen]
      rcases Nat.lt_or_ge j k with hj | hj
      · left
        have := Nat.mul_le_mul_right n (show j + 1 ≤ k by omega)
        rw [Nat.succ_mul] at this
        omega
      · right
        have := Nat.mul_le_mul_right n (show k + 1 ≤ j by omega)
        rw [Nat.succ_mul] at this
        omega
theorem CInv.done {α : Type} {n : Nat} {R : ElemRel α} (hR : Stays R) {lo g c : Nat} {w : World} {l : List α} (h : CInv n R lo g l.length w l) (h1 : l.length ≤ c) (h2 : c ≤ 9223372036854775807) : Src n R (fun i => lo ≤ i) w (.slice (some ⟨g, 0, none⟩) l.length c) l := by
  refine .inr ⟨g, 0, c, rfl, ⟨h.ge, h.lt, h1, h2⟩, fun k x hx => ?_⟩
  obtain ⟨u, q1, q2, q3⟩ := h.at_ k x hx
  rw [if_pos (List.getElem?_eq_some_iff.1 hx).1] at q1
  exact ⟨u, hR.mono q1 (fun i _ hi => hi.1), q2, fun j v hv => by rw [Nat.zero_add]; exact q3 j v hv⟩
theorem Cloned.inv {α : Type} {n : Nat} {R : ElemRel α} {lo g : Nat} {w : World} {l : List α} (hlo : lo ≤ g) (hlt : g < w.heap.size) (hf : ∀ m, w.frozen? ⟨g, m, none⟩ = false)
    (h : ∀ (j : Nat) (x : α), l[j]? = some x → ∃ u, R (fun i => i < lo) w x u ∧ u.cells.size = n ∧ ∀ (i : Nat) c, u.cells[i]? = some c → w.cell? ⟨g, j * n + i, none⟩ = some c) : CInv n R lo g 0 w l :=
  ⟨hlt, hlo, hf, fun j x hx => by obtain ⟨u, h1, h2⟩ := h j x hx; exact ⟨u, by rw [if_neg (Nat.not_lt_zero j)]; exact h1, h2⟩⟩
end Go.Proofs.YtpincofjopmaaaaGreatDoor
namespace Go.Proofs.YtpincofjopmaaaaGreatDoor
open Go.RowKit
def ClonedG {α : Type} (n : Nat) (R : ElemRel α) (A : Nat → Prop) (l : List α) (w : World) (e : Ending) (w' : World) : Prop := ∃ v', e = .returned v' ∧ Cloned n R A w.heap.size w' v' l ∧ Below w.heap.size w w'
/-- What a function handed to copyList does. -/
def CopyF {α : Type} (R : ElemRel α) (F : Nat) (caps : Array Value) (l : List α) (w : World) : Prop :=
  ∀ (x : α) (v : Value) (W : World), x ∈ l → Below w.heap.size w W → R (fun i => i < w.heap.size) W x v → Calls Tryz.prog F (#[v] ++ caps) W (fun e W' => ∃ v', e = .returned v' ∧ R (fun i => W.heap.size ≤ i) W' x v' ∧ Below W.heap.size W W')
def CopiedG {α : Type} (n : Nat) (R : ElemRel α) (l : List α) (w : World) (e : Ending) (w' : World) : Prop := ∃ v', e = .returned v' ∧ Src n R (fun i => w.heap.size ≤ i) w' v' l ∧ Below w.heap.size w w'
theorem infoc_str : (Tryz.prog.info? 9).map (fun i => (i.zero, i.size, i.bytes)) = some (some (.string ⟨#[]⟩), 1, 16) := by kernel_rfl
theorem onec_str {A : Nat → Prop} {w : World} : ∀ x v, StrR A w x v → ∀ u ∈ v.cells.toList, u.oneCell' = true := fun x v h u hu => by
  obtain rfl := h
  simp [Value.cells] at hu
  rcases hu with rfl <;> rfl
set_option maxHeartbeats 1000000 in
set_option maxRecDepth 100000 in
theorem sclonel_str {A : Nat → Prop} (l : List (List UInt8)) (sv : Value) (w : World) (hs : Src 1 StrR A w sv l) (hl : l.length ≤ 1048576) : Calls Tryz.prog 196 #[sv] w (ClonedG 1 StrR A l w) := by
  obtain ⟨j0, hji, hz0, hz1, hz2⟩ := info_parts infoc_str
  have HRUN := Lib.hid (fun ty => clone_run (P := Tryz.prog) (w := w) (n := 1) (by decide) StrR.st (fun x v h => onec_str x v h) 22 ty 9 j0 _ 16 Tryz.underlying22 hji hz0 hz1 hz2 rfl hs (by omega) (by omega))
  obtain ⟨so, sc, rfl⟩ := hs.shape
  cases so with
  | none =>
    have hl0 : l = [] := by
      rcases hs with ⟨_, _, _, h⟩ | ⟨b, o, c, h, _⟩
      · exact h
      · simp at h
    subst hl0
    have hq := fun n c => Lib.run_eql_slice_nil (P := Tryz.prog) w 22 9 none n c 0 0 Tryz.underlying22
    clear HRUN hs hji hz0 hz1 hz2 hl
    go_enter Tryz.func196, Tryz.ntmps196
    go_wp2
    go_ret
    exact ⟨_, rfl, .inl ⟨rfl, _, _, rfl⟩, Below.refl _ _⟩
  | some a =>
    generalize hn0 : l.length = n0 at HRUN ⊢
    have hq := Lib.run_eql_slice_nil (P := Tryz.prog) w 22 9 (some a) n0 sc 0 0 Tryz.underlying22
    clear hn0
    clear hs hji hz0 hz1 hz2 hl
    go_enter Tryz.func196, Tryz.ntmps196
    go_wp2_with (at_builtin; (obtain ⟨v', w', hrun, hc, hb⟩ := HRUN.out _; refine wpList_append_eq rfl _ _ 22 rfl _ _ v' w' rfl rfl hrun ?_))
    go_ret
    exact ⟨_, rfl, hc, hb⟩
set_option maxHeartbeats 4000000 in
set_option maxRecDepth 100000 in
theorem copyl_str {A : Nat → Prop} (F : Nat) (caps : Array Value) (he : ∀ args w, (callFunc F args).run Tryz.prog w = .ok (.enter F args) w) (l : List (List UInt8)) (sv : Value) (w : World) (hs0 : Src 1 StrR A w sv l) (hl : l.length ≤ 1048576) (hF : CopyF StrR F caps l w) :
    Calls Tryz.prog 124 #[sv, .func (.func F) #[] caps] w (CopiedG 1 StrR l w) := by
  have hs : Src 1 StrR (fun i => i < w.heap.size) w sv l := StrR.st.srcMono hs0 (fun k hk _ => hk)
  have HC := Lib.hid (sclonel_str l sv w hs hl)
  unfold ClonedG at HC
  obtain ⟨so, sc, rfl⟩ := hs.shape
  have HE := Lib.hid he
  have HF := Lib.hid hF
  clear he hF hs hs0
  obtain ⟨n0, hn0⟩ : ∃ n0, n0 = l.length := ⟨_, rfl⟩
  have HN := Lib.hid hn0
  rw [← hn0] at HC hl ⊢
  clear hn0
  go_enter Tryz.func124, Tryz.ntmps124
  go_wp2_with fail
  refine HC.out.mono ?_
  rintro e w1 ⟨v1, rfl, hc, hb⟩
  have HB := Lib.hid hb
  clear hb HC
  rcases hc with ⟨hl0, ao, c, rfl⟩ | ⟨g, c, rfl, hg1, hg2, hg3, hg4, hg5, hg6⟩
  · have HL0 := Lib.hid hl0
    clear hl0
    go_wp2
    go_loopw [11] (fun v8 wr => v8 = .int .i64 0 ∧ wr = w1) (fun _ _ => 0)
    case atStart => exact ⟨rfl, rfl⟩
    case round =>
      obtain ⟨rfl, rfl⟩ := hrel
      go_wp2
      go_ret
      exact ⟨_, rfl, by rw [HL0.out]; exact .inl ⟨_, _, rfl, rfl⟩, HB.out⟩
  have hinv : CInv 1 StrR w.heap.size g 0 w1 l := Cloned.inv hg1 hg2 hg5 hg6
  have HI := Lib.hid hinv
  have HG3 := Lib.hid hg3
  have HG4 := Lib.hid hg4
  clear hinv hg1 hg2 hg3 hg4 hg5 hg6
  rw [← HN.out]
  go_wp2
  go_loopw [11] (fun v8 wr => ∃ k : Nat, k ≤ n0 ∧ v8 = .int .i64 k ∧ CInv 1 StrR w.heap.size g k wr l ∧ Below w.heap.size w wr) (fun v8 _ => n0 - (intOf v8).toNat)
  case atStart => exact ⟨0, Nat.zero_le _, rfl, HI.out, HB.out⟩
  case round =>
    obtain ⟨k, hk, rfl, hinv, hbw⟩ := hrel
    have HI2 := Lib.hid hinv
    have HBW := Lib.hid hbw
    clear hinv hbw HI
    by_cases hlt : k < n0
    · have hkl : k < l.length := by have := HN.out; omega
      obtain ⟨x, hx⟩ : ∃ x, l[k]? = some x := ⟨_, List.getElem?_eq_getElem hkl⟩
      have HX := Lib.hid hx
      obtain ⟨u, hu, hus, hcl⟩ := HI2.out.elem hx
      have hu0 := hu
      obtain rfl := hu
      have d0 : wr.cell? ⟨g, k, none⟩ = some (.string (S x)) := by have q := hcl 0 (.string (S x)) rfl; rw [Nat.mul_one] at q; exact q
      have hbA : Below wr.heap.size wr wr := Below.refl _ _
      have HBA := Lib.hid hbA
      have HFX : Hid (Calls Tryz.prog F (#[.string (S x)] ++ caps) wr (fun e W' => ∃ v', e = .returned v' ∧ StrR (fun i => wr.heap.size ≤ i) W' x v' ∧ Below wr.heap.size wr W')) := Lib.hid (HF.out x _ wr (List.mem_of_getElem? hx) (HBW.out.trans (hbA.mono HBW.out.size)) (StrR.st.keep hu0 (Only.ofBelow (S := fun _ => False) hbA) (fun _ _ => id)))
      clear hx hcl hus hkl hbA hu0
      have hk0 : (0 : Int) ≤ k := by omega
      have hkn : (k : Int) < (n0 : Int) := by omega
      have he := HE.out
      go_wp2_with fail
      refine HFX.out.mono ?_
      rintro e w2 ⟨v', rfl, hv, hb2⟩
      have HB2 := Lib.hid (HBA.out.trans (hb2.mono HBA.out.size))
      have HR2 : Hid (StrR (fun i => wr.heap.size ≤ i) w2 x v') := Lib.hid (StrR.st.mono hv (fun i _ hi => Nat.le_trans HBA.out.size hi))
      obtain rfl := hv
      have hinv2 := HI2.out.only StrR.st HB2.out
      have hst := HI2.out.store StrR.st HB2.out HX.out HR2.out rfl
      have hbf : Below w.heap.size w (setRow w2 g (k * 1) [.string (S x)]) := (HBW.out.trans (HB2.out.mono HBW.out.size)).trans ((setRow_only (S := fun i => i = g) _ _ _ _ (Only.refl _ _) rfl).below (Nat.le_trans HBW.out.size HB2.out.size) (fun i hi => by subst hi; exact HI2.out.ge))
      have HST := Lib.hid hst
      have HBF := Lib.hid hbf
      obtain ⟨u2, hu2, hus2, hcl2⟩ := hinv2.elem HX.out
      obtain rfl := hu2
      have e0 : w2.cell? ⟨g, k, none⟩ = some (.string (S x)) := by have q := hcl2 0 (.string (S x)) rfl; rw [Nat.mul_one] at q; exact q
      have f0 : w2.frozen? ⟨g, k, none⟩ = false := hinv2.free _
      clear he hinv2 hst hbf hb2 hcl2 hus2 HFX d0
      go_wp2
      go_roundw
      case rel =>
        have q1 : CInv 1 StrR w.heap.size g (k + 1) (w2.setCell ⟨g, k, none⟩ (.string (S x))) l := by have q := HST.out; rw [Nat.mul_one] at q; exact q
        have q2 : Below w.heap.size w (w2.setCell ⟨g, k, none⟩ (.string (S x))) := by have q := HBF.out; rw [Nat.mul_one] at q; exact q
        exact ⟨k + 1, by omega, by go_num, q1, q2⟩
      case measure => simp [intOf]; omega
    · obtain rfl : n0 = k := by omega
      go_wp2
      go_ret
      refine ⟨_, rfl, ?_, HBW.out⟩
      have h1 := HI2.out
      rw [HN.out] at h1 ⊢
      exact h1.done StrR.st HG3.out HG4.out
theorem infoc_fld : (Tryz.prog.info? 62).map (fun i => (i.zero, i.size, i.bytes)) = some (some (.agg #[.string ⟨#[]⟩, .string ⟨#[]⟩, .bool false]), 3, 40) := by kernel_rfl
theorem onec_fld {A : Nat → Prop} {w : World} : ∀ x v, FldR A w x v → ∀ u ∈ v.cells.toList, u.oneCell' = true := fun x v h u hu => by
  obtain rfl := h
  simp [Value.cells] at hu
  rcases hu with rfl | rfl | rfl <;> rfl
set_option maxHeartbeats 1000000 in
set_option maxRecDepth 100000 in
theorem sclonel_fld {A : Nat → Prop} (l : List (Fld)) (sv : Value) (w : World) (hs : Src 3 FldR A w sv l) (hl : l.length ≤ 1048576) : Calls Tryz.prog 197 #[sv] w (ClonedG 3 FldR A l w) := by
  obtain ⟨j0, hji, hz0, hz1, hz2⟩ := info_parts infoc_fld
  have HRUN := Lib.hid (fun ty => clone_run (P := Tryz.prog) (w := w) (n := 3) (by decide) FldR.st (fun x v h => onec_fld x v h) 23 ty 62 j0 _ 40 Tryz.underlying23 hji hz0 hz1 hz2 rfl hs (by omega) (by omega))
  obtain ⟨so, sc, rfl⟩ := hs.shape
  cases so with
  | none =>
    have hl0 : l = [] := by
      rcases hs with ⟨_, _, _, h⟩ | ⟨b, o, c, h, _⟩
      · exact h
      · simp at h
    subst hl0
    have hq := fun n c => Lib.run_eql_slice_nil (P := Tryz.prog) w 23 62 none n c 0 0 Tryz.underlying23
    clear HRUN hs hji hz0 hz1 hz2 hl
    go_enter Tryz.func197, Tryz.ntmps197
    go_wp2
    go_ret
    exact ⟨_, rfl, .inl ⟨rfl, _, _, rfl⟩, Below.refl _ _⟩
  | some a =>
    generalize hn0 : l.length = n0 at HRUN ⊢
    have hq := Lib.run_eql_slice_nil (P := Tryz.prog) w 23 62 (some a) n0 sc 0 0 Tryz.underlying23
    clear hn0
    clear hs hji hz0 hz1 hz2 hl
    go_enter Tryz.func197, Tryz.ntmps197
    go_wp2_with (at_builtin; (obtain ⟨v', w', hrun, hc, hb⟩ := HRUN.out _; refine wpList_append_eq rfl _ _ 23 rfl _ _ v' w' rfl rfl hrun ?_))
    go_ret
    exact ⟨_, rfl, hc, hb⟩
set_option maxHeartbeats 4000000 in
set_option maxRecDepth 100000 in
theorem copyl_fld {A : Nat → Prop} (F : Nat) (caps : Array Value) (he : ∀ args w, (callFunc F args).run Tryz.prog w = .ok (.enter F args) w) (l : List (Fld)) (sv : Value) (w : World) (hs0 : Src 3 FldR A w sv l) (hl : l.length ≤ 1048576) (hF : CopyF FldR F caps l w) :
    Calls Tryz.prog 125 #[sv, .func (.func F) #[] caps] w (CopiedG 3 FldR l w) := by
  have hs : Src 3 FldR (fun i => i < w.heap.size) w sv l := FldR.st.srcMono hs0 (fun k hk _ => hk)
  have HC := Lib.hid (sclonel_fld l sv w hs hl)
  unfold ClonedG at HC
  obtain ⟨so, sc, rfl⟩ := hs.shape
  have HE := Lib.hid he
  have HF := Lib.hid hF
  clear he hF hs hs0
  obtain ⟨n0, hn0⟩ : ∃ n0, n0 = l.length := ⟨_, rfl⟩
  have HN := Lib.hid hn0
  rw [← hn0] at HC hl ⊢
  clear hn0
  go_enter Tryz.func125, Tryz.ntmps125
  go_wp2_with fail
  refine HC.out.mono ?_
  rintro e w1 ⟨v1, rfl, hc, hb⟩
  have HB := Lib.hid hb
  clear hb HC
  rcases hc with ⟨hl0, ao, c, rfl⟩ | ⟨g, c, rfl, hg1, hg2, hg3, hg4, hg5, hg6⟩
  · have HL0 := Lib.hid hl0
    clear hl0
    go_wp2
    go_loopw [11] (fun v8 wr => v8 = .int .i64 0 ∧ wr = w1) (fun _ _ => 0)
    case atStart => exact ⟨rfl, rfl⟩
    case round =>
      obtain ⟨rfl, rfl⟩ := hrel
      go_wp2
      go_ret
      exact ⟨_, rfl, by rw [HL0.out]; exact .inl ⟨_, _, rfl, rfl⟩, HB.out⟩
  have hinv : CInv 3 FldR w.heap.size g 0 w1 l := Cloned.inv hg1 hg2 hg5 hg6
  have HI := Lib.hid hinv
  have HG3 := Lib.hid hg3
  have HG4 := Lib.hid hg4
  clear hinv hg1 hg2 hg3 hg4 hg5 hg6
  rw [← HN.out]
  go_wp2
  go_loopw [11] (fun v8 wr => ∃ k : Nat, k ≤ n0 ∧ v8 = .int .i64 k ∧ CInv 3 FldR w.heap.size g k wr l ∧ Below w.heap.size w wr) (fun v8 _ => n0 - (intOf v8).toNat)
  case atStart => exact ⟨0, Nat.zero_le _, rfl, HI.out, HB.out⟩
  case round =>
    obtain ⟨k, hk, rfl, hinv, hbw⟩ := hrel
    have HI2 := Lib.hid hinv
    have HBW := Lib.hid hbw
    clear hinv hbw HI
    by_cases hlt : k < n0
    · have hkl : k < l.length := by have := HN.out; omega
      obtain ⟨x, hx⟩ : ∃ x, l[k]? = some x := ⟨_, List.getElem?_eq_getElem hkl⟩
      have HX := Lib.hid hx
      obtain ⟨u, hu, hus, hcl⟩ := HI2.out.elem hx
      have hu0 := hu
      obtain rfl := hu
      have d0 : wr.cell? ⟨g, k * 3, none⟩ = some (.string (S x.name)) := hcl 0 (.string (S x.name)) rfl
      have d1 : wr.cell? ⟨g, k * 3 + 1, none⟩ = some (.string (S x.kind)) := hcl 1 (.string (S x.kind)) rfl
      have d2 : wr.cell? ⟨g, k * 3 + 2, none⟩ = some (.bool x.tr) := hcl 2 (.bool x.tr) rfl
      have hbA : Below wr.heap.size wr (wr.alloc (.cells #[.string (S x.name), .string (S x.kind), .bool x.tr] 62)) := below_alloc (Below.refl _ _) _
      have HBA := Lib.hid hbA
      have HFX : Hid (Calls Tryz.prog F (#[.agg #[.string (S x.name), .string (S x.kind), .bool x.tr]] ++ caps) (wr.alloc (.cells #[.string (S x.name), .string (S x.kind), .bool x.tr] 62)) (fun e W' => ∃ v', e = .returned v' ∧ FldR (fun i => (wr.alloc (.cells #[.string (S x.name), .string (S x.kind), .bool x.tr] 62)).heap.size ≤ i) W' x v' ∧ Below (wr.alloc (.cells #[.string (S x.name), .string (S x.kind), .bool x.tr] 62)).heap.size (wr.alloc (.cells #[.string (S x.name), .string (S x.kind), .bool x.tr] 62)) W')) := Lib.hid (HF.out x _ (wr.alloc (.cells #[.string (S x.name), .string (S x.kind), .bool x.tr] 62)) (List.mem_of_getElem? hx) (HBW.out.trans (hbA.mono HBW.out.size)) (FldR.st.keep hu0 (Only.ofBelow (S := fun _ => False) hbA) (fun _ _ => id)))
      clear hx hcl hus hkl hbA hu0
      have hk0 : (0 : Int) ≤ k := by omega
      have hkn : (k : Int) < (n0 : Int) := by omega
      have he := HE.out
      go_wp2_with fail
      refine HFX.out.mono ?_
      rintro e w2 ⟨v', rfl, hv, hb2⟩
      have HB2 := Lib.hid (HBA.out.trans (hb2.mono HBA.out.size))
      have HR2 : Hid (FldR (fun i => wr.heap.size ≤ i) w2 x v') := Lib.hid (FldR.st.mono hv (fun i _ hi => Nat.le_trans HBA.out.size hi))
      obtain rfl := hv
      have hinv2 := HI2.out.only FldR.st HB2.out
      have hst := HI2.out.store FldR.st HB2.out HX.out HR2.out rfl
      have hbf : Below w.heap.size w (setRow w2 g (k * 3) [.string (S x.name), .string (S x.kind), .bool x.tr]) := (HBW.out.trans (HB2.out.mono HBW.out.size)).trans ((setRow_only (S := fun i => i = g) _ _ _ _ (Only.refl _ _) rfl).below (Nat.le_trans HBW.out.size HB2.out.size) (fun i hi => by subst hi; exact HI2.out.ge))
      have HST := Lib.hid hst
      have HBF := Lib.hid hbf
      obtain ⟨u2, hu2, hus2, hcl2⟩ := hinv2.elem HX.out
      obtain rfl := hu2
      have e0 : w2.cell? ⟨g, k * 3, none⟩ = some (.string (S x.name)) := hcl2 0 (.string (S x.name)) rfl
      have f0 : w2.frozen? ⟨g, k * 3, none⟩ = false := hinv2.free _
      have e1 : w2.cell? ⟨g, k * 3 + 1, none⟩ = some (.string (S x.kind)) := hcl2 1 (.string (S x.kind)) rfl
      have f1 : w2.frozen? ⟨g, k * 3 + 1, none⟩ = false := hinv2.free _
      have e2 : w2.cell? ⟨g, k * 3 + 2, none⟩ = some (.bool x.tr) := hcl2 2 (.bool x.tr) rfl
      have f2 : w2.frozen? ⟨g, k * 3 + 2, none⟩ = false := hinv2.free _
      clear he hinv2 hst hbf hb2 hcl2 hus2 HFX d0 d1 d2
      go_wp2
      go_roundw
      case rel =>
        have q1 : CInv 3 FldR w.heap.size g (k + 1) (((w2.setCell ⟨g, k * 3, none⟩ (.string (S x.name))).setCell ⟨g, k * 3 + 1, none⟩ (.string (S x.kind))).setCell ⟨g, k * 3 + 2, none⟩ (.bool x.tr)) l := HST.out
        have q2 : Below w.heap.size w (((w2.setCell ⟨g, k * 3, none⟩ (.string (S x.name))).setCell ⟨g, k * 3 + 1, none⟩ (.string (S x.kind))).setCell ⟨g, k * 3 + 2, none⟩ (.bool x.tr)) := HBF.out
        exact ⟨k + 1, by omega, by go_num, q1, q2⟩
      case measure => simp [intOf]; omega
    · obtain rfl : n0 = k := by omega
      go_wp2
      go_ret
      refine ⟨_, rfl, ?_, HBW.out⟩
      have h1 := HI2.out
      rw [HN.out] at h1 ⊢
      exact h1.done FldR.st HG3.out HG4.out
theorem infoc_ins : (Tryz.prog.info? 70).map (fun i => (i.zero, i.size, i.bytes)) = some (some (.agg #[.string ⟨#[]⟩, .int .i64 0, .string ⟨#[]⟩]), 3, 40) := by kernel_rfl
theorem onec_ins {A : Nat → Prop} {w : World} : ∀ x v, InsR A w x v → ∀ u ∈ v.cells.toList, u.oneCell' = true := fun x v h u hu => by
  obtain rfl := h
  simp [Value.cells] at hu
  rcases hu with rfl | rfl | rfl <;> rfl
set_option maxHeartbeats 1000000 in
set_option maxRecDepth 100000 in
theorem sclonel_ins {A : Nat → Prop} (l : List (Ins)) (sv : Value) (w : World) (hs : Src 3 InsR A w sv l) (hl : l.length ≤ 1048576) : Calls Tryz.prog 202 #[sv] w (ClonedG 3 InsR A l w) := by
  obtain ⟨j0, hji, hz0, hz1, hz2⟩ := info_parts infoc_ins
  have HRUN := Lib.hid (fun ty => clone_run (P := Tryz.prog) (w := w) (n := 3) (by decide) InsR.st (fun x v h => onec_ins x v h) 30 ty 70 j0 _ 40 Tryz.underlying30 hji hz0 hz1 hz2 rfl hs (by omega) (by omega))
  obtain ⟨so, sc, rfl⟩ := hs.shape
  cases so with
  | none =>
    have hl0 : l = [] := by
      rcases hs with ⟨_, _, _, h⟩ | ⟨b, o, c, h, _⟩
      · exact h
      · simp at h
    subst hl0
    have hq := fun n c => Lib.run_eql_slice_nil (P := Tryz.prog) w 30 70 none n c 0 0 Tryz.underlying30
    clear HRUN hs hji hz0 hz1 hz2 hl
    go_enter Tryz.func202, Tryz.ntmps202
    go_wp2
    go_ret
    exact ⟨_, rfl, .inl ⟨rfl, _, _, rfl⟩, Below.refl _ _⟩
  | some a =>
    generalize hn0 : l.length = n0 at HRUN ⊢
    have hq := Lib.run_eql_slice_nil (P := Tryz.prog) w 30 70 (some a) n0 sc 0 0 Tryz.underlying30
    clear hn0
    clear hs hji hz0 hz1 hz2 hl
    go_enter Tryz.func202, Tryz.ntmps202
    go_wp2_with (at_builtin; (obtain ⟨v', w', hrun, hc, hb⟩ := HRUN.out _; refine wpList_append_eq rfl _ _ 30 rfl _ _ v' w' rfl rfl hrun ?_))
    go_ret
    exact ⟨_, rfl, hc, hb⟩
set_option maxHeartbeats 4000000 in
set_option maxRecDepth 100000 in
theorem copyl_ins {A : Nat → Prop} (F : Nat) (caps : Array Value) (he : ∀ args w, (callFunc F args).run Tryz.prog w = .ok (.enter F args) w) (l : List (Ins)) (sv : Value) (w : World) (hs0 : Src 3 InsR A w sv l) (hl : l.length ≤ 1048576) (hF : CopyF InsR F caps l w) :
    Calls Tryz.prog 136 #[sv, .func (.func F) #[] caps] w (CopiedG 3 InsR l w) := by
  have hs : Src 3 InsR (fun i => i < w.heap.size) w sv l := InsR.st.srcMono hs0 (fun k hk _ => hk)
  have HC := Lib.hid (sclonel_ins l sv w hs hl)
  unfold ClonedG at HC
  obtain ⟨so, sc, rfl⟩ := hs.shape
  have HE := Lib.hid he
  have HF := Lib.hid hF
  clear he hF hs hs0
  obtain ⟨n0, hn0⟩ : ∃ n0, n0 = l.length := ⟨_, rfl⟩
  have HN := Lib.hid hn0
  rw [← hn0] at HC hl ⊢
  clear hn0
  go_enter Tryz.func136, Tryz.ntmps136
  go_wp2_with fail
  refine HC.out.mono ?_
  rintro e w1 ⟨v1, rfl, hc, hb⟩
  have HB := Lib.hid hb
  clear hb HC
  rcases hc with ⟨hl0, ao, c, rfl⟩ | ⟨g, c, rfl, hg1, hg2, hg3, hg4, hg5, hg6⟩
  · have HL0 := Lib.hid hl0
    clear hl0
    go_wp2
    go_loopw [11] (fun v8 wr => v8 = .int .i64 0 ∧ wr = w1) (fun _ _ => 0)
    case atStart => exact ⟨rfl, rfl⟩
    case round =>
      obtain ⟨rfl, rfl⟩ := hrel
      go_wp2
      go_ret
      exact ⟨_, rfl, by rw [HL0.out]; exact .inl ⟨_, _, rfl, rfl⟩, HB.out⟩
  have hinv : CInv 3 InsR w.heap.size g 0 w1 l := Cloned.inv hg1 hg2 hg5 hg6
  have HI := Lib.hid hinv
  have HG3 := Lib.hid hg3
  have HG4 := Lib.hid hg4
  clear hinv hg1 hg2 hg3 hg4 hg5 hg6
  rw [← HN.out]
  go_wp2
  go_loopw [11] (fun v8 wr => ∃ k : Nat, k ≤ n0 ∧ v8 = .int .i64 k ∧ CInv 3 InsR w.heap.size g k wr l ∧ Below w.heap.size w wr) (fun v8 _ => n0 - (intOf v8).toNat)
  case atStart => exact ⟨0, Nat.zero_le _, rfl, HI.out, HB.out⟩
  case round =>
    obtain ⟨k, hk, rfl, hinv, hbw⟩ := hrel
    have HI2 := Lib.hid hinv
    have HBW := Lib.hid hbw
    clear hinv hbw HI
    by_cases hlt : k < n0
    · have hkl : k < l.length := by have := HN.out; omega
      obtain ⟨x, hx⟩ : ∃ x, l[k]? = some x := ⟨_, List.getElem?_eq_getElem hkl⟩
      have HX := Lib.hid hx
      obtain ⟨u, hu, hus, hcl⟩ := HI2.out.elem hx
      have hu0 := hu
      obtain rfl := hu
      have d0 : wr.cell? ⟨g, k * 3, none⟩ = some (.string (S x.op)) := hcl 0 (.string (S x.op)) rfl
      have d1 : wr.cell? ⟨g, k * 3 + 1, none⟩ = some (.int .i64 x.n) := hcl 1 (.int .i64 x.n) rfl
      have d2 : wr.cell? ⟨g, k * 3 + 2, none⟩ = some (.string (S x.s)) := hcl 2 (.string (S x.s)) rfl
      have hbA : Below wr.heap.size wr (wr.alloc (.cells #[.string (S x.op), .int .i64 x.n, .string (S x.s)] 70)) := below_alloc (Below.refl _ _) _
      have HBA := Lib.hid hbA
      have HFX : Hid (Calls Tryz.prog F (#[.agg #[.string (S x.op), .int .i64 x.n, .string (S x.s)]] ++ caps) (wr.alloc (.cells #[.string (S x.op), .int .i64 x.n, .string (S x.s)] 70)) (fun e W' => ∃ v', e = .returned v' ∧ InsR (fun i => (wr.alloc (.cells #[.string (S x.op), .int .i64 x.n, .string (S x.s)] 70)).heap.size ≤ i) W' x v' ∧ Below (wr.alloc (.cells #[.string (S x.op), .int .i64 x.n, .string (S x.s)] 70)).heap.size (wr.alloc (.cells #[.string (S x.op), .int .i64 x.n, .string (S x.s)] 70)) W')) := Lib.hid (HF.out x _ (wr.alloc (.cells #[.string (S x.op), .int .i64 x.n, .string (S x.s)] 70)) (List.mem_of_getElem? hx) (HBW.out.trans (hbA.mono HBW.out.size)) (InsR.st.keep hu0 (Only.ofBelow (S := fun _ => False) hbA) (fun _ _ => id)))
      clear hx hcl hus hkl hbA hu0
      have hk0 : (0 : Int) ≤ k := by omega
      have hkn : (k : Int) < (n0 : Int) := by omega
      have he := HE.out
      go_wp2_with fail
      refine HFX.out.mono ?_
      rintro e w2 ⟨v', rfl, hv, hb2⟩
      have HB2 := Lib.hid (HBA.out.trans (hb2.mono HBA.out.size))
      have HR2 : Hid (InsR (fun i => wr.heap.size ≤ i) w2 x v') := Lib.hid (InsR.st.mono hv (fun i _ hi => Nat.le_trans HBA.out.size hi))
      obtain rfl := hv
      have hinv2 := HI2.out.only InsR.st HB2.out
      have hst := HI2.out.store InsR.st HB2.out HX.out HR2.out rfl
      have hbf : Below w.heap.size w (setRow w2 g (k * 3) [.string (S x.op), .int .i64 x.n, .string (S x.s)]) := (HBW.out.trans (HB2.out.mono HBW.out.size)).trans ((setRow_only (S := fun i => i = g) _ _ _ _ (Only.refl _ _) rfl).below (Nat.le_trans HBW.out.size HB2.out.size) (fun i hi => by subst hi; exact HI2.out.ge))
      have HST := Lib.hid hst
      have HBF := Lib.hid hbf
      obtain ⟨u2, hu2, hus2, hcl2⟩ := hinv2.elem HX.out
      obtain rfl := hu2
      have e0 : w2.cell? ⟨g, k * 3, none⟩ = some (.string (S x.op)) := hcl2 0 (.string (S x.op)) rfl
      have f0 : w2.frozen? ⟨g, k * 3, none⟩ = false := hinv2.free _
      have e1 : w2.cell? ⟨g, k * 3 + 1, none⟩ = some (.int .i64 x.n) := hcl2 1 (.int .i64 x.n) rfl
      have f1 : w2.frozen? ⟨g, k * 3 + 1, none⟩ = false := hinv2.free _
      have e2 : w2.cell? ⟨g, k * 3 + 2, none⟩ = some (.string (S x.s)) := hcl2 2 (.string (S x.s)) rfl
      have f2 : w2.frozen? ⟨g, k * 3 + 2, none⟩ = false := hinv2.free _
      clear he hinv2 hst hbf hb2 hcl2 hus2 HFX d0 d1 d2
      go_wp2
      go_roundw
      case rel =>
        have q1 : CInv 3 InsR w.heap.size g (k + 1) (((w2.setCell ⟨g, k * 3, none⟩ (.string (S x.op))).setCell ⟨g, k * 3 + 1, none⟩ (.int .i64 x.n)).setCell ⟨g, k * 3 + 2, none⟩ (.string (S x.s))) l := HST.out
        have q2 : Below w.heap.size w (((w2.setCell ⟨g, k * 3, none⟩ (.string (S x.op))).setCell ⟨g, k * 3 + 1, none⟩ (.int .i64 x.n)).setCell ⟨g, k * 3 + 2, none⟩ (.string (S x.s))) := HBF.out
        exact ⟨k + 1, by omega, by go_num, q1, q2⟩
      case measure => simp [intOf]; omega
    · obtain rfl : n0 = k := by omega
      go_wp2
      go_ret
      refine ⟨_, rfl, ?_, HBW.out⟩
      have h1 := HI2.out
      rw [HN.out] at h1 ⊢
      exact h1.done InsR.st HG3.out HG4.out
theorem infoc_cat : (Tryz.prog.info? 141).map (fun i => (i.zero, i.size, i.bytes)) = some (some (.agg #[.int .i64 0, .int .i64 0, .int .i64 0, .string ⟨#[]⟩]), 4, 40) := by kernel_rfl
theorem onec_cat {A : Nat → Prop} {w : World} : ∀ x v, CatR A w x v → ∀ u ∈ v.cells.toList, u.oneCell' = true := fun x v h u hu => by
  obtain rfl := h
  simp [Value.cells] at hu
  rcases hu with rfl | rfl | rfl | rfl <;> rfl
set_option maxHeartbeats 1000000 in
set_option maxRecDepth 100000 in
theorem sclonel_cat {A : Nat → Prop} (l : List (Cat)) (sv : Value) (w : World) (hs : Src 4 CatR A w sv l) (hl : l.length ≤ 1048576) : Calls Tryz.prog 203 #[sv] w (ClonedG 4 CatR A l w) := by
  obtain ⟨j0, hji, hz0, hz1, hz2⟩ := info_parts infoc_cat
  have HRUN := Lib.hid (fun ty => clone_run (P := Tryz.prog) (w := w) (n := 4) (by decide) CatR.st (fun x v h => onec_cat x v h) 31 ty 141 j0 _ 40 Tryz.underlying31 hji hz0 hz1 hz2 rfl hs (by omega) (by omega))
  obtain ⟨so, sc, rfl⟩ := hs.shape
  cases so with
  | none =>
    have hl0 : l = [] := by
      rcases hs with ⟨_, _, _, h⟩ | ⟨b, o, c, h, _⟩
      · exact h
      · simp at h
    subst hl0
    have hq := fun n c => Lib.run_eql_slice_nil (P := Tryz.prog) w 31 141 none n c 0 0 Tryz.underlying31
    clear HRUN hs hji hz0 hz1 hz2 hl
    go_enter Tryz.func203, Tryz.ntmps203
    go_wp2
    go_ret
    exact ⟨_, rfl, .inl ⟨rfl, _, _, rfl⟩, Below.refl _ _⟩
  | some a =>
    generalize hn0 : l.length = n0 at HRUN ⊢
    have hq := Lib.run_eql_slice_nil (P := Tryz.prog) w 31 141 (some a) n0 sc 0 0 Tryz.underlying31
    clear hn0
    clear hs hji hz0 hz1 hz2 hl
    go_enter Tryz.func203, Tryz.ntmps203
    go_wp2_with (at_builtin; (obtain ⟨v', w', hrun, hc, hb⟩ := HRUN.out _; refine wpList_append_eq rfl _ _ 31 rfl _ _ v' w' rfl rfl hrun ?_))
    go_ret
    exact ⟨_, rfl, hc, hb⟩
set_option maxHeartbeats 4000000 in
set_option maxRecDepth 100000 in
theorem copyl_cat {A : Nat → Prop} (F : Nat) (caps : Array Value) (he : ∀ args w, (callFunc F args).run Tryz.prog w = .ok (.enter F args) w) (l : List (Cat)) (sv : Value) (w : World) (hs0 : Src 4 CatR A w sv l) (hl : l.length ≤ 1048576) (hF : CopyF CatR F caps l w) :
    Calls Tryz.prog 138 #[sv, .func (.func F) #[] caps] w (CopiedG 4 CatR l w) := by
  have hs : Src 4 CatR (fun i => i < w.heap.size) w sv l := CatR.st.srcMono hs0 (fun k hk _ => hk)
  have HC := Lib.hid (sclonel_cat l sv w hs hl)
  unfold ClonedG at HC
  obtain ⟨so, sc, rfl⟩ := hs.shape
  have HE := Lib.hid he
  have HF := Lib.hid hF
  clear he hF hs hs0
  obtain ⟨n0, hn0⟩ : ∃ n0, n0 = l.length := ⟨_, rfl⟩
  have HN := Lib.hid hn0
  rw [← hn0] at HC hl ⊢
  clear hn0
  go_enter Tryz.func138, Tryz.ntmps138
  go_wp2_with fail
  refine HC.out.mono ?_
  rintro e w1 ⟨v1, rfl, hc, hb⟩
  have HB := Lib.hid hb
  clear hb HC
  rcases hc with ⟨hl0, ao, c, rfl⟩ | ⟨g, c, rfl, hg1, hg2, hg3, hg4, hg5, hg6⟩
  · have HL0 := Lib.hid hl0
    clear hl0
    go_wp2
    go_loopw [11] (fun v8 wr => v8 = .int .i64 0 ∧ wr = w1) (fun _ _ => 0)
    case atStart => exact ⟨rfl, rfl⟩
    case round =>
      obtain ⟨rfl, rfl⟩ := hrel
      go_wp2
      go_ret
      exact ⟨_, rfl, by rw [HL0.out]; exact .inl ⟨_, _, rfl, rfl⟩, HB.out⟩
  have hinv : CInv 4 CatR w.heap.size g 0 w1 l := Cloned.inv hg1 hg2 hg5 hg6
  have HI := Lib.hid hinv
  have HG3 := Lib.hid hg3
  have HG4 := Lib.hid hg4
  clear hinv hg1 hg2 hg3 hg4 hg5 hg6
  rw [← HN.out]
  go_wp2
  go_loopw [11] (fun v8 wr => ∃ k : Nat, k ≤ n0 ∧ v8 = .int .i64 k ∧ CInv 4 CatR w.heap.size g k wr l ∧ Below w.heap.size w wr) (fun v8 _ => n0 - (intOf v8).toNat)
  case atStart => exact ⟨0, Nat.zero_le _, rfl, HI.out, HB.out⟩
  case round =>
    obtain ⟨k, hk, rfl, hinv, hbw⟩ := hrel
    have HI2 := Lib.hid hinv
    have HBW := Lib.hid hbw
    clear hinv hbw HI
    by_cases hlt : k < n0
    · have hkl : k < l.length := by have := HN.out; omega
      obtain ⟨x, hx⟩ : ∃ x, l[k]? = some x := ⟨_, List.getElem?_eq_getElem hkl⟩
      have HX := Lib.hid hx
      obtain ⟨u, hu, hus, hcl⟩ := HI2.out.elem hx
      have hu0 := hu
      obtain rfl := hu
      have d0 : wr.cell? ⟨g, k * 4, none⟩ = some (.int .i64 x.fr) := hcl 0 (.int .i64 x.fr) rfl
      have d1 : wr.cell? ⟨g, k * 4 + 1, none⟩ = some (.int .i64 x.till) := hcl 1 (.int .i64 x.till) rfl
      have d2 : wr.cell? ⟨g, k * 4 + 2, none⟩ = some (.int .i64 x.at_) := hcl 2 (.int .i64 x.at_) rfl
      have d3 : wr.cell? ⟨g, k * 4 + 3, none⟩ = some (.string (S x.cls)) := hcl 3 (.string (S x.cls)) rfl
      have hbA : Below wr.heap.size wr (wr.alloc (.cells #[.int .i64 x.fr, .int .i64 x.till, .int .i64 x.at_, .string (S x.cls)] 141)) := below_alloc (Below.refl _ _) _
      have HBA := Lib.hid hbA
      have HFX : Hid (Calls Tryz.prog F (#[.agg #[.int .i64 x.fr, .int .i64 x.till, .int .i64 x.at_, .string (S x.cls)]] ++ caps) (wr.alloc (.cells #[.int .i64 x.fr, .int .i64 x.till, .int .i64 x.at_, .string (S x.cls)] 141)) (fun e W' => ∃ v', e = .returned v' ∧ CatR (fun i => (wr.alloc (.cells #[.int .i64 x.fr, .int .i64 x.till, .int .i64 x.at_, .string (S x.cls)] 141)).heap.size ≤ i) W' x v' ∧ Below (wr.alloc (.cells #[.int .i64 x.fr, .int .i64 x.till, .int .i64 x.at_, .string (S x.cls)] 141)).heap.size (wr.alloc (.cells #[.int .i64 x.fr, .int .i64 x.till, .int .i64 x.at_, .string (S x.cls)] 141)) W')) := Lib.hid (HF.out x _ (wr.alloc (.cells #[.int .i64 x.fr, .int .i64 x.till, .int .i64 x.at_, .string (S x.cls)] 141)) (List.mem_of_getElem? hx) (HBW.out.trans (hbA.mono HBW.out.size)) (CatR.st.keep hu0 (Only.ofBelow (S := fun _ => False) hbA) (fun _ _ => id)))
      clear hx hcl hus hkl hbA hu0
      have hk0 : (0 : Int) ≤ k := by omega
      have hkn : (k : Int) < (n0 : Int) := by omega
      have he := HE.out
      go_wp2_with fail
      refine HFX.out.mono ?_
      rintro e w2 ⟨v', rfl, hv, hb2⟩
      have HB2 := Lib.hid (HBA.out.trans (hb2.mono HBA.out.size))
      have HR2 : Hid (CatR (fun i => wr.heap.size ≤ i) w2 x v') := Lib.hid (CatR.st.mono hv (fun i _ hi => Nat.le_trans HBA.out.size hi))
      obtain rfl := hv
      have hinv2 := HI2.out.only CatR.st HB2.out
      have hst := HI2.out.store CatR.st HB2.out HX.out HR2.out rfl
      have hbf : Below w.heap.size w (setRow w2 g (k * 4) [.int .i64 x.fr, .int .i64 x.till, .int .i64 x.at_, .string (S x.cls)]) := (HBW.out.trans (HB2.out.mono HBW.out.size)).trans ((setRow_only (S := fun i => i = g) _ _ _ _ (Only.refl _ _) rfl).below (Nat.le_trans HBW.out.size HB2.out.size) (fun i hi => by subst hi; exact HI2.out.ge))
      have HST := Lib.hid hst
      have HBF := Lib.hid hbf
      obtain ⟨u2, hu2, hus2, hcl2⟩ := hinv2.elem HX.out
      obtain rfl := hu2
      have e0 : w2.cell? ⟨g, k * 4, none⟩ = some (.int .i64 x.fr) := hcl2 0 (.int .i64 x.fr) rfl
      have f0 : w2.frozen? ⟨g, k * 4, none⟩ = false := hinv2.free _
      have e1 : w2.cell? ⟨g, k * 4 + 1, none⟩ = some (.int .i64 x.till) := hcl2 1 (.int .i64 x.till) rfl
      have f1 : w2.frozen? ⟨g, k * 4 + 1, none⟩ = false := hinv2.free _
      have e2 : w2.cell? ⟨g, k * 4 + 2, none⟩ = some (.int .i64 x.at_) := hcl2 2 (.int .i64 x.at_) rfl
      have f2 : w2.frozen? ⟨g, k * 4 + 2, none⟩ = false := hinv2.free _
      have e3 : w2.cell? ⟨g, k * 4 + 3, none⟩ = some (.string (S x.cls)) := hcl2 3 (.string (S x.cls)) rfl
      have f3 : w2.frozen? ⟨g, k * 4 + 3, none⟩ = false := hinv2.free _
      clear he hinv2 hst hbf hb2 hcl2 hus2 HFX d0 d1 d2 d3
      go_wp2
      go_roundw
      case rel =>
        have q1 : CInv 4 CatR w.heap.size g (k + 1) ((((w2.setCell ⟨g, k * 4, none⟩ (.int .i64 x.fr)).setCell ⟨g, k * 4 + 1, none⟩ (.int .i64 x.till)).setCell ⟨g, k * 4 + 2, none⟩ (.int .i64 x.at_)).setCell ⟨g, k * 4 + 3, none⟩ (.string (S x.cls))) l := HST.out
        have q2 : Below w.heap.size w ((((w2.setCell ⟨g, k * 4, none⟩ (.int .i64 x.fr)).setCell ⟨g, k * 4 + 1, none⟩ (.int .i64 x.till)).setCell ⟨g, k * 4 + 2, none⟩ (.int .i64 x.at_)).setCell ⟨g, k * 4 + 3, none⟩ (.string (S x.cls))) := HBF.out
        exact ⟨k + 1, by omega, by go_num, q1, q2⟩
      case measure => simp [intOf]; omega
    · obtain rfl : n0 = k := by omega
      go_wp2
      go_ret
      refine ⟨_, rfl, ?_, HBW.out⟩
      have h1 := HI2.out
      rw [HN.out] at h1 ⊢
      exact h1.done CatR.st HG3.out HG4.out
theorem infoc_mth : (Tryz.prog.info? 33).map (fun i => (i.zero, i.size, i.bytes)) = some (some (.agg #[.string ⟨#[]⟩, .slice none 0 0, .string ⟨#[]⟩, .bool false, .int .i64 0, .slice none 0 0, .slice none 0 0]), 7, 120) := by kernel_rfl
theorem onec_mth {A : Nat → Prop} {w : World} : ∀ x v, MthR A w x v → ∀ u ∈ v.cells.toList, u.oneCell' = true := fun x v h u hu => by
  obtain ⟨pv, cv, kv, rfl, ⟨po, pc, rfl⟩, ⟨co, cc, rfl⟩, ⟨ko, kc, rfl⟩⟩ := mth_shape h
  simp [Value.cells] at hu
  rcases hu with rfl | rfl | rfl | rfl | rfl | rfl | rfl <;> rfl
set_option maxHeartbeats 1000000 in
set_option maxRecDepth 100000 in
theorem sclonel_mth {A : Nat → Prop} (l : List (Mth)) (sv : Value) (w : World) (hs : Src 7 MthR A w sv l) (hl : l.length ≤ 1048576) : Calls Tryz.prog 198 #[sv] w (ClonedG 7 MthR A l w) := by
  obtain ⟨j0, hji, hz0, hz1, hz2⟩ := info_parts infoc_mth
  have HRUN := Lib.hid (fun ty => clone_run (P := Tryz.prog) (w := w) (n := 7) (by decide) MthR.st (fun x v h => onec_mth x v h) 24 ty 33 j0 _ 120 Tryz.underlying24 hji hz0 hz1 hz2 rfl hs (by omega) (by omega))
  obtain ⟨so, sc, rfl⟩ := hs.shape
  cases so with
  | none =>
    have hl0 : l = [] := by
      rcases hs with ⟨_, _, _, h⟩ | ⟨b, o, c, h, _⟩
      · exact h
      · simp at h
    subst hl0
    have hq := fun n c => Lib.run_eql_slice_nil (P := Tryz.prog) w 24 33 none n c 0 0 Tryz.underlying24
    clear HRUN hs hji hz0 hz1 hz2 hl
    go_enter Tryz.func198, Tryz.ntmps198
    go_wp2
    go_ret
    exact ⟨_, rfl, .inl ⟨rfl, _, _, rfl⟩, Below.refl _ _⟩
  | some a =>
    generalize hn0 : l.length = n0 at HRUN ⊢
    have hq := Lib.run_eql_slice_nil (P := Tryz.prog) w 24 33 (some a) n0 sc 0 0 Tryz.underlying24
    clear hn0
    clear hs hji hz0 hz1 hz2 hl
    go_enter Tryz.func198, Tryz.ntmps198
    go_wp2_with (at_builtin; (obtain ⟨v', w', hrun, hc, hb⟩ := HRUN.out _; refine wpList_append_eq rfl _ _ 24 rfl _ _ v' w' rfl rfl hrun ?_))
    go_ret
    exact ⟨_, rfl, hc, hb⟩
set_option maxHeartbeats 4000000 in
set_option maxRecDepth 100000 in
theorem copyl_mth {A : Nat → Prop} (F : Nat) (caps : Array Value) (he : ∀ args w, (callFunc F args).run Tryz.prog w = .ok (.enter F args) w) (l : List (Mth)) (sv : Value) (w : World) (hs0 : Src 7 MthR A w sv l) (hl : l.length ≤ 1048576) (hF : CopyF MthR F caps l w) :
    Calls Tryz.prog 127 #[sv, .func (.func F) #[] caps] w (CopiedG 7 MthR l w) := by
  have hs : Src 7 MthR (fun i => i < w.heap.size) w sv l := MthR.st.srcMono hs0 (fun k hk _ => hk)
  have HC := Lib.hid (sclonel_mth l sv w hs hl)
  unfold ClonedG at HC
  obtain ⟨so, sc, rfl⟩ := hs.shape
  have HE := Lib.hid he
  have HF := Lib.hid hF
  clear he hF hs hs0
  obtain ⟨n0, hn0⟩ : ∃ n0, n0 = l.length := ⟨_, rfl⟩
  have HN := Lib.hid hn0
  rw [← hn0] at HC hl ⊢
  clear hn0
  go_enter Tryz.func127, Tryz.ntmps127
  go_wp2_with fail
  refine HC.out.mono ?_
  rintro e w1 ⟨v1, rfl, hc, hb⟩
  have HB := Lib.hid hb
  clear hb HC
  rcases hc with ⟨hl0, ao, c, rfl⟩ | ⟨g, c, rfl, hg1, hg2, hg3, hg4, hg5, hg6⟩
  · have HL0 := Lib.hid hl0
    clear hl0
    go_wp2
    go_loopw [11] (fun v8 wr => v8 = .int .i64 0 ∧ wr = w1) (fun _ _ => 0)
    case atStart => exact ⟨rfl, rfl⟩
    case round =>
      obtain ⟨rfl, rfl⟩ := hrel
      go_wp2
      go_ret
      exact ⟨_, rfl, by rw [HL0.out]; exact .inl ⟨_, _, rfl, rfl⟩, HB.out⟩
  have hinv : CInv 7 MthR w.heap.size g 0 w1 l := Cloned.inv hg1 hg2 hg5 hg6
  have HI := Lib.hid hinv
  have HG3 := Lib.hid hg3
  have HG4 := Lib.hid hg4
  clear hinv hg1 hg2 hg3 hg4 hg5 hg6
  rw [← HN.out]
  go_wp2
  go_loopw [11] (fun v8 wr => ∃ k : Nat, k ≤ n0 ∧ v8 = .int .i64 k ∧ CInv 7 MthR w.heap.size g k wr l ∧ Below w.heap.size w wr) (fun v8 _ => n0 - (intOf v8).toNat)
  case atStart => exact ⟨0, Nat.zero_le _, rfl, HI.out, HB.out⟩
  case round =>
    obtain ⟨k, hk, rfl, hinv, hbw⟩ := hrel
    have HI2 := Lib.hid hinv
    have HBW := Lib.hid hbw
    clear hinv hbw HI
    by_cases hlt : k < n0
    · have hkl : k < l.length := by have := HN.out; omega
      obtain ⟨x, hx⟩ : ∃ x, l[k]? = some x := ⟨_, List.getElem?_eq_getElem hkl⟩
      have HX := Lib.hid hx
      obtain ⟨u, hu, hus, hcl⟩ := HI2.out.elem hx
      have hu0 := hu
      obtain ⟨pv, cv, kv, rfl, ⟨po1, pc1, rfl⟩, ⟨co1, cc1, rfl⟩, ⟨ko1, kc1, rfl⟩⟩ := mth_shape hu
      have d0 : wr.cell? ⟨g, k * 7, none⟩ = some (.string (S x.name)) := hcl 0 (.string (S x.name)) rfl
      have d1 : wr.cell? ⟨g, k * 7 + 1, none⟩ = some (.slice po1 x.params.length pc1) := hcl 1 (.slice po1 x.params.length pc1) rfl
      have d2 : wr.cell? ⟨g, k * 7 + 2, none⟩ = some (.string (S x.res)) := hcl 2 (.string (S x.res)) rfl
      have d3 : wr.cell? ⟨g, k * 7 + 3, none⟩ = some (.bool x.abs) := hcl 3 (.bool x.abs) rfl
      have d4 : wr.cell? ⟨g, k * 7 + 4, none⟩ = some (.int .i64 x.loc) := hcl 4 (.int .i64 x.loc) rfl
      have d5 : wr.cell? ⟨g, k * 7 + 5, none⟩ = some (.slice co1 x.code.length cc1) := hcl 5 (.slice co1 x.code.length cc1) rfl
      have d6 : wr.cell? ⟨g, k * 7 + 6, none⟩ = some (.slice ko1 x.cats.length kc1) := hcl 6 (.slice ko1 x.cats.length kc1) rfl
      have hbA : Below wr.heap.size wr (wr.alloc (.cells #[.string (S x.name), .slice po1 x.params.length pc1, .string (S x.res), .bool x.abs, .int .i64 x.loc, .slice co1 x.code.length cc1, .slice ko1 x.cats.length kc1] 33)) := below_alloc (Below.refl _ _) _
      have HBA := Lib.hid hbA
      have HFX : Hid (Calls Tryz.prog F (#[.agg #[.string (S x.name), .slice po1 x.params.length pc1, .string (S x.res), .bool x.abs, .int .i64 x.loc, .slice co1 x.code.length cc1, .slice ko1 x.cats.length kc1]] ++ caps) (wr.alloc (.cells #[.string (S x.name), .slice po1 x.params.length pc1, .string (S x.res), .bool x.abs, .int .i64 x.loc, .slice co1 x.code.length cc1, .slice ko1 x.cats.length kc1] 33)) (fun e W' => ∃ v', e = .returned v' ∧ MthR (fun i => (wr.alloc (.cells #[.string (S x.name), .slice po1 x.params.length pc1, .string (S x.res), .bool x.abs, .int .i64 x.loc, .slice co1 x.code.length cc1, .slice ko1 x.cats.length kc1] 33)).heap.size ≤ i) W' x v' ∧ Below (wr.alloc (.cells #[.string (S x.name), .slice po1 x.params.length pc1, .string (S x.res), .bool x.abs, .int .i64 x.loc, .slice co1 x.code.length cc1, .slice ko1 x.cats.length kc1] 33)).heap.size (wr.alloc (.cells #[.string (S x.name), .slice po1 x.params.length pc1, .string (S x.res), .bool x.abs, .int .i64 x.loc, .slice co1 x.code.length cc1, .slice ko1 x.cats.length kc1] 33)) W')) := Lib.hid (HF.out x _ (wr.alloc (.cells #[.string (S x.name), .slice po1 x.params.length pc1, .string (S x.res), .bool x.abs, .int .i64 x.loc, .slice co1 x.code.length cc1, .slice ko1 x.cats.length kc1] 33)) (List.mem_of_getElem? hx) (HBW.out.trans (hbA.mono HBW.out.size)) (MthR.st.keep hu0 (Only.ofBelow (S := fun _ => False) hbA) (fun _ _ => id)))
      clear hx hcl hus hkl hbA hu0
      have hk0 : (0 : Int) ≤ k := by omega
      have hkn : (k : Int) < (n0 : Int) := by omega
      have he := HE.out
      go_wp2_with fail
      refine HFX.out.mono ?_
      rintro e w2 ⟨v', rfl, hv, hb2⟩
      have HB2 := Lib.hid (HBA.out.trans (hb2.mono HBA.out.size))
      have HR2 : Hid (MthR (fun i => wr.heap.size ≤ i) w2 x v') := Lib.hid (MthR.st.mono hv (fun i _ hi => Nat.le_trans HBA.out.size hi))
      have hv0 := hv
      obtain ⟨pv, cv, kv, rfl, ⟨po2, pc2, rfl⟩, ⟨co2, cc2, rfl⟩, ⟨ko2, kc2, rfl⟩⟩ := mth_shape hv
      have hinv2 := HI2.out.only MthR.st HB2.out
      have hst := HI2.out.store MthR.st HB2.out HX.out HR2.out rfl
      have hbf : Below w.heap.size w (setRow w2 g (k * 7) [.string (S x.name), .slice po2 x.params.length pc2, .string (S x.res), .bool x.abs, .int .i64 x.loc, .slice co2 x.code.length cc2, .slice ko2 x.cats.length kc2]) := (HBW.out.trans (HB2.out.mono HBW.out.size)).trans ((setRow_only (S := fun i => i = g) _ _ _ _ (Only.refl _ _) rfl).below (Nat.le_trans HBW.out.size HB2.out.size) (fun i hi => by subst hi; exact HI2.out.ge))
      have HST := Lib.hid hst
      have HBF := Lib.hid hbf
      obtain ⟨u2, hu2, hus2, hcl2⟩ := hinv2.elem HX.out
      have hu20 := hu2
      obtain ⟨pv, cv, kv, rfl, ⟨po3, pc3, rfl⟩, ⟨co3, cc3, rfl⟩, ⟨ko3, kc3, rfl⟩⟩ := mth_shape hu2
      have e0 : w2.cell? ⟨g, k * 7, none⟩ = some (.string (S x.name)) := hcl2 0 (.string (S x.name)) rfl
      have f0 : w2.frozen? ⟨g, k * 7, none⟩ = false := hinv2.free _
      have e1 : w2.cell? ⟨g, k * 7 + 1, none⟩ = some (.slice po3 x.params.length pc3) := hcl2 1 (.slice po3 x.params.length pc3) rfl
      have f1 : w2.frozen? ⟨g, k * 7 + 1, none⟩ = false := hinv2.free _
      have e2 : w2.cell? ⟨g, k * 7 + 2, none⟩ = some (.string (S x.res)) := hcl2 2 (.string (S x.res)) rfl
      have f2 : w2.frozen? ⟨g, k * 7 + 2, none⟩ = false := hinv2.free _
      have e3 : w2.cell? ⟨g, k * 7 + 3, none⟩ = some (.bool x.abs) := hcl2 3 (.bool x.abs) rfl
      have f3 : w2.frozen? ⟨g, k * 7 + 3, none⟩ = false := hinv2.free _
      have e4 : w2.cell? ⟨g, k * 7 + 4, none⟩ = some (.int .i64 x.loc) := hcl2 4 (.int .i64 x.loc) rfl
      have f4 : w2.frozen? ⟨g, k * 7 + 4, none⟩ = false := hinv2.free _
      have e5 : w2.cell? ⟨g, k * 7 + 5, none⟩ = some (.slice co3 x.code.length cc3) := hcl2 5 (.slice co3 x.code.length cc3) rfl
      have f5 : w2.frozen? ⟨g, k * 7 + 5, none⟩ = false := hinv2.free _
      have e6 : w2.cell? ⟨g, k * 7 + 6, none⟩ = some (.slice ko3 x.cats.length kc3) := hcl2 6 (.slice ko3 x.cats.length kc3) rfl
      have f6 : w2.frozen? ⟨g, k * 7 + 6, none⟩ = false := hinv2.free _
      clear he hinv2 hst hbf hb2 hcl2 hus2 HFX d0 d1 d2 d3 d4 d5 d6 hv0 hu20
      go_wp2
      go_roundw
      case rel =>
        have q1 : CInv 7 MthR w.heap.size g (k + 1) (((((((w2.setCell ⟨g, k * 7, none⟩ (.string (S x.name))).setCell ⟨g, k * 7 + 1, none⟩ (.slice po2 x.params.length pc2)).setCell ⟨g, k * 7 + 2, none⟩ (.string (S x.res))).setCell ⟨g, k * 7 + 3, none⟩ (.bool x.abs)).setCell ⟨g, k * 7 + 4, none⟩ (.int .i64 x.loc)).setCell ⟨g, k * 7 + 5, none⟩ (.slice co2 x.code.length cc2)).setCell ⟨g, k * 7 + 6, none⟩ (.slice ko2 x.cats.length kc2)) l := HST.out
        have q2 : Below w.heap.size w (((((((w2.setCell ⟨g, k * 7, none⟩ (.string (S x.name))).setCell ⟨g, k * 7 + 1, none⟩ (.slice po2 x.params.length pc2)).setCell ⟨g, k * 7 + 2, none⟩ (.string (S x.res))).setCell ⟨g, k * 7 + 3, none⟩ (.bool x.abs)).setCell ⟨g, k * 7 + 4, none⟩ (.int .i64 x.loc)).setCell ⟨g, k * 7 + 5, none⟩ (.slice co2 x.code.length cc2)).setCell ⟨g, k * 7 + 6, none⟩ (.slice ko2 x.cats.length kc2)) := HBF.out
        exact ⟨k + 1, by omega, by go_num, q1, q2⟩
      case measure => simp [intOf]; omega
    · obtain rfl : n0 = k := by omega
      go_wp2
      go_ret
      refine ⟨_, rfl, ?_, HBW.out⟩
      have h1 := HI2.out
      rw [HN.out] at h1 ⊢
      exact h1.done MthR.st HG3.out HG4.out
end Go.Proofs.YtpincofjopmaaaaGreatDoor
namespace Go.Proofs.YtpincofjopmaaaaGreatDoor
open Go.RowKit
/-- Two blocks of a call's own, and what was there before is as it was. -/
structure FB (w : World) (c1 c2 : Nat) (a1 a2 : Array Value) (t : TypeId) (W : World) : Prop where
  b1 : Box W c1 a1 t
  b2 : Box W c2 a2 t
  ne : c1 ≠ c2
  bel : Below w.heap.size w W
  ge1 : w.heap.size ≤ c1
  ge2 : w.heap.size ≤ c2
theorem fb_drew {w : World} {c1 c2 : Nat} {a1 a2 : Array Value} {t : TypeId} {W : World} (h : FB w c1 c2 a1 a2 t W) : FB w c1 c2 a1 a2 t W.drew := ⟨h.b1, h.b2, h.ne, below_drew h.bel, h.ge1, h.ge2⟩
theorem fb_below {w : World} {c1 c2 : Nat} {a1 a2 : Array Value} {t : TypeId} {W W' : World} (hb : Below W.heap.size W W') (h : FB w c1 c2 a1 a2 t W) : FB w c1 c2 a1 a2 t W' := ⟨h.b1.below hb, h.b2.below hb, h.ne, h.bel.trans (hb.mono h.bel.size), h.ge1, h.ge2⟩
theorem fb_set {w : World} {c1 c2 : Nat} {a1 a2 : Array Value} {t : TypeId} {W : World} (j : Nat) (u : Value) (h : FB w c1 c2 a1 a2 t W) : FB w c1 c2 (a1.setIfInBounds j u) a2 t (W.setCell ⟨c1, j, none⟩ u) :=
  ⟨h.b1.set j u, h.b2.set_ne (Ne.symm h.ne) j u, h.ne, h.bel.setCell h.ge1 u, h.ge1, h.ge2⟩
theorem fb_put {w : World} {c1 c2 : Nat} {a1 a2 : Array Value} {t : TypeId} {W : World} {j : Nat} {u : Value} (hj : a1.setIfInBounds j u = a1) (h : FB w c1 c2 a1 a2 t W) : FB w c1 c2 a1 a2 t (W.setCell ⟨c1, j, none⟩ u) := by
  have q := fb_set j u h
  rwa [hj] at q
theorem fb_new (w : World) (a1 a2 : Array Value) (t : TypeId) : FB w w.heap.size (w.heap.size + 1) a1 a2 t ((w.alloc (.cells a1 t)).alloc (.cells a2 t)) := by
  have h := Box.new (w.alloc (.cells a1 t)) a2 t
  have e : (w.alloc (.cells a1 t)).heap.size = w.heap.size + 1 := by simp
  rw [e] at h
  exact ⟨(Box.new w a1 t).below (below_alloc (Below.refl _ _) _), h, by omega, below_alloc (below_alloc (Below.refl _ _) _) _, Nat.le_refl _, by omega⟩
/-- Of the world that stands only this is kept. -/
theorem wp_forget {P : Program} {c : Code} {Q : Exit → Act → World → Prop} {a : Act} {W : World} (I : World → Prop) (h : I W) (k : ∀ W', I W' → Code.wp P c Q a W') : Code.wp P c Q a W := k W h
theorem load_box {P : Program} {w : World} {B : Nat} {cs : Array Value} {t ty : TypeId} {d : TypeDesc} (h : Box w B cs t) (hu : P.underlying ty = some d) (hd : d.isRow = true) (hi : (P.info? ty).map (·.size) = some cs.size) : (loadVar ty ⟨B, 0, none⟩).run P w = .ok (.agg cs) w := by
  have q := run_loadVar_mid (P := P) w B 0 ty cs.toList d h.range hu hd (by rw [Array.length_toList]; exact hi)
  exact q
theorem sizec_fld : (Tryz.prog.info? 62).map (·.size) = some 3 := by kernel_rfl
set_option maxHeartbeats 4000000 in
set_option maxRecDepth 100000 in
theorem cp_fld (x : Fld) (w : World) (h0 : x.name.length ≤ 281474976710656) (h1 : x.kind.length ≤ 281474976710656) : Calls Tryz.prog 126 #[fldV x] w (fun e w' => e = .returned (fldV x) ∧ Below w.heap.size w w') := by
  have HF := Lib.hid (fb_new w #[.string (S x.name), .string (S x.kind), .bool x.tr] #[.string ⟨#[]⟩, .string ⟨#[]⟩, .bool false] 62)
  have HC0 := Lib.hid (fun w => sclone_any (S x.name) w (by rw [S_size]; exact h0))
  have HC1 := Lib.hid (fun w => sclone_any (S x.kind) w (by rw [S_size]; exact h1))
  clear h0 h1
  obtain ⟨W1, hW1⟩ : ∃ W1, W1 = (w.alloc (.cells #[.string (S x.name), .string (S x.kind), .bool x.tr] 62)).alloc (.cells #[.string ⟨#[]⟩, .string ⟨#[]⟩, .bool false] 62) := ⟨_, rfl⟩
  go_enter Tryz.func126, Tryz.ntmps126
  go_upto_region 1 with fail
  rw [← hW1] at HF ⊢
  clear hW1
  obtain ⟨c1, hc1⟩ : ∃ c, c = w.heap.size := ⟨_, rfl⟩
  rw [← hc1] at HF ⊢
  obtain ⟨c2, hc2⟩ : ∃ c, c = c1 + 1 := ⟨_, rfl⟩
  rw [← hc2] at HF ⊢
  clear hc2 hc1
  have f0 := HF.out
  have HS : Hid (∀ W, FB w c1 c2 #[.string (S x.name), .string (S x.kind), .bool x.tr] #[.string ⟨#[]⟩, .string ⟨#[]⟩, .bool false] 62 W → W.cell? ⟨c1, 0, none⟩ = some (.string (S x.name)) ∧ W.frozen? ⟨c1, 0, none⟩ = false ∧ W.cell? ⟨c1, 1, none⟩ = some (.string (S x.kind)) ∧ W.frozen? ⟨c1, 1, none⟩ = false) := Lib.hid (fun W h => ⟨h.b1.cell 0 rfl, h.b1.free 0, h.b1.cell 1 rfl, h.b1.free 1⟩)
  obtain ⟨g1, g2, g3, g4⟩ := HS.out W1 f0
  first
  | (go_region_held3 (fun W => W.cell? ⟨c1, 0, none⟩ = some (.string (S x.name)) ∧ W.frozen? ⟨c1, 0, none⟩ = false ∧ W.cell? ⟨c1, 1, none⟩ = some (.string (S x.kind)) ∧ W.frozen? ⟨c1, 1, none⟩ = false) ((refine HS.out _ ?_; (repeat (first | (with_reducible assumption) | (with_reducible refine fb_drew ?_) | (with_reducible (apply fb_below; assumption)) | (with_reducible refine fb_put rfl ?_)))))
      (first
       | ((go_at_call 83; (with_reducible refine (HC0.out _).mono ?_); rintro en wx1 ⟨rfl, bx1⟩))
       | ((go_at_call 83; (with_reducible refine (HC1.out _).mono ?_); rintro en wx2 ⟨rfl, bx2⟩))))
  | fail
  all_goals
    go_upto_region 2 with fail
    refine wp_forget (FB w c1 c2 #[.string (S x.name), .string (S x.kind), .bool x.tr] #[.string ⟨#[]⟩, .string ⟨#[]⟩, .bool false] 62) (by (repeat (first | (with_reducible assumption) | (with_reducible refine fb_drew ?_) | (with_reducible (apply fb_below; assumption)) | (with_reducible refine fb_put rfl ?_)))) ?_
    intro W3 f3
    clear g1 g2 g3 g4
    have p0 := f3.b1.cell 0 rfl
    have q0 := f3.b2.cell 0 rfl
    have r0 := f3.b2.free 0
    have p1 := f3.b1.cell 1 rfl
    have q1 := f3.b2.cell 1 rfl
    have r1 := f3.b2.free 1
    have p2 := f3.b1.cell 2 rfl
    have q2 := f3.b2.cell 2 rfl
    have r2 := f3.b2.free 2
    have F3 := Lib.hid f3
    clear f3
    go_wp2
    have l := load_box (P := Tryz.prog) (w := (((W3.setCell ⟨c2, 0, none⟩ (.string (S x.name))).setCell ⟨c2, 1, none⟩ (.string (S x.kind))).setCell ⟨c2, 2, none⟩ (.bool x.tr))) (cs := #[.string (S x.name), .string (S x.kind), .bool x.tr]) (((F3.out.b2.set 0 (.string (S x.name))).set 1 (.string (S x.kind))).set 2 (.bool x.tr)) Tryz.underlying62 rfl sizec_fld
    have hb : Below w.heap.size w (((W3.setCell ⟨c2, 0, none⟩ (.string (S x.name))).setCell ⟨c2, 1, none⟩ (.string (S x.kind))).setCell ⟨c2, 2, none⟩ (.bool x.tr)) := (((F3.out.bel.setCell F3.out.ge2 (.string (S x.name))).setCell F3.out.ge2 (.string (S x.kind))).setCell F3.out.ge2 (.bool x.tr))
    refine bodyPost_ret (v := .agg #[.string (S x.name), .string (S x.kind), .bool x.tr]) ?_ rfl ⟨rfl, hb⟩
    simp only [results, Tryz.results126]
    simp [asAddr, l]
theorem sizec_ins : (Tryz.prog.info? 70).map (·.size) = some 3 := by kernel_rfl
set_option maxHeartbeats 4000000 in
set_option maxRecDepth 100000 in
theorem cp_ins (x : Ins) (w : World) (h0 : x.op.length ≤ 281474976710656) (h2 : x.s.length ≤ 281474976710656) : Calls Tryz.prog 137 #[insVal x] w (fun e w' => e = .returned (insVal x) ∧ Below w.heap.size w w') := by
  have HF := Lib.hid (fb_new w #[.string (S x.op), .int .i64 x.n, .string (S x.s)] #[.string ⟨#[]⟩, .int .i64 0, .string ⟨#[]⟩] 70)
  have HC0 := Lib.hid (fun w => sclone_any (S x.op) w (by rw [S_size]; exact h0))
  have HC2 := Lib.hid (fun w => sclone_any (S x.s) w (by rw [S_size]; exact h2))
  clear h0 h2
  obtain ⟨W1, hW1⟩ : ∃ W1, W1 = (w.alloc (.cells #[.string (S x.op), .int .i64 x.n, .string (S x.s)] 70)).alloc (.cells #[.string ⟨#[]⟩, .int .i64 0, .string ⟨#[]⟩] 70) := ⟨_, rfl⟩
  go_enter Tryz.func137, Tryz.ntmps137
  go_upto_region 1 with fail
  rw [← hW1] at HF ⊢
  clear hW1
  obtain ⟨c1, hc1⟩ : ∃ c, c = w.heap.size := ⟨_, rfl⟩
  rw [← hc1] at HF ⊢
  obtain ⟨c2, hc2⟩ : ∃ c, c = c1 + 1 := ⟨_, rfl⟩
  rw [← hc2] at HF ⊢
  clear hc2 hc1
  have f0 := HF.out
  have HS : Hid (∀ W, FB w c1 c2 #[.string (S x.op), .int .i64 x.n, .string (S x.s)] #[.string ⟨#[]⟩, .int .i64 0, .string ⟨#[]⟩] 70 W → W.cell? ⟨c1, 0, none⟩ = some (.string (S x.op)) ∧ W.frozen? ⟨c1, 0, none⟩ = false ∧ W.cell? ⟨c1, 2, none⟩ = some (.string (S x.s)) ∧ W.frozen? ⟨c1, 2, none⟩ = false) := Lib.hid (fun W h => ⟨h.b1.cell 0 rfl, h.b1.free 0, h.b1.cell 2 rfl, h.b1.free 2⟩)
  obtain ⟨g1, g2, g3, g4⟩ := HS.out W1 f0
  first
  | (go_region_held3 (fun W => W.cell? ⟨c1, 0, none⟩ = some (.string (S x.op)) ∧ W.frozen? ⟨c1, 0, none⟩ = false ∧ W.cell? ⟨c1, 2, none⟩ = some (.string (S x.s)) ∧ W.frozen? ⟨c1, 2, none⟩ = false) ((refine HS.out _ ?_; (repeat (first | (with_reducible assumption) | (with_reducible refine fb_drew ?_) | (with_reducible (apply fb_below; assumption)) | (with_reducible refine fb_put rfl ?_)))))
      (first
       | ((go_at_call 83; (with_reducible refine (HC0.out _).mono ?_); rintro en wx1 ⟨rfl, bx1⟩))
       | ((go_at_call 83; (with_reducible refine (HC2.out _).mono ?_); rintro en wx2 ⟨rfl, bx2⟩))))
  | fail
  all_goals
    go_upto_region 2 with fail
    refine wp_forget (FB w c1 c2 #[.string (S x.op), .int .i64 x.n, .string (S x.s)] #[.string ⟨#[]⟩, .int .i64 0, .string ⟨#[]⟩] 70) (by (repeat (first | (with_reducible assumption) | (with_reducible refine fb_drew ?_) | (with_reducible (apply fb_below; assumption)) | (with_reducible refine fb_put rfl ?_)))) ?_
    intro W3 f3
    clear g1 g2 g3 g4
    have p0 := f3.b1.cell 0 rfl
    have q0 := f3.b2.cell 0 rfl
    have r0 := f3.b2.free 0
    have p1 := f3.b1.cell 1 rfl
    have q1 := f3.b2.cell 1 rfl
    have r1 := f3.b2.free 1
    have p2 := f3.b1.cell 2 rfl
    have q2 := f3.b2.cell 2 rfl
    have r2 := f3.b2.free 2
    have F3 := Lib.hid f3
    clear f3
    go_wp2
    have l := load_box (P := Tryz.prog) (w := (((W3.setCell ⟨c2, 0, none⟩ (.string (S x.op))).setCell ⟨c2, 1, none⟩ (.int .i64 x.n)).setCell ⟨c2, 2, none⟩ (.string (S x.s)))) (cs := #[.string (S x.op), .int .i64 x.n, .string (S x.s)]) (((F3.out.b2.set 0 (.string (S x.op))).set 1 (.int .i64 x.n)).set 2 (.string (S x.s))) Tryz.underlying70 rfl sizec_ins
    have hb : Below w.heap.size w (((W3.setCell ⟨c2, 0, none⟩ (.string (S x.op))).setCell ⟨c2, 1, none⟩ (.int .i64 x.n)).setCell ⟨c2, 2, none⟩ (.string (S x.s))) := (((F3.out.bel.setCell F3.out.ge2 (.string (S x.op))).setCell F3.out.ge2 (.int .i64 x.n)).setCell F3.out.ge2 (.string (S x.s)))
    refine bodyPost_ret (v := .agg #[.string (S x.op), .int .i64 x.n, .string (S x.s)]) ?_ rfl ⟨rfl, hb⟩
    simp only [results, Tryz.results137]
    simp [asAddr, l]
theorem sizec_cat : (Tryz.prog.info? 141).map (·.size) = some 4 := by kernel_rfl
set_option maxHeartbeats 4000000 in
set_option maxRecDepth 100000 in
theorem cp_cat (x : Cat) (w : World) (h3 : x.cls.length ≤ 281474976710656) : Calls Tryz.prog 139 #[catV x] w (fun e w' => e = .returned (catV x) ∧ Below w.heap.size w w') := by
  have HF := Lib.hid (fb_new w #[.int .i64 x.fr, .int .i64 x.till, .int .i64 x.at_, .string (S x.cls)] #[.int .i64 0, .int .i64 0, .int .i64 0, .string ⟨#[]⟩] 141)
  have HC3 := Lib.hid (fun w => sclone_any (S x.cls) w (by rw [S_size]; exact h3))
  clear h3
  obtain ⟨W1, hW1⟩ : ∃ W1, W1 = (w.alloc (.cells #[.int .i64 x.fr, .int .i64 x.till, .int .i64 x.at_, .string (S x.cls)] 141)).alloc (.cells #[.int .i64 0, .int .i64 0, .int .i64 0, .string ⟨#[]⟩] 141) := ⟨_, rfl⟩
  go_enter Tryz.func139, Tryz.ntmps139
  go_upto_region 1 with fail
  rw [← hW1] at HF ⊢
  clear hW1
  obtain ⟨c1, hc1⟩ : ∃ c, c = w.heap.size := ⟨_, rfl⟩
  rw [← hc1] at HF ⊢
  obtain ⟨c2, hc2⟩ : ∃ c, c = c1 + 1 := ⟨_, rfl⟩
  rw [← hc2] at HF ⊢
  clear hc2 hc1
  have f0 := HF.out
  have g1 := f0.b1.cell 3 rfl
  go_wp2_with fail
  refine (HC3.out _).mono ?_
  rintro e w2 ⟨rfl, bx1⟩
  have F2 := Lib.hid (fb_below bx1 f0)
  clear bx1 f0 g1
  have f2 := F2.out
  have g1 := f2.b1.cell 3 rfl
  have g2 := f2.b1.free 3
  go_upto_region 2 with fail
  refine wp_forget (FB w c1 c2 #[.int .i64 x.fr, .int .i64 x.till, .int .i64 x.at_, .string (S x.cls)] #[.int .i64 0, .int .i64 0, .int .i64 0, .string ⟨#[]⟩] 141) (by (repeat (first | (with_reducible assumption) | (with_reducible refine fb_drew ?_) | (with_reducible (apply fb_below; assumption)) | (with_reducible refine fb_put rfl ?_)))) ?_
  intro W3 f3
  clear g1 g2 f2
  have p0 := f3.b1.cell 0 rfl
  have q0 := f3.b2.cell 0 rfl
  have r0 := f3.b2.free 0
  have p1 := f3.b1.cell 1 rfl
  have q1 := f3.b2.cell 1 rfl
  have r1 := f3.b2.free 1
  have p2 := f3.b1.cell 2 rfl
  have q2 := f3.b2.cell 2 rfl
  have r2 := f3.b2.free 2
  have p3 := f3.b1.cell 3 rfl
  have q3 := f3.b2.cell 3 rfl
  have r3 := f3.b2.free 3
  have F3 := Lib.hid f3
  clear f3
  go_wp2
  have l := load_box (P := Tryz.prog) (w := ((((W3.setCell ⟨c2, 0, none⟩ (.int .i64 x.fr)).setCell ⟨c2, 1, none⟩ (.int .i64 x.till)).setCell ⟨c2, 2, none⟩ (.int .i64 x.at_)).setCell ⟨c2, 3, none⟩ (.string (S x.cls)))) (cs := #[.int .i64 x.fr, .int .i64 x.till, .int .i64 x.at_, .string (S x.cls)]) ((((F3.out.b2.set 0 (.int .i64 x.fr)).set 1 (.int .i64 x.till)).set 2 (.int .i64 x.at_)).set 3 (.string (S x.cls))) Tryz.underlying141 rfl sizec_cat
  have hb : Below w.heap.size w ((((W3.setCell ⟨c2, 0, none⟩ (.int .i64 x.fr)).setCell ⟨c2, 1, none⟩ (.int .i64 x.till)).setCell ⟨c2, 2, none⟩ (.int .i64 x.at_)).setCell ⟨c2, 3, none⟩ (.string (S x.cls))) := ((((F3.out.bel.setCell F3.out.ge2 (.int .i64 x.fr)).setCell F3.out.ge2 (.int .i64 x.till)).setCell F3.out.ge2 (.int .i64 x.at_)).setCell F3.out.ge2 (.string (S x.cls)))
  refine bodyPost_ret (v := .agg #[.int .i64 x.fr, .int .i64 x.till, .int .i64 x.at_, .string (S x.cls)]) ?_ rfl ⟨rfl, hb⟩
  simp only [results, Tryz.results139]
  simp [asAddr, l]
end Go.Proofs.YtpincofjopmaaaaGreatDoor
