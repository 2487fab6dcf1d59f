/-
  A range over a function whose iterator keeps its state in one boxed variable of its own (strings.Lines): its contract and the law of the statement.
-/
import Derived.RangeFuncNested
namespace Go.Proofs.YtcoobdbfgiiejaaGreatDoor
open Go.RowKit
variable {F : Fence} {n : Nat} {P : Program}
/-- The iterator's side. G: what is known of what has come. The box is the iterator's alone: whoever goes round leaves it as it is. -/
def SeqBox {α : Type} (F : Fence) (n : Nat) (P : Program) (g : Nat) (lb : Array Value) (encs : α → Array Value) (B : Nat) (t : TypeId) (v0 : Value) (S G : List α → Prop) : Prop :=
  ∀ (l : Nat) (J : List α → Value → World → Prop) (Jx : List α → World → Prop) (W : World),
    (∀ pre v W, J pre v W → Boxed W B t v) → (∀ pre v v' W, J pre v W → J pre v' (W.setCell ⟨B, 0, none⟩ v')) → (∀ pre v W W', J pre v W → W.grownBy W' none → J pre v W') →
    (∀ pre x v W, J pre v W → G (pre ++ [x]) → YieldAt F (n - 1) P l (encs x) W fun e W' =>
      (e = .returned (.bool true) ∧ J (pre ++ [x]) v W') ∨ (e = .returned (.bool false) ∧ Jx (pre ++ [x]) W')) →
    J [] v0 W →
    CallsIn F n P g (#[.func (.yield l) #[] #[]] ++ lb) W fun e W' => (∃ v, e = .returned v) ∧ ((∃ xs v, S xs ∧ J xs v W') ∨ ∃ pre, G pre ∧ Jx pre W')
/-- How a round's body may be left: it goes on, or it returns. -/
def boxPost {α : Type} (m B : Nat) (t : TypeId) (v : Value) (I Ix : List α → World → Prop) (xs : List α) (W : World) : Exit → Act → World → Prop
  | .normal, _, W' => KeepsFrom m W W' ∧ Boxed W' B t v ∧ I xs W'
  | .ret, _, W' => KeepsFrom m W W' ∧ Ix xs W'
  | _, _, _ => False
/-- The two blocks that the statement lays for itself from m on. -/
structure Book (m : Nat) (r : Loop) (W : World) : Prop where
  note : W.heap[m + 1]? = some (.loop r)
  late : W.heap[m]? = some (.deferred (some []))
namespace Book
variable {m : Nat} {r : Loop} {W W' : World}
theorem lt (h : Book m r W) : m + 1 < W.heap.size := (Array.getElem?_eq_some_iff.1 h.note).1
theorem put (h : Book m r W) (r' : Loop) : Book m r' (W.putObj (m + 1) (.loop r')) := ⟨World.putObj_heap_same h.lt, (World.putObj_heap_other (by omega)).trans h.late⟩
theorem keeps (h : Book m r W) (hk : KeepsFrom m W W') : Book m r W' := ⟨hk.same _ _ (by omega) h.note rfl, hk.same _ _ (Nat.le_refl _) h.late rfl⟩
theorem grown (h : Book m r W) {row : Option Nat} (hg : W.grownBy W' row) (hr : ∀ k, row = some k → k < m) : Book m r W' := h.keeps (KeepsFrom.of_grownBy hg hr)
end Book
theorem range_box {α : Type} {g : Operand} {ps : Array Tmp} {assign body : Code} {Q : Exit → Act → World → Prop} {a : Act} {w : World}
    (hro : F.round = none) (h1 : 1 ≤ n) {gf : Nat} {lb : Array Value} (hg : a.eval g = .func (.func gf) #[] lb) (hFg : F.fn gf) (eg : ∀ args w, (callFunc gf args).run P w = .ok (.enter gf args) w)
    {encs : α → Array Value} {B : Nat} {t : TypeId} {v0 : Value} {S G : List α → Prop} (hseq : SeqBox F (n - 1) P gf lb encs B t v0 S G) (hps : ∀ x, (encs x).size = ps.size) (hbx : Boxed w B t v0)
    (I Ix : List α → World → Prop) (hI : OwnFrom w.heap.size I) (hIx : OwnFrom w.heap.size Ix) (hIs : ∀ pre v v' W, I pre W → Boxed W B t v → I pre (W.setCell ⟨B, 0, none⟩ v')) (h0 : I [] w) (a₁ : α → Act)
    (hassign : ∀ (l : Nat) (x : α) (W : World) (K : Act → World → Prop), K (a₁ x) W →
      assign.wpIn (F.inRound l) (n - 1 - 1) P (Exit.then K (fun _ _ _ => False)) { tmps := (ps.zip (encs x)).foldl (fun t (p, v) => t.setIfInBounds p v) a.tmps, defers := [] } W)
    (hbody : ∀ (l : Nat) (pre : List α) (x : α) (v : Value) (W : World), I pre W → Boxed W B t v → G (pre ++ [x]) → body.wpIn (F.inRound l) (n - 1 - 1) P (boxPost w.heap.size B t v I Ix (pre ++ [x]) W) (a₁ x) W)
    (hdone : ∀ (D : Nat) (xs : List α) (W : World), w.heap.size ≤ D → S xs → I xs W → W.heap[D]? = some (.deferred (some [])) → Q .normal { a with defers := { target := .collected D, args := #[] } :: a.defers } W)
    (hstop : ∀ (D : Nat) (pre : List α) (W : World), w.heap.size ≤ D → G pre → Ix pre W → W.heap[D]? = some (.deferred (some [])) → Code.ret.wpIn F n P Q { a with defers := { target := .collected D, args := #[] } :: a.defers } W) :
    (Code.rangeFunc g ps assign body).wpIn F n P Q a w := by
  have hBw : B < w.heap.size := hbx.lt
  generalize hm : w.heap.size = m at *
  refine wpIn_rangeFunc fun fn hfn => ?_
  obtain ⟨r, hr⟩ : ∃ r : LoopState → Option Code → Loop, ∀ s p, r s p = { state := s, pending := p, fn := fn, tmps := a.tmps, params := ps, assign := assign, body := body, defers := m } := ⟨fun s p => _, fun _ _ => rfl⟩
  have hen : (Instr.enterLoop fn a.tmps ps assign body F.round).run P w = .ok (m + 1, [{ target := .collected m, args := #[] }]) ((w.alloc (.deferred (some []))).alloc (.loop (r .ready none))) := by
    rw [hro, hr, ← hm]; exact run_enterLoop_outer fn a.tmps ps assign body
  have bk1 : Book m (r .ready none) ((w.alloc (.deferred (some []))).alloc (.loop (r .ready none))) := by
    constructor
    · have h := World.alloc_heap_new (w.alloc (.deferred (some []))) (.loop (r .ready none))
      rwa [World.size_alloc, hm] at h
    · rw [Below.heap_alloc _ _ _ (by rw [World.size_alloc]; omega)]
      have h := World.alloc_heap_new w (.deferred (some []))
      rwa [hm] at h
  have I1 : I [] ((w.alloc (.deferred (some []))).alloc (.loop (r .ready none))) := hI.alloc _ (hI.alloc _ h0)
  have b1 : Boxed ((w.alloc (.deferred (some []))).alloc (.loop (r .ready none))) B t v0 := (hbx.alloc _).alloc _
  generalize (w.alloc (.deferred (some []))).alloc (.loop (r .ready none)) = W1 at hen bk1 I1 b1
  refine ⟨m + 1, _, W1, { target := .fn (.func gf) lb, args := #[.func (.yield (m + 1)) #[] #[]] }, W1, gf, #[.func (.yield (m + 1)) #[] #[]] ++ lb, W1, hen, ?_, ?_, ?_, fun _ => h1, ?_⟩
  · simp only [resolve, hg]
    simp [go_sem]
  · intro f' hf'
    simp [Target.leads] at hf'
    exact hf' ▸ hFg
  · simp [invoke, go_sem, eg]
  refine (hseq (m + 1) (fun pre v W => I pre W ∧ Boxed W B t v ∧ Book m (r .ready none) W) (fun pre W => Ix pre W ∧ Book m (r .done (some .ret)) W) W1 (fun _ _ _ h => h.2.1) ?_ ?_ ?_ ⟨I1, b1, bk1⟩).mono ?_
  · rintro pre v v' W ⟨hi, hb, hk⟩
    exact ⟨hIs _ _ _ _ hi hb, hb.set v', hk.grown (grownBy_setCell' W B v') (fun k e => by cases e; exact hBw)⟩
  · rintro pre v W W' ⟨hi, hb, hk⟩ hg'
    exact ⟨hI _ _ _ _ hi hg' (fun _ e => by cases e), hb.kept hg' (by simp), hk.grown hg' (fun _ e => by cases e)⟩
  · rintro pre x v W ⟨hi, hb, hk⟩ hG
    have hy := run_yield (P := P) (args := encs x) hk.note (by rw [hr]; exact hps x)
    rw [hr] at hy
    refine ⟨fn, _, assign, body, hy, roundIn_of_wpIn hfn (hassign (m + 1) x W _ ⟨_, run_beginRound hk.note (by rw [hr]), ?_⟩)⟩
    have hk' := hk.put { r .ready none with state := .busy }
    have hi' := hI.putObj (.loop { r .ready none with state := .busy }) hi (Nat.le_succ m) hk.note rfl
    have hb' : Boxed (W.putObj (m + 1) (.loop { r .ready none with state := .busy })) B t v := hb.kept (grownBy_putObj' W (m + 1) _) (fun e => by cases e; omega)
    refine wpIn_mono (hbody (m + 1) pre x v _ hi' hb' hG) ?_
    rintro (_ | _ | _ | _ | _ | _) a3 W3 hp
    case normal =>
      obtain ⟨hf, hb3, hi3⟩ := hp
      have hk3 := hk'.keeps hf
      refine ⟨_, _, run_endRound (P := P) none hk3.note, .inl ⟨rfl, hI.putObj _ hi3 (Nat.le_succ m) hk3.note rfl, hb3.kept (grownBy_putObj' W3 (m + 1) _) (fun e => by cases e; omega), ?_⟩⟩
      have := hk3.put (r .ready none)
      rw [hr] at this ⊢
      exact this
    case ret =>
      obtain ⟨hf, hi3⟩ := hp
      have hk3 := hk'.keeps hf
      refine ⟨_, _, run_endRound (P := P) (some .ret) hk3.note, .inr ⟨rfl, hIx.putObj _ hi3 (Nat.le_succ m) hk3.note rfl, ?_⟩⟩
      have := hk3.put (r .done (some .ret))
      rw [hr] at this ⊢
      rw [hr]
      exact this
    all_goals exact hp.elim
  · rintro e W2 ⟨⟨v, rfl⟩, ⟨xs, v', hS, hi, _, hk⟩ | ⟨pre, hG, hi, hk⟩⟩
    · have hen := run_endLoop (P := P) hk.note (by rw [hr]; simp)
      rw [show (r .ready none).pending = none by rw [hr]] at hen
      exact ⟨none, _, hen, hdone m xs _ (Nat.le_refl _) hS (hI.putObj _ hi (Nat.le_succ m) hk.note rfl) ((World.putObj_heap_other (by omega)).trans hk.late)⟩
    · have hen := run_endLoop (P := P) hk.note (by rw [hr]; simp)
      rw [show (r .done (some .ret)).pending = some .ret by rw [hr]] at hen
      exact ⟨some .ret, _, hen, hstop m pre _ (Nat.le_refl _) hG (hIx.putObj _ hi (Nat.le_succ m) hk.note rfl) ((World.putObj_heap_other (by omega)).trans hk.late)⟩
end Go.Proofs.YtcoobdbfgiiejaaGreatDoor
