/-
  What a line and its interfaces hold: all that is above, and nothing else.
  Conditions: as each text of it says.
-/
import Derived.Test.YtpincofjopmaaaaGreatDoorM32
import Derived.Shelf.Strings.OnBuilder
import Derived.WalkKit
import Derived.Test.YtpincofjopmaaaaGreatDoorProg
import Derived.Test.YtpincofjopmaaaaGreatDoorM05
import Derived.IntWalk
set_option maxHeartbeats 8000000
set_option maxRecDepth 100000
namespace Go.Proofs.YtpincofjopmaaaaGreatDoor
open Go.RowKit
inductive Lup (es : List Ent) : Nat → Nat → Prop
  | refl (x : Nat) : Lup es x x
  | step {x d y : Nat} : d ∈ lkOf es x → Lup es d y → Lup es x y
theorem Lup.inv {es : List Ent} {P : Nat → Prop} (hP : ∀ x d, P x → d ∈ lkOf es x → P d) {x y : Nat} (h : Lup es x y) (hx : P x) : P y := by
  induction h with
  | refl => exact hx
  | step h1 _ ih => exact ih (hP _ _ hx h1)
theorem vis_succ' (es : List Ent) (f : Nat) (M l : List Nat) : vis es (f + 1) M l = l.foldl (stepV es f M) [] := rfl
theorem vis_sound (es : List Ent) : ∀ (f : Nat) (M l : List Nat), ∀ x ∈ vis es f M l, ∃ d ∈ l, Lup es d x
  | 0, M, l, x, hx => by cases hx
  | f + 1, M, l, x, hx => by
    have ih := vis_sound es f
    have fold : ∀ (l acc : List Nat), ∀ x ∈ l.foldl (stepV es f M) acc, x ∈ acc ∨ ∃ d ∈ l, Lup es d x := by
      intro l
      induction l with
      | nil => intro acc x hx; exact .inl hx
      | cons d l ihl =>
        intro acc x hx
        rw [List.foldl_cons] at hx
        rcases ihl _ x hx with h1 | ⟨e, he, hu⟩
        · unfold stepV at h1
          split at h1
          · exact .inl h1
          · rcases List.mem_append.1 h1 with h2 | h2
            · exact .inl h2
            · rcases List.mem_cons.1 h2 with h3 | h3
              · exact .inr ⟨d, List.mem_cons_self, h3 ▸ .refl _⟩
              · obtain ⟨e, he, hu⟩ := ih _ _ x h3
                exact .inr ⟨d, List.mem_cons_self, .step he hu⟩
        · exact .inr ⟨e, List.mem_cons_of_mem d he, hu⟩
    rcases fold l [] x (by rw [← vis_succ']; exact hx) with h | h
    · cases h
    · exact h
theorem vis_closed {es : List Ent} : ∀ (f : Nat) (M l : List Nat), Deep es f l → (∀ d ∈ l, d ∈ M ++ vis es f M l) ∧ ∀ x ∈ vis es f M l, ∀ d ∈ lkOf es x, d ∈ M ++ vis es f M l
  | 0, M, l, h => by
    obtain rfl : l = [] := h
    exact ⟨fun d hd => by (cases hd), fun x hx => by (cases hx)⟩
  | f + 1, M, l, h => by
    have ih := fun M l => vis_closed (es := es) f M l
    have fold : ∀ (l acc : List Nat), (∀ d ∈ l, ∃ e, es[d]? = some e ∧ Deep es f e.lk) → (∀ x ∈ acc, ∀ d ∈ lkOf es x, d ∈ M ++ acc) →
        (∀ d ∈ l, d ∈ M ++ l.foldl (stepV es f M) acc) ∧ ∀ x ∈ l.foldl (stepV es f M) acc, ∀ d ∈ lkOf es x, d ∈ M ++ l.foldl (stepV es f M) acc := by
      intro l
      induction l with
      | nil => intro acc _ h2; exact ⟨fun d hd => by (cases hd), h2⟩
      | cons d l ihl =>
        intro acc h1 h2
        rw [List.foldl_cons]
        obtain ⟨e, he, hde⟩ := h1 d List.mem_cons_self
        have hacc : ∀ x ∈ stepV es f M acc d, ∀ y ∈ lkOf es x, y ∈ M ++ stepV es f M acc d := by
          intro x hx y hy
          by_cases hc : (M ++ acc).contains d = true
          · have hs : stepV es f M acc d = acc := by unfold stepV; rw [if_pos hc]
            rw [hs] at hx ⊢
            exact h2 x hx y hy
          · have hs : stepV es f M acc d = acc ++ d :: vis es f (M ++ acc ++ [d]) (lkOf es d) := by unfold stepV; rw [if_neg hc]
            rw [hs] at hx ⊢
            obtain ⟨i1, i2⟩ := ih (M ++ acc ++ [d]) (lkOf es d) (by rw [lkOf_eq he]; exact hde)
            have hsub : ∀ z, z ∈ M ++ acc ++ [d] ++ vis es f (M ++ acc ++ [d]) (lkOf es d) → z ∈ M ++ (acc ++ d :: vis es f (M ++ acc ++ [d]) (lkOf es d)) := fun z hz => by
              simpa [List.append_assoc] using hz
            rcases List.mem_append.1 hx with hx | hx
            · have := h2 x hx y hy
              rcases List.mem_append.1 this with q | q
              · exact List.mem_append_left _ q
              · exact List.mem_append_right _ (List.mem_append_left _ q)
            · rcases List.mem_cons.1 hx with hx | hx
              · rw [hx] at hy; exact hsub y (i1 y hy)
              · exact hsub y (i2 x hx y hy)
        obtain ⟨j1, j2⟩ := ihl (stepV es f M acc d) (fun x hx => h1 x (List.mem_cons_of_mem d hx)) hacc
        refine ⟨fun x hx => ?_, j2⟩
        rcases List.mem_cons.1 hx with e1 | hx
        · have hd0 : x ∈ M ++ stepV es f M acc d := by
            rw [e1]
            by_cases hc : (M ++ acc).contains d = true
            · have hs : stepV es f M acc d = acc := by unfold stepV; rw [if_pos hc]
              rw [hs]
              exact List.contains_iff_mem.1 hc
            · have hs : stepV es f M acc d = acc ++ d :: vis es f (M ++ acc ++ [d]) (lkOf es d) := by unfold stepV; rw [if_neg hc]
              rw [hs]
              simp
          rcases List.mem_append.1 hd0 with q | q
          · exact List.mem_append_left _ q
          · exact List.mem_append_right _ ((foldl_pre es f M l _).subset q)
        · exact j1 x hx
    exact fold l [] h (fun x hx => by (cases hx))
theorem ifsL_mem {es : List Ent} {f : Nat} {L : List Nat} (hL : ∀ d ∈ L, ∃ e, es[d]? = some e ∧ Deep es f e.lk) (x : Nat) : x ∈ ifsL es f L ↔ ∃ d ∈ L, ∃ k ∈ lkOf es d, Lup es k x := by
  have fold : ∀ (L acc : List Nat), (∀ d ∈ L, ∃ e, es[d]? = some e ∧ Deep es f e.lk) → (∀ x ∈ acc, ∀ d ∈ lkOf es x, d ∈ acc) →
      (∀ x, x ∈ L.foldl (fun acc d => acc ++ vis es f acc (lkOf es d)) acc ↔ x ∈ acc ∨ ∃ d ∈ L, ∃ k ∈ lkOf es d, Lup es k x) := by
    intro L
    induction L with
    | nil => intro acc _ _ x; simp
    | cons d L ih =>
      intro acc h1 h2 x
      rw [List.foldl_cons]
      obtain ⟨e, he, hde⟩ := h1 d List.mem_cons_self
      obtain ⟨c1, c2⟩ := vis_closed f acc (lkOf es d) (by rw [lkOf_eq he]; exact hde)
      have hcl : ∀ x ∈ acc ++ vis es f acc (lkOf es d), ∀ y ∈ lkOf es x, y ∈ acc ++ vis es f acc (lkOf es d) := fun x hx y hy => by
        rcases List.mem_append.1 hx with q | q
        · exact List.mem_append_left _ (h2 x q y hy)
        · exact c2 x q y hy
      rw [ih _ (fun z hz => h1 z (List.mem_cons_of_mem d hz)) hcl x]
      constructor
      · rintro (h | ⟨z, hz, k, hk, hu⟩)
        · rcases List.mem_append.1 h with q | q
          · exact .inl q
          · obtain ⟨k, hk, hu⟩ := vis_sound es f acc _ x q
            exact .inr ⟨d, List.mem_cons_self, k, hk, hu⟩
        · exact .inr ⟨z, List.mem_cons_of_mem d hz, k, hk, hu⟩
      · rintro (h | ⟨z, hz, k, hk, hu⟩)
        · exact .inl (List.mem_append_left _ h)
        · rcases List.mem_cons.1 hz with e1 | hz
          · rw [e1] at hk
            exact .inl (hu.inv (P := fun y => y ∈ acc ++ vis es f acc (lkOf es d)) (fun a b ha hb => hcl a ha b hb) (c1 k hk))
          · exact .inr ⟨z, hz, k, hk, hu⟩
  unfold ifsL
  rw [fold L [] hL (fun x hx => by (cases hx)) x]
  simp
theorem vis_mem {es : List Ent} {f : Nat} {l : List Nat} (h : Deep es f l) (x : Nat) : x ∈ vis es f [] l ↔ ∃ d ∈ l, Lup es d x := by
  constructor
  · exact vis_sound es f [] l x
  · rintro ⟨d, hd, hu⟩
    obtain ⟨c1, c2⟩ := vis_closed f [] l h
    simp only [List.nil_append] at c1 c2
    exact hu.inv (P := fun y => y ∈ vis es f [] l) (fun a b ha hb => c2 a ha b hb) (c1 d hd)
end Go.Proofs.YtpincofjopmaaaaGreatDoor
namespace Go.Proofs.YtpincofjopmaaaaGreatDoor
open Go.Shelf Go.RowKit Go.Lib
def lays156_ren : Go.Shelf.Ren := ⟨fun | 156 => 47 | 165 => 104 | 166 => 105 | 169 => 74 | 240 => 177 | 241 => 178 | 276 => 239 | 277 => 240 | n => n, fun | 31 => 22 | 9 => 9 | 3 => 3 | 4 => 4 | 0 => 0 | 20 => 20 | 72 => 108 | 76 => 135 | 70 => 106 | 37 => 71 | 75 => 134 | 127 => 152 | 164 => 230 | 5 => 5 | 80 => 110 | n => n, fun | n => n⟩
theorem lays156 : Go.Proofs.Lays.n156 Tryz.prog lays156_ren := {
  mixed := by kernel_rfl
  f156 := Tryz.func47.trans (congrArg some (by kernel_rfl))
  f165 := Tryz.func104.trans (congrArg some (by kernel_rfl))
  f166 := Tryz.func105.trans (congrArg some (by kernel_rfl))
  f169 := Tryz.func74.trans (congrArg some (by kernel_rfl))
  f240 := Tryz.func177.trans (congrArg some (by kernel_rfl))
  f241 := Tryz.func178.trans (congrArg some (by kernel_rfl))
  f276 := Tryz.func239.trans (congrArg some (by kernel_rfl))
  f277 := Tryz.func240.trans (congrArg some (by kernel_rfl))
  t0 := Tryz.underlying0
  a0 := Tryz.isAgg0
  z0 := Tryz.sizeOf0
  v0 := Tryz.zeroValue0
  t3 := Tryz.underlying3
  a3 := Tryz.isAgg3
  z3 := Tryz.sizeOf3
  v3 := Tryz.zeroValue3
  t4 := Tryz.underlying4
  a4 := Tryz.isAgg4
  z4 := Tryz.sizeOf4
  v4 := Tryz.zeroValue4
  t9 := Tryz.underlying9
  a9 := Tryz.isAgg9
  z9 := Tryz.sizeOf9
  v9 := Tryz.zeroValue9
  t20 := Tryz.underlying20
  a20 := Tryz.isAgg20
  z20 := Tryz.sizeOf20
  v20 := Tryz.zeroValue20
  t31 := Tryz.underlying22
  a31 := Tryz.isAgg22
  z31 := Tryz.sizeOf22
  v31 := Tryz.zeroValue22
  t37 := Tryz.underlying71
  a37 := Tryz.isAgg71
  z37 := Tryz.sizeOf71
  v37 := Tryz.zeroValue71
  t70 := Tryz.underlying106
  a70 := Tryz.isAgg106
  z70 := Tryz.sizeOf106
  v70 := Tryz.zeroValue106
  t72 := Tryz.underlying108
  a72 := Tryz.isAgg108
  z72 := Tryz.sizeOf108
  v72 := Tryz.zeroValue108
  t75 := Tryz.underlying134
  a75 := Tryz.isAgg134
  z75 := Tryz.sizeOf134
  v75 := Tryz.zeroValue134
  t76 := Tryz.underlying135
  a76 := Tryz.isAgg135
  z76 := Tryz.sizeOf135
  v76 := Tryz.zeroValue135
  t127 := Tryz.underlying152
  a127 := Tryz.isAgg152
  z127 := Tryz.sizeOf152
  v127 := Tryz.zeroValue152
  t164 := Tryz.underlying230
  a164 := Tryz.isAgg230
  z164 := Tryz.sizeOf230
  v164 := Tryz.zeroValue230 }
theorem builder_Extra_156 : Builder.Extra Tryz.prog lays156_ren := {
  sizeBuilder := by kernel_rfl
  liesBuilder := by kernel_rfl
  t5 := Tryz.underlying5
  a5 := Tryz.isAgg5
  z5 := Tryz.sizeOf5
  v5 := Tryz.zeroValue5
  infoByte := by kernel_rfl
  cellsByte := by kernel_rfl
  sizeByte := by kernel_rfl
  neB5 := by decide }
theorem strings_Join_none (a : Option Addr) (c : Nat) (sep : ByteArray) (w : World) :
    Calls Tryz.prog 47 #[.slice a 0 c, .string sep] w fun e w' => e = .returned (.string ⟨#[]⟩) ∧ w' = w := Any.strings_Join_none lays156 builder_Extra_156 a c sep w
theorem strings_Join (bk o c : Nat) (xs : List ByteArray) (sep : ByteArray) (w : World) (hcells : ∀ (j : Nat) x, xs[j]? = some x → w.cell? ⟨bk, o + j, none⟩ = some (.string x)) (hbk : bk < w.heap.size) (hN : xs.length ≤ 140737488355328) (hcap : xs.length ≤ c) (hlen : (Lib.join (xs.map (·.data.toList)) sep.data.toList).length ≤ 140737488355328) :
    Calls Tryz.prog 47 #[.slice (some ⟨bk, o, none⟩) xs.length c, .string sep] w fun e w' => e = .returned (.string ⟨(Lib.join (xs.map (·.data.toList)) sep.data.toList).toArray⟩) ∧ Below w.heap.size w w' := Any.strings_Join lays156 builder_Extra_156 bk o c xs sep w hcells hbk hN hcap hlen
end Go.Proofs.YtpincofjopmaaaaGreatDoor
namespace Go.Proofs.YtpincofjopmaaaaGreatDoor
open Go.RowKit
end Go.Proofs.YtpincofjopmaaaaGreatDoor
