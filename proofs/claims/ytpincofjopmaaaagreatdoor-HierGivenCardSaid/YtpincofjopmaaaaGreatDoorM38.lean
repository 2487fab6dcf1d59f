/-
  The contract of an entry's differs: whether what a class adds has a method that is signed otherwise than one with its name.
  Conditions: as each text of it says.
-/
import Derived.Test.YtpincofjopmaaaaGreatDoorM37
import Derived.Test.YtpincofjopmaaaaGreatDoorM36
import Derived.Test.YtpincofjopmaaaaGreatDoorM24
import Derived.Test.YtpincofjopmaaaaGreatDoorM25
import Derived.Test.YtpincofjopmaaaaGreatDoorM27
import Derived.Laws.EntriesVeiled
set_option maxHeartbeats 8000000
set_option maxRecDepth 100000
namespace Go.Proofs.YtpincofjopmaaaaGreatDoor
open Go.RowKit
theorem clash_app {es : List Ent} {x : Nat} {a b : List Mth} {m : Mth} (h : ∃ k ∈ a, k.name = m.name) : clash es x (a ++ b) m = clash es x a m := by
  unfold clash
  rw [knOf_app h]
def NoC (es : List Ent) (x : Nat) (ms : List Mth) : Prop := ∀ m ∈ ms, clash es x ms m = false
theorem NoC.snoc {es : List Ent} {x : Nat} {ms : List Mth} {m : Mth} (h : NoC es x ms) (hm : clash es x (ms ++ [m]) m = false) : NoC es x (ms ++ [m]) := fun k hk => by
  rcases List.mem_append.1 hk with hk | hk
  · rw [clash_app ⟨k, hk, rfl⟩]
    exact h k hk
  · rw [List.mem_singleton.1 hk]
    exact hm
def GoodT (es : List Ent) : Prop := ∀ i, ∀ m ∈ mthsAt es i, m.Good
theorem ownM_mem {es : List Ent} {x : Nat} {n : List UInt8} {m : Mth} (h : ownM es x n = some m) : m ∈ mthsAt es x ∧ m.name = n := by
  unfold ownM at h
  exact ⟨List.mem_of_find?_eq_some h, by have := List.find?_some h; simpa using this⟩
theorem findM_mem {es : List Ent} {o : Option Nat} {n : List UInt8} {r : Nat × Mth} (h : findM es o n = some r) : r.1 ∈ aboveE es o ∧ ownM es r.1 n = some r.2 := by
  unfold findM at h
  obtain ⟨l1, a, l2, h1, h2, _⟩ := List.findSome?_eq_some_iff.1 h
  obtain ⟨m, h3, h4⟩ := Option.map_eq_some_iff.1 h2
  subst h4
  exact ⟨by rw [h1]; simp, h3⟩
theorem inhE_good {es : List Ent} (hg : GoodT es) {x : Nat} {m : Mth} (hm : m.Good) : (inhE es x m).Good := by
  unfold inhE orM
  cases h : findM es (upAt es x) m.name with
  | none => exact hm
  | some r => exact hg r.1 r.2 (ownM_mem (findM_mem h).2).1
theorem knOf_good {es : List Ent} (hg : GoodT es) {x : Nat} {ms : List Mth} (hms : ∀ m ∈ ms, m.Good) {n : List UInt8} {k : Mth} (h : knOf es x ms n = some k) : k.Good := by
  unfold knOf at h
  obtain ⟨m, h1, h2⟩ := Option.map_eq_some_iff.1 h
  subst h2
  exact inhE_good hg (hms m (List.mem_of_find?_eq_some h1))
structure DJ (w0 : World) (es : List Ent) (B : Nat → Nat) (x kb cb km : Nat) (ms : List Mth) (w : World) : Prop where
  bel : Below w0.heap.size w0 w
  kn : Kn w0 es x km ms w
  ckb : w.cell? ⟨kb, 0, none⟩ = some (.map (some km))
  ccb : w.cell? ⟨cb, 0, none⟩ = some (entV B x)
  no : NoC es x ms
theorem diff1_any {A : Nat → Prop} {B : Nat → Nat} {T mb : Nat} {es : List Ent} {w0 : World} (hT : Tab A w0 T mb B es) (hS : Shape es) (hu : ParIn es) (hml : ∀ i, (mthsAt es i).length ≤ 32) (hg : GoodT es) (x : Nat) (hx : x < es.length) (d : Nat) (hd : d < es.length) (ms : List Mth) (kb cb km : Nat) (w : World) (hkm : w0.heap.size ≤ km) (hkb : kb ≠ km) (hcb : cb ≠ km)
    (hms : ∀ m ∈ ms, m.Good) (hl : ms.length ≤ 1099511627776) (hJ : DJ w0 es B x kb cb km ms w) :
    Calls Tryz.prog 191 (#[entV B d] ++ #[.pointer (some ⟨kb, 0, none⟩), .pointer (some ⟨cb, 0, none⟩)]) w
      (fun e w' => YesNo (fun _ => ∃ k m, (mthsAt es d)[k]? = some m ∧ clash es x (ms ++ (mthsAt es d).take (k + 1)) m = true) (DJ w0 es B x kb cb km (ms ++ mthsAt es d)) e w' ∧ Only (fun b => b = km) w w') := by
  have hmf : ∀ (fn : Fn) (first cap : Array Value) (w : World), (Instr.makeFunc fn first cap).run Tryz.prog w = .ok (.func fn first cap) w := fun _ _ _ _ => rfl
  obtain ⟨e, he⟩ : ∃ e, es[d]? = some e := ⟨_, List.getElem?_eq_getElem hd⟩
  obtain ⟨lv, fv, mv, sv, hb, _, _, h3, _⟩ := hT.ent d e he
  have hma := mthsAt_eq he
  have hl2 := hml d
  have hgd := hg d
  rw [hma] at hl2 hgd ⊢
  have c8 : w.cell? ⟨B d, 8, none⟩ = some mv := (hb.below hJ.bel).cell 8 rfl
  have h3' := MthR.st.srcMono (A' := fun k => k < w0.heap.size) h3 (fun k hk _ => hk)
  have hbel : ∀ w', Only (fun b => b = km) w w' → Below w0.heap.size w0 w' := fun w' ho => hJ.bel.trans (ho.below hJ.bel.size (fun b (e : b = km) => by omega))
  have HC := Lib.hid (contj_mth (A := fun k => k < w0.heap.size) 192 #[.pointer (some ⟨kb, 0, none⟩), .pointer (some ⟨cb, 0, none⟩)] e.cls.mths mv
    (fun k w' => Kn w0 es x km (ms ++ e.cls.mths.take k) w' ∧ NoC es x (ms ++ e.cls.mths.take k) ∧ Only (fun b => b = km) w w')
    (fun k w' => (∃ m, e.cls.mths[k]? = some m ∧ clash es x (ms ++ e.cls.mths.take (k + 1)) m = true) ∧ Only (fun b => b = km) w w') w (enters_fn Tryz.func192 (by kernel_rfl) rfl)
    (fun k w' h => MthR.st.below h3' (hbel w' h.2.2)) ⟨by rw [List.take_zero, List.append_nil]; exact hJ.kn, by rw [List.take_zero, List.append_nil]; exact hJ.no, Only.refl _ _⟩
    (fun k m v w1 hm hj hv => by
      have hmg := hgd m (List.mem_of_getElem? hm)
      have htk : ms ++ e.cls.mths.take (k + 1) = (ms ++ e.cls.mths.take k) ++ [m] := by rw [List.take_add_one, hm, List.append_assoc]; rfl
      have hallg : ∀ q ∈ (ms ++ e.cls.mths.take k) ++ [m], q.Good := fun q hq => by
        rcases List.mem_append.1 hq with hq | hq
        · rcases List.mem_append.1 hq with hq | hq
          · exact hms q hq
          · exact hgd q (List.mem_of_mem_take hq)
        · rw [List.mem_singleton.1 hq]; exact hmg
      refine (diff2_any hT hS hu (fun i => by have := hml i; omega) x hx m v (ms ++ e.cls.mths.take k) kb cb km w1 (hbel w1 hj.2.2) hv (hj.2.2.cell hJ.ckb hkb) (hj.2.2.cell hJ.ccb hcb) hj.1 hkm hkb hcb (by have := memB_len hmg.name; omega) (by rw [List.length_append, List.length_take]; omega) hmg.brief (fun q hq => (knOf_good hg hallg hq).brief)).mono ?_
      rintro e1 w2 ⟨hyn, hon⟩
      refine hyn.mono' (fun h => ⟨⟨m, hm, by rw [htk]; exact h⟩, hj.2.2.trans hon⟩) (fun h => ?_)
      dsimp only
      rw [htk]
      exact ⟨h.1, hj.2.1.snoc h.2, hj.2.2.trans hon⟩) (by omega))
  obtain ⟨mo, mc, rfl⟩ := h3.shape
  have HJ := Lib.hid hJ
  have HBEL := Lib.hid hbel
  have HKB := Lib.hid hkb
  have HCB := Lib.hid hcb
  have HLN := Lib.hid (rfl : e.cls.mths.length = e.cls.mths.length)
  obtain ⟨n, hn⟩ : ∃ n, n = e.cls.mths.length := ⟨_, rfl⟩
  have HN := Lib.hid hn
  rw [← hn] at HC c8
  clear hT hS hu hml hg hx hd hms hl hJ hkm hkb hcb he hb h3 h3' hma hl2 hgd hbel hn
  go_enter Tryz.func191, Tryz.ntmps191
  go_wp2_with fail
  refine HC.out.mono ?_
  rintro e1 w1 ⟨b, rfl, hy, hno⟩
  cases b with
  | true =>
    obtain ⟨k, _, ⟨m, hm, hc⟩, ho⟩ := hy rfl
    have HM := Lib.hid hm
    have HCL := Lib.hid hc
    have HO := Lib.hid ho
    clear hy hno hm hc ho c8 HC
    go_wp2
    go_ret
    exact ⟨⟨true, rfl, fun _ => ⟨k, m, HM.out, HCL.out⟩, (fun h => by cases h)⟩, HO.out⟩
  | false =>
    obtain ⟨h1, h2, h3⟩ := hno rfl
    rw [HN.out, List.take_length] at h1 h2
    have H1 := Lib.hid h1
    have H2 := Lib.hid h2
    have H3 := Lib.hid h3
    clear hy hno h1 h2 h3 c8 HC
    go_wp2
    go_ret
    exact ⟨⟨false, rfl, (fun h => by cases h), fun _ => ⟨HBEL.out w1 H3.out, H1.out, H3.out.cell HJ.out.ckb HKB.out, H3.out.cell HJ.out.ccb HCB.out, H2.out⟩⟩, H3.out⟩
theorem added_len {es : List Ent} (hS : Shape es) {x : Nat} (hx : x < es.length) : (addedE es x).length ≤ es.length + 1 := by
  obtain ⟨e, he⟩ : ∃ e, es[x]? = some e := ⟨_, List.getElem?_eq_getElem hx⟩
  have h1 := nodup_len es.length (vis es es.length [] (lkOf es x)) (by have := vis_fresh es es.length [] (lkOf es x) .nil; rwa [List.nil_append] at this) (fun y hy => vis_lt _ _ _ (by rw [lkOf_eq he]; exact hS.deep x e he) y hy)
  unfold addedE
  rw [List.length_cons]
  omega
theorem msE_len {es : List Ent} (hml : ∀ i, (mthsAt es i).length ≤ 32) : ∀ L : List Nat, (msE es L).length ≤ L.length * 32
  | [] => Nat.le_refl _
  | i :: l => by
    have h1 := msE_len hml l
    have h2 := hml i
    unfold msE at h1 ⊢
    rw [List.flatMap_cons, List.length_append, List.length_cons]
    omega
theorem msE_take {es : List Ent} {L : List Nat} {k d : Nat} (h : L[k]? = some d) : msE es (L.take (k + 1)) = msE es (L.take k) ++ mthsAt es d := by
  unfold msE
  rw [List.take_add_one, h, List.flatMap_append]
  simp
theorem msE_good {es : List Ent} (hg : GoodT es) (L : List Nat) : ∀ m ∈ msE es L, m.Good := fun m hm => by
  obtain ⟨i, _, h⟩ := List.mem_flatMap.1 hm
  exact hg i m h
theorem differs_of {es : List Ent} {x k d j : Nat} {m : Mth} (hd : (addedE es x)[k]? = some d) (hm : (mthsAt es d)[j]? = some m) (hc : clash es x (msE es ((addedE es x).take k) ++ (mthsAt es d).take (j + 1)) m = true) : differsE es x = true := by
  unfold differsE
  have hmem : m ∈ (mthsAt es d).take (j + 1) := by rw [List.take_add_one, hm]; simp
  have e : ∃ r, msE es (addedE es x) = (msE es ((addedE es x).take k) ++ (mthsAt es d).take (j + 1)) ++ r := by
    refine ⟨(mthsAt es d).drop (j + 1) ++ msE es ((addedE es x).drop (k + 1)), ?_⟩
    conv => lhs; rw [← List.take_append_drop (k + 1) (addedE es x)]
    have h1 : msE es ((addedE es x).take (k + 1) ++ (addedE es x).drop (k + 1)) = msE es ((addedE es x).take (k + 1)) ++ msE es ((addedE es x).drop (k + 1)) := by unfold msE; rw [List.flatMap_append]
    rw [h1, msE_take hd]
    conv => lhs; rw [← List.take_append_drop (j + 1) (mthsAt es d)]
    simp only [List.append_assoc]
  obtain ⟨r, hr⟩ := e
  rw [hr]
  refine List.any_eq_true.2 ⟨m, List.mem_append_left _ (List.mem_append_right _ hmem), ?_⟩
  rw [clash_app ⟨m, List.mem_append_right _ hmem, rfl⟩]
  exact hc
theorem differs_not {es : List Ent} {x : Nat} (h : NoC es x (msE es (addedE es x))) : differsE es x = false := by
  unfold differsE
  rw [List.any_eq_false]
  exact fun m hm => by rw [h m hm]; decide
theorem differs_any {A : Nat → Prop} {B : Nat → Nat} {T mb : Nat} {es : List Ent} {w0 : World} (hT : Tab A w0 T mb B es) (hS : Shape es) (hu : ParIn es) (hml : ∀ i, (mthsAt es i).length ≤ 32) (hg : GoodT es) (x : Nat) (hx : x < es.length) (w : World) (hw : Below w0.heap.size w0 w) :
    Calls Tryz.prog 121 #[entV B x] w (Said (differsE es x) w) := by
  have hmf : ∀ (fn : Fn) (first cap : Array Value) (w : World), (Instr.makeFunc fn first cap).run Tryz.prog w = .ok (.func fn first cap) w := fun _ _ _ _ => rfl
  have hmm := @run_makeMap Tryz.prog
  have HADD : Hid (∀ cb kb km W, DJ w0 es B x kb cb km [] W → w.heap.size ≤ km → kb ≠ km → cb ≠ km → km < W.heap.size → Below w.heap.size w W → Calls Tryz.prog 190 #[entV B x, .func (.func 191) #[] #[.pointer (some ⟨kb, 0, none⟩), .pointer (some ⟨cb, 0, none⟩)]] W (Said (differsE es x) w)) := Lib.hid (fun cb kb km W hj hkm hkb hcb hlt hbW => by
    have hws := hw.size
    have hl1 : kb < W.heap.size := World.block_lt_of_cell? W _ hj.ckb
    have hl2 : cb < W.heap.size := World.block_lt_of_cell? W _ hj.ccb
    have hWs := hj.bel.size
    refine (added_any hT hS _ _ (enters_fn Tryz.func191 (by kernel_rfl) rfl) W.heap.size x hx (fun k w' => DJ w0 es B x kb cb km (msE es ((addedE es x).take k)) w' ∧ Only (fun b => b = km ∨ W.heap.size ≤ b) W w') (fun _ w' => differsE es x = true ∧ Only (fun b => b = km ∨ W.heap.size ≤ b) W w') W (fun k w' h => h.2.size) (fun k w' h => h.1.bel) (fun k w1 w2 h ho => ?_) (fun k y w1 hy hj1 => ?_) ⟨hj, Only.refl _ _⟩).mono ?_
    · exact ⟨⟨h.1.bel.trans (ho.below h.1.bel.size (fun b (hb : W.heap.size ≤ b) => by omega)), h.1.kn.keep ho (by show ¬ W.heap.size ≤ km; omega) (fun b hb => by (show ¬ W.heap.size ≤ b; omega)), ho.cell h.1.ckb (by show ¬ W.heap.size ≤ kb; omega), ho.cell h.1.ccb (by show ¬ W.heap.size ≤ cb; omega), h.1.no⟩, h.2.trans (ho.mono (fun b _ hb => .inr hb))⟩
    · have hyl : y < es.length := by
        rcases List.mem_cons.1 (List.mem_of_getElem? hy) with e | h
        · rw [e]; exact hx
        · obtain ⟨e, he⟩ : ∃ e, es[x]? = some e := ⟨_, List.getElem?_eq_getElem hx⟩
          exact vis_lt _ _ _ (by rw [lkOf_eq he]; exact hS.deep x e he) y h
      have hlm := msE_len hml ((addedE es x).take k)
      have hla := added_len hS hx
      have hsl := hS.len
      rw [List.length_take] at hlm
      refine (diff1_any hT hS hu hml hg x hx y hyl (msE es ((addedE es x).take k)) kb cb km w1 (by omega) hkb hcb (msE_good hg _) (by omega) hj1.1).mono ?_
      rintro e2 w2 ⟨hyn, hon⟩
      refine ⟨hyn.mono' (fun ⟨j, m, hm, hc⟩ => ⟨differs_of hy hm hc, hj1.2.trans (hon.mono (fun b _ hb => .inl hb))⟩) (fun h => ⟨?_, hj1.2.trans (hon.mono (fun b _ hb => .inl hb))⟩), hon.mono (fun b _ (hb : b = km) => by omega)⟩
      rw [msE_take hy]
      exact h
    · rintro e w' ⟨b, rfl, h1, h2⟩
      have hfin : ∀ w', Only (fun b => b = km ∨ W.heap.size ≤ b) W w' → Below w.heap.size w w' := fun w' ho => hbW.trans (ho.below hbW.size (fun b hb => by have := hbW.size; omega))
      cases b with
      | true =>
        obtain ⟨_, _, h, ho⟩ := h1 rfl
        exact ⟨by rw [h], hfin w' ho⟩
      | false =>
        have h := (h2 rfl).1.no
        rw [List.take_length] at h
        exact ⟨by rw [differs_not h], hfin w' (h2 rfl).2⟩)
  have hst : ∀ W, W = ((w.alloc (.cells #[entV B x] 94)).alloc (.map #[] 0)).alloc (.cells #[.map (some (w.heap.size + 1))] 190) → DJ w0 es B x (w.heap.size + 1 + 1) w.heap.size (w.heap.size + 1) [] W ∧ Below w.heap.size w W := fun W hW => by
    subst hW
    have s1 : (w.alloc (.cells #[entV B x] 94)).heap.size = w.heap.size + 1 := by simp
    have s2 : ((w.alloc (.cells #[entV B x] 94)).alloc (.map #[] 0)).heap.size = w.heap.size + 1 + 1 := by simp
    have hbe : Below w.heap.size w (((w.alloc (.cells #[entV B x] 94)).alloc (.map #[] 0)).alloc (.cells #[.map (some (w.heap.size + 1))] 190)) := below_alloc (below_alloc (below_alloc (Below.refl _ _) _) _) _
    have xb := Box.new ((w.alloc (.cells #[entV B x] 94)).alloc (.map #[] 0)) #[.map (some (w.heap.size + 1))] 190
    rw [s2] at xb
    have xm := MapF.new Tryz.prog 9 (.agg #[.string ⟨#[]⟩, .slice none 0 0, .string ⟨#[]⟩, .bool false, .int .i64 0, .slice none 0 0, .slice none 0 0]) (w.alloc (.cells #[entV B x] 94))
    rw [s1] at xm
    refine ⟨⟨hw.trans (hbe.mono hw.size), ⟨0, _, _, xm.keep ((Only.refl (fun _ => False) _).alloc _) id, Nat.le_refl _, fun nm => by simp, fun nm h => by cases h⟩, xb.cell 0 rfl, ((Box.new w #[entV B x] 94).below (below_alloc (below_alloc (Below.refl _ _) _) _)).cell 0 rfl, fun m hm => by cases hm⟩, hbe⟩
  have HST := Lib.hid hst
  generalize differsE es x = R at HADD ⊢
  clear hT hS hu hml hg hx hw hst
  go_enter Tryz.func121, Tryz.ntmps121
  go_upto_region 2 with fail
  clear hmm
  obtain ⟨hj, hb1⟩ := HST.out _ rfl
  have HC := Lib.hid (HADD.out _ _ _ _ hj (by omega) (by omega) (by omega) (by simp) hb1)
  have c0 := hj.ccb
  clear hj hb1 HST HADD
  generalize ((w.alloc (.cells #[entV B x] 94)).alloc (.map #[] 0)).alloc (.cells #[.map (some (w.heap.size + 1))] 190) = W1 at HC c0 ⊢
  go_wp2_with fail
  refine HC.out.mono ?_
  rintro e w1 ⟨rfl, hb2⟩
  have HB2 := Lib.hid hb2
  clear hb2 HC c0
  go_wp2
  go_ret
  exact ⟨rfl, HB2.out⟩
def hasF (es : List Ent) (o : Option Nat) (n : List UInt8) : Bool := (lineE es o).any fun x => (fldsAt es x).any fun f => f.name == n
theorem hasf2_any {w : World} {f : Fld} {n : List UInt8} {c : Nat} (h : w.cell? ⟨c, 0, none⟩ = some (.string (S n))) :
    Calls Tryz.prog 185 #[fldV f, .pointer (some ⟨c, 0, none⟩)] w (Said (f.name == n) w) := by
  have e0 := S_toList f.name
  have e1 := S_toList n
  have hlt : c < w.heap.size := World.block_lt_of_cell? w _ h
  go_enter Tryz.func185, Tryz.ntmps185
  go_wp2
  go_ret
  exact ⟨rfl, (Below.refl _ w).alloc (Nat.le_refl _) _⟩
theorem hasf1_any {A : Nat → Prop} {B : Nat → Nat} {T mb : Nat} {es : List Ent} {w0 : World} (hT : Tab A w0 T mb B es) (hfl : ∀ (i : Nat) (e : Ent), es[i]? = some e → e.cls.flds.length ≤ 32) (x : Nat) (hx : x < es.length) (n : List UInt8) (c : Nat) (w : World) (hw : Below w0.heap.size w0 w)
    (h : w.cell? ⟨c, 0, none⟩ = some (.string (S n))) :
    Calls Tryz.prog 184 #[entV B x, .pointer (some ⟨c, 0, none⟩)] w (Said ((fldsAt es x).any fun f => f.name == n) w) := by
  have hmf : ∀ (fn : Fn) (first cap : Array Value) (w : World), (Instr.makeFunc fn first cap).run Tryz.prog w = .ok (.func fn first cap) w := fun _ _ _ _ => rfl
  obtain ⟨e, he⟩ : ∃ e, es[x]? = some e := ⟨_, List.getElem?_eq_getElem hx⟩
  obtain ⟨lv, fv, mv, sv, hb, _, h2, _, _⟩ := (hT.below hw).ent x e he
  have hfa : fldsAt es x = e.cls.flds := by unfold fldsAt; rw [he]
  have c7 : w.cell? ⟨B x, 7, none⟩ = some fv := hb.cell 7 rfl
  have HC := Lib.hid (contf_fld (A := A) 185 #[.pointer (some ⟨c, 0, none⟩)] (fun f => f.name == n) e.cls.flds fv w (enters_fn Tryz.func185 (by kernel_rfl) rfl) h2 (fun k y v w' _ hw' hv => by
    obtain rfl := hv
    exact hasf2_any ((Only.ofBelow (S := fun _ => False) hw').cell h id)) (by have := hfl x e he; omega))
  obtain ⟨fo, fc, rfl⟩ := h2.shape
  rw [hfa]
  generalize (e.cls.flds.any fun f => f.name == n) = r at HC ⊢
  generalize e.cls.flds.length = k at HC c7
  clear hT hfl he hb h2 hfa h hx
  go_enter Tryz.func184, Tryz.ntmps184
  go_wp2_with fail
  refine HC.out.mono ?_
  rintro e w1 ⟨rfl, hb1⟩
  have HB1 := Lib.hid hb1
  clear hb1 HC c7
  go_wp2
  go_ret
  exact ⟨rfl, HB1.out⟩
theorem hasfield_any {A : Nat → Prop} {B : Nat → Nat} {T mb : Nat} {es : List Ent} {w0 : World} (hT : Tab A w0 T mb B es) (hS : Shape es) (o : Option Nat) (ho : ∀ i, o = some i → i < es.length) (n : List UInt8) (w : World) (hw : Below w0.heap.size w0 w) :
    Calls Tryz.prog 119 #[ptrV B o, .string (S n)] w (Said (hasF es o n) w) := by
  have hmf : ∀ (fn : Fn) (first cap : Array Value) (w : World), (Instr.makeFunc fn first cap).run Tryz.prog w = .ok (.func fn first cap) w := fun _ _ _ _ => rfl
  have hb1 : Below w.heap.size w (w.alloc (.cells #[.string (S n)] 9)) := below_alloc (Below.refl _ _) _
  have hc := hS.line o ho
  have HL := Lib.hid (line_pure hT 184 #[.pointer (some ⟨w.heap.size, 0, none⟩)] (enters_fn Tryz.func184 (by kernel_rfl) rfl) (lineE es o) o hc (fun x => (fldsAt es x).any fun f => f.name == n) _ (hw.trans (hb1.mono hw.size)) (fun x w' hx hw' => by
    obtain ⟨e, he⟩ := chain_mem hc x hx
    exact hasf1_any hT hS.fl x (List.getElem?_eq_some_iff.1 he).1 n w.heap.size w' (hw.trans ((hb1.trans (hw'.mono hb1.size)).mono hw.size)) (((Box.new w #[.string (S n)] 9).below hw').cell 0 rfl)))
  have HB1 := Lib.hid hb1
  rw [show (lineE es o).any (fun x => (fldsAt es x).any fun f => f.name == n) = hasF es o n from rfl] at HL
  generalize hasF es o n = r at HL ⊢
  generalize ptrV B o = vo at HL ⊢
  clear hT hS ho hw hb1 hc
  go_enter Tryz.func119, Tryz.ntmps119
  go_wp2_with fail
  refine HL.out.mono ?_
  rintro e w1 ⟨rfl, hb2⟩
  have HB2 := Lib.hid (HB1.out.trans (hb2.mono HB1.out.size))
  clear hb2 HL HB1
  go_wp2
  go_ret
  exact ⟨rfl, HB2.out⟩
def declAll (es : List Ent) (c : Cls) : Bool := !(c.flds.any fun f => !declE es f.kind) && !(c.mths.any fun m => m.params.any (fun s => !declE es s) || (!decide (m.res = []) && !declE es m.res))
theorem missing_any {A : Nat → Prop} {B : Nat → Nat} {T mb : Nat} {es : List Ent} {w0 : World} (hT : Tab A w0 T mb B es) (s : List UInt8) (c : Nat) (w : World) (hw : Below w0.heap.size w0 w) (hs : s.length ≤ 9223372036854775807) (h : w.cell? ⟨c, 0, none⟩ = some (.pointer (some ⟨T, 0, none⟩))) :
    Calls Tryz.prog 186 #[.string (S s), .pointer (some ⟨c, 0, none⟩)] w (Said (!declE es s) w) := by
  have HD := Lib.hid (decl_any hT s w hw hs)
  generalize declE es s = r at HD ⊢
  clear hT hw hs
  go_enter Tryz.func186, Tryz.ntmps186
  go_wp2_with fail
  refine HD.out.mono ?_
  rintro e w1 ⟨rfl, hb1⟩
  have HB1 := Lib.hid hb1
  clear hb1 HD h
  go_wp2
  go_ret
  exact ⟨rfl, HB1.out⟩
abbrev missV (bt : Nat) : Value := .func (.func 186) #[] #[.pointer (some ⟨bt, 0, none⟩)]
theorem decl2_any {A : Nat → Prop} {B : Nat → Nat} {T mb : Nat} {es : List Ent} {w0 : World} (hT : Tab A w0 T mb B es) (f : Fld) (bt bm : Nat) (w : World) (hw : Below w0.heap.size w0 w) (hs : f.kind.length ≤ 9223372036854775807) (h : w.cell? ⟨bt, 0, none⟩ = some (.pointer (some ⟨T, 0, none⟩))) (hm : w.cell? ⟨bm, 0, none⟩ = some (missV bt)) :
    Calls Tryz.prog 187 #[fldV f, .pointer (some ⟨bm, 0, none⟩)] w (Said (!declE es f.kind) w) := by
  have he : ∀ args w, (callFunc 186 args).run Tryz.prog w = .ok (.enter 186 args) w := enters_fn Tryz.func186 (by kernel_rfl) rfl
  have hcA : ∀ o : Obj, (w.alloc o).cell? ⟨bm, 0, none⟩ = some (missV bt) := fun o => ((Only.refl (fun _ => False) w).alloc o).cell hm id
  have HF : Hid (∀ o : Obj, Calls Tryz.prog 186 #[.string (S f.kind), .pointer (some ⟨bt, 0, none⟩)] (w.alloc o) (Said (!declE es f.kind) (w.alloc o))) := Lib.hid (fun o =>
    missing_any hT f.kind bt _ (below_alloc hw o) hs (((Only.refl (fun _ => False) w).alloc o).cell h id))
  generalize (!declE es f.kind) = r at HF ⊢
  clear hT hw hs h hm
  go_enter Tryz.func187, Tryz.ntmps187
  go_wp2_with fail
  refine (HF.out _).mono ?_
  rintro e w1 ⟨rfl, hb1⟩
  have HB1 := Lib.hid (((Below.refl _ w).alloc (Nat.le_refl _) _).trans (hb1.mono (by simp)))
  clear hb1 HF hcA he
  go_wp2
  go_ret
  exact ⟨rfl, HB1.out⟩
def missM (es : List Ent) (m : Mth) : Bool := m.params.any (fun s => !declE es s) || (!decide (m.res = []) && !declE es m.res)
theorem decl3_any {A A' : Nat → Prop} {B : Nat → Nat} {T mb : Nat} {es : List Ent} {w0 : World} (hT : Tab A w0 T mb B es) (m : Mth) (v : Value) (bt bm : Nat) (w : World) (hw : Below w0.heap.size w0 w) (hv : MthR A' w m v) (hfit : m.Fit) (h : w.cell? ⟨bt, 0, none⟩ = some (.pointer (some ⟨T, 0, none⟩))) (hm : w.cell? ⟨bm, 0, none⟩ = some (missV bt)) :
    Calls Tryz.prog 188 #[v, .pointer (some ⟨bm, 0, none⟩)] w (Said (missM es m) w) := by
  have he : ∀ args w, (callFunc 186 args).run Tryz.prog w = .ok (.enter 186 args) w := enters_fn Tryz.func186 (by kernel_rfl) rfl
  obtain ⟨pv, cv, kv, rfl, hp, hcd, hkt⟩ := hv
  obtain ⟨po, pc, rfl⟩ := hp.shape
  obtain ⟨co, cc, rfl⟩ := hcd.shape
  obtain ⟨ko, kc, rfl⟩ := hkt.shape
  have hb0 : Below w.heap.size w (w.alloc (.cells #[.string (S m.name), .slice po m.params.length pc, .string (S m.res), .bool m.abs, .int .i64 m.loc, .slice co m.code.length cc, .slice ko m.cats.length kc] 33)) := (Below.refl _ w).alloc (Nat.le_refl _) _
  have HB0 := Lib.hid hb0
  have HBX := Lib.hid (Box.new w #[.string (S m.name), .slice po m.params.length pc, .string (S m.res), .bool m.abs, .int .i64 m.loc, .slice co m.code.length cc, .slice ko m.cats.length kc] 33)
  have hm0 := (Only.ofBelow (S := fun _ => False) hb0).cell hm id
  have HMS : Hid (∀ W s, Below w.heap.size w W → strOk s → Calls Tryz.prog 186 #[.string (S s), .pointer (some ⟨bt, 0, none⟩)] W (Said (!declE es s) W)) := Lib.hid (fun W s hW hs =>
    missing_any hT s bt W (hw.trans (hW.mono hw.size)) hs ((Only.ofBelow (S := fun _ => False) hW).cell h id))
  have HC : Hid (Calls Tryz.prog 189 #[.slice po m.params.length pc, missV bt] (w.alloc (.cells #[.string (S m.name), .slice po m.params.length pc, .string (S m.res), .bool m.abs, .int .i64 m.loc, .slice co m.code.length cc, .slice ko m.cats.length kc] 33)) (Said (m.params.any fun s => !declE es s) (w.alloc (.cells #[.string (S m.name), .slice po m.params.length pc, .string (S m.res), .bool m.abs, .int .i64 m.loc, .slice co m.code.length cc, .slice ko m.cats.length kc] 33)))) := Lib.hid (
    contf_str (A := A') 186 #[.pointer (some ⟨bt, 0, none⟩)] (fun s => !declE es s) m.params _ _ he (StrR.st.below hp hb0) (fun k x u w' hx hb' hu => by
      obtain rfl := hu
      exact HMS.out w' x (hb0.trans (hb'.mono hb0.size)) (hfit.params x (List.mem_of_getElem? hx))) hfit.n1)
  have HR : Hid (∀ W, Below w.heap.size w W → Calls Tryz.prog 186 #[.string (S m.res), .pointer (some ⟨bt, 0, none⟩)] W (Said (!declE es m.res) W)) := Lib.hid (fun W hW => HMS.out W m.res hW hfit.res)
  have HM : Hid (∀ W, Below (w.alloc (.cells #[.string (S m.name), .slice po m.params.length pc, .string (S m.res), .bool m.abs, .int .i64 m.loc, .slice co m.code.length cc, .slice ko m.cats.length kc] 33)).heap.size (w.alloc (.cells #[.string (S m.name), .slice po m.params.length pc, .string (S m.res), .bool m.abs, .int .i64 m.loc, .slice co m.code.length cc, .slice ko m.cats.length kc] 33)) W → W.cell? ⟨bm, 0, none⟩ = some (missV bt)) := Lib.hid (fun W hW => (Only.ofBelow (S := fun _ => False) hW).cell hm0 id)
  unfold missM
  generalize (m.params.any fun s => !declE es s) = a1 at HC ⊢
  generalize (!declE es m.res) = a2 at HR ⊢
  have e0 := S_toList m.res
  clear hp hcd hkt hfit hb0 HMS hT hw h hm
  have c1 := HBX.out.cell 1 rfl
  go_enter Tryz.func188, Tryz.ntmps188
  go_wp2_with fail
  refine HC.out.mono ?_
  rintro e w1 ⟨rfl, hb1⟩
  have HB1 := Lib.hid hb1
  have HC1 := Lib.hid (HB0.out.trans (hb1.mono HB0.out.size))
  have c2 := (HBX.out.below hb1).cell 2 rfl
  have d2 := HM.out w1 hb1
  clear hb1 c1 hm0
  cases a1
  case true =>
    go_wp2
    go_ret
    exact ⟨rfl, HC1.out⟩
  case false =>
    by_cases hres : m.res = []
    · rw [hres] at c2 e0
      go_wp2
      go_ret
      exact ⟨by simp [hres], HC1.out⟩
    · have hE : m.res.isEmpty = false := by simp [hres]
      go_wp2_with fail
      refine (HR.out _ HC1.out).mono ?_
      rintro e w2 ⟨rfl, hb2⟩
      have HC2 := Lib.hid (HC1.out.trans (hb2.mono HC1.out.size))
      clear hb2 c2 d2
      go_wp2
      go_ret
      exact ⟨by simp [hres], HC2.out⟩
theorem declall_any {A A' : Nat → Prop} {B : Nat → Nat} {T mb : Nat} {es : List Ent} {w0 : World} (hT : Tab A w0 T mb B es) (c : Cls) (v : Value) (w : World) (hw : Below w0.heap.size w0 w) (hv : ClsR A' w c v) (hfit : c.Fit) :
    Calls Tryz.prog 120 #[.pointer (some ⟨T, 0, none⟩), v] w (Said (declAll es c) w) := by
  have hmf : ∀ (fn : Fn) (first cap : Array Value) (w : World), (Instr.makeFunc fn first cap).run Tryz.prog w = .ok (.func fn first cap) w := fun _ _ _ _ => rfl
  have he2 : ∀ args w, (callFunc 187 args).run Tryz.prog w = .ok (.enter 187 args) w := enters_fn Tryz.func187 (by kernel_rfl) rfl
  have he3 : ∀ args w, (callFunc 188 args).run Tryz.prog w = .ok (.enter 188 args) w := enters_fn Tryz.func188 (by kernel_rfl) rfl
  obtain ⟨lv, fv, mv, rfl, hl, hf, hm⟩ := hv
  obtain ⟨lo, lc, rfl⟩ := hl.shape
  obtain ⟨fo, fc, rfl⟩ := hf.shape
  obtain ⟨mo, mc, rfl⟩ := hm.shape
  have HFL : Hid (∀ W bt bm, Below w.heap.size w W → W.cell? ⟨bt, 0, none⟩ = some (.pointer (some ⟨T, 0, none⟩)) → W.cell? ⟨bm, 0, none⟩ = some (missV bt) → Calls Tryz.prog 117 #[.slice fo c.flds.length fc, .func (.func 187) #[] #[.pointer (some ⟨bm, 0, none⟩)]] W (Said (c.flds.any fun f => !declE es f.kind) W)) := Lib.hid (fun W bt bm hW ht hmm =>
    contf_fld (A := A') _ _ (fun f => !declE es f.kind) c.flds _ W he2 (FldR.st.below hf hW) (fun k f u w' hk hw' hu => by
      obtain rfl := hu
      have ho := Only.ofBelow (S := fun _ => False) hw'
      exact decl2_any hT f bt bm w' (hw.trans ((hW.trans (hw'.mono hW.size)).mono hw.size)) (hfit.flds f (List.mem_of_getElem? hk)).2 (ho.cell ht id) (ho.cell hmm id)) hfit.n2)
  have HMT : Hid (∀ W bt bm, Below w.heap.size w W → W.cell? ⟨bt, 0, none⟩ = some (.pointer (some ⟨T, 0, none⟩)) → W.cell? ⟨bm, 0, none⟩ = some (missV bt) → Calls Tryz.prog 159 #[.slice mo c.mths.length mc, .func (.func 188) #[] #[.pointer (some ⟨bm, 0, none⟩)]] W (Said (c.mths.any (missM es)) W)) := Lib.hid (fun W bt bm hW ht hmm =>
    contf_mth (A := A') _ _ (missM es) c.mths _ W he3 (MthR.st.below hm hW) (fun k f u w' hk hw' hu => by
      have ho := Only.ofBelow (S := fun _ => False) hw'
      exact decl3_any hT f u bt bm w' (hw.trans ((hW.trans (hw'.mono hW.size)).mono hw.size)) hu (hfit.mths f (List.mem_of_getElem? hk)) (ho.cell ht id) (ho.cell hmm id)) hfit.n3)
  have hd : declAll es c = (!(c.flds.any fun f => !declE es f.kind) && !(c.mths.any (missM es))) := rfl
  rw [hd]
  generalize (c.flds.any fun f => !declE es f.kind) = a1 at HFL ⊢
  generalize c.mths.any (missM es) = a2 at HMT ⊢
  have s1 : (w.alloc (.cells #[.pointer (some ⟨T, 0, none⟩)] 39)).heap.size = w.heap.size + 1 := by simp
  have s2 : ((w.alloc (.cells #[.pointer (some ⟨T, 0, none⟩)] 39)).alloc (.cells #[.string (S c.name), .string (S c.sup), .slice lo c.like.length lc, .bool c.itf, .bool c.abs, .bool c.fin, .slice fo c.flds.length fc, .slice mo c.mths.length mc] 26)).heap.size = w.heap.size + 1 + 1 := by simp
  have hbe : Below w.heap.size w ((w.alloc (.cells #[.pointer (some ⟨T, 0, none⟩)] 39)).alloc (.cells #[.string (S c.name), .string (S c.sup), .slice lo c.like.length lc, .bool c.itf, .bool c.abs, .bool c.fin, .slice fo c.flds.length fc, .slice mo c.mths.length mc] 26)) := below_alloc (below_alloc (Below.refl _ _) _) _
  have xt := (Box.new w #[.pointer (some ⟨T, 0, none⟩)] 39).below (below_alloc (Below.refl _ _) (.cells #[.string (S c.name), .string (S c.sup), .slice lo c.like.length lc, .bool c.itf, .bool c.abs, .bool c.fin, .slice fo c.flds.length fc, .slice mo c.mths.length mc] 26))
  have xc := Box.new (w.alloc (.cells #[.pointer (some ⟨T, 0, none⟩)] 39)) #[.string (S c.name), .string (S c.sup), .slice lo c.like.length lc, .bool c.itf, .bool c.abs, .bool c.fin, .slice fo c.flds.length fc, .slice mo c.mths.length mc] 26
  rw [s1] at xc
  have HS2 := Lib.hid s2
  have HBE := Lib.hid hbe
  have XT := Lib.hid xt
  have XC := Lib.hid xc
  clear hT hw hl hf hm hfit hd s1 s2 hbe xt xc
  go_enter Tryz.func120, Tryz.ntmps120
  go_upto_region 1 with fail
  generalize (w.alloc (.cells #[.pointer (some ⟨T, 0, none⟩)] 39)).alloc (.cells #[.string (S c.name), .string (S c.sup), .slice lo c.like.length lc, .bool c.itf, .bool c.abs, .bool c.fin, .slice fo c.flds.length fc, .slice mo c.mths.length mc] 26) = W2 at HS2 HBE XT XC ⊢
  have hfin : (fun W => Below w.heap.size w W ∧ W.cell? ⟨w.heap.size, 0, none⟩ = some (.pointer (some ⟨T, 0, none⟩)) ∧ Box W (w.heap.size + 1) #[.string (S c.name), .string (S c.sup), .slice lo c.like.length lc, .bool c.itf, .bool c.abs, .bool c.fin, .slice fo c.flds.length fc, .slice mo c.mths.length mc] 26 ∧ W.cell? ⟨W2.heap.size, 0, none⟩ = some (missV w.heap.size)) (W2.alloc (.cells #[missV w.heap.size] 47)) := by
    exact ⟨below_alloc HBE.out _, (XT.out.below (below_alloc (Below.refl _ _) _)).cell 0 rfl, XC.out.below (below_alloc (Below.refl _ _) _), (Box.new W2 #[missV w.heap.size] 47).cell 0 rfl⟩
  have HFIN := Lib.hid hfin
  clear hfin
  go_upto_region 2 with fail
  refine wp_forget (fun W => Below w.heap.size w W ∧ W.cell? ⟨w.heap.size, 0, none⟩ = some (.pointer (some ⟨T, 0, none⟩)) ∧ Box W (w.heap.size + 1) #[.string (S c.name), .string (S c.sup), .slice lo c.like.length lc, .bool c.itf, .bool c.abs, .bool c.fin, .slice fo c.flds.length fc, .slice mo c.mths.length mc] 26 ∧ W.cell? ⟨W2.heap.size, 0, none⟩ = some (missV w.heap.size)) HFIN.out ?_
  rintro W0 ⟨hb0, ht0, hx0, hm0⟩
  have HB0 := Lib.hid hb0
  have HT0 := Lib.hid ht0
  have HX0 := Lib.hid hx0
  have HM0 := Lib.hid hm0
  have q6 := hx0.cell 6 rfl
  have HC1 := Lib.hid (HFL.out W0 _ _ hb0 ht0 hm0)
  generalize W2.heap.size = bm at HM0 HC1 HS2 ⊢
  clear hb0 ht0 hx0 hm0 HFL HS2 HBE XT XC
  go_wp2_with fail
  refine HC1.out.mono ?_
  rintro e w1 ⟨rfl, hb1⟩
  have HB1 := Lib.hid (HB0.out.trans (hb1.mono HB0.out.size))
  have ho := Only.ofBelow (S := fun _ => False) hb1
  have q7 := (HX0.out.below hb1).cell 7 rfl
  have HC2 := Lib.hid (HMT.out w1 _ _ HB1.out (ho.cell HT0.out id) (ho.cell HM0.out id))
  clear hb1 ho q6 HC1 HMT
  cases a1
  case true =>
    go_wp2
    go_ret
    exact ⟨rfl, HB1.out⟩
  case false =>
    go_wp2_with fail
    refine HC2.out.mono ?_
    rintro e w2 ⟨rfl, hb2⟩
    have HB2 := Lib.hid (HB1.out.trans (hb2.mono HB1.out.size))
    clear hb2 q7 HC2
    go_wp2
    go_ret
    exact ⟨rfl, HB2.out⟩
end Go.Proofs.YtpincofjopmaaaaGreatDoor
