/-
  The contract of package code's Take: some instructions, at most 200; those that were written, if the reader stands ahead of them.
  Conditions: the tables hold what they hold at the start.
  What a reader's Count and Flag answer wherever it stands; the contracts of package class's takeList at all types, at whatever function it is handed.
  Conditions: the function reads on, and changes nothing else that was there before.
  The contracts of package class's takeField and takeCatch, and of the closures that call them: some field or catch, or THE one, if it was written there.
  Conditions: the tables hold what they hold at the start.
-/
import Derived.Test.YtpincofjopmaaaaGreatDoorM22
import Derived.Laws.MakeOwn
import Derived.Test.YtpincofjopmaaaaGreatDoorM17
import Derived.IntWalk
namespace Go.Proofs.YtpincofjopmaaaaGreatDoor
open Go.RowKit
def insCells (l : List Ins) : List Value := l.flatMap fun x => [.string (S x.op), .int .i64 x.n, .string (S x.s)]
theorem insCells_snoc (l : List Ins) (x : Ins) : insCells (l ++ [x]) = insCells l ++ [.string (S x.op), .int .i64 x.n, .string (S x.s)] := by
  unfold insCells
  rw [List.flatMap_append]
  rfl
theorem insCells_at : ∀ (l : List Ins) (k : Nat) (x : Ins), l[k]? = some x → (insCells l)[k * 3]? = some (.string (S x.op)) ∧ (insCells l)[k * 3 + 1]? = some (.int .i64 x.n) ∧ (insCells l)[k * 3 + 2]? = some (.string (S x.s))
  | y :: l, 0, x, h => by
    simp at h
    subst h
    exact ⟨rfl, rfl, rfl⟩
  | y :: l, k + 1, x, h => by
    have ih := insCells_at l k x (by simpa using h)
    rw [show (k + 1) * 3 = k * 3 + 3 from by omega]
    exact ⟨ih.1, ih.2.1, ih.2.2⟩
  | [], k, x, h => by simp at h
/-- Instructions in a row of the call's own. -/
structure IR (w w' : World) (vs : Value) (m : List Ins) : Prop where
  row : w'.ownsRow 0 70 3 vs m.length (insCells m)
  own : ∀ g, vs.ownBlock = some g → w.heap.size ≤ g
theorem IR.nil (w w' : World) : IR w w' (.slice none 0 0) [] := ⟨World.ownsRow_nil _ _ _ _, fun g hg => by simp [Value.ownBlock] at hg⟩
theorem IR.src {w w' : World} {vs : Value} {m : List Ins} (h : IR w w' vs m) : InsSrc w' vs m := by
  rcases h.row.2 with ⟨rfl, h0⟩ | ⟨g, cap, cur, rfl, _⟩
  · exact .inl ⟨_, _, rfl, List.length_eq_zero_iff.1 h0⟩
  · refine .inr ⟨g, 0, cap, rfl, fun k x hx => ?_⟩
    obtain ⟨h0, h1, h2⟩ := insCells_at m k x hx
    have c0 := h.row.cells (g := g) rfl _ _ h0
    have c1 := h.row.cells (g := g) rfl _ _ h1
    have c2 := h.row.cells (g := g) rfl _ _ h2
    rw [Addr.add_mid] at c0 c1 c2
    exact ⟨c0, by rw [Nat.add_assoc]; exact c1, by rw [Nat.add_assoc]; exact c2⟩
theorem IR.shape {w w' : World} {vs : Value} {m : List Ins} (h : IR w w' vs m) : ∃ ao c, vs = .slice ao m.length c := by
  rcases h.row.2 with ⟨rfl, h0⟩ | ⟨g, cap, cur, rfl, _⟩
  · exact ⟨_, _, by rw [h0]⟩
  · exact ⟨_, _, rfl⟩
theorem IR.keep {w w' w'' : World} {vs : Value} {m : List Ins} (h : IR w w' vs m) (hb : Below w'.heap.size w' w'') : IR w w'' vs m := ⟨(Only.ofBelow (S := fun _ => False) hb).row h.row (fun _ _ => id), h.own⟩
theorem IR.past {w w' w'' : World} {vs : Value} {m : List Ins} {b : Nat} (h : IR w w' vs m) (ho : Only (fun k => k = b) w' w'') (hb : b < w.heap.size) : IR w w'' vs m :=
  ⟨ho.row h.row (fun g hg e => by have := h.own g hg; omega), h.own⟩
theorem TK.grew {w0 w w' w'' : World} {b : Nat} {v : Value} {l : List UInt8} {i err : Nat} {vs vs' : Value} (h : TK w0 w w' b v l i err) (hg : Grew w' vs w'' vs') (ho : ∀ g, vs.ownBlock = some g → w.heap.size ≤ g) : TK w0 w w'' b v l i err := by
  refine ⟨⟨h.rs.rd.keep hg.only (fun e => ?_) (fun g hgv e => ?_), h.rs.lo, h.rs.own, h.rs.bel.trans (hg.only.below h.rs.bel.size (fun k hk => Nat.le_trans h.lo (ho k hk)))⟩, h.on.then hg.only (fun k hk e => ?_), h.blt, h.vlt, h.lo⟩
  · have := ho b e; have := h.blt; omega
  · have := ho g e; have := h.vlt g hgv; omega
  · have := ho k e; omega
theorem info_ins : (Tryz.prog.info? 70).map (fun i => (i.zero, i.size, i.bytes)) = some (some (.agg #[.string ⟨#[]⟩, .int .i64 0, .string ⟨#[]⟩]), 3, 40) := by kernel_rfl
theorem allE_mem : ∀ (l : List Ins), allE l = 0 → ∀ x ∈ l, x.e = 0
  | y :: l, h, x, hx => by
    unfold allE at h
    by_cases hy : y.e = 0
    · rw [if_pos hy] at h
      rcases List.mem_cons.1 hx with rfl | hx
      · exact hy
      · exact allE_mem l h x hx
    · rw [if_neg hy] at h; exact absurd h hy
theorem uvarint_one (n : Nat) : 1 ≤ (Lib.uvarint n).length := by
  by_cases h : n < 128
  · rw [Lib.uvarint_small h]; simp
  · rw [Lib.uvarint_big (by omega)]; simp
theorem bytes_many : ∀ (l : List Ins), l.length ≤ (l.flatMap Ins.bytes).length
  | [] => by simp
  | x :: l => by
    have h1 := bytes_many l
    have h2 := uvarint_one (idx x.op)
    rw [List.flatMap_cons, List.length_append, List.length_cons]
    unfold Ins.bytes at *
    rw [List.length_append]
    omega
/-- How far it is read, if what stands there was written. -/
def TakeG (l : List UInt8) (i err c k : Nat) (m : List Ins) (i' err' : Nat) : Prop :=
  ∀ (y : List Ins) (r : List UInt8), err = 0 → (∀ x ∈ y, x.ok) → allE y = 0 → y.length ≤ 200 → l.drop i = putL y ++ r → c = y.length ∧ m = y.take k ∧ err' = 0 ∧ i' = i + ((Lib.uvarint y.length).length + ((y.take k).flatMap Ins.bytes).length)
/-- Where the next instruction stands. -/
theorem take_next {l : List UInt8} {i i' k : Nat} {y : List Ins} {r : List UInt8} {x : Ins} (hd : l.drop i = putL y ++ r) (hi : i' = i + ((Lib.uvarint y.length).length + ((y.take k).flatMap Ins.bytes).length)) (hx : y[k]? = some x) :
    l.drop i' = x.bytes ++ ((y.drop (k + 1)).flatMap Ins.bytes ++ r) := by
  have hk : k < y.length := by
    rcases Nat.lt_or_ge k y.length with h | h
    · exact h
    · rw [List.getElem?_eq_none h] at hx; cases hx
  have hsp : y.flatMap Ins.bytes = (y.take k).flatMap Ins.bytes ++ (x.bytes ++ (y.drop (k + 1)).flatMap Ins.bytes) := by
    conv => lhs; rw [← List.take_append_drop k y]
    rw [List.flatMap_append, List.drop_eq_getElem_cons hk, List.flatMap_cons]
    rw [List.getElem?_eq_getElem hk] at hx
    rw [Option.some.inj hx]
  rw [putL, hsp] at hd
  have hd2 : l.drop i = (Lib.uvarint y.length ++ (y.take k).flatMap Ins.bytes) ++ (x.bytes ++ ((y.drop (k + 1)).flatMap Ins.bytes ++ r)) := by
    rw [hd]; simp only [List.append_assoc]
  rw [hi]
  exact drop_more hd2 (by rw [List.length_append])
theorem TakeG.next {l : List UInt8} {i err c k : Nat} {m : List Ins} {i' err' i2 err2 : Nat} {x : Ins} {ok : Bool} (h : TakeG l i err c k m i' err') (hk : k < c)
    (g : ∀ (y : Ins) (r : List UInt8), err' = 0 → y.ok → y.e = 0 → l.drop i' = y.bytes ++ r → x = y ∧ ok = true ∧ i2 = i' + y.bytes.length ∧ err2 = 0) :
    (∀ (y : List Ins) (r : List UInt8), err = 0 → (∀ x ∈ y, x.ok) → allE y = 0 → y.length ≤ 200 → l.drop i = putL y ++ r → ok = true) ∧ TakeG l i err c (k + 1) (m ++ [x]) i2 err2 := by
  have key : ∀ (y : List Ins) (r : List UInt8), err = 0 → (∀ x ∈ y, x.ok) → allE y = 0 → y.length ≤ 200 → l.drop i = putL y ++ r → ok = true ∧ c = y.length ∧ m ++ [x] = y.take (k + 1) ∧ err2 = 0 ∧ i2 = i + ((Lib.uvarint y.length).length + ((y.take (k + 1)).flatMap Ins.bytes).length) := by
    intro y r he hy hz hl hd
    obtain ⟨h1, h2, h3, h4⟩ := h y r he hy hz hl hd
    have hky : k < y.length := by omega
    have hx : y[k]? = some y[k] := List.getElem?_eq_getElem hky
    have hm : y[k] ∈ y := List.getElem_mem hky
    obtain ⟨e1, e2, e3, e4⟩ := g y[k] _ h3 (hy _ hm) (allE_mem y hz _ hm) (take_next hd h4 hx)
    refine ⟨e2, h1, ?_, e4, ?_⟩
    · rw [List.take_succ_eq_append_getElem hky, h2, e1]
    · rw [List.take_succ_eq_append_getElem hky, List.flatMap_append, List.length_append, e3, h4]
      simp
      omega
  exact ⟨fun y r a b c d e => (key y r a b c d e).1, fun y r a b c d e => (key y r a b c d e).2⟩
/-- What is said of Take. -/
def TakenG (w0 : World) (b : Nat) (v : Value) (l : List UInt8) (i err : Nat) (w : World) (e : Ending) (w' : World) : Prop :=
  ∃ (vs : Value) (m : List Ins) (i' err' : Nat), e = .returned vs ∧ IR w w' vs m ∧ m.length ≤ 200 ∧ (∀ x ∈ m, x.ok) ∧ TK w0 w w' b v l i' err' ∧
    (∀ (y : List Ins) (r : List UInt8), err = 0 → (∀ x ∈ y, x.ok) → allE y = 0 → y.length ≤ 200 → l.drop i = putL y ++ r → m = y ∧ i' = i + (putL y).length ∧ err' = 0)
set_option maxHeartbeats 2000000 in
set_option maxRecDepth 100000 in
theorem take_any {w0 w : World} {b : Nat} {v : Value} {l : List UInt8} {i err : Nat} (r0 : RS w0 w b v l i err) (hT : CT w0) :
    Calls Tryz.prog 220 #[.pointer (some ⟨b, 0, none⟩)] w (TakenG w0 b v l i err w) := by
  have HT := Lib.hid hT
  have R0 := Lib.hid r0
  obtain ⟨j0, hji, hz0, hz1, hz2⟩ := info_parts info_ins
  clear hT r0
  go_enter Tryz.func220, Tryz.ntmps220
  go_wp2_with fail
  refine (rcount_g R0.out.rd).mono ?_
  rintro e w1 ⟨c, i1, err1, hc, ⟨rfl, ho1, rd1⟩, g1⟩
  have t1 := (TK.start R0.out).got ho1 rd1
  have tg1 : TakeG l i err c 0 [] i1 err1 := by
    intro y r he hy hz hl hd
    rw [putL, List.append_assoc] at hd
    obtain ⟨e1, e2, e3⟩ := g1 y.length _ he hl (by rw [List.length_append]; have := bytes_many y; omega) hd
    exact ⟨e1, by simp, e3, by simp [e2]⟩
  have T1 := Lib.hid t1
  have TG1 := Lib.hid tg1
  have HB : Hid (b < w.heap.size) := Lib.hid t1.blt
  clear ho1 rd1 g1 t1 tg1 R0
  go_wp2
  go_loopw [3, 10] (fun v3 v10 wr => ∃ (k : Nat) (m : List Ins) (i' err' : Nat), k ≤ c ∧ v10 = .int .i64 k ∧ m.length = k ∧ TK w0 w wr b v l i' err' ∧ IR w wr v3 m ∧ (∀ x ∈ m, x.ok) ∧ TakeG l i err c k m i' err') (fun _ v10 _ => c - (intOf v10).toNat)
  case atStart => exact ⟨0, [], i1, err1, Nat.zero_le _, rfl, rfl, T1.out, IR.nil _ _, (fun x hx => by simp at hx), TG1.out⟩
  case round =>
    obtain ⟨k, m, i', err', hk, rfl, hmk, ht, hir, hok, htg⟩ := hrel
    have HMK := Lib.hid hmk
    have HTK := Lib.hid ht
    have HIR := Lib.hid hir
    have HOK := Lib.hid hok
    have HTG := Lib.hid htg
    obtain ⟨ao, cp, rfl⟩ := hir.shape
    rw [hmk]
    clear ht hir hok htg
    by_cases hlt : k < c
    · have hlt' : (k : Int) < (c : Int) := by omega
      go_wp2_with fail
      refine (takeOne_any HTK.out.rs HT.out).mono ?_
      rintro e w2 ⟨x, ok, i2, err2, rfl, hxo, t2, hxe, g2⟩
      have t3 := HTK.out.got t2.on t2.rs.rd
      have ir2 := HIR.out.past t2.on HB.out
      obtain ⟨gn, gt⟩ := HTG.out.next hlt g2
      have T3 := Lib.hid t3
      have IR2 := Lib.hid ir2
      have GN := Lib.hid gn
      have GT := Lib.hid gt
      have HXO := Lib.hid hxo
      obtain ⟨xo, xn, xs⟩ := x
      clear t2 t3 ir2 gn gt hxo hxe g2
      cases ok
      · go_wp2
        go_ret
        refine ⟨_, [], i2, err2, rfl, IR.nil _ _, by simp, fun x hx => by simp at hx, T3.out.alloc _, fun y r he hy hz hl hd => ?_⟩
        have := GN.out y r he hy hz hl hd
        cases this
      · have HRW := Lib.hid ((((Only.refl (fun _ => False) w2).alloc (.cells #[.string (S xo), .int .i64 xn, .string (S xs)] 70)).alloc (.cells #[.string (S xo), .int .i64 xn, .string (S xs)] 70)).row IR2.out.row (fun _ _ => id))
        rw [hmk] at HRW
        have HNW : Hid (Three ((w2.alloc (.cells #[.string (S xo), .int .i64 xn, .string (S xs)] 70)).alloc (.cells #[.string (S xo), .int .i64 xn, .string (S xs)] 70)) (w2.heap.size + 1) (.string (S xo)) (.int .i64 xn) (.string (S xs))) := Lib.hid (by
          have h := Three.new (w2.alloc (.cells #[.string (S xo), .int .i64 xn, .string (S xs)] 70)) (.string (S xo)) (.int .i64 xn) (.string (S xs))
          simpa using h)
        clear hmk
        go_wp2_with (at_builtin; refine wpList_append_fine _ rfl _ _ 30 rfl 70 j0 (.agg #[.string ⟨#[]⟩, .int .i64 0, .string ⟨#[]⟩]) 3 40 Tryz.underlying30 hji hz0 hz1 hz2 rfl (by decide) _ _ _ rfl HRW.out ⟨w2.heap.size + 1, 0, none⟩ 1 1 [.string (S xo), .int .i64 xn, .string (S xs)] rfl rfl (by intro j u hj; have q := range3 HNW.out j u hj; rw [Addr.add_mid]; exact q) (by intro u hu; simp at hu; rcases hu with rfl | rfl | rfl <;> rfl) ?c3 ?c4 ?_)
        case c3 => unfold maxLen; omega
        case c4 => omega
        intro v' w3 hown' hgrow
        have t4 := ((T3.out.alloc (.cells #[.string (S xo), .int .i64 xn, .string (S xs)] 70)).alloc (.cells #[.string (S xo), .int .i64 xn, .string (S xs)] 70)).grew hgrow (fun g hg => HIR.out.own g (by rw [HMK.out]; exact hg))
        have ir4 : IR w w3 v' (m ++ [⟨xo, xn, xs⟩]) := ⟨by rw [List.length_append, HMK.out, insCells_snoc]; exact hown', fun g hg => by
          rcases hgrow.came with e | e
          · exact HIR.out.own g (by rw [HMK.out]; exact e ▸ hg)
          · have h1 := e g hg
            have h2 := T3.out.on.size
            simp at h1
            omega⟩
        have T4 := Lib.hid t4
        have IR4 := Lib.hid ir4
        clear t4 ir4 hgrow hown'
        go_wp2
        go_roundw
        case rel => exact ⟨k + 1, m ++ [⟨xo, xn, xs⟩], i2, err2, by omega, by go_num, by rw [List.length_append, HMK.out]; rfl, T4.out, IR4.out, (fun z hz => by
          rcases List.mem_append.1 hz with hz | hz
          · exact HOK.out z hz
          · rw [List.mem_singleton.1 hz]; exact HXO.out), GT.out⟩
        case measure => simp [intOf]; omega
    · obtain rfl : k = c := by omega
      by_cases he : err' = 0
      · subst he
        go_wp2_with fail
        refine (err_ok b v l i' wr HTK.out.rs.rd).mono ?_
        rintro e w2 ⟨rfl, rfl⟩
        have ir2 : IR w wr (.slice ao k cp) m := by rw [← HMK.out]; exact HIR.out
        have T2 := HTK
        have IR2 := Lib.hid ir2
        clear ir2
        go_wp2
        go_ret
        refine ⟨_, m, i', 0, rfl, IR2.out, by rw [HMK.out]; exact hc, HOK.out, T2.out, fun y r he hy hz hl hd => ?_⟩
        obtain ⟨h1, h2, h3, h4⟩ := HTG.out y r he hy hz hl hd
        rw [h1, List.take_of_length_le (Nat.le_refl _)] at h2 h4
        exact ⟨h2, by rw [h4, putL, List.length_append], rfl⟩
      · go_wp2_with fail
        refine (err_bad b v l i' err' wr HTK.out.rs.rd he).mono ?_
        rintro e w2 ⟨rfl, q, hw2⟩
        have t2 : TK w0 w w2 b v l i' err' := by rw [hw2]; exact HTK.out.below (below_drewN wr q)
        have T2 := Lib.hid t2
        have heb : ((err' : Int) != 0) = true := by rw [bne_iff_ne]; omega
        have HE := Lib.hid he
        clear t2 hw2 he
        go_wp2
        go_ret
        refine ⟨_, [], i', err', rfl, IR.nil _ _, by simp, fun x hx => by simp at hx, T2.out, fun y r he hy hz hl hd => ?_⟩
        obtain ⟨h1, h2, h3, h4⟩ := HTG.out y r he hy hz hl hd
        exact absurd h3 HE.out
end Go.Proofs.YtpincofjopmaaaaGreatDoor
namespace Go.Proofs.YtpincofjopmaaaaGreatDoor
open Go.RowKit
def CountGM (M b : Nat) (v : Value) (l : List UInt8) (i err : Nat) (w : World) (e : Ending) (w' : World) : Prop :=
  ∃ (c i' err' : Nat), c ≤ M ∧ Got b v l i' err' (.int .i64 (c : Nat)) w e w' ∧ (∀ (n : Nat) (r : List UInt8), err = 0 → n ≤ M → n ≤ r.length → l.drop i = Lib.uvarint n ++ r → c = n ∧ i' = i + (Lib.uvarint n).length ∧ err' = 0)
theorem rcount_gm (M : Nat) (hM : M ≤ 1048576) {w : World} {b : Nat} {v : Value} {l : List UInt8} {i err : Nat} (h : RdAt w b v l i err) : Calls Tryz.prog 216 #[.pointer (some ⟨b, 0, none⟩), .int .i64 (M : Nat)] w (CountGM M b v l i err w) := by
  by_cases he : err = 0
  · subst he
    have key : ∀ (n : Nat) (r : List UInt8) (E V K : Nat), numFrom 0 0 (l.drop i) = (E, V, K) → n ≤ M → n ≤ r.length → l.drop i = Lib.uvarint n ++ r → E = 0 ∧ V = n ∧ K = (Lib.uvarint n).length ∧ i + K + V ≤ l.length := by
      intro n r E V K hR hn hr hd
      rw [hd, num_var _ (by omega) _] at hR
      cases hR
      have hle := h.le
      have hlen := congrArg List.length hd
      rw [List.length_drop, List.length_append] at hlen
      exact ⟨rfl, rfl, rfl, by omega⟩
    rcases hR : numFrom 0 0 (l.drop i) with ⟨E, V, K⟩
    by_cases hE : E = 0
    · subst hE
      by_cases hV : V ≤ M
      · by_cases hL : i + K + V ≤ l.length
        · refine (rcount_ok b v l i V K M w h (by omega) hR hV hL).mono fun e w' g => ⟨V, i + K, 0, hV, g, fun n r _ hn hr hd => ?_⟩
          obtain ⟨_, h2, h3, _⟩ := key n r _ _ _ hR hn hr hd
          exact ⟨h2, by rw [h3], rfl⟩
        · refine (rcount_more b v l i V K M w h (by omega) hR hV (by omega)).mono fun e w' g => ⟨0, i, 12, by omega, g, fun n r _ hn hr hd => ?_⟩
          obtain ⟨_, _, _, h4⟩ := key n r _ _ _ hR hn hr hd
          exact absurd h4 hL
      · refine (rcount_over b v l i V K M w h (by omega) hR (by omega)).mono fun e w' g => ⟨0, i, 12, by omega, g, fun n r _ hn hr hd => ?_⟩
        obtain ⟨_, h2, _, _⟩ := key n r _ _ _ hR hn hr hd
        omega
    · refine (rcount_num b v l i E V K M w h hR hE).mono fun e w' g => ⟨0, i, E, by omega, g, fun n r _ hn hr hd => ?_⟩
      obtain ⟨h1, _, _, _⟩ := key n r _ _ _ hR hn hr hd
      exact absurd h1 hE
  · exact (rcount_stop b v l i err M w h he).mono fun e w' g => ⟨0, i, err, by omega, g, fun _ _ h0 => absurd h0 he⟩
def FlagG (b : Nat) (v : Value) (l : List UInt8) (i err : Nat) (w : World) (e : Ending) (w' : World) : Prop :=
  ∃ (t : Bool) (i' err' : Nat), Got b v l i' err' (.bool t) w e w' ∧ (∀ (q : Bool) (r : List UInt8), err = 0 → l.drop i = flagByte q :: r → t = q ∧ i' = i + 1 ∧ err' = 0)
theorem flag_inj {a b : Bool} (h : flagByte a = flagByte b) : a = b := by cases a <;> cases b <;> first | rfl | (revert h; decide)
theorem rflag_g {w : World} {b : Nat} {v : Value} {l : List UInt8} {i err : Nat} (h : RdAt w b v l i err) : Calls Tryz.prog 151 #[.pointer (some ⟨b, 0, none⟩)] w (FlagG b v l i err w) := by
  by_cases he : err = 0
  · subst he
    by_cases hi : i < l.length
    · have hd : l.drop i = l[i] :: l.drop (i + 1) := List.drop_eq_getElem_cons hi
      by_cases h0 : l[i] = flagByte false
      · refine (rflag_ok b v l i false w h hi h0).mono fun e w' g => ⟨false, i + 1, 0, g, fun q r _ hr => ?_⟩
        rw [hd, h0] at hr
        exact ⟨flag_inj (List.cons.inj hr).1, rfl, rfl⟩
      by_cases h1 : l[i] = flagByte true
      · refine (rflag_ok b v l i true w h hi h1).mono fun e w' g => ⟨true, i + 1, 0, g, fun q r _ hr => ?_⟩
        rw [hd, h1] at hr
        exact ⟨flag_inj (List.cons.inj hr).1, rfl, rfl⟩
      · have hf : 1 < l[i].toNat := by
          rcases Nat.lt_or_ge 1 l[i].toNat with h | h
          · exact h
          · exfalso
            rcases (show l[i].toNat = 0 ∨ l[i].toNat = 1 by omega) with h2 | h2
            · exact h0 (UInt8.toNat_inj.1 h2)
            · exact h1 (UInt8.toNat_inj.1 h2)
        refine (rflag_form b v l i w h hi hf).mono fun e w' g => ⟨false, i, 11, g, fun q r _ hr => ?_⟩
        rw [hd] at hr
        have := (List.cons.inj hr).1
        cases q
        · exact absurd this h0
        · exact absurd this h1
    · have hl : i = l.length := by have := h.le; omega
      subst hl
      refine (rflag_short b v l w h).mono fun e w' g => ⟨false, l.length, 10, g, fun q r _ hr => ?_⟩
      rw [List.drop_length] at hr
      cases hr
  · exact (rflag_stop b v l i err w h he).mono fun e w' g => ⟨false, i, err, g, fun _ _ h0 => absurd h0 he⟩
/-- What a function handed to takeList answers: an element, or THE element, if it was written there. -/
def GiveG {α : Type} (R : ElemRel α) (n : Nat) (bs : α → List UInt8) (good fit : α → Prop) (w0 : World) (b : Nat) (v : Value) (l : List UInt8) (i err : Nat) (wr : World) (e : Ending) (w' : World) : Prop :=
  ∃ (x : α) (u : Value) (i' err' : Nat), e = .returned u ∧ TK w0 wr w' b v l i' err' ∧ R (fun k => wr.heap.size ≤ k) w' x u ∧ u.cells.size = n ∧ fit x ∧ (∀ (y : α) (r : List UInt8), err = 0 → good y → l.drop i = bs y ++ r → x = y ∧ i' = i + (bs y).length ∧ err' = 0)
/-- How far a list is read, if what stands there was written. -/
def ListG {α : Type} (bs : α → List UInt8) (good : α → Prop) (M : Nat) (l : List UInt8) (i err c k : Nat) (m : List α) (i' err' : Nat) : Prop :=
  ∀ (ys : List α) (r : List UInt8), err = 0 → (∀ y ∈ ys, good y) → ys.length ≤ M → l.drop i = listB bs ys ++ r → c = ys.length ∧ m = ys.take k ∧ err' = 0 ∧ i' = i + ((Lib.uvarint ys.length).length + ((ys.take k).flatMap bs).length)
theorem ListG.next {α : Type} {bs : α → List UInt8} {good : α → Prop} {M : Nat} {l : List UInt8} {i err c k : Nat} {m : List α} {i' err' i2 err2 : Nat} {x : α} (h : ListG bs good M l i err c k m i' err') (hk : k < c)
    (g : ∀ (y : α) (r : List UInt8), err' = 0 → good y → l.drop i' = bs y ++ r → x = y ∧ i2 = i' + (bs y).length ∧ err2 = 0) : ListG bs good M l i err c (k + 1) (m ++ [x]) i2 err2 := by
  intro ys r he hy hl hd
  obtain ⟨h1, h2, h3, h4⟩ := h ys r he hy hl hd
  have hky : k < ys.length := by omega
  have hm : ys[k] ∈ ys := List.getElem_mem hky
  have hsp : ys.flatMap bs = (ys.take k).flatMap bs ++ (bs ys[k] ++ (ys.drop (k + 1)).flatMap bs) := by
    conv => lhs; rw [← List.take_append_drop k ys]
    rw [List.flatMap_append, List.drop_eq_getElem_cons hky, List.flatMap_cons]
  have hd2 : l.drop i = (Lib.uvarint ys.length ++ (ys.take k).flatMap bs) ++ (bs ys[k] ++ ((ys.drop (k + 1)).flatMap bs ++ r)) := by
    rw [hd, listB, hsp]; simp only [List.append_assoc]
  have hdi : l.drop i' = bs ys[k] ++ ((ys.drop (k + 1)).flatMap bs ++ r) := by
    rw [h4]
    exact drop_more hd2 (by rw [List.length_append])
  obtain ⟨e1, e2, e3⟩ := g ys[k] _ h3 (hy _ hm) hdi
  refine ⟨h1, ?_, e3, ?_⟩
  · rw [List.take_succ_eq_append_getElem hky, h2, e1]
  · rw [List.take_succ_eq_append_getElem hky, List.flatMap_append, List.length_append, e2, h4]
    simp
    omega
theorem listB_many {α : Type} (bs : α → List UInt8) (hp : ∀ y, 1 ≤ (bs y).length) : ∀ (l : List α), l.length ≤ (l.flatMap bs).length
  | [] => by simp
  | x :: l => by
    have h1 := listB_many bs hp l
    have h2 := hp x
    rw [List.flatMap_cons, List.length_append, List.length_cons]
    omega
/-- What is said of takeList. -/
def TakenL {α : Type} (R : ElemRel α) (n : Nat) (t : TypeId) (bs : α → List UInt8) (good fit : α → Prop) (M : Nat) (w0 : World) (b : Nat) (v : Value) (l : List UInt8) (i err : Nat) (w : World) (e : Ending) (w' : World) : Prop :=
  ∃ (vs : Value) (m : List α) (us : List Value) (i' err' : Nat), e = .returned vs ∧ TRow n t R w.heap.size w' vs m us ∧ m.length ≤ M ∧ (∀ x ∈ m, fit x) ∧ TK w0 w w' b v l i' err' ∧
    (∀ (ys : List α) (r : List UInt8), err = 0 → (∀ y ∈ ys, good y) → ys.length ≤ M → l.drop i = listB bs ys ++ r → m = ys ∧ i' = i + (listB bs ys).length ∧ err' = 0)
theorem infot_str : (Tryz.prog.info? 9).map (fun i => (i.zero, i.size, i.bytes)) = some (some (.string ⟨#[]⟩), 1, 16) := by kernel_rfl
set_option maxHeartbeats 4000000 in
set_option maxRecDepth 100000 in
theorem takel_str (F : Nat) (first caps : Array Value) (bs : List UInt8 → List UInt8) (good fit : List UInt8 → Prop) (M : Nat) {w0 w : World} {b : Nat} {v : Value} {l : List UInt8} {i err : Nat} (r0 : RS w0 w b v l i err) (he : ∀ args w, (callFunc F args).run Tryz.prog w = .ok (.enter F args) w)
    (hF : ∀ (wr : World) (i err : Nat), TK w0 w wr b v l i err → Calls Tryz.prog F (first ++ caps) wr (GiveG StrR 1 bs good fit w0 b v l i err wr)) (hp : ∀ y, 1 ≤ (bs y).length) (hM : M ≤ 64) :
    Calls Tryz.prog 150 #[.pointer (some ⟨b, 0, none⟩), .int .i64 (M : Nat), .func (.func F) first caps] w (TakenL StrR 1 9 bs good fit M w0 b v l i err w) := by
  obtain ⟨j0, hji, hz0, hz1, hz2⟩ := info_parts infot_str
  have HF := Lib.hid hF
  have HE := Lib.hid he
  have R0 := Lib.hid r0
  have HP := Lib.hid hp
  clear hF he r0 hp
  go_enter Tryz.func150, Tryz.ntmps150
  go_wp2_with fail
  refine (rcount_gm M (by omega) R0.out.rd).mono ?_
  rintro e w1 ⟨c, i1, err1, hc, ⟨rfl, ho1, rd1⟩, g1⟩
  have t1 := (TK.start R0.out).got ho1 rd1
  have tg1 : ListG bs good M l i err c 0 [] i1 err1 := by
    intro ys r he hy hl hd
    rw [listB, List.append_assoc] at hd
    obtain ⟨e1, e2, e3⟩ := g1 ys.length _ he hl (by rw [List.length_append]; have := listB_many bs HP.out ys; omega) hd
    exact ⟨e1, by simp, e3, by simp [e2]⟩
  have T1 := Lib.hid t1
  have TG1 := Lib.hid tg1
  have HB : Hid (b < w.heap.size) := Lib.hid t1.blt
  clear ho1 rd1 g1 t1 tg1 R0
  go_wp2
  go_loopw [7, 11] (fun v7 v11 wr => ∃ (k : Nat) (m : List (List UInt8)) (us : List Value) (i' err' : Nat), k ≤ c ∧ v11 = .int .i64 k ∧ m.length = k ∧ TK w0 w wr b v l i' err' ∧ TRow 1 9 StrR w.heap.size wr v7 m us ∧ (∀ x ∈ m, fit x) ∧ ListG bs good M l i err c k m i' err') (fun _ v11 _ => c - (intOf v11).toNat)
  case atStart => exact ⟨0, [], [], i1, err1, Nat.zero_le _, rfl, rfl, T1.out, TRow.nil _ _, (fun x hx => by simp at hx), TG1.out⟩
  case round =>
    obtain ⟨k, m, us, i', err', hk, rfl, hmk, ht, hir, hfit, htg⟩ := hrel
    have HMK := Lib.hid hmk
    have HTK := Lib.hid ht
    have HIR := Lib.hid hir
    have HFT := Lib.hid hfit
    have HTG := Lib.hid htg
    obtain ⟨ao, cp, rfl⟩ := hir.shape
    rw [hmk]
    clear ht hir hfit htg
    by_cases hlt : k < c
    · have hlt' : (k : Int) < (c : Int) := by omega
      have hk0 : (0 : Int) ≤ (k : Int) := by omega
      have HFX := Lib.hid (HF.out wr i' err' HTK.out)
      have he := HE.out
      go_wp2_with fail
      refine HFX.out.mono ?_
      rintro e w2 ⟨x, u, i2, err2, rfl, t2, hxr, hus, hxf, g2⟩
      have t3 := HTK.out.got t2.on t2.rs.rd
      have ir2 := HIR.out.past StrR.st t2.on (fun q hq e => by have := HB.out; omega)
      have gt := HTG.out.next hlt g2
      have T3 := Lib.hid t3
      have IR2 := Lib.hid ir2
      have GT := Lib.hid gt
      have HXF := Lib.hid hxf
      have HSZ := Lib.hid hus
      have hxr2 : StrR (fun q => w.heap.size ≤ q ∧ (Value.slice ao m.length cp).ownBlock ≠ some q) w2 x u := StrR.st.mono hxr (fun q hq hq2 => ⟨Nat.le_trans HTK.out.on.size hq2, fun e => by have := HIR.out.lt q e; omega⟩)
      have HXR := Lib.hid hxr2
      obtain rfl := hxr
      clear t2 t3 ir2 gt hxf g2 hus hxr2 he HFX
      have hbA : Below w2.heap.size w2 (w2.alloc (.cells #[.string (S x)] 9)) := (Below.refl _ w2).alloc (Nat.le_refl _) _
      have HRW := Lib.hid (IR2.out.below StrR.st hbA)
      have HNW := Lib.hid (Box.new w2 #[.string (S x)] 9)
      have HRO := Lib.hid HRW.out.row
      rw [hmk] at HRO
      have HXA := Lib.hid (StrR.st.keep HXR.out (Only.ofBelow (S := fun _ => False) hbA) (fun _ _ => id))
      have TA := Lib.hid (T3.out.alloc (.cells #[.string (S x)] 9))
      clear hmk hbA
      go_wp2_with (at_builtin; refine wpList_append_fine _ rfl _ _ 22 rfl 9 j0 (.string ⟨#[]⟩) 1 16 Tryz.underlying22 hji hz0 hz1 hz2 rfl (by decide) _ _ _ rfl HRO.out ⟨w2.heap.size, 0, none⟩ 1 1 [.string (S x)] rfl rfl (by intro j q hj; rw [Addr.add_mid, Nat.zero_add]; exact HNW.out.cell j (by rw [← hj]; simp)) (by intro q hq; simp at hq; subst hq; rfl) ?c3 ?c4 ?_)
      case c3 => unfold maxLen; omega
      case c4 => omega
      intro v' w3 hown' hgrow
      have t4 := TA.out.grew hgrow (fun g hg => HIR.out.own g (by rw [HMK.out]; exact hg))
      have hg' : Grew (w2.alloc (.cells #[.string (S x)] 9)) (.slice ao m.length cp) w3 v' := by rw [HMK.out]; exact hgrow
      have ir4 := HRW.out.snoc StrR.st hg' (by have := T3.out.on.size; simp; omega) HSZ.out HXA.out (by rw [HMK.out]; exact hown')
      have T4 := Lib.hid t4
      have IR4 := Lib.hid ir4
      clear t4 ir4 hgrow hown' hg'
      go_wp2
      go_roundw
      case rel => exact ⟨k + 1, m ++ [x], _, i2, err2, by omega, by go_num, by rw [List.length_append, HMK.out]; rfl, T4.out, IR4.out, (fun z hz => by
        rcases List.mem_append.1 hz with hz | hz
        · exact HFT.out z hz
        · rw [List.mem_singleton.1 hz]; exact HXF.out), GT.out⟩
      case measure => simp [intOf]; omega
    · obtain rfl : k = c := by omega
      have ir2 : TRow 1 9 StrR w.heap.size wr (.slice ao k cp) m us := by rw [← HMK.out]; exact HIR.out
      have IR2 := Lib.hid ir2
      clear ir2
      go_wp2
      go_ret
      refine ⟨_, m, us, i', err', rfl, IR2.out, by rw [HMK.out]; exact hc, HFT.out, HTK.out, fun ys r he hy hl hd => ?_⟩
      obtain ⟨h1, h2, h3, h4⟩ := HTG.out ys r he hy hl hd
      rw [h1, List.take_of_length_le (Nat.le_refl _)] at h2 h4
      exact ⟨h2, by rw [h4, listB, List.length_append], h3⟩
end Go.Proofs.YtpincofjopmaaaaGreatDoor
namespace Go.Proofs.YtpincofjopmaaaaGreatDoor
open Go.RowKit
theorem Box.set {w : World} {B : Nat} {cs : Array Value} {t : TypeId} (h : Box w B cs t) (j : Nat) (u : Value) : Box (w.setCell ⟨B, j, none⟩ u) B (cs.setIfInBounds j u) t := heap_setCell_self h
theorem Box.set_ne {w : World} {B I : Nat} {cs : Array Value} {t : TypeId} (h : Box w B cs t) (hn : B ≠ I) (j : Nat) (u : Value) : Box (w.setCell ⟨I, j, none⟩ u) B cs t :=
  h.keep ((Only.refl (fun k => k = I) w).setCell (p := ⟨I, j, none⟩) rfl u) hn
theorem Box.free {w : World} {B : Nat} {cs : Array Value} {t : TypeId} (h : Box w B cs t) (j : Nat) : w.frozen? ⟨B, j, none⟩ = false := by
  unfold Box at h
  simp [World.frozen?, h]
theorem Box.range {w : World} {B : Nat} {cs : Array Value} {t : TypeId} (h : Box w B cs t) : w.rangeAt B 0 cs.toList := by
  intro j v hj
  rw [Nat.zero_add]
  exact h.cell j (by rw [← hj]; simp)
theorem Box.got {w w' : World} {B b : Nat} {cs : Array Value} {t : TypeId} (h : Box w B cs t) (ho : Only (fun k => k = b) w w') (hn : B ≠ b) : Box w' B cs t := h.keep ho hn
theorem sizef_fld : (Tryz.prog.info? 62).map (·.size) = some 3 := by kernel_rfl
theorem sizef_cat : (Tryz.prog.info? 141).map (·.size) = some 4 := by kernel_rfl
theorem load_fld {w : World} {B : Nat} {a b c : Value} (h : Box w B #[a, b, c] 62) : (loadVar 62 ⟨B, 0, none⟩).run Tryz.prog w = .ok (.agg #[a, b, c]) w :=
  run_loadVar_mid (P := Tryz.prog) w B 0 62 [a, b, c] _ h.range Tryz.underlying62 rfl sizef_fld
theorem load_cat {w : World} {B : Nat} {a b c d : Value} (h : Box w B #[a, b, c, d] 141) : (loadVar 141 ⟨B, 0, none⟩).run Tryz.prog w = .ok (.agg #[a, b, c, d]) w :=
  run_loadVar_mid (P := Tryz.prog) w B 0 141 [a, b, c, d] _ h.range Tryz.underlying141 rfl sizef_cat
def Fld.fit (x : Fld) : Prop := x.name.length ≤ 4096 ∧ x.kind.length ≤ 4096
def Cat.fit (x : Cat) : Prop := x.held ∧ x.cls.length ≤ 4096
def Cat.good (x : Cat) : Prop := ∃ n, n ≤ 200 ∧ Cat.ok n x = true
theorem wrap_held (V : Nat) : i64 (IntKind.i64.wrap (V : Int)) := by unfold i64; rw [IntKind.wrap_i64]; omega
theorem wrap_small {V : Nat} {z : Int} (h : V = z.toNat) (h0 : 0 ≤ z) (h1 : z ≤ 200) : IntKind.i64.wrap (V : Int) = z := by rw [IntKind.wrap_i64]; omega
set_option maxHeartbeats 4000000 in
set_option maxRecDepth 100000 in
theorem takefield_any {w0 w : World} {b : Nat} {v : Value} {l : List UInt8} {i err : Nat} (r0 : RS w0 w b v l i err) (hT : CT w0) :
    Calls Tryz.prog 154 #[.pointer (some ⟨b, 0, none⟩)] w (GiveG FldR 3 Fld.bytes (fun y => y.ok = true) Fld.fit w0 b v l i err w) := by
  have HT := Lib.hid hT
  have HNE := Lib.hid (r0.ne hT.tabs)
  have t := TK.start r0
  have hbR : w.heap.size ≠ b := by have := t.blt; omega
  have HBR := Lib.hid hbR
  have T0 := Lib.hid (t.alloc (.cells #[.string ⟨#[]⟩, .string ⟨#[]⟩, .bool false] 62))
  have X0 := Lib.hid (Box.new w #[.string ⟨#[]⟩, .string ⟨#[]⟩, .bool false] 62)
  have HLE := Lib.hid (Nat.le_refl w.heap.size)
  clear r0 hT t hbR
  go_enter Tryz.func154, Tryz.ntmps154
  go_wp2_with fail
  generalize w.alloc (.cells #[.string ⟨#[]⟩, .string ⟨#[]⟩, .bool false] 62) = W0 at T0 X0 ⊢
  obtain ⟨B, hB⟩ : ∃ B, B = w.heap.size := ⟨_, rfl⟩
  rw [← hB] at HBR X0 ⊢
  have HLB : Hid (w.heap.size ≤ B) := Lib.hid (by omega)
  clear hB HLE
  refine (rtext_g T0.out.rs.rd (HT.out.tabs.below T0.out.rs.bel) HNE.out.1 HNE.out.2).mono ?_
  rintro e w1 ⟨s1, i1, err1, hs1, ⟨rfl, ho, rd⟩, g⟩
  have T1 := Lib.hid (T0.out.got ho rd)
  have X1 := Lib.hid (X0.out.got ho HBR.out)
  have G1 := Lib.hid g
  have S1 := Lib.hid hs1
  clear hs1
  clear ho rd g T0 X0
  go_wp2_with fail
  refine (rtext_g T1.out.rs.rd (HT.out.tabs.below T1.out.rs.bel) HNE.out.1 HNE.out.2).mono ?_
  rintro e w2 ⟨s2, i2, err2, hs2, ⟨rfl, ho, rd⟩, g⟩
  have T2 := Lib.hid (T1.out.got ho rd)
  have X2 := Lib.hid (X1.out.got ho HBR.out)
  have G2 := Lib.hid g
  have S2 := Lib.hid hs2
  clear hs2
  clear ho rd g T1 X1
  go_wp2_with fail
  refine (rflag_g T2.out.rs.rd).mono ?_
  rintro e w3 ⟨s3, i3, err3, ⟨rfl, ho, rd⟩, g⟩
  have T3 := Lib.hid (T2.out.got ho rd)
  have X3 := Lib.hid (X2.out.got ho HBR.out)
  have G3 := Lib.hid g
  clear ho rd g T2 X2
  have c0 := X3.out.cell 0 rfl
  have f0 := X3.out.free 0
  have c1 := X3.out.cell 1 rfl
  have f1 := X3.out.free 1
  have c2 := X3.out.cell 2 rfl
  have f2 := X3.out.free 2
  have hlt := X3.out.lt
  go_wp2
  have tE := (((T3.out).set (I := B) HLB.out 0 (.string (S s1))).set (I := B) HLB.out 1 (.string (S s2))).set (I := B) HLB.out 2 (.bool s3)
  have bE := (((X3.out).set 0 (.string (S s1))).set 1 (.string (S s2))).set 2 (.bool s3)
  have lE := load_fld (show Box _ B #[.string (S s1), .string (S s2), .bool s3] 62 from bE)
  refine bodyPost_ret (v := .agg #[.string (S s1), .string (S s2), .bool s3]) ?_ rfl ?_
  · simp [results, Tryz.results154, asAddr, lE]
  · refine ⟨⟨s1, s2, s3⟩, _, i3, err3, rfl, tE, rfl, rfl, ⟨S1.out, S2.out⟩, fun y r he hy hd => ?_⟩
    have ho : memB y.name = true ∧ rightB y.kind = true := by have hy2 : y.ok = true := hy; unfold Fld.ok at hy2; rw [Bool.and_eq_true] at hy2; exact hy2
    have l1 := memB_len ho.1
    have l2 := right_len ho.2
    have hd1 : l.drop i = textBytes y.name ++ (textBytes y.kind ++ (flagByte y.tr :: r)) := by rw [hd]; unfold Fld.bytes; simp
    obtain ⟨e1, e2, e3⟩ := G1.out y.name _ he (by omega) (memB_valid ho.1) hd1
    have hd2 := drop_more hd1 rfl
    rw [← e2] at hd2
    obtain ⟨e4, e5, e6⟩ := G2.out y.kind _ e3 (by omega) (rightB_valid ho.2) hd2
    have hd3 := drop_more hd2 rfl
    rw [← e5] at hd3
    obtain ⟨e7, e8, e9⟩ := G3.out y.tr r e6 hd3
    refine ⟨?_, ?_, e9⟩
    · obtain ⟨yn, yk, yt⟩ := y
      dsimp only at e1 e4 e7
      rw [e1, e4, e7]
    · rw [e8, e5, e2]
      unfold Fld.bytes
      simp
      omega
set_option maxHeartbeats 4000000 in
set_option maxRecDepth 100000 in
theorem takecatch_any {w0 w : World} {b : Nat} {v : Value} {l : List UInt8} {i err : Nat} (r0 : RS w0 w b v l i err) (hT : CT w0) :
    Calls Tryz.prog 223 #[.pointer (some ⟨b, 0, none⟩)] w (GiveG CatR 4 Cat.bytes Cat.good Cat.fit w0 b v l i err w) := by
  have HT := Lib.hid hT
  have HNE := Lib.hid (r0.ne hT.tabs)
  have t := TK.start r0
  have hbR : w.heap.size ≠ b := by have := t.blt; omega
  have HBR := Lib.hid hbR
  have T0 := Lib.hid (t.alloc (.cells #[.int .i64 0, .int .i64 0, .int .i64 0, .string ⟨#[]⟩] 141))
  have X0 := Lib.hid (Box.new w #[.int .i64 0, .int .i64 0, .int .i64 0, .string ⟨#[]⟩] 141)
  have HLE := Lib.hid (Nat.le_refl w.heap.size)
  clear r0 hT t hbR
  go_enter Tryz.func223, Tryz.ntmps223
  go_wp2_with fail
  generalize w.alloc (.cells #[.int .i64 0, .int .i64 0, .int .i64 0, .string ⟨#[]⟩] 141) = W0 at T0 X0 ⊢
  obtain ⟨B, hB⟩ : ∃ B, B = w.heap.size := ⟨_, rfl⟩
  rw [← hB] at HBR X0 ⊢
  have HLB : Hid (w.heap.size ≤ B) := Lib.hid (by omega)
  clear hB HLE
  refine (rnum_g T0.out.rs.rd).mono ?_
  rintro e w1 ⟨s1, i1, err1, hs1, ⟨rfl, ho, rd⟩, g⟩
  have T1 := Lib.hid (T0.out.got ho rd)
  have X1 := Lib.hid (X0.out.got ho HBR.out)
  have G1 := Lib.hid g
  have S1 := Lib.hid hs1
  clear hs1
  clear ho rd g T0 X0
  obtain ⟨z1, hz1⟩ : ∃ z, IntKind.i64.wrap (s1 : Int) = z := ⟨_, rfl⟩
  have Z1 := Lib.hid hz1
  go_wp2_with fail
  refine (rnum_g T1.out.rs.rd).mono ?_
  rintro e w2 ⟨s2, i2, err2, hs2, ⟨rfl, ho, rd⟩, g⟩
  have T2 := Lib.hid (T1.out.got ho rd)
  have X2 := Lib.hid (X1.out.got ho HBR.out)
  have G2 := Lib.hid g
  have S2 := Lib.hid hs2
  clear hs2
  clear ho rd g T1 X1
  obtain ⟨z2, hz2⟩ : ∃ z, IntKind.i64.wrap (s2 : Int) = z := ⟨_, rfl⟩
  have Z2 := Lib.hid hz2
  go_wp2_with fail
  refine (rnum_g T2.out.rs.rd).mono ?_
  rintro e w3 ⟨s3, i3, err3, hs3, ⟨rfl, ho, rd⟩, g⟩
  have T3 := Lib.hid (T2.out.got ho rd)
  have X3 := Lib.hid (X2.out.got ho HBR.out)
  have G3 := Lib.hid g
  have S3 := Lib.hid hs3
  clear hs3
  clear ho rd g T2 X2
  obtain ⟨z3, hz3⟩ : ∃ z, IntKind.i64.wrap (s3 : Int) = z := ⟨_, rfl⟩
  have Z3 := Lib.hid hz3
  go_wp2_with fail
  refine (rtext_g T3.out.rs.rd (HT.out.tabs.below T3.out.rs.bel) HNE.out.1 HNE.out.2).mono ?_
  rintro e w4 ⟨s4, i4, err4, hs4, ⟨rfl, ho, rd⟩, g⟩
  have T4 := Lib.hid (T3.out.got ho rd)
  have X4 := Lib.hid (X3.out.got ho HBR.out)
  have G4 := Lib.hid g
  have S4 := Lib.hid hs4
  clear hs4
  clear ho rd g T3 X3
  have c0 := X4.out.cell 0 rfl
  have f0 := X4.out.free 0
  have c1 := X4.out.cell 1 rfl
  have f1 := X4.out.free 1
  have c2 := X4.out.cell 2 rfl
  have f2 := X4.out.free 2
  have c3 := X4.out.cell 3 rfl
  have f3 := X4.out.free 3
  have hlt := X4.out.lt
  go_wp2
  have tE := ((((T4.out).set (I := B) HLB.out 0 (.int .i64 z1)).set (I := B) HLB.out 1 (.int .i64 z2)).set (I := B) HLB.out 2 (.int .i64 z3)).set (I := B) HLB.out 3 (.string (S s4))
  have bE := ((((X4.out).set 0 (.int .i64 z1)).set 1 (.int .i64 z2)).set 2 (.int .i64 z3)).set 3 (.string (S s4))
  have lE := load_cat (show Box _ B #[.int .i64 z1, .int .i64 z2, .int .i64 z3, .string (S s4)] 141 from bE)
  refine bodyPost_ret (v := .agg #[.int .i64 z1, .int .i64 z2, .int .i64 z3, .string (S s4)]) ?_ rfl ?_
  · simp [results, Tryz.results223, asAddr, lE]
  · refine ⟨⟨z1, z2, z3, s4⟩, _, i4, err4, rfl, tE, rfl, rfl, ⟨⟨by rw [← Z1.out]; exact wrap_held s1, by rw [← Z2.out]; exact wrap_held s2, by rw [← Z3.out]; exact wrap_held s3⟩, S4.out⟩, fun y r he hy hd => ?_⟩
    obtain ⟨n, hn, hok⟩ := hy
    obtain ⟨k1, k2, k3, k4⟩ := cat_nums hok hn
    have l4 := classB_len k4
    have hd1 : l.drop i = Lib.uvarint y.fr.toNat ++ (Lib.uvarint y.till.toNat ++ (Lib.uvarint y.at_.toNat ++ (textBytes y.cls ++ r))) := by rw [hd]; unfold Cat.bytes; simp
    obtain ⟨e1, e2, e3⟩ := G1.out y.fr.toNat _ he (by omega) hd1
    have hd2 := drop_more hd1 rfl
    rw [← e2] at hd2
    obtain ⟨e4, e5, e6⟩ := G2.out y.till.toNat _ e3 (by omega) hd2
    have hd3 := drop_more hd2 rfl
    rw [← e5] at hd3
    obtain ⟨e7, e8, e9⟩ := G3.out y.at_.toNat _ e6 (by omega) hd3
    have hd4 := drop_more hd3 rfl
    rw [← e8] at hd4
    obtain ⟨e10, e11, e12⟩ := G4.out y.cls r e9 (by omega) (classB_valid k4) hd4
    refine ⟨?_, ?_, e12⟩
    · have q1 := wrap_small e1 k1.1 k1.2
      have q2 := wrap_small e4 k2.1 k2.2
      have q3 := wrap_small e7 k3.1 k3.2
      rw [Z1.out] at q1
      rw [Z2.out] at q2
      rw [Z3.out] at q3
      obtain ⟨y1, y2, y3, y4⟩ := y
      dsimp only at q1 q2 q3 e10
      rw [q1, q2, q3, e10]
    · rw [e11, e8, e5, e2]
      unfold Cat.bytes
      simp
      omega
set_option maxHeartbeats 4000000 in
set_option maxRecDepth 100000 in
theorem takec1_any {w0 w : World} {b c : Nat} {v : Value} {l : List UInt8} {i err : Nat} (r0 : RS w0 w b v l i err) (hT : CT w0) (hc : w.cell? ⟨c, 0, none⟩ = some (.pointer (some ⟨b, 0, none⟩))) :
    Calls Tryz.prog 153 #[.pointer (some ⟨c, 0, none⟩)] w (GiveG FldR 3 Fld.bytes (fun y => y.ok = true) Fld.fit w0 b v l i err w) := by
  have t := TK.start r0
  have hbR : w.heap.size ≠ b := by have := t.blt; omega
  have HBR := Lib.hid hbR
  have T0 := Lib.hid (t.alloc (.cells #[.string ⟨#[]⟩, .string ⟨#[]⟩, .bool false] 62))
  have X0 := Lib.hid (Box.new w #[.string ⟨#[]⟩, .string ⟨#[]⟩, .bool false] 62)
  have HTF := Lib.hid (takefield_any T0.out.rs hT)
  have hcA : (w.alloc (.cells #[.string ⟨#[]⟩, .string ⟨#[]⟩, .bool false] 62)).cell? ⟨c, 0, none⟩ = some (.pointer (some ⟨b, 0, none⟩)) := ((Only.refl (fun _ => False) w).alloc _).cell hc id
  clear r0 hT t hbR hc
  go_enter Tryz.func153, Tryz.ntmps153
  go_wp2_with fail
  have HSZ : Hid ((w.alloc (.cells #[.string ⟨#[]⟩, .string ⟨#[]⟩, .bool false] 62)).heap.size = w.heap.size + 1) := Lib.hid (by simp)
  generalize w.alloc (.cells #[.string ⟨#[]⟩, .string ⟨#[]⟩, .bool false] 62) = W0 at T0 X0 HTF hcA HSZ ⊢
  obtain ⟨B, hB⟩ : ∃ B, B = w.heap.size := ⟨_, rfl⟩
  rw [← hB] at HBR X0 HSZ ⊢
  have HLB : Hid (w.heap.size ≤ B) := Lib.hid (by omega)
  have HLB2 : Hid (B ≤ w.heap.size) := Lib.hid (by omega)
  clear hB
  refine HTF.out.mono ?_
  rintro e w1 ⟨x, u, i1, err1, rfl, t1, hx, hsz, hfit, g⟩
  have T1 := Lib.hid (T0.out.got t1.on t1.rs.rd)
  have X1 := Lib.hid (X0.out.got t1.on HBR.out)
  have G1 := Lib.hid g
  have F1 := Lib.hid hfit
  have XR := Lib.hid hx
  obtain rfl := hx
  clear t1 hfit g hsz hcA HTF T0 X0
  have c0 := X1.out.cell 0 rfl
  have f0 := X1.out.free 0
  have c1 := X1.out.cell 1 rfl
  have f1 := X1.out.free 1
  have c2 := X1.out.cell 2 rfl
  have f2 := X1.out.free 2
  have hlt := X1.out.lt
  go_wp2
  have tE := (((T1.out).set (I := B) HLB.out 0 (.string (S x.name))).set (I := B) HLB.out 1 (.string (S x.kind))).set (I := B) HLB.out 2 (.bool x.tr)
  have bE := (((X1.out).set 0 (.string (S x.name))).set 1 (.string (S x.kind))).set 2 (.bool x.tr)
  have lE := load_fld (show Box _ B #[.string (S x.name), .string (S x.kind), .bool x.tr] 62 from bE)
  refine bodyPost_ret (v := .agg #[.string (S x.name), .string (S x.kind), .bool x.tr]) ?_ rfl ?_
  · simp [results, Tryz.results153, asAddr, lE]
  · exact ⟨x, _, i1, err1, rfl, tE, rfl, rfl, F1.out, G1.out⟩
set_option maxHeartbeats 4000000 in
set_option maxRecDepth 100000 in
theorem takem1_any {w0 w : World} {b c : Nat} {v : Value} {l : List UInt8} {i err : Nat} (r0 : RS w0 w b v l i err) (hT : CT w0) (hc : w.cell? ⟨c, 0, none⟩ = some (.pointer (some ⟨b, 0, none⟩))) :
    Calls Tryz.prog 222 #[.pointer (some ⟨c, 0, none⟩)] w (GiveG CatR 4 Cat.bytes Cat.good Cat.fit w0 b v l i err w) := by
  have t := TK.start r0
  have hbR : w.heap.size ≠ b := by have := t.blt; omega
  have HBR := Lib.hid hbR
  have T0 := Lib.hid (t.alloc (.cells #[.int .i64 0, .int .i64 0, .int .i64 0, .string ⟨#[]⟩] 141))
  have X0 := Lib.hid (Box.new w #[.int .i64 0, .int .i64 0, .int .i64 0, .string ⟨#[]⟩] 141)
  have HTF := Lib.hid (takecatch_any T0.out.rs hT)
  have hcA : (w.alloc (.cells #[.int .i64 0, .int .i64 0, .int .i64 0, .string ⟨#[]⟩] 141)).cell? ⟨c, 0, none⟩ = some (.pointer (some ⟨b, 0, none⟩)) := ((Only.refl (fun _ => False) w).alloc _).cell hc id
  clear r0 hT t hbR hc
  go_enter Tryz.func222, Tryz.ntmps222
  go_wp2_with fail
  have HSZ : Hid ((w.alloc (.cells #[.int .i64 0, .int .i64 0, .int .i64 0, .string ⟨#[]⟩] 141)).heap.size = w.heap.size + 1) := Lib.hid (by simp)
  generalize w.alloc (.cells #[.int .i64 0, .int .i64 0, .int .i64 0, .string ⟨#[]⟩] 141) = W0 at T0 X0 HTF hcA HSZ ⊢
  obtain ⟨B, hB⟩ : ∃ B, B = w.heap.size := ⟨_, rfl⟩
  rw [← hB] at HBR X0 HSZ ⊢
  have HLB : Hid (w.heap.size ≤ B) := Lib.hid (by omega)
  have HLB2 : Hid (B ≤ w.heap.size) := Lib.hid (by omega)
  clear hB
  refine HTF.out.mono ?_
  rintro e w1 ⟨x, u, i1, err1, rfl, t1, hx, hsz, hfit, g⟩
  have T1 := Lib.hid (T0.out.got t1.on t1.rs.rd)
  have X1 := Lib.hid (X0.out.got t1.on HBR.out)
  have G1 := Lib.hid g
  have F1 := Lib.hid hfit
  have XR := Lib.hid hx
  obtain rfl := hx
  clear t1 hfit g hsz hcA HTF T0 X0
  have c0 := X1.out.cell 0 rfl
  have f0 := X1.out.free 0
  have c1 := X1.out.cell 1 rfl
  have f1 := X1.out.free 1
  have c2 := X1.out.cell 2 rfl
  have f2 := X1.out.free 2
  have c3 := X1.out.cell 3 rfl
  have f3 := X1.out.free 3
  have hlt := X1.out.lt
  go_wp2
  have tE := ((((T1.out).set (I := B) HLB.out 0 (.int .i64 x.fr)).set (I := B) HLB.out 1 (.int .i64 x.till)).set (I := B) HLB.out 2 (.int .i64 x.at_)).set (I := B) HLB.out 3 (.string (S x.cls))
  have bE := ((((X1.out).set 0 (.int .i64 x.fr)).set 1 (.int .i64 x.till)).set 2 (.int .i64 x.at_)).set 3 (.string (S x.cls))
  have lE := load_cat (show Box _ B #[.int .i64 x.fr, .int .i64 x.till, .int .i64 x.at_, .string (S x.cls)] 141 from bE)
  refine bodyPost_ret (v := .agg #[.int .i64 x.fr, .int .i64 x.till, .int .i64 x.at_, .string (S x.cls)]) ?_ rfl ?_
  · simp [results, Tryz.results222, asAddr, lE]
  · exact ⟨x, _, i1, err1, rfl, tE, rfl, rfl, F1.out, G1.out⟩
end Go.Proofs.YtpincofjopmaaaaGreatDoor
