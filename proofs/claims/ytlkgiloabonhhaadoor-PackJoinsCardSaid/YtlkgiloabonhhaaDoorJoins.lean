/-
  PackJoins's contract: it answers true at any numbers and any place, and writes nothing that was there, in whatever order Go evaluates its last expression.
  Conditions: unicode/utf8's two tables hold what they hold at the start.
-/
import Derived.Test.YtlkgiloabonhhaaDoorAwake
import Derived.Deep.RegionWith
namespace Go.Proofs.YtlkgiloabonhhaaDoor
open Go.RowKit
theorem info_u64 : (Tryd.prog.info? 22).map (fun i => (i.zero, i.size, i.bytes)) = some (some (.int .u64 0), 1, 8) := by kernel_rfl
/-- Go's append onto a slice of the call's own, of a slice that may be nil. -/
theorem wpList_append_src {P : Program} (w : World) {ops : Array Oper} {rest : List Oper} {o : Oper} {a : Act} {Q : Exit → Act → World → Prop} (hgd : o.guard = none) (s x : Operand) (t : TypeId)
    (ho : o.op = .call { callee := .builtin .append, args := #[s, x], argTypes := #[t, t] })
    (e : TypeId) (i : TypeInfo) (z : Value) (size bytes : Nat) (ht : P.underlying t = some (.slice e)) (hi : P.info? e = some i) (hz : i.zero = some z)
    (hsize : i.size = size) (hby : i.bytes = bytes) (hzs : z.cells.size = size) (hsz : 0 < size)
    (v : Value) (n : Nat) (xs : List Value) (hs : a.eval s = v) (hown : w.ownsRow 0 e size v n xs)
    (ao : Option Addr) (m c : Nat) (news : List Value) (hx : a.eval x = .slice ao m c) (hnone : ao = none → m = 0 ∧ c = 0) (hl : news.length = m * size) (hnews : ∀ ad, ao = some ad → ∀ j u, news[j]? = some u → w.cell? (ad.add j) = some u) (h1 : ∀ u ∈ news, u.oneCell' = true)
    (h63 : n + m ≤ maxLen) (hbytes : (n + m) * bytes ≤ 140737488355328)
    (h : ∀ v' w', w'.ownsRow 0 e size v' (n + m) (xs ++ news) → Grew w v w' v' → wpList P ops Q rest (a.put o.dst v') w') : wpList P ops Q (o :: rest) a w := by
  cases ao with
  | none =>
    obtain ⟨rfl, rfl⟩ := hnone rfl
    have hn : news = [] := List.eq_nil_of_length_eq_zero (by simpa using hl)
    subst hn
    have hrun := run_append_owned_none (P := P) (w := w) 0 t o.type e i size ht hi v n xs hown
    refine wpList_plain hgd fun K hK => ?_
    unfold Oper.wp
    simp only [execOp, ho, resolve, invoke, builtin, Sem.run_bind, Sem.run_pure, Result.andThen_ok, List.map_toArray, List.map_cons, List.map_nil, hs, hx, hrun]
    exact hK _ _ (h v w (by simpa using hown) (Grew.refl _ _))
  | some ad => exact wpList_append_fine w hgd s x t ho e i z size bytes ht hi hz hsize hby hzs hsz v n xs hs hown ad m c news hx hl (hnews ad rfl) h1 h63 hbytes h

def u64s (ns : List Nat) : List Value := ns.map fun (n : Nat) => Value.int .u64 (n : Int)
theorem u64s_one (ns : List Nat) : ∀ u ∈ u64s ns, u.oneCell' = true := by
  intro u hu
  simp only [u64s, List.mem_map] at hu
  obtain ⟨b, _, rfl⟩ := hu
  rfl
/-- A row of numbers of the call's own. -/
abbrev U64Row (w : World) (v : Value) (ns : List Nat) : Prop := w.ownsRow 0 22 1 v ns.length (u64s ns)
set_option maxHeartbeats 1000000 in
set_option maxRecDepth 100000 in
theorem wnum_none (b : Nat) (v : Value) (l : List UInt8) (w : World) (hw : WrAt w b v l) :
    Calls Tryd.prog 18 #[.pointer (some ⟨b, 0, none⟩), .slice none 0 0] w (Wrote b v l [] w) := by
  have HW := Lib.hid hw
  clear hw
  go_enter Tryd.func18, Tryd.ntmps18
  go_wp2
  refine wp_loop_rounds 1 ?_
  rw [rounds_succ]
  go_wp2
  go_end0
  exact ⟨rfl, v, by simpa using HW.out, WrGrew.refl _ _ _⟩
theorem row_types {w : World} {v v' : Value} {n n' B B' e e' s s' : Nat} {xs xs' : List Value} (h : w.ownsRow B e s v n xs) (h' : w.ownsRow B' e' s' v' n' xs') (hne : e ≠ e') : ∀ g, v.ownBlock = some g → v'.ownBlock ≠ some g := by
  intro g hg hg'
  rcases h.2 with ⟨rfl, _⟩ | ⟨g1, cap, cur, rfl, hb, hgg, rest⟩
  · simp [Value.ownBlock] at hg
  rcases h'.2 with ⟨rfl, _⟩ | ⟨g2, cap', cur', rfl, hb', hgg', rest'⟩
  · simp [Value.ownBlock] at hg'
  simp [Value.ownBlock] at hg hg'
  subst hg
  subst hg'
  rw [hgg] at hgg'
  simp at hgg'
  exact hne hgg'.2
theorem row_blk {w : World} {v : Value} {n B e s b t : Nat} {xs : List Value} {cs : Array Value} {fz : Nat × Nat} (h : w.ownsRow B e s v n xs) (hb : w.heap[b]? = some (.cells cs t fz)) (hne : e ≠ t) : v.ownBlock ≠ some b := by
  intro hg
  rcases h.2 with ⟨rfl, _⟩ | ⟨g1, cap, cur, rfl, _, hgg, rest⟩
  · simp [Value.ownBlock] at hg
  simp [Value.ownBlock] at hg
  subst hg
  rw [hgg] at hb
  simp at hb
  exact hne hb.2.1
theorem wnum_row (b : Nat) (v x : Value) (l : List UInt8) (ns : List Nat) (w : World) (hw : WrAt w b v l) (hx : U64Row w x ns) (hn : ∀ y ∈ ns, y < 18446744073709551616) (hlim : l.length + 10 * ns.length ≤ 140737488355328) :
    Calls Tryd.prog 18 #[.pointer (some ⟨b, 0, none⟩), x] w (Wrote b v l (nums ns) w) := by
  have hxb := row_blk hx hw.blk (by decide)
  have hxv := row_types hx hw.row (by decide)
  rcases hx.2 with ⟨rfl, h0⟩ | ⟨g, cap, cur, rfl, _, hgg, _⟩
  · have : ns = [] := List.eq_nil_of_length_eq_zero h0
    subst this
    exact wnum_none b v l w hw
  · refine wnum_any b g 0 cap v l ns w hw (fun e => hxb (by simp [Value.ownBlock, e])) (hxv g rfl) (fun j hj => ?_) hn hlim
    rw [Nat.zero_add, hx.cellAt j (by omega)]
    simp [u64s, List.getD, List.getElem?_eq_getElem hj]

/-- What came in reads as these numbers: a slice, nil or not. -/
structure ArgNums (w : World) (ao : Option Addr) (cap : Nat) (ns : List Nat) : Prop where
  nil : ao = none → ns = [] ∧ cap = 0
  le : ns.length ≤ cap
  most : cap ≤ 9223372036854775807
  small : ∀ y ∈ ns, y < 18446744073709551616
  cells : ∀ a, ao = some a → ∀ j, j < ns.length → w.cell? (a.add j) = some (.int .u64 (ns.getD j 0 : Nat))
theorem ArgNums.below {w w' : World} {ao : Option Addr} {cap : Nat} {ns : List Nat} (h : ArgNums w ao cap ns) (hb : Below w.heap.size w w') : ArgNums w' ao cap ns :=
  ⟨h.nil, h.le, h.most, h.small, fun a ha j hj => (Only.ofBelow (S := fun _ => False) hb).cell (h.cells a ha j hj) id⟩
theorem ArgNums.news {w : World} {ao : Option Addr} {cap : Nat} {ns : List Nat} (h : ArgNums w ao cap ns) (a : Addr) (ha : ao = some a) (p : Nat) : ∀ j u, (u64s (ns.drop p))[j]? = some u → w.cell? (a.add (p + j)) = some u := by
  intro j u hj
  have hjl : p + j < ns.length := by
    rcases Nat.lt_or_ge (p + j) ns.length with h | h
    · exact h
    · simp [u64s, List.getElem?_eq_none (show ns.length ≤ p + j from h)] at hj
  rw [h.cells a ha (p + j) hjl, ← hj]
  simp [u64s, List.getD, List.getElem?_eq_getElem hjl]
theorem WS.newAt {w0 w : World} (b : Nat) (hb : b = w.heap.size) (h : Below w0.heap.size w0 w) : WS w0 (w.alloc (.cells #[.slice none 0 0] 68)) b (.slice none 0 0) [] := hb ▸ WS.new h
theorem WS.other {w0 w w' : World} {b b' : Nat} {v v' : Value} {l : List UInt8} {cs : Array Value} {fz : Nat × Nat} (h : WS w0 w b v l) (g : WrGrew w b' (.slice none 0 0) w' v') (hlo : w0.heap.size ≤ b') (hne : b ≠ b') (hb : w.heap[b']? = some (.cells cs 68 fz)) : WS w0 w' b v l := by
  have hf : ∀ k, WrFoot b' (.slice none 0 0) k → k = b' := fun k hk => hk.elim id (fun e => by simp [Value.ownBlock] at e)
  refine ⟨h.wr.keep g.only (fun q => hne (hf b q)) (fun g1 hg1 q => ?_), h.lo, h.own, h.bel.trans (g.only.below h.bel.size (fun i hi => (hf i hi) ▸ hlo))⟩
  have := hf g1 q
  subst this
  exact row_blk h.wr.row hb (by decide) hg1
/-- A slice of numbers, made anew of another one. -/
theorem copied {w w' : World} {v' : Value} {ns : List Nat} {m : Nat} (hm : m = ns.length) (hr : w'.ownsRow 0 22 1 v' m (u64s ns)) (hg : Grew (w.alloc (.cells #[] 22)) (.slice (some ⟨w.heap.size, 0, none⟩) 0 0) w' v') :
    U64Row w' v' ns ∧ Below w.heap.size w w' := by
  subst hm
  refine ⟨hr, ((Below.refl _ w).alloc (Nat.le_refl _) _).trans (hg.only.below (by simp) (fun k hk => by simp [Value.ownBlock] at hk; omega))⟩
theorem ArgNums.newsAt {w : World} {ao : Option Addr} {cap : Nat} {ns : List Nat} (h : ArgNums w ao cap ns) (o : Obj) (ad : Addr) (ha : ao = some ad) : ∀ j u, (u64s ns)[j]? = some u → (w.alloc o).cell? (ad.add j) = some u := by
  intro j u hj
  have h1 := h.news ad ha 0 j u (by simpa using hj)
  rw [Nat.zero_add] at h1
  exact ((Only.refl (fun _ => False) w).alloc o).cell h1 id
theorem ArgNums.newsTake {w : World} {ao : Option Addr} {cap : Nat} {ns : List Nat} (h : ArgNums w ao cap ns) (k : Nat) (o : Obj) (ad : Addr) (ha : ao = some ad) : ∀ j u, (u64s (ns.take k))[j]? = some u → (w.alloc o).cell? (ad.add j) = some u := by
  intro j u hj
  refine h.newsAt o ad ha j u ?_
  rw [← hj]
  simp only [u64s, List.getElem?_map] at hj ⊢
  rw [List.getElem?_take] at hj ⊢
  split
  · rfl
  · simp_all
theorem add_add (a : Addr) (j k : Nat) : (a.add k).add j = a.add (k + j) := by
  unfold Addr.add
  by_cases hk : k = 0
  · subst hk; simp
  · by_cases hj : j = 0
    · subst hj; simp [hk]
    · rw [if_neg hk, if_neg hj, if_neg (by omega)]
      simp [Nat.add_assoc]
theorem ArgNums.newsDrop {w : World} {ao : Option Addr} {cap : Nat} {ns : List Nat} (h : ArgNums w ao cap ns) (k : Nat) (o : Obj) (ad : Addr) (ha : ao = some ad) : ∀ j u, (u64s (ns.drop k))[j]? = some u → (w.alloc o).cell? ((ad.add k).add j) = some u := by
  intro j u hj
  rw [add_add]
  exact ((Only.refl (fun _ => False) w).alloc o).cell (h.news ad ha k j u hj) id
theorem nums_append (a b : List Nat) : nums (a ++ b) = nums a ++ nums b := by simp [nums]
set_option maxHeartbeats 8000000 in
set_option maxRecDepth 100000 in
theorem joins_any (ao : Option Addr) (cap : Nat) (ns : List Nat) (at_ : Nat) (w : World) (hT : Tabs w) (hA : ArgNums w ao cap ns) (hat : at_ < 256) :
    Calls Tryd.prog 9 #[.slice ao ns.length cap, .int .u8 at_] w fun e w' => e = .returned (.bool true) ∧ Below w.heap.size w w' := by
  obtain ⟨n, hn⟩ : ∃ n, n = ns.length := ⟨_, rfl⟩
  rw [← hn]
  have HN := Lib.hid hn
  have hle : n ≤ cap := by have := hA.le; omega
  have hmost := hA.most
  by_cases hbig : 40 < n
  · have hz : (40 : Int) < (n : Int) := by omega
    have HA := Lib.hid (awake_any w hT)
    clear hn hA
    go_enter Tryd.func9, Tryd.ntmps9
    go_wp2_with (go_at_call 11; refine HA.out.mono ?_; rintro e w1 ⟨rfl, hb⟩)
    go_ret
    exact ⟨rfl, hb⟩
  have hz : (n : Int) ≤ 40 := by omega
  obtain ⟨i0, hi, hz0, hz1, hz2⟩ := info_parts info_u64
  obtain ⟨k, hk⟩ : ∃ k, k = at_ % (n + 1) := ⟨_, rfl⟩
  have hkn : k ≤ n := by rw [hk]; have := Nat.mod_lt at_ (show 0 < n + 1 by omega); omega
  have hkz : ((at_ : Int) % ((n : Int) + 1)) = (k : Int) := by rw [hk]; push_cast; rfl
  have HKZ := Lib.hid hkz
  have HA := Lib.hid hA
  have HT := Lib.hid hT
  clear hn hk hkz hA hT
  go_enter Tryd.func9, Tryd.ntmps9
  go_wp2_with fail
  refine (write_any _).mono ?_
  rintro e w1 ⟨rfl, rfl⟩
  go_wp2_with fail
  refine (write_any _).mono ?_
  rintro e w2 ⟨rfl, rfl⟩
  go_wp2_with fail
  refine (write_any _).mono ?_
  rintro e w3 ⟨rfl, rfl⟩
  rw [HKZ.out]
  have sa : WS w _ w.heap.size (.slice none 0 0) [] := ((WS.new (Below.refl w.heap.size w)).alloc (.cells #[.slice none 0 0] 68)).alloc (.cells #[.slice none 0 0] 68)
  have sb : WS w _ (w.heap.size + 1) (.slice none 0 0) [] := (WS.newAt (w := w.alloc (.cells #[.slice none 0 0] 68)) _ (by simp) ((Below.refl w.heap.size w).alloc (Nat.le_refl _) _)).alloc (.cells #[.slice none 0 0] 68)
  have sc : WS w _ (w.heap.size + 1 + 1) (.slice none 0 0) [] := WS.newAt (w := (w.alloc (.cells #[.slice none 0 0] 68)).alloc (.cells #[.slice none 0 0] 68)) _ (by simp) (((Below.refl w.heap.size w).alloc (Nat.le_refl _) _).alloc (by simp) _)
  go_wp2_with fail
  refine (awake_any _ (HT.out.below sa.bel)).mono ?_
  rintro e w4 ⟨rfl, b4⟩
  have sa4 := sa.keep b4
  have sb4 := sb.keep b4
  have sc4 := sc.keep b4
  clear sa sb sc b4
  have A4 := Lib.hid (HA.out.below sa4.bel)
  go_wp2_with (at_builtin; refine wpList_append_src _ rfl _ _ 61 rfl 22 i0 (.int .u64 0) 1 8 Tryd.underlying61 hi hz0 hz1 hz2 rfl (by decide) _ _ _ rfl (World.ownsRow_made _ #[] 0 (Nat.zero_le _) (by decide) rfl) _ _ _ (u64s ns) (by rfl) ?c0 ?c1 ?c2 (u64s_one _) ?c3 ?c4 ?_)
  case c0 => intro h; have := A4.out.nil h; have h2 := HN.out; rw [this.1] at h2; exact ⟨h2, this.2⟩
  case c1 => simp [u64s, HN.out]
  case c2 => intro ad ha; exact A4.out.newsAt _ ad ha
  case c3 => unfold maxLen; omega
  case c4 => omega
  intro v1 w5 hr5 hg5
  obtain ⟨row5, bel5⟩ := copied HN.out hr5 hg5
  have sa5 := sa4.keep bel5
  have sb5 := sb4.keep bel5
  have sc5 := sc4.keep bel5
  clear sa4 sb4 sc4 hr5 hg5 bel5 A4
  go_wp2_with fail
  refine (wnum_row _ _ v1 [] ns w5 sa5.wr row5 HA.out.small (by have := HN.out; simp; omega)).mono ?_
  rintro e w6 ⟨rfl, va, hwr6, hgr6⟩
  have sa6 := sa5.step hwr6 hgr6
  have sb6 := sb5.other hgr6 sa5.lo (by omega) sa5.wr.blk
  have sc6 := sc5.other hgr6 sa5.lo (by omega) sa5.wr.blk
  clear sa5 sb5 sc5 hwr6 hgr6 row5
  have A6 := Lib.hid (HA.out.below sa6.bel)
  go_wp2_with (at_builtin; refine wpList_append_src _ rfl _ _ 61 rfl 22 i0 (.int .u64 0) 1 8 Tryd.underlying61 hi hz0 hz1 hz2 rfl (by decide) _ _ _ rfl (World.ownsRow_made _ #[] 0 (Nat.zero_le _) (by decide) rfl) _ _ _ (u64s (ns.take k)) (by rfl) ?bc0 ?bc1 ?bc2 (u64s_one _) ?bc3 ?bc4 ?_)
  case bc0 => intro h; have h1 := A6.out.nil h; have h2 := HN.out; rw [h1.1] at h2; simp at h2; exact ⟨by omega, h1.2⟩
  case bc1 => have := HN.out; simp [u64s]; omega
  case bc2 => intro ad ha; exact A6.out.newsTake k _ ad ha
  case bc3 => unfold maxLen; omega
  case bc4 => omega
  intro v2 w7 hr7 hg7
  obtain ⟨row7, bel7⟩ := copied (by have := HN.out; simp; omega) hr7 hg7
  have sa7 := sa6.keep bel7
  have sb7 := sb6.keep bel7
  have sc7 := sc6.keep bel7
  clear sa6 sb6 sc6 hr7 hg7 bel7 A6
  go_wp2_with fail
  refine (wnum_row _ _ v2 [] (ns.take k) w7 sb7.wr row7 (fun y hy => HA.out.small y (List.mem_of_mem_take hy)) (by have := HN.out; simp; omega)).mono ?_
  rintro e w8 ⟨rfl, vb, hwr8, hgr8⟩
  have sb8 := sb7.step hwr8 hgr8
  have sa8 := sa7.other hgr8 sb7.lo (by omega) sb7.wr.blk
  have sc8 := sc7.other hgr8 sb7.lo (by omega) sb7.wr.blk
  clear sa7 sb7 sc7 hwr8 hgr8 row7
  have A8 := Lib.hid (HA.out.below sa8.bel)
  go_wp2_with (at_builtin; refine wpList_append_src _ rfl _ _ 61 rfl 22 i0 (.int .u64 0) 1 8 Tryd.underlying61 hi hz0 hz1 hz2 rfl (by decide) _ _ _ rfl (World.ownsRow_made _ #[] 0 (Nat.zero_le _) (by decide) rfl) _ _ _ (u64s (ns.drop k)) (by rfl) ?dc0 ?dc1 ?dc2 (u64s_one _) ?dc3 ?dc4 ?_)
  case dc0.inl => intro h; have h1 := A8.out.nil h; have h2 := HN.out; rw [h1.1] at h2; simp at h2; omega
  case dc0.inr => intro h; have h1 := A8.out.nil h; have h2 := HN.out; rw [h1.1] at h2; simp at h2; omega
  case dc1 => have := HN.out; simp [u64s]; omega
  case dc2.inl => intro ad ha j u hj; have h3 := HN.out; have h4 := A8.out.le; have h5 : ns.drop k = [] := List.drop_eq_nil_of_le (by omega); rw [h5] at hj; simp [u64s] at hj
  case dc2.inr => intro ad ha; exact A8.out.newsDrop k _ ad ha
  case dc3 => unfold maxLen; omega
  case dc4 => omega
  all_goals
    intro v3 w9 hr9 hg9
    obtain ⟨row9, bel9⟩ := copied (by have := HN.out; simp; omega) hr9 hg9
    have sa9 := sa8.keep bel9
    have sb9 := sb8.keep bel9
    have sc9 := sc8.keep bel9
    clear sa8 sb8 sc8 hr9 hg9 bel9 A8
    go_wp2_with fail
    refine (wnum_row _ _ v3 [] (ns.drop k) w9 sc9.wr row9 (fun y hy => HA.out.small y (List.mem_of_mem_drop hy)) (by have := HN.out; simp; omega)).mono ?_
    rintro e w10 ⟨rfl, vc, hwr10, hgr10⟩
    have sc10 := sc9.step hwr10 hgr10
    have sa10 := sa9.other hgr10 sc9.lo (by omega) sc9.wr.blk
    have sb10 := sb9.other hgr10 sc9.lo (by omega) sc9.wr.blk
    clear sa9 sb9 sc9 hwr10 hgr10 row9
    have enc : nums ns = nums (ns.take k) ++ nums (ns.drop k) := by rw [← nums_append, List.take_append_drop]
    simp only [List.nil_append] at sa10 sb10 sc10
    rw [enc] at sa10
    have lx := nums_le (ns.take k) (fun y hy => HA.out.small y (List.mem_of_mem_take hy))
    have ly := nums_le (ns.drop k) (fun y hy => HA.out.small y (List.mem_of_mem_drop hy))
    obtain ⟨X, hX⟩ : ∃ X, X = nums (ns.take k) := ⟨_, rfl⟩
    obtain ⟨Y, hY⟩ : ∃ Y, Y = nums (ns.drop k) := ⟨_, rfl⟩
    rw [← hX, ← hY] at sa10
    rw [← hX] at sb10 lx
    rw [← hY] at sc10 ly
    rw [List.length_take] at lx
    rw [List.length_drop] at ly
    have lxz : X.length ≤ 400 := by have := HN.out; omega
    have lyz : Y.length ≤ 400 := by have := HN.out; omega
    have px : (S X).size ≤ 400 := by rw [S_size]; exact lxz
    have py : (S Y).size ≤ 400 := by rw [S_size]; exact lyz
    have HBa : Hid (∀ W, Below w10.heap.size w10 W → Calls Tryd.prog 25 #[.pointer (some ⟨w.heap.size, 0, none⟩)] W fun e w' => ∃ v', e = .returned v' ∧ RowIs w' v' (X ++ Y) ∧ Below W.heap.size W w') := fun W hW =>
      (wbytes_any _ _ _ W (sa10.keep hW).wr (by rw [List.length_append]; omega)).mono fun _ _ ⟨v', he, h1, h2, _⟩ => ⟨v', he, h1, h2⟩
    have HBb : Hid (∀ W, Below w10.heap.size w10 W → Calls Tryd.prog 25 #[.pointer (some ⟨w.heap.size + 1, 0, none⟩)] W fun e w' => ∃ v', e = .returned v' ∧ RowIs w' v' X ∧ Below W.heap.size W w') := fun W hW =>
      (wbytes_any _ _ _ W (sb10.keep hW).wr (by omega)).mono fun _ _ ⟨v', he, h1, h2, _⟩ => ⟨v', he, h1, h2⟩
    have HBc : Hid (∀ W, Below w10.heap.size w10 W → Calls Tryd.prog 25 #[.pointer (some ⟨w.heap.size + 1 + 1, 0, none⟩)] W fun e w' => ∃ v', e = .returned v' ∧ RowIs w' v' Y ∧ Below W.heap.size W w') := fun W hW =>
      (wbytes_any _ _ _ W (sc10.keep hW).wr (by omega)).mono fun _ _ ⟨v', he, h1, h2, _⟩ => ⟨v', he, h1, h2⟩
    have bel10 := Lib.hid sa10.bel
    clear sa10 sb10 sc10 enc hX hY lx ly
    go_wp2_with fail
    have HS := Lib.hid (S_append X Y)
    generalize w.heap.size + 1 + 1 = C at HBc ⊢
    generalize w.heap.size + 1 = B at HBb ⊢
    go_region_with (first | (go_at_call_of 25 (Value.pointer (some (Addr.mk w.heap.size 0 none))); refine (HBa.out _ (by exact (Below.refl w10.heap.size w10).drew)).mono ?_; rintro e wa ⟨va', rfl, ra, ba⟩; have ca := conv_owned ra; rw [← HS.out] at ca) | (go_at_call_of 25 B; refine (HBb.out _ (by exact (Below.refl w10.heap.size w10).drew.trans ba)).mono ?_; rintro e wb ⟨vb', rfl, rb, bb⟩; have ra' := (Only.ofBelow (S := fun _ => False) bb).row ra (fun _ _ => id); have ca' := conv_owned ra'; rw [← HS.out] at ca'; have cb := conv_owned rb) | (go_at_call_of 25 C; refine (HBc.out _ (by exact ((Below.refl w10.heap.size w10).drew.trans ba).trans (bb.mono ba.size))).mono ?_; rintro e wc ⟨vc', rfl, rc, bc⟩; have ra'' := (Only.ofBelow (S := fun _ => False) bc).row ra' (fun _ _ => id); have ca'' := conv_owned ra''; rw [← HS.out] at ca''; have rb' := (Only.ofBelow (S := fun _ => False) bc).row rb (fun _ _ => id); have cb' := conv_owned rb'; have cc := conv_owned rc))
    all_goals go_wp2
    all_goals go_ret
    all_goals
      have b1 : Below w.heap.size w wa := bel10.out.trans (((Below.refl _ w10).drew.trans ba).mono bel10.out.size)
      exact ⟨rfl, (b1.trans (bb.mono b1.size)).trans (bc.mono (Nat.le_trans b1.size bb.size))⟩
end Go.Proofs.YtlkgiloabonhhaaDoor
