import PyProof.Rows.All
import Wide.All
import OpenK.AllK
import Wide.FinOn
import PyProof.EqAt
import PyProof.EqKinds
import PyProof.TupleCall
import HandS.ForMost
import HandS.ForExc
import HandS.Small
import HandS.Evl
import HandS.IsInst
import HandS.Wide
import HandS.TupAny
import HandS.Style
import HandS.Rev
import HandS.Walk
import KE.KTupSum
import KE.GoesMore
import KE.GoesEnum
import HandS.TryMany
import PyProof.P3Statements
import HandS.Conv
import HandS.ExcCtx
import HandS.HotCalls
import HandS.Iter
import HandS.Defaults
import HandS.Head0
import HandS.Head1
import HandS.Head2
import HandS.HeadEnd
import HandS.HeadHook1
import HandS.HeadHook2
import PySem.Challenge.RW_whoiswho_k68_whole_spoilt_and_cut_entrie
set_option Elab.async false
set_option linter.all false
set_option maxRecDepth 100000
set_option maxHeartbeats 4000000
/-! Further rules: sum of a tuple, one of two walks, enumerate of a tuple. -/
namespace L2
open PySem PySem.Spec PyProof.Rows
section
variable {X : Cx}
/-- sum(t), t a tuple of ints -/
theorem cr_sumT (hc : X.calm = true) : CallR X (.builtin "sum") (fun vs H Q => ∃ (a : Addr) (ns : List Int), vs = [V.ref a] ∧ SqT X.K H a (ns.map V.int) ∧ Q (.int ns.sum) H) := by
  intro pins s σ H vs us Q I r h
  obtain ⟨a, ns, rfl, hs, q⟩ := h
  obtain ⟨its, rv, hl, _⟩ := I.tuple hs
  rw [Vals.ref1 r]
  obtain ⟨xs, e⟩ := rv.ints.allInts.items
  have hn : numsOf (PySem.intItems xs).toList = ns := by
    rw [← e]
    exact rv.ints.numsOf
  rw [nums_intItems] at hn
  have hl' : s.heap.IsTuple a (PySem.intItems xs) := by
    rw [← e]
    exact hl
  refine PySem.W.ktm_sumG (I.ok.hd hc) hl' fun h' tk t' hk => ?_
  rw [preSum_eq, List.take_of_length_le (by simp), hn]
  exact ⟨.int _, H, I.kept hk, ⟨_, rfl⟩, q⟩
/-- the one walk or the other -/
theorem PI.or {tg iter : Expr} {w1 w2 : TI} (h1 : PI X tg iter w1) (h2 : PI X tg iter w2) : PI X tg iter (fun σ H R => w1 σ H R ∨ w2 σ H R) :=
  ⟨fun pins s σ H R I h => by
    rcases h with h | h
    · exact h1.run pins s σ H R I h
    · exact h2.run pins s σ H R I h⟩
end
/-- the tuple at a, each item in a new pair -/
def IteT (K : PySem.W.Frag) (a : Addr) : It :=
  ⟨fun i H => ∃ (xs : List V) (x : V), SqT K H a xs ∧ xs[i]? = some x,
   fun i H v H' => ∃ T x, v = .ref T ∧ H T = none ∧ H' = upd H T (.tup [.int (i : Nat), x]) ∧ ∀ xs, SqT K H a xs → xs[i]? = some x,
   fun i H => ∃ xs : List V, SqT K H a xs ∧ xs.length = i⟩
end L2
namespace PySem
open Sem (wp)
theorem meets_enum1 {v : Value} {o : Obj} {HH : Heap → Prop} (B : Begins v o HH) :
    Meets (Builtin.«enumerate.__new__» ⟨[.type "enumerate", v], []⟩) (fun _ R s => HH s.heap ∧
      R (.ok (.ret (.ref (s.heap.push o).objs.size))) { s with heap := (s.heap.push o).push { cls := .type "enumerate", data := .fields #[.none, .bool false, .ref s.heap.objs.size, rawInt 0, .none, .none] } }) :=
  .of_wp fun prog w A R s h => by
    obtain ⟨hp, g, d, tk, os⟩ := s
    obtain ⟨h1, h⟩ := h
    have hsub := sub_enumerate
    have it1 : ∀ {A' : Around} {E : Value → Shared → Prop} {Q : Value → Shared → Prop}, Q (.ref hp.objs.size) ⟨hp.push o, g, d, tk, os⟩ → wpAny (model prog w) A' (pyIter v) Q E ⟨hp, g, d, tk, os⟩ :=
      fun q => B.iter prog w _ _ ⟨hp, g, d, tk, os⟩ _ h1 q
    wp_walk using it1
    refine wpAny_stack_any fun st => wpAny_pure ?_
    split
    · rename_i c _ _ _ _ _
      cases (c == Value.type "enumerate")
      all_goals
        wp_walk using it1
        exact ⟨_, rfl, h⟩
    · wp_walk using it1
      exact ⟨_, rfl, h⟩
theorem call_enumB {prog : Program} {w : World} {A : Around} {E : Value → Shared → Prop} {s : Shared} {v : Value} {o : Obj} {HH : Heap → Prop} {Q : Value → Shared → Prop} (B : Begins v o HH) (h1 : HH s.heap)
    (h : ∀ h', IsEnum h' (s.heap.objs.size + 1) s.heap.objs.size 0 .none → h'.get? s.heap.objs.size = some o → h'.objs.size = s.heap.objs.size + 2 →
      (∀ b o, s.heap.get? b = some o → h'.get? b = some o) → Q (.ref (s.heap.objs.size + 1)) { s with heap := h' }) :
    wpAny (model prog w) A (call (.type "enumerate") [v]) Q E s := by
  refine callType_new F.called_enumerate (by decide) (F.typeCall_enumerate_1 _) (F.newCall_enumerate_1 _) (fun obj => F.args_object_init_2 obj _) F.entry_enumerate_new (meets_enum1 B) ⟨h1, ?_⟩
  have hz : (s.heap.push o).objs.size = s.heap.objs.size + 1 := Heap.size_push ..
  show _ ∧ _
  rw [hz]
  have he : IsEnum ((s.heap.push o).push { cls := .type "enumerate", data := .fields #[.none, .bool false, .ref s.heap.objs.size, rawInt 0, .none, .none] }) (s.heap.objs.size + 1) s.heap.objs.size 0 .none := by
    have z := Heap.get?_push_size (s.heap.push o) (o := { cls := .type "enumerate", data := .fields #[.none, .bool false, .ref s.heap.objs.size, rawInt 0, .none, .none] }) rfl
    rw [hz] at z
    exact z
  exact ⟨⟨_, he, rfl⟩, h _ he (Heap.get?_push_of_some _ (Heap.get?_push_size _ B.free)) (by rw [Heap.size_push, hz]) fun b o x => Heap.get?_push_of_some _ (Heap.get?_push_of_some _ x)⟩
end PySem
namespace L2
open PySem PySem.Spec PyProof.Rows
theorem turn_enumT {P : Program} {w : World} {K : PySem.W.Frag} {elts : List Expr} {kk : Nat} {tpos : Pos} (a e it : Addr) (hea : e ≠ a) (hia : a ≠ it) :
    Turn P w K (.Tuple elts kk tpos) (IteT K a) [e, it] e (fun i h => (∃ old, IsEnum h e it ((i : Nat) : Int) old) ∧ h.IsTupleIter it a i ∧ e ≠ it) where
  mem := by simp
  obj := fun i h st b hb => by
    obtain ⟨⟨old, he⟩, ⟨o, ho, hc, hd⟩, _⟩ := st
    have e' : b = e ∨ b = it := by simpa using hb
    rcases e' with z | z
    · rw [z]
      exact ⟨_, he, fun v q => nomatch q⟩
    · rw [z]
      exact ⟨o, ho, fun v q => by rw [hd] at q; cases q⟩
  keep := fun i h h' st k => by
    obtain ⟨⟨old, he⟩, hi, hne⟩ := st
    exact ⟨⟨old, k e (by simp) _ he⟩, hi.at fun o q => k it (by simp) o q, hne⟩
  item := by
    intro X hP hw hK hc i pins s σ H E I hf st hg
    subst hP hw hK
    obtain ⟨⟨old, he⟩, hit, hne⟩ := st
    obtain ⟨xs, x, hq, hx⟩ := hg
    obtain ⟨its, rv, p, hz⟩ := I.tuple hq
    obtain ⟨u, hu, ru⟩ := rv.get hx
    have hel : e < s.heap.objs.size := Heap.lt_size he
    have hil : it < s.heap.objs.size := by
      obtain ⟨_, q, _⟩ := hit
      exact Heap.lt_size q
    have hlt : i < its.toArray.size := by
      have := (List.getElem?_eq_some_iff.mp hu).1
      simpa using this
    have D := Draws.tuple (prog := X.prog) (w := X.w) (A := X.A.in1) (show X.A.in1.handled = none from I.ok.hd hc) it a hia its.toArray
    refine wpAny_pyNext_enum_itemD D he ⟨hit, p⟩ hlt hne (by
      intro hm
      rcases List.mem_cons.mp hm with q | q
      · exact hne q
      · exact hea (List.mem_singleton.mp q)) fun x' h' tk hx' ho hit' hT hsz hk => ?_
    have ex : x' = u := by
      have e1 : its.toArray[i]? = some x' := hx'
      have e2 : its.toArray[i]? = some u := by simpa using hu
      exact Option.some.inj (e1.symm.trans e2)
    subst ex
    refine ⟨_, rfl, wpAny_letOwnedTupleGo_enum (s := { s with heap := h', toks := tk + 1 }) ho fun h'' he' sb => ?_⟩
    have hT2 : h''.get? s.heap.objs.size = some { cls := .type "tuple", data := .seq #[.int i tk, x'] } := (sb.2 _ (Nat.ne_of_gt hel)).trans hT
    have new : ObjOk X.prog X.w (upd H s.heap.objs.size (.tup [.int (i : Nat), x])) h'' s.heap.objs.size (.tup [.int (i : Nat), x]) :=
      ⟨by show 2 ≤ sizeLine; decide, [.int i tk, x'], .cons ⟨_, rfl⟩ (.cons ru .nil), ⟨_, hT2, rfl, _, rfl⟩⟩
    have I1 : Inv X pins σ (upd H s.heap.objs.size (.tup [.int (i : Nat), x])) { s with heap := h'', toks := tk + 1 } :=
      I.turnedNew (ch := [e, it]) (fun b ob hb q => (sb.2 b (fun z => hb (by simp [z]))).trans (hk b ob (fun z => hb (by simp [z])) (fun z => hb (by simp [z])) q)) hf (Nat.le_refl _) new
    refine ⟨.ref s.heap.objs.size, _, I1, rfl, ⟨_, x, rfl, I.hok.fresh (Nat.le_refl _), rfl, fun ys hy => by rw [I.tuple_inj hy hq]; exact hx⟩, ⟨⟨x', ?_⟩, hit'.1.at fun o q => (sb.2 it (Ne.symm hne)).trans q, hne⟩, fun b hb => ?_⟩
    · have e1 : ((i + 1 : Nat) : Int) = (i : Int) + 1 := by omega
      rw [e1]
      exact he'
    · have hb' : b < s.heap.objs.size := by
        have e' : b = e ∨ b = it := by simpa using hb
        rcases e' with z | z
        · rw [z]; exact hel
        · rw [z]; exact hil
      rw [upd_ne (Nat.ne_of_lt hb')]
      exact (hf b hb).1
  done := by
    intro X hP hw hK hc i pins s σ H E I hf st hg
    subst hP hw hK
    obtain ⟨⟨old, he⟩, hit, hne⟩ := st
    obtain ⟨xs, hq, hx⟩ := hg
    obtain ⟨its, rv, p, hz⟩ := I.tuple hq
    obtain ⟨f0, f1, f2, f3, f4, f5⟩ := hf it (by simp)
    have D := Draws.tuple (prog := X.prog) (w := X.w) (A := X.A.in1) (show X.A.in1.handled = none from I.ok.hd hc) it a hia its.toArray
    have ei : i = its.toArray.size := by
      have := rv.length
      simp
      omega
    exact wpAny_pyNext_enum_endD D he (by rw [← ei]; exact ⟨hit, p⟩) fun h' eb => ⟨rfl, I.turned (t' := s.toks) (fun b o hb q => eb b o hb q) f0 f1 f3 f4 f5⟩
  self := fun A i s Q E st h => let ⟨⟨_, he⟩, _⟩ := st; wpAny_pyIter_enum he h
def iEnumT (K : PySem.W.Frag) (ta : TA) : TI := fun σ H R => ta σ H fun vs H1 => ∃ a xs, vs = [.ref a] ∧ SqT K H1 a xs ∧ R (IteT K a) H1
theorem pi_enumT {X : Cx} {e : Expr} {ta : TA} {p pos tpos : Pos} {elts : List Expr} {kk : Nat} (hg : Gl X "enumerate") (hm : X.mg "enumerate" = none) (ha : PA X [e] ta) (hs : starEach [e] X.env = [(false, eval e X.env)] := by rfl) :
    PI X (.Tuple elts kk tpos) (.Call (.Name "enumerate" p) [e] [] pos) (iEnumT X.K ta) := by
  refine ⟨fun pins s σ H R I h => ?_⟩
  refine Call_ (ld_blt I hg hm boot_enumerate (PyProof.Rows.callWith_type1 (thn (ha.run pos pins s σ H _ I h) fun us s1 ⟨vs, H1, I1, r1, q1⟩ => ?_) hs rfl))
  obtain ⟨a, xs, ex, hq, q⟩ := q1
  subst ex
  cases r1 with
  | cons r rr =>
    cases rr
    cases r
    obtain ⟨its, rv, p', hz⟩ := I1.tuple hq
    have ha1 : a < s1.heap.objs.size := by
      obtain ⟨o, ho, _⟩ := id p'
      exact Heap.lt_size ho
    refine call_enumB (begins_tuple a its.toArray) p' fun h' he hit hsz hk => wpAny_pyIter_enum he ?_
    have I2 : Inv X pins σ H1 { s1 with heap := h' } := I1.kept (t' := s1.toks) hk
    refine ⟨s1.heap.objs.size + 1, [s1.heap.objs.size + 1, s1.heap.objs.size], _, _, H1, rfl, I2, turn_enumT a (s1.heap.objs.size + 1) s1.heap.objs.size (Nat.ne_of_gt (Nat.lt_succ_of_lt ha1)) (Nat.ne_of_lt ha1),
      ⟨⟨.none, he⟩, ⟨_, hit, rfl, rfl⟩, Nat.succ_ne_self _⟩, fun b hb => ?_, q⟩
    have hle : s1.heap.objs.size ≤ b := by
      have e' : b = s1.heap.objs.size + 1 ∨ b = s1.heap.objs.size := by simpa using hb
      rcases e' with z | z
      · rw [z]
        exact Nat.le_add_right _ _
      · rw [z]
        exact Nat.le_refl _
    exact I1.fpOk hle (I1.hok.fresh hle)
end L2


set_option Elab.async false
set_option linter.all false
set_option maxRecDepth 100000
set_option maxHeartbeats 4000000
/-! Words for lists and tuples alike, for comprehensions, for heaps that only grow. -/
namespace L2
open PySem PySem.Spec PyProof.Rows
/-- at a a list or a tuple of these -/
def SqA (K : PySem.W.Frag) (H : Hp) (a : Addr) (xs : List V) : Prop := SqL K H a xs ∨ SqT K H a xs
theorem same_new {H : Hp} {p : Addr} {o : HO} (n : H p = none) : Same H (upd H p o) := fun b u e => by
  rw [upd_ne (ne_of_none e n)]
  exact e
section
variable {K : PySem.W.Frag} {H H' : Hp} {a : Addr} {xs : List V}
theorem sqT_same (s : Same H H') (h : SqT K H a xs) : SqT K H' a xs := by
  rcases h with (h | ⟨o, h⟩) | h
  · exact .inl (.inl (s _ _ h))
  · exact .inl (.inr ⟨o, s _ _ h⟩)
  · exact .inr h
theorem sqL_same (s : Same H H') (h : SqL K H a xs) : SqL K H' a xs := s.seq h
theorem SqA.same (h : SqA K H a xs) (s : Same H H') : SqA K H' a xs := by
  rcases h with h | h
  · exact .inl (sqL_same s h)
  · exact .inr (sqT_same s h)
theorem SqA.len (h : SqA K H a xs) : SqL K H a xs ∨ SqT K H a xs := h
end
/-- x[i] of a list or tuple -/
def ix_any {X : Cx} : IxR X (fun x y H Q => rIxL X.K x y H Q ∨ rIxT X.K x y H Q) := IxR.or ix_list ix_tup
theorem ask_ix {K : PySem.W.Frag} {H : Hp} {Q : VK} {a : Addr} {xs : List V} {i : Int} {v : V} (h : SqA K H a xs) (e : atI xs i = some v) (q : Q v H) : rIxL K (.ref a) (.int i) H Q ∨ rIxT K (.ref a) (.int i) H Q := by
  rcases h with h | h
  · exact .inl ⟨a, xs, i, v, rfl, rfl, h, e, q⟩
  · exact .inr ⟨a, xs, i, v, rfl, rfl, h, e, q⟩
def sl_any {X : Cx} : SlR X (fun x lo hi H Q => rSlL X.K x lo hi H Q ∨ rSlA X.K x lo hi H Q) := SlR.or sl_list sl_tupA
theorem cutV_full {xs : List V} {lo hi : Option Int} (h : HT.sIx xs.length 0 lo = 0 ∧ HT.sIx xs.length xs.length hi = xs.length) : cutV xs lo hi = xs := by
  unfold cutV
  rw [h.1, h.2]
  simp
theorem ask_sl {K : PySem.W.Frag} {H : Hp} {Q : VK} {a : Addr} {xs : List V} {lo hi : Option Int} (h : SqA K H a xs)
    (q : ∀ p H', Same H H' → SqA K H' p (cutV xs lo hi) → Q (.ref p) H') : rSlL K (.ref a) lo hi H Q ∨ rSlA K (.ref a) lo hi H Q := by
  rcases h with h | h
  · exact .inl ⟨a, xs, rfl, h, fun p n => q p _ (same_new n) (.inl (SqL.of upd_same))⟩
  · refine .inr ⟨a, xs, rfl, h, fun f => q a H (Same.refl _) (.inr ?_), fun _ p n => q p _ (same_new n) (.inr (.inl (.inl upd_same)))⟩
    rw [cutV_full f]
    exact h
/-- the same, and of a tuple a tuple comes -/
theorem ask_slT {K : PySem.W.Frag} {H : Hp} {Q : VK} {a : Addr} {xs : List V} {lo hi : Option Int} (h : SqT K H a xs)
    (q : ∀ p H', Same H H' → SqT K H' p (cutV xs lo hi) → Q (.ref p) H') : rSlL K (.ref a) lo hi H Q ∨ rSlA K (.ref a) lo hi H Q := by
  refine .inr ⟨a, xs, rfl, h, fun f => q a H (Same.refl _) ?_, fun _ p n => q p _ (same_new n) (.inl (.inl upd_same))⟩
  rw [cutV_full f]
  exact h
theorem ask_slL {K : PySem.W.Frag} {H : Hp} {Q : VK} {a : Addr} {xs : List V} {lo hi : Option Int} (h : SqL K H a xs)
    (q : ∀ p H', H p = none → H' = upd H p (.lst (cutV xs lo hi)) → Q (.ref p) H') : rSlL K (.ref a) lo hi H Q ∨ rSlA K (.ref a) lo hi H Q :=
  .inl ⟨a, xs, rfl, h, fun p n => q p _ n rfl⟩
theorem walk_enumT {K : PySem.W.Frag} {a : Addr} {xs : List V} : Walk (IteT K a) xs.length (fun H => SqT K H a xs) (YPair (fun i => some (.int (i : Nat))) (fun i => xs[i]?)) :=
  ⟨fun i _ hi q => ⟨xs, xs[i], q, by simp [hi]⟩, fun _ q => ⟨xs, q, rfl⟩, fun _ _ _ _ _ q y => by
    obtain ⟨T, x, e, n, eH, f⟩ := y
    exact ⟨T, _, x, e, n, eH, rfl, f xs q⟩⟩
/-- a comprehension whose turns only make new things: what comes of each turn is told -/
theorem lc_grow {J : It} {n : Nat} {G : Hp → Prop} {Y : Nat → Hp → V → Hp → Prop} (w : Walk J n G Y) {g : TG} {tt : TT} {te : TE} {vs : List Nat} {σ : St} {H1 : Hp} {D : Addr} {Qd : Hp → Prop} (out : Nat → Option V) (hD : H1 D = none) (hz : n ≤ 1000000)
    (hG : ∀ H, Same H1 H → G H)
    (hs : ∀ i x H H', i < n → Same H1 H → Y i H x H' → ∀ (Nx : VK) (Ny : Hp → Prop), (∀ y H4, out i = some y → Same H H4 → Nx y H4) → (∀ H3, out i = none → Same H H3 → Ny H3) →
      g x (wipe σ vs) H' fun σ2 H2 => wipe σ2 vs = wipe σ vs ∧ tt σ2 H2 fun b H3 => if b = true then te σ2 H3 Nx else Ny H3)
    (hd : ∀ H, Same H1 H → H D = some (.lst ((List.range n).filterMap out)) → Qd H) :
    ∃ W : Nat → Nat → Hp → Prop, (∃ m, W 0 m (upd H1 D (.lst []))) ∧ ∀ i m H, W i m H →
      (J.stop i H ∧ Qd H) ∨ (J.go i H ∧ ∃ Nx : Hp → Prop, (∀ H', Nx H' → ∃ m', m' < m ∧ W (i + 1) m' H') ∧ ∀ x H', J.yld i H x H' → g x (wipe σ vs) H' fun σ2 H2 => wipe σ2 vs = wipe σ vs ∧ tt σ2 H2 fun b H3 =>
        if b = true then te σ2 H3 fun y H4 => ∃ acc, H4 D = some (.lst acc) ∧ acc.length < sizeLine ∧ Nx (upd H4 D (.lst (acc ++ [y]))) else Nx H3) := by
  refine lc_it w (fun i H => Same H1 H ∧ H D = some (.lst ((List.range i).filterMap out))) ⟨same_new hD, upd_same⟩ (fun i H _ h => hG H h.1) (fun i x H H' hi h y => ?_) (fun H h => hd H h.1 h.2)
  refine hs i x H H' hi h.1 y _ _ (fun z H4 e s4 => ?_) (fun H3 e s3 => ?_)
  · have hD4 := s4 _ _ h.2
    refine ⟨_, hD4, ?_, ?_, ?_⟩
    · have l1 : ((List.range i).filterMap out).length ≤ i := by
        have := List.length_filterMap_le out (List.range i)
        rw [List.length_range] at this
        exact this
      rw [sizeLine_eq]
      omega
    · intro b o q
      have nb : b ≠ D := ne_of_none q hD
      rw [upd_ne nb]
      exact s4 _ _ (h.1 _ _ q)
    · rw [upd_same, List.range_succ, List.filterMap_append]
      simp [e]
  · refine ⟨fun b o q => s3 _ _ (h.1 _ _ q), ?_⟩
    rw [s3 _ _ h.2, List.range_succ, List.filterMap_append]
    simp [e]
theorem yes_of {te : TE} {σ : St} {H : Hp} {Nx : VK} {Ny : Hp → Prop} (h : te σ H Nx) : tYes σ H fun b H3 => if b = true then te σ H3 Nx else Ny H3 := by
  show if true = true then te σ H Nx else Ny H
  rw [if_pos rfl]
  exact h
/-! readings, a layer taken off -/
theorem ask_not {t : TT} {σ : St} {H : Hp} {Q : Bool → Hp → Prop} (h : t σ H fun c H1 => Q (!c) H1) : tNot t σ H Q := h
theorem ask_B {t : TE} {σ : St} {H : Hp} {Q : Bool → Hp → Prop} (h : t σ H fun x H1 => ∃ c, x = .bl c ∧ Q c H1) : tB t σ H Q := h
theorem ask_CB {r : List V → Hp → VK → Prop} {t : TA} {σ : St} {H : Hp} {Q : VK} (h : t σ H fun vs H1 => r vs H1 Q) : tCB r t σ H Q := h
theorem ask_one {te : TE} {σ : St} {H : Hp} {Q : List V → Hp → Prop} (h : te σ H fun x H1 => Q [x] H1) : tCons te tNil σ H Q := h
theorem ask_set {te : TE} {i : Nat} {D : Ends} {σ : St} {H : Hp} (h : te σ H fun x H1 => D.nx (σ.set i (some x)) H1) : tAsg te (gName i) D σ H := h
theorem ask_seq {t u : TS} {D : Ends} {σ : St} {H : Hp} (h : t { D with nx := u D } σ H) : tSeq t u D σ H := h
theorem ask_ret {te : TE} {D : Ends} {σ : St} {H : Hp} (h : te σ H D.rt) : tRet te D σ H := h
/-- the list of what comes of each item -/
theorem range_mapG {α : Type} (f : α → V) : ∀ (l : List α), (List.range l.length).filterMap (fun i => (l[i]?).map f) = l.map f := by
  intro l
  induction l with
  | nil => rfl
  | cons a l ih =>
    rw [List.length_cons, List.range_succ_eq_map, List.filterMap_cons]
    simp only [List.getElem?_cons_zero, Option.map_some, List.filterMap_map, List.map_cons]
    congr 1
end L2


set_option Elab.async false
set_option linter.all false
set_option maxRecDepth 100000
set_option maxHeartbeats 4000000
/-! Own errors over Exception with one field, made, raised, read; several except clauses with names. -/
namespace PySem
namespace OwnEx
open PySem.W PySem.Calls PyProof.Rows PySem.HandSPX
open Builtin Builtin.ObjectAttr
/-- the rows of Exception, behind own classes -/
abbrev exRest : List Value := [.type "Exception", .type "BaseException", .type "object"]
theorem two_contains (U : Addr) (X : String) :
    List.contains ([.ref U, .type "Exception", .type "BaseException", .type "object"] : List Value) (.type X) = exRest.contains (.type X) := by
  rw [List.contains_cons]
  rfl
theorem two_passes (self : Value) (C U : Addr) : refuseLoop self "__setattr__" [.ref C, .ref U, .type "Exception", .type "BaseException", .type "object"] = pure () := by
  rw [refuseLoop_ref]
  rw [refuseLoop_ref]
  exact F.store_Exception.passes self

section
variable {prog : Program} {w : World} {A : Around} {E : Value → Shared → Prop} {R : Result → Shared → Prop}
variable {hp : Heap} {g : Array GenState} {d : Drawn} {t : Nat} {os : OsState}
/-- self.name = v, self an error that has no dict yet -/
theorem first_field {K : W.Frag} {name : Str} {tk : Tok} {v : Value} {x C U : Addr} {fv : Array Value} {cd : ClassData} (X : K.In hp)
    (hx : hp.get? x = some { cls := .ref C, data := .fields fv })
    (hcd : W.clsIn K C = some cd) (hm : cd.mro = [.ref C, .ref U, .type "Exception", .type "BaseException", .type "object"])
    (hh : cd.hasDict = true) (ha : W.findIn K (.ref C) name = some none)
    (hq : ∀ h' tk' dx, (∀ b o, b ≠ x → hp.get? b = some o → h'.get? b = some o) → hp.objs.size ≤ dx → dx ≠ x →
      h'.get? x = some { cls := .ref C, dict := some dx, data := .fields fv } →
      h'.Ns1 dx (fun y => if y = name then some v else none) → R (.ok (.ret .none)) ⟨h', g, d, tk', os⟩) :
    codeAny (model prog w) A (.call (.builtin "object.__setattr__") ⟨[.ref x, .str name tk, v], []⟩) R ⟨hp, g, d, t, os⟩ := by
  have IA : W.InstAt hp x { cls := .ref C, data := .fields fv } C none := ⟨hx, rfl, rfl, trivial⟩
  have SO := F.store_object
  have em : cd.mro.isEmpty = false := by rw [hm]; rfl
  have cob : cd.mro.contains (.type "object") = true := by
    rw [hm, List.contains_cons, two_contains]
    rfl
  have xs : x ≠ hp.objs.size := Nat.ne_of_lt (Heap.lt_size hx)
  have is : W.Looks (model prog w) hp (isInstance (.ref x) (.type "object")) true :=
    IA.type.andThen (W.looks_mroIn X (by unfold W.mroIn; rw [hcd, Option.bind_some, if_neg (by rw [em]; decide), cob]))
  refine codeAny_call_builtin SO.slot.plain SO.entry
    (@W.check_slot (model prog w) _ _ ⟨hp, g, d, t, os⟩ "object.__setattr__" "object" "__setattr__" (.ref x)
      [.str name tk, v] [] _ SO.kind SO.split is (SO.args (.ref x) (.str name tk) v) ?_)
  have lm : W.Looks (model prog w) hp (mroOf (.ref C)) cd.mro := (W.looks_clsIn X hcd).andThen .now
  have lt : W.Looks (model prog w) hp (storeTaker? none) none := .now
  have lc : W.Looks (model prog w) hp (classData C) cd := W.looks_clsIn X hcd
  rw [W.osa_eq, refuse_eq]
  refine wpAny_bind (wpAny_bind (IA.type.at (wpAny_bind (lm.at ?_))))
  rw [hm, two_passes]
  refine wpAny_pure (wpAny_bind (IA.type.at (wpAny_bind ((W.looks_findIn X ha).at (wpAny_bind (lt.at ?_))))))
  show wpAny _ _ (storeInOwnDict (.ref x) (.ref C) (.str name tk) name v false) _ _ _
  obtain ⟨nm, bs, mro, ns, qn, hd, sn, sb, ab, col, del⟩ := cd
  dsimp only at hh
  subst hh
  unfold storeInOwnDict ownDictForStores
  repeat (first
    | with_reducible refine store_in_new ?_ ?_
    | with_reducible refine wpAny_loadPart_at hx ?_
    | with_reducible refine lc.at ?_
    | wp_step)
  · exact ⟨_, #[], _, (Heap.get?_update_ne _ _ _ _ xs.symm).trans (Heap.get?_push_at rfl rfl), rfl,
      fun e he => absurd he (by simp), fun _ => rfl⟩
  · intro h' tk' hn' hs
    have hx₁ : (hp.push { cls := .type "dict", data := .dict #[] }).get? x = some { cls := .ref C, data := .fields fv } :=
      Heap.get?_push_of_some _ hx
    refine hq h' tk' hp.objs.size (fun b o hb ho => ?_) (Nat.le_refl _) xs.symm ?_ hn'
    · exact (hs.2 b (Nat.ne_of_lt (Heap.lt_size ho))).trans
        ((Heap.get?_update_ne _ _ _ _ hb).trans (Heap.get?_push_of_some _ ho))
    · exact (hs.2 x xs).trans (Heap.get?_update_self _ hx₁ rfl)
end
end OwnEx
end PySem


set_option Elab.async false
set_option linter.all false
set_option maxRecDepth 100000
set_option maxHeartbeats 4000000
/-! An own error E(U), U(Exception), with def __init__(self, f): self.f = f. -/
namespace PySem
namespace OwnEx
open PySem.W PySem.Calls PyProof.Rows PySem.HandSPX
/-- the names that fields have -/
def Fld (f : Str) : Prop := f = "at" ∨ f = "word" ∨ f = "name" ∨ f = "house"
def inA (f : Str) (p1 p2 : Pos) : Arguments :=
  { posonlyargs := [], args := [{ arg := "self", annotation := none, pos := p1 }, { arg := f, annotation := none, pos := p2 }],
    vararg := none, kwonlyargs := [], kw_defaults := [], kwarg := none, defaults := [] }
def inB (f : Str) (q1 q2 q3 q4 : Pos) : List Stmt := [.Assign [.Attribute (.Name "self" q1) f q2] (.Name f q3) q4]
def inS (f : Str) : Scope :=
  { kind := .function, names := [(PySem.Str.ofString "self", .local), (f, .local)], isGenerator := false, isCoroutine := false, more := [] }
/-- what the written part says of the class cn at C, whose base is the own class at U, and of its __init__ at fI -/
structure ErrTxt (K : Frag) (mg : Str → Option Value) (cn f qi : Str) (C U fI : Addr) : Prop where
  gC : mg cn = some (.ref C)
  dbg : (cn == ("__debug__" : Str)) = false
  fl : Fld f
  cls : ∃ nm q N bs sn sub ab col dd k0 k1 k2 k3 k5, K.lookup C = some (excClassObj nm q C N bs
    [.ref U, .type "Exception", .type "BaseException", .type "object"] true sn sub ab col dd k0 k1 k2 k3 k5 "Exception.__new__")
  sa : findIn K (.ref C) "__setattr__" = some (some (.builtin "object.__setattr__"))
  ga : findIn K (.ref C) "__getattribute__" = some (some (.builtin "BaseException.__getattribute__"))
  gg : findIn K (.ref C) "__getattr__" = some none
  noN : findIn K (.ref C) f = some none
  iC : findIn K (.ref C) "__init__" = some (some (.ref fI))
  tC : typeIn K (.ref fI) = some (.type "function")
  kC : keepIn K (.ref C) = true
  exC : subIn K (.ref C) (.type "BaseException") = some true
  tyC : typeIn K (.ref C) = some (.type "type")
  hdC : hasDictIn K C = true
  fn : ∃ (oc : Value) (od : Option Addr) (kV doc pm : Value) (an : Option Addr) (cdv ct : Value) (osl : Array (Option Value)) (p1 p2 q1 q2 q3 q4 : Pos),
    K.lookup fI = some ⟨oc, od, .func (fnOf "__init__" qi (inA f p1 p2) (inB f q1 q2 q3 q4) (inS f) .none kV doc pm an cdv ct), osl⟩ ∧ codeIn K cdv qi = true
theorem one_fits (v : Value) : [v].length ≤ sizeLine := by
  rw [sizeLine_eq]
  exact (by decide : 1 ≤ 16777216)
theorem ldE {M : Model} {s : Shared} {name : Str} {scope : Scope} {L a : Addr} {cd : Value} {m : Str → Option Value} {x : Str} {pos : Pos} {v : Value}
    {Q : Value → Shared → Prop} {A : Around} {E : Value → Shared → Prop} (hn : s.heap.Ns L m) (hv : m x = some v) (h : Q v s)
    (hk : scope.kind = .function := by rfl) (hl : (envOfC name scope L a cd).kindOf x = some .local := by rfl)
    (hd : (x == ("__debug__" : Str)) = false := by decide) :
    wpAny M A (eval (.Name x pos) (envOfC name scope L a cd)) Q E s := wpAny_Name (wpAny_loadName_local hk hl hn hv h) hd
/-- what __init__ leaves of a fresh error at x -/
structure InitLeft (h h' : Heap) (f : Str) (x C dx t1 : Addr) (v : Value) : Prop where
  keep : ∀ b o, b ≠ x → h.get? b = some o → h'.get? b = some o
  obj : h'.get? x = some { cls := .ref C, dict := some dx, data := .fields #[.ref t1, .none, .none, .none, .bool false, .none] }
  dbig : h.objs.size ≤ dx
  dne : dx ≠ x
  ns : h'.Ns1 dx (fun y => if y = f then some v else none)
/-- a made error -/
structure ErrMade (h h' : Heap) (f : Str) (e C d : Addr) (v : Value) : Prop where
  keep : ∀ b o, h.get? b = some o → h'.get? b = some o
  new : h.objs.size ≤ e
  obj : ∃ oe vs, h'.get? e = some oe ∧ oe.cls = .ref C ∧ oe.dict = some d ∧ oe.data = .fields vs ∧ vs[1]? = some .none ∧ vs[2]? = some .none
  dbig : h.objs.size ≤ d
  dne : d ≠ e
  ns : h'.Ns1 d (fun y => if y = f then some v else none)
section
variable {prog : Program} {w : World} {A : Around} {E : Value → Shared → Prop} {R : Result → Shared → Prop} {s : Shared}
variable {K : Frag} {mg : Str → Option Value} {cn f qi : Str} {C U fI : Addr}
theorem err_init (T : ErrTxt K mg cn f qi C U fI) {x t0 : Addr} {v : Value} (X : K.In s.heap) (hlim : s.heap.NoLimit)
    (hx : s.heap.get? x = some (excO C t0)) (hroom : A.depth < recursionLimit)
    (hq : ∀ h' tk dx, InitLeft s.heap h' f x C dx t0 v → R (.ok (.ret .none)) { s with heap := h', toks := tk }) :
    codeAny (model prog w) A (.call (.ref fI) ⟨[.ref x, v], []⟩) R s := by
  obtain ⟨oc, od, kV, doc, pm, an, cdv, ct, osl, p1, p2, q1, q2, q3, q4, ho, hcd⟩ := T.fn
  obtain ⟨nm, q, N, bs, sn, sub, ab, col, dd, k0, k1, k2, k3, k5, hC⟩ := T.cls
  have hcl : clsIn K C = some (ClassData.mk nm bs (.ref C :: [.ref U, .type "Exception", .type "BaseException", .type "object"]) N q true sn sub ab col false) := by
    unfold clsIn
    rw [hC] <;> rfl
  have noN := T.noN
  have fl := T.fl
  have sa := T.sa
  unfold Fld at fl
  clear T
  rcases fl with rfl | rfl | rfl | rfl
  all_goals
    refine Att.call_fn (binds := [("self", .ref x), (_, v)]) X hlim ho hcd hroom (BindsTo.of_eq (by first | rfl | with_unfolding_all rfl)) (by first | rfl | decide | with_unfolding_all rfl) (fun s₁ IC => ?_) rfl rfl rfl
    obtain ⟨h₁, tk₁, rfl⟩ := IC.toInCall.same
    have k : ∀ b o, s.heap.get? b = some o → h₁.get? b = some o := IC.toInCall.keep
    have hn := IC.toInCall.ns
    have X₁ : K.In h₁ := X.keeps k
    have hx₁ := k _ _ hx
    show wpAny _ _ (execs _ _) _ _ _
    refine wpAny_execs_cons (plainObj_wpAny_Assign_Attribute ?_)
    refine ldE (v := v) hn (by first | rfl | with_unfolding_all rfl | kernel_rfl) (ldE (v := .ref x) hn (by first | rfl | with_unfolding_all rfl | kernel_rfl) ?_)
    refine set_plain X₁ (ox := excO C t0) (od := none) ⟨hx₁, rfl, rfl, trivial⟩ sa ?_
    refine first_field X₁ hx₁ hcl rfl rfl noN (fun h₃ tk₃ dx k₃ dn dne hx₃ hn₃ => ?_)
    show wpAny _ _ (execs _ _) _ _ _
    have z : s.heap.objs.size < h₁.objs.size := hn.lt
    exact wpAny_execs_nil (hq h₃ tk₃ dx ⟨fun b o hb e => k₃ b o hb (k b o e), hx₃, Nat.le_of_lt (Nat.lt_of_lt_of_le z dn), dne, hn₃⟩)
theorem err_made (T : ErrTxt K mg cn f qi C U fI) {v : Value} (X : K.In s.heap) (hlim : s.heap.NoLimit) (hroom : A.depth + 1 < recursionLimit)
    (hq : ∀ h' tk e d, ErrMade s.heap h' f e C d v → R (.ok (.ret (.ref e))) { s with heap := h', toks := tk }) :
    codeAny (model prog w) A (.call (.ref C) ⟨[v], []⟩) R s := by
  obtain ⟨nm, q, N, bs, sn, sub, ab, col, dd, k0, k1, k2, k3, k5, hC⟩ := T.cls
  obtain ⟨hp, g, dr, tk, os⟩ := s
  have k : ∀ b o, hp.get? b = some o → ((hp.push (kdv_tup [v])).push (excO C hp.objs.size)).get? b = some o := fun b o e => Heap.get?_push_of_some _ (Heap.get?_push_of_some _ e)
  have hget : ((hp.push (kdv_tup [v])).push (excO C hp.objs.size)).get? (hp.objs.size + 1) = some (excO C hp.objs.size) := by heap_get
  refine call_own F.excBase_Exception (fun X => two_contains U X) (X _ _ hC) (looks_findIn X T.iC) (fun self => bind_fn X self T.tC) (one_fits v) ?_
  refine err_init (s := ⟨(hp.push (kdv_tup [v])).push (excO C hp.objs.size), g, dr, tk, os⟩) T (X.keeps k) (hlim.keeps k) hget ?_ fun h' tk' dx ⟨k', hx, dn, dne, hns⟩ => ?_
  · show A.depth + 1 < recursionLimit
    exact hroom
  · have old : ∀ b o, hp.get? b = some o → h'.get? b = some o := fun b o e => k' b o (Nat.ne_of_lt (Nat.lt_succ_of_lt (Heap.lt_size e))) (k b o e)
    have z : hp.objs.size + 1 + 1 ≤ dx := by
      first
        | (simpa only [Heap.size_push] using dn)
        | exact dn
        | (have q := dn; rw [Heap.size_push, Heap.size_push] at q; exact q)
    exact ⟨rfl, hq h' tk' (hp.objs.size + 1) dx ⟨old, Nat.le_succ _, ⟨_, _, hx, rfl, rfl, rfl, rfl, rfl⟩, Nat.le_trans (Nat.le_trans (Nat.le_succ _) (Nat.le_succ _)) z, dne, hns⟩⟩
end
end OwnEx
end PySem


set_option Elab.async false
set_option linter.all false
set_option maxRecDepth 100000
set_option maxHeartbeats 4000000
/-! Raising and reading such errors, over the layer. -/
namespace L2
open PySem PySem.Spec PyProof.Rows
theorem relO_fld {f : Str} {v : V} {v' : Value} (r : RelV v v') (y : Str) : RelO (List.lookup y [(f, v)]) (if y = f then some v' else none) := by
  by_cases hw : y = f
  · subst hw
    rw [if_pos rfl]
    have q : List.lookup y [(y, v)] = some v := by simp [List.lookup]
    rw [q]
    exact r
  · rw [if_neg hw]
    have qw : (y == f) = false := by simpa using hw
    have q2 : List.lookup y [(f, v)] = none := by simp [List.lookup, qw]
    rw [q2]
    trivial
section
variable {X : Cx} {cn f qi : Str} {C U fI : Addr}
/-- E(e) -/
def tMkErr (f : Str) (C : Addr) (ta : TA) : St → Hp → XK → Prop := fun σ H Q =>
  ta σ H fun vs H1 => ∃ v, vs = [v] ∧ ∀ d, H1 d = none → Q (.ref C) (some d) (upd H1 d (.xd [(f, v)]))
theorem pmk_err {a : Expr} {ta : TA} {p pos : Pos} {k : Nat} (T : PySem.OwnEx.ErrTxt X.K X.mg cn f qi C U fI) (hr : Room k X.A) (ha : PA X [a] ta) (hg : Gl X cn)
    (he : starEach (a :: []) X.env = (false, eval a X.env) :: starEach [] X.env := by rfl) (hpl : (backTo pos (starEach [] X.env)).any (·.1) = false := by rfl) :
    PMk X (.Call (.Name cn p) [a] [] pos) (tMkErr f C ta) := by
  intro pins s σ H Q I h
  refine wpAny_Call_Name_kw (ld_glob I hg T.gC ?_ T.dbg)
  refine PySem.W.callWith_K (h₀ := X.base) I.ok.mod.kin T.kC (thn (ha.run pos pins s σ H _ I h) fun us s1 hh => ?_) he hpl
  obtain ⟨vs, H1, I1, r1, v, ev, q1⟩ := hh
  subst ev
  refine ⟨I1.kIn, ?_⟩
  cases r1 with
  | cons rv rn =>
    rename_i v' us'
    cases rn
    show wpAny _ _ (call (.ref C) [v']) _ _ _
    have hlim := I1.nolimit
    obtain ⟨hp, g, dr, tk, os⟩ := s1
    refine wpAny_call (PySem.OwnEx.err_made T I1.kIn hlim (by have := hr.dp; omega) fun h' tk' e d M => ?_)
    show MkP X pins σ Q (.ref e) ⟨h', g, dr, tk', os⟩
    obtain ⟨oe, fv, hoe, hc, hd, hdat, h1, h2⟩ := M.obj
    have hns := M.ns
    obtain ⟨G', g1, g2⟩ := restrict h' fun b => decide (b ≠ e)
    have gk : ∀ b, b ≠ e → G'.get? b = h'.get? b := fun b hb => g1 b (decide_eq_true hb)
    have ge : G'.get? e = none := g2 e (by simp)
    have old : ∀ b o, hp.get? b = some o → G'.get? b = some o := fun b o q => (gk b (Nat.ne_of_lt (Nat.lt_of_lt_of_le (Heap.lt_size q) M.new))).trans (M.keep b o q)
    have ob : ObjOk X.prog X.w (upd H1 d (.xd [(f, v)])) G' d (.xd [(f, v)]) := ⟨_, hns.at (fun o q => (gk d M.dne).trans q), fun y => relO_fld rv y⟩
    have J : Inv X pins σ (upd H1 d (.xd [(f, v)])) ⟨G', g, dr, tk', os⟩ := I1.laid (t' := tk') old M.dbig ob
    refine ⟨e, oe, fv, ⟨G', g, dr, tk', os⟩, _, .ref C, some d, rfl, J, fun b o q => ?_, ge, hoe, ⟨hc, hd⟩, hdat, h1, ?_, rfl, I1.bare, raises_own T.exC T.tyC, q1 d (I1.hok.fresh M.dbig)⟩
    · by_cases hb : b = e
      · have q' : G'.get? b = some o := q
        rw [hb, ge] at q'; cases q'
      · exact (gk b hb).symm.trans q
    · rw [upd_ne (Ne.symm M.dne)]
      exact I1.hok.fresh M.new
/-- raise E(e) -/
def tRaiseErr (f : Str) (C : Addr) (W : WX) (ta : TA) : TS := fun _ σ H => tMkErr f C ta σ H fun cls d H' => W cls d σ H'
theorem ps_raiseErr {a : Expr} {ta : TA} {W : WX} {p pos pos2 : Pos} {k : Nat} (hc : X.calm = true) (T : PySem.OwnEx.ErrTxt X.K X.mg cn f qi C U fI) (hr : Room k X.A) (tk : Takes X W) (ha : PA X [a] ta) (hg : Gl X cn)
    (he : starEach (a :: []) X.env = (false, eval a X.env) :: starEach [] X.env := by rfl) (hpl : (backTo pos (starEach [] X.env)).any (·.1) = false := by rfl) :
    PS X (.Raise (some (.Call (.Name cn p) [a] [] pos)) none pos2) (tRaiseErr f C W ta) := ps_raise hc tk (pmk_err T hr ha hg he hpl)
/-- E(), E an own class without __init__ -/
theorem pmk_err0 {C : Addr} {bmB : List Value} {B newId initId : String} {x : Str} {p pos : Pos} (F : ExcBaseFacts B newId initId bmB) (q : PySem.W.excIn X.K C bmB newId = true)
    (gC : X.mg x = some (.ref C)) (kC : PySem.W.keepIn X.K (.ref C) = true) (r : Raises X (.ref C)) (hg : Gl X x) (hdb : (x == ("__debug__" : Str)) = false := by decide) :
    PMk X (.Call (.Name x p) [] [] pos) (fun _ H Q => Q (.ref C) none H) := by
  intro pins s σ H Q I h
  refine wpAny_Call_Name_kw (ld_glob I hg gC ?_ hdb)
  refine PySem.W.callWith_K0 I.kIn kC ?_
  show wpAny _ _ (call (.ref C) []) _ _ _
  obtain ⟨bm, N, nm, qn, bs, hdct, sn, sub, ab, col, dd, k0, k1, k2, k3, k5, mN, hC, hN, hni, T⟩ := exc_obj I.kIn q
  refine wpAny_call_exc_subT F T hC hN hni (fun h' e hm => ?_) (by show 0 ≤ sizeLine; exact Nat.zero_le _)
  exact mk_of I hm r h (I.hok.gone hm.new)
/-- n.f, n the error that the suite holds (at a; its class cls, its dict d) -/
def tErrFld (f : Str) (C : Addr) (a : Addr) (cls : Value) (d : Option Addr) (te : TE) : TE := fun σ H Q =>
  te σ H fun x H1 => x = .ref a ∧ cls = .ref C ∧ ∃ (dd : Addr) (v : V), d = some dd ∧ H1 dd = some (.xd [(f, v)]) ∧ Q v H1
theorem pe_errFld {a : Addr} {oe : Obj} {cls : Value} {d : Option Addr} {pn : List (Addr × Obj)} {e : Expr} {te : TE} {pos : Pos} (T : PySem.OwnEx.ErrTxt X.K X.mg cn f qi C U fI)
    (hz : Zc cls d oe) (hf : ∃ vs, oe.data = .fields vs) (he : PE (X.suite a ((a, oe) :: pn)) e te)
    (hb : attributeBase e f X.env (eval e X.env) = eval e X.env := by rfl) :
    PE (X.suite a ((a, oe) :: pn)) (.Attribute e f pos) (tErrFld f C a cls d te) := by
  refine ⟨fun pins s σ H Q I h => ?_⟩
  refine attr_of hb (thn (he.run pins s σ H _ I h) fun u s1 hh => ?_)
  obtain ⟨x, H1, I1, rx, ex, ec, dd, v, ed, ea, q⟩ := hh
  subst ex
  obtain rfl : u = Value.ref a := rx
  subst ec
  subst ed
  obtain ⟨ha, _⟩ := I1.pin (a, oe) (List.mem_append_left _ List.mem_cons_self)
  obtain ⟨vs, hd⟩ := hf
  have hx : ObjOk X.prog X.w H1 s1.heap dd (.xd [(f, v)]) := I1.hok dd _ ea
  obtain ⟨mA, hns, hr⟩ := hx
  obtain ⟨od, ho, hl⟩ := lookIn_ns hns
  have l : List.lookup f [(f, v)] = some v := by simp [List.lookup]
  obtain ⟨u, hu, ru⟩ := RelO.some_of (v := v) (o := mA f) (by rw [← l]; exact hr f)
  have J : PySem.W.InstAt s1.heap a oe C (some od) := ⟨ha, hz.1, by unfold PySem.W.notCls; rw [hd] <;> rfl, by rw [hz.2]; exact ho⟩
  exact HandSPX.exc_get I1.kIn J T.ga T.gg T.exC (PySem.W.findObj_own T.hdC T.noN rfl (by rw [hl, hu])) (handed_of ru) ⟨v, H1, I1.tok _, ru, q⟩
end
end L2


set_option Elab.async false
set_option linter.all false
set_option maxRecDepth 100000
set_option maxHeartbeats 4000000
/-! try with several except clauses, each with a name or without. -/
namespace L2
open PySem PySem.Spec PyProof.Rows
/-- one clause: the class, the name's slot, if any, what the suite asks -/
abbrev Clause := Value × Option Nat × (Addr → Value → Option Addr → TS)
def clearedAt (D : Ends) : Option Nat → Ends
  | none => D
  | some i => { nx := fun σ' H' => D.nx (σ'.set i none) H', rt := D.rt, bk := fun σ' H' => D.bk (σ'.set i none) H', ct := fun σ' H' => D.ct (σ'.set i none) H' }
def namedAt (σ : St) (a : Addr) : Option Nat → St
  | none => σ
  | some i => σ.set i (some (.ref a))
def wClauses (K : PySem.W.Frag) (Wout : WX) (D : Ends) : List Clause → WX
  | [] => Wout
  | (c, i, ts) :: r => fun cls d σ H => ∃ b, PySem.W.exmOne K cls c = some b ∧
      (b = true → ∀ a, H a = none → ts a cls d (clearedAt D i) (namedAt σ a i) H) ∧ (b = false → wClauses K Wout D r cls d σ H)
inductive ClausesOk (X : Cx) : List ExceptHandler → List Clause → Prop
  | nil : ClausesOk X [] []
  | bare {x : Str} {c : Value} {ts : Addr → Value → Option Addr → TS} {b₀ : Stmt} {suite : List Stmt} {np pos' : Pos} {hds : List ExceptHandler} {l : List Clause}
      (hc : Names X x c)
      (hsu : ∀ (a : Addr) (oe : Obj) (cls : Value) (d : Option Addr) (pn : List (Addr × Obj)), Zc cls d oe → (∃ vs, oe.data = .fields vs) →
        PSs (X.suite a ((a, oe) :: pn)) (b₀ :: suite) (ts a cls d)) (r : ClausesOk X hds l) :
      ClausesOk X (.ExceptHandler (some (.Name x np)) none (b₀ :: suite) pos' :: hds) ((c, none, ts) :: l)
  | named {x n : Str} {i : Nat} {c : Value} {ts : Addr → Value → Option Addr → TS} {b₀ : Stmt} {suite : List Stmt} {np pos' : Pos} {hds : List ExceptHandler} {l : List Clause}
      (hc : Names X x c) (hN : X.N.Nodup) (hi : X.N[i]? = some n) (hln : X.env.kindOf n = some .local)
      (hsu : ∀ (a : Addr) (oe : Obj) (cls : Value) (d : Option Addr) (pn : List (Addr × Obj)), Zc cls d oe → (∃ vs, oe.data = .fields vs) →
        PSs (X.suite a ((a, oe) :: pn)) (b₀ :: suite) (ts a cls d)) (r : ClausesOk X hds l) :
      ClausesOk X (.ExceptHandler (some (.Name x np)) (some n) (b₀ :: suite) pos' :: hds) ((c, some i, ts) :: l)
section
variable {X : Cx} {body : List Stmt} {h₀ : ExceptHandler} {hds : List ExceptHandler} {l : List Clause} {pos : Pos} {tb : WX → TS} {Wout : WX}
theorem ps_try_clauses (hs : X.stack = X.env :: X.outer) (hf : X.env.frame = some X.env.locals) (tk : Takes X Wout)
    (hb : ∀ (W : WX) (pn : List (Addr × Obj)) (xe : Value → Shared → Prop), Takes (X.tr pn xe) W → PassesOwn (model X.prog X.w) X.A X.env xe →
      PSs (X.tr pn xe) body (tb W))
    (hh : ClausesOk X (h₀ :: hds) l) : PS X (.Try body (h₀ :: hds) [] [] pos) (fun D σ H => tb (wClauses X.K Wout D l) D σ H) := by
  refine ⟨fun pins s σ H D I h => ?_⟩
  have ok := I.ok
  have hfr : X.A.frames = some (X.env :: X.outer) := by rw [ok.frames, hs]
  refine wpAny_Try_except ?_
  refine wpAny_mono ((hb (wClauses X.K Wout D l) (X.pn ++ pins)
    (fun e s₁ => wpAny (model X.prog X.w) X.A (noteFrame e X.env) (fun _ s₂ =>
      wpAny (model X.prog X.w) X.A (setFlight e none) (fun _ s₃ =>
        wpAny (model X.prog X.w) X.A (handleBy e X.env (h₀ :: hds)) (SP X pins D) X.xe s₃) X.xe s₂) X.xe s₁)
    (fun u s' xx => ?_) PassesOwn.looking).run [] s σ H D (I.toTry _) h) (fun f s1 hsp => ?_) (fun e s1 he => he)
  · obtain ⟨a, B, sI, pins', σ', H', cls, d, rfl, J', nb, up, sky, na, os, ag, w⟩ := xx
    have J : Inv X pins σ' H' sI := J'.ofTry ok
    have sky' : Sky B (X.env :: X.outer) a (Zc cls d) X.env.locals s'.heap := by
      rw [← hs]
      exact sky
    show wpAny (model X.prog X.w) X.A (noteFrame (.ref a) X.env) _ _ _
    refine Sky.land Zc.steady hfr hf sky' fun h3 fl3 up3 => ?_
    have J3 : Inv X pins σ' H' { s' with heap := h3 } := J.landed nb fl3.1 (up.trans up3) os ag
    obtain ⟨oe3, vs3, he3, hz3, hd3⟩ := fl3.there
    have noFrame : ∀ {h : Heap} {o : Obj} {vs : Array Value}, h.FunFrames B (X.env :: X.outer) → h.get? a = some o → o.data = .fields vs →
        a ∉ frs (X.env :: X.outer) := fun {h o vs} ff e dd hm => by
      obtain ⟨_, o', e', hnf⟩ := ff.mem hm
      rw [e] at e'
      cases e'
      exact hnf _ dd
    have nfr := noFrame fl3.2.2.1 he3 hd3
    have nL : a ≠ X.env.locals := fun z => nfr (List.mem_filterMap.mpr ⟨X.env, List.mem_cons_self, by rw [hf, z]⟩)
    have nF : a ∉ X.fs := fun hm => by
      obtain ⟨e, he, q⟩ := List.mem_filterMap.mp hm
      exact nfr (List.mem_filterMap.mpr ⟨e, List.mem_cons_of_mem _ he, q⟩)
    have S3 := J3.suite he3 hd3 na nL nF
    have go : ∀ {hds' : List ExceptHandler} {l' : List Clause}, ClausesOk X hds' l' → wClauses X.K Wout D l' cls d σ' H' →
        wpAny (model X.prog X.w) X.A (handleBy (.ref a) X.env hds') (SP X pins D) X.xe { s' with heap := h3 } := by
      intro hds' l' hk
      induction hk with
      | nil =>
        intro w
        refine wpAny_handleBy_nil ?_
        obtain ⟨k1, k2, k3, oe, vs, T, oT, ts', he, hz, hd, h1, hr⟩ := id fl3
        unfold PySem.passOn
        refine wpAny_bind (wpAny_field he hd h1 ?_)
        rw [if_neg (show ¬ ((Value.ref T == Value.none) = true) from by simp)]
        have fin : wpAny (model X.prog X.w) X.A (setFlight (.ref a) X.env.frame)
            (fun _ s4 => wpAny (model X.prog X.w) X.A (throw (.ref a) : Sem Flow) (SP X pins D) X.xe s4) X.xe { s' with heap := h3 } := by
          rw [hf]
          refine HandSPX.setFlight_upZ fl3 fun h4 hh4 up4 => wpAny_throw (tk _ _ ?_)
          exact ⟨a, B, sI, pins, σ', H', cls, d, rfl, J, nb, (up.trans up3).trans up4, .inr (.inr (by rw [hs]; exact hh4)), na, os, ag, w⟩
        first
          | exact wpAny_bind (wpAny_pure (wpAny_bind fin))
          | exact wpAny_bind fin
      | @bare x c ts b₀ suite np pos' hds2 l2 hc hsu r ih =>
        intro w
        obtain ⟨b, hb1, hyes, hno⟩ := w
        refine wpAny_handleBy_cons (codeAny_handlers_test ?_) (by intro q; cases q)
        have LT : PySem.W.Looks (model X.prog X.w) h3 (typeOf (.ref a)) cls := fun A Q E s k q => wpAny_typeOf_ref (k _ _ he3) (by rw [hz3.1]; exact q)
        have LM := PySem.W.exm_one (M := model X.prog X.w) (J3.kIn) LT hb1
        have test : ∀ {Q : Value → Shared → Prop} {E : Value → Shared → Prop}, Q c { s' with heap := h3 } →
            wpAny (model X.prog X.w) (X.A.mark (some (.ref a))) (eval (.Name x np) X.env) Q E { s' with heap := h3 } := fun {Q E} q => by
          obtain ⟨hg, hdbg, hm | ⟨hm, hv, hnn⟩⟩ := hc
          · exact ld_glob (X := X.suite a ((a, oe3) :: (X.pn ++ pins))) S3 hg hm q hdbg
          · exact ld_blt (X := X.suite a ((a, oe3) :: (X.pn ++ pins))) S3 hg hm hv q hnn hdbg
        refine test (LM.here ?_)
        cases b with
        | true =>
          refine codeAny_handlers_suite ?_
          refine HandSPX.lands_againZ fl3 fun h4 fl4 up4 => ?_
          have J4 : Inv X pins σ' H' { s' with heap := h4 } := J.landed nb fl4.1 ((up.trans up3).trans up4) os ag
          obtain ⟨oe4, vs4, he4, hz4, hd4⟩ := fl4.there
          have S4 := J4.suite he4 hd4 na nL nF
          refine wpAny_mono ((hsu a oe4 cls d (X.pn ++ pins) hz4 ⟨_, hd4⟩).run [] _ _ H' _ S4 (hyes rfl a na)) (fun f s6 hsp => ?_) (fun _ _ z => False.elim z)
          cases f with
          | next =>
            obtain ⟨σ6, H6, S6, q6⟩ := hsp
            exact ⟨_, _, S6.unsuite ok, q6⟩
          | brk =>
            obtain ⟨σ6, H6, S6, q6⟩ := hsp
            exact ⟨_, _, S6.unsuite ok, q6⟩
          | cont =>
            obtain ⟨σ6, H6, S6, q6⟩ := hsp
            exact ⟨_, _, S6.unsuite ok, q6⟩
          | ret u =>
            obtain ⟨v6, σ6, H6, S6, r6, q6⟩ := hsp
            exact ⟨_, _, _, S6.unsuite ok, r6, q6⟩
        | false =>
          show wpAny _ X.A (handleBy (.ref a) X.env hds2) _ _ _
          exact ih (hno rfl)
      | @named x n i c ts b₀ suite np pos' hds2 l2 hc hN hi hln hsu r ih =>
        intro w
        obtain ⟨b, hb1, hyes, hno⟩ := w
        have hloc : Loc X.env.scope n := .inl hln
        refine wpAny_handleBy_cons (codeAny_handlers_test ?_) (by intro q; cases q)
        have LT : PySem.W.Looks (model X.prog X.w) h3 (typeOf (.ref a)) cls := fun A Q E s k q => wpAny_typeOf_ref (k _ _ he3) (by rw [hz3.1]; exact q)
        have LM := PySem.W.exm_one (M := model X.prog X.w) (J3.kIn) LT hb1
        have test : ∀ {Q : Value → Shared → Prop} {E : Value → Shared → Prop}, Q c { s' with heap := h3 } →
            wpAny (model X.prog X.w) (X.A.mark (some (.ref a))) (eval (.Name x np) X.env) Q E { s' with heap := h3 } := fun {Q E} q => by
          obtain ⟨hg, hdbg, hm | ⟨hm, hv, hnn⟩⟩ := hc
          · exact ld_glob (X := X.suite a ((a, oe3) :: (X.pn ++ pins))) S3 hg hm q hdbg
          · exact ld_blt (X := X.suite a ((a, oe3) :: (X.pn ++ pins))) S3 hg hm hv q hnn hdbg
        refine test (LM.here ?_)
        cases b with
        | true =>
          refine codeAny_handlers_suite_as ?_
          refine HandSPX.lands_againZ fl3 fun h4 fl4 up4 => ?_
          have J4 : Inv X pins σ' H' { s' with heap := h4 } := J.landed nb fl4.1 ((up.trans up3).trans up4) os ag
          obtain ⟨oe4, vs4, he4, hz4, hd4⟩ := fl4.there
          have S4 := J4.suite he4 hd4 na nL nF
          refine store_ok (X := X.suite a ((a, oe4) :: (X.pn ++ pins))) (v := .ref a) S4 hN hi hloc rfl (fun s5 S5 => ?_) (.inr hln)
          refine wpAny_mono ((hsu a oe4 cls d (X.pn ++ pins) hz4 ⟨_, hd4⟩).run [] s5 _ H' _ S5 (hyes rfl a na)) (fun f s6 hsp => ?_) (fun _ _ z => False.elim z)
          have end_ : ∀ {σ6 : St} {H6 : Hp} {Q : Shared → Prop}, Inv (X.suite a ((a, oe4) :: (X.pn ++ pins))) [] σ6 H6 s6 →
              (∀ s7, Inv X pins (σ6.set i none) H6 s7 → Q s7) →
              wpAny (model X.prog X.w) X.A (do bindName X.env n .none; unbindBehindTheSuite X.env n pos') (fun _ s7 => Q s7) X.xe s6 :=
            fun {σ6 H6 Q} S6 hq => gone_ok (S6.unsuite ok) hN hi hln hq
          cases f with
          | next =>
            obtain ⟨σ6, H6, S6, q6⟩ := hsp
            exact end_ S6 fun s7 J7 => ⟨_, _, J7, q6⟩
          | brk =>
            obtain ⟨σ6, H6, S6, q6⟩ := hsp
            exact end_ S6 fun s7 J7 => ⟨_, _, J7, q6⟩
          | cont =>
            obtain ⟨σ6, H6, S6, q6⟩ := hsp
            exact end_ S6 fun s7 J7 => ⟨_, _, J7, q6⟩
          | ret u =>
            obtain ⟨v6, σ6, H6, S6, r6, q6⟩ := hsp
            exact end_ S6 fun s7 J7 => ⟨_, _, _, J7, r6, q6⟩
        | false =>
          show wpAny _ X.A (handleBy (.ref a) X.env hds2) _ _ _
          exact ih (hno rfl)
    exact go hh w
  · cases f with
    | next =>
      obtain ⟨σ', H', J', q⟩ := hsp
      exact wpAny_execs_nil ⟨σ', H', J'.ofTry ok, q⟩
    | brk =>
      obtain ⟨σ', H', J', q⟩ := hsp
      exact ⟨σ', H', J'.ofTry ok, q⟩
    | cont =>
      obtain ⟨σ', H', J', q⟩ := hsp
      exact ⟨σ', H', J'.ofTry ok, q⟩
    | ret u =>
      obtain ⟨v, σ', H', J', r, q⟩ := hsp
      exact ⟨v, σ', H', J'.ofTry ok, r, q⟩
end
end L2


set_option Elab.async false
set_option linter.all false
set_option maxRecDepth 100000
set_option maxHeartbeats 4000000
/-! An own error made by a call with keywords, held as a value; its field read. -/
namespace PySem
namespace OwnEx
open PySem.W PySem.Calls PyProof.Rows PySem.HandSPX
section
variable {M : Model} {A : Around} {E : Value → Shared → Prop} {h : Heap} {g : Array GenState} {d : Drawn} {t : Nat} {os : OsState}
variable {nm q : Str} {C N : Addr} {bs bm bmB : List Value} {hdct : Bool} {sn : List Str} {sub : List Value} {ab : Bool} {col : Option Bool} {dd : Option Addr}
variable {k0 k1 k2 k3 k5 : Option Value} {B newId initId : String} {kw : List (Str × Value)}
theorem newCheck_kw (F : ExcBaseFacts B newId initId bmB) (hT : ∀ X : String, bm.contains (.type X) = bmB.contains (.type X)) {rest : List Value} {Q : Unit → Shared → Prop}
    (hC : h.get? C = some (excClassObj nm q C N bs bm hdct sn sub ab col dd k0 k1 k2 k3 k5 newId)) (hq : Q () ⟨h, g, d, t, os⟩) :
    wpAny M A (checkBuiltinCall newId ⟨.ref C :: rest, kw⟩) Q E ⟨h, g, d, t, os⟩ := by
  have inB : (Value.ref C :: bm).contains (.type B) = true := by
    rw [List.contains_cons, hT, F.hasB, Bool.or_true]
  have st := F.noStar
  simp only [checkBuiltinCall, F.newKind, F.newSplit, F.newRow]
  repeat (first
    | refine wpAny_loadPart_at hC ?_
    | (refine wpAny_isSubtype_exc hC ?_
       rw [inB])
    | refine wpAny_staticBase_exc hC ?_
    | refine wpAny_madeBy_exc hC ?_
    | simp only [bne_self_eq_false, Bool.false_eq_true, if_false]
    | wp_step)
  exact hq
theorem callCheck_kw {rest : List Value} {Q : Unit → Shared → Prop} (hC : h.get? C = some (excClassObj nm q C N bs bm hdct sn sub ab col dd k0 k1 k2 k3 k5 newId))
    (hq : Q () ⟨h, g, d, t, os⟩) : wpAny M A (checkBuiltinCall "type.__call__" ⟨.ref C :: rest, kw⟩) Q E ⟨h, g, d, t, os⟩ := by
  have ts := tc_sub
  have hT : (⟨h, g, d, t, os⟩ : Shared).TypeIs (.ref C) "type" := ⟨_, hC, rfl⟩
  simp only [checkBuiltinCall, tc_kind, tc_split]
  repeat (any_goals (first
    | assumption
    | with_reducible refine wpAny_loadPart_at hC ?_
    | with_reducible refine wpAny_onRaise ?_
    | with_reducible refine wpAny_map ?_
    | wp_step))
end
section
variable {prog : Program} {w : World} {A : Around} {E : Value → Shared → Prop} {R : Result → Shared → Prop} {h : Heap} {g : Array GenState} {d : Drawn} {t : Nat} {os : OsState}
variable {nm q : Str} {C N : Addr} {bs bm bmB : List Value} {hdct : Bool} {sn : List Str} {sub : List Value} {ab : Bool} {col : Option Bool} {dd : Option Addr}
variable {k0 k1 k2 k3 k5 : Option Value} {B newId initId : String} {kw : List (Str × Value)}
theorem new_kw (F : ExcBaseFacts B newId initId bmB) (hT : ∀ X : String, bm.contains (.type X) = bmB.contains (.type X)) {rest : List Value}
    (hC : h.get? C = some (excClassObj nm q C N bs bm hdct sn sub ab col dd k0 k1 k2 k3 k5 newId))
    (hq : R (.ok (.ret (.ref (h.objs.size + 1)))) ⟨(h.push (kdv_tup rest)).push (excO C h.objs.size), g, d, t, os⟩) (hrest : rest.length ≤ sizeLine) :
    codeAny (model prog w) A (.builtin newId ⟨.ref C :: rest, kw⟩) R ⟨h, g, d, t, os⟩ := by
  have en := F.ends
  have inB : (Value.ref C :: bm).contains (.type B) = true := by
    rw [List.contains_cons, hT, F.hasB, Bool.or_true]
  have inA : (Value.ref C :: bm).contains (.type "AttributeError") = false := by
    rw [List.contains_cons, hT, F.noAttr]
    rfl
  have inN : (Value.ref C :: bm).contains (.type "NameError") = false := by
    rw [List.contains_cons, hT, F.noName]
    rfl
  refine codeAny_builtinAt F.entry ?_
  unfold Builtin.«BaseException.__new__»
  refine wpAt_bind ?_
  show wpAt _ _ _ (stack >>= _) _ _ _
  refine wpAt_bind (wpAt_stack fun p below => wpAt_of_wpAny ?_)
  wp_walk
  refine wpAt_of_wpAny ?_
  rw [F.owner]
  repeat (first
    | with_reducible refine wpAny_madeHere_exc F.canon hC ?_
    | with_reducible refine wpAny_loadPart_at hC ?_
    | (with_reducible refine wpAny_isSubtype_exc hC ?_
       first
         | rw [inB]
         | rw [inA]
         | rw [inN])
    | wp_step)
  show R _ _
  rw [Heap.size_push]
  exact hq
theorem type_call_kw (F : ExcBaseFacts B newId initId bmB) (hT : ∀ X : String, bm.contains (.type X) = bmB.contains (.type X)) {rest : List Value} {fI : Addr} {Q : Fin → Shared → Prop}
    (hC : h.get? C = some (excClassObj nm q C N bs bm hdct sn sub ab col dd k0 k1 k2 k3 k5 newId))
    (hi : W.Looks (model prog w) h (typeLookup (.ref C) "__init__") (some (.ref fI)))
    (hb : ∀ self, W.Looks (model prog w) h (bindSpecial (.ref fI) self) (.ref fI, [self])) (hrest : rest.length ≤ sizeLine)
    (hq : codeAny (model prog w) A (.call (.ref fI) ⟨.ref (h.objs.size + 1) :: rest, kw⟩)
      (fun r s' => match r with
        | .ok (.ret v) => v = .none ∧ Q (.done (.ret (.ref (h.objs.size + 1)))) s'
        | .ok _ => False
        | .error e => E e s') ⟨(h.push (W.kdv_tup rest)).push (excO C h.objs.size), g, d, t, os⟩) :
    wpAny (model prog w) A (Builtin.«type.__call__» ⟨.ref C :: rest, kw⟩) Q E ⟨h, g, d, t, os⟩ := by
  repeat (first
    | with_reducible refine wpAny_loadPart_at hC ?_
    | with_reducible refine wpAny_madeBy_exc hC ?_
    | wp_step)
  refine codeAny_call_builtin_code (Code.quiet_builtin _ F.quiet) (newCheck_kw F hT hC ?_)
  refine new_kw F hT hC ?_ hrest
  show wpAny _ _ _ _ _ _
  have k : ∀ b o, h.get? b = some o → ((h.push (W.kdv_tup rest)).push (excO C h.objs.size)).get? b = some o :=
    fun b o e => Heap.get?_push_of_some _ (Heap.get?_push_of_some _ e)
  have hC' := k _ _ hC
  have here : ((h.push (W.kdv_tup rest)).push (excO C h.objs.size)).get? (h.objs.size + 1) = some (excO C h.objs.size) := by heap_get
  have inC : (Value.ref C :: bm).contains (.ref C) = true := by simp
  have li := hi.keeps k
  have lb := (hb (.ref (h.objs.size + 1))).keeps k
  unfold isInstance
  repeat (first
    | with_reducible refine wpAny_loadPart_at here ?_
    | (with_reducible refine wpAny_isSubtype_exc hC' ?_
       rw [inC])
    | wp_step)
  show wpAny _ _ (typeLookup (.ref C) _) _ _ _
  refine li.at ?_
  refine wpAny_holding (wpAny_bind (lb.at ?_))
  refine wpAny_bind (wpAny_call (codeAny_mono hq fun r s' z => ?_))
  rcases r with e | (v | _ | _ | _) <;> first | exact z | exact z.elim | skip
  obtain ⟨rfl, z⟩ := z
  first
    | exact wpAny_pure (wpAny_pure z)
    | (wp_walk; exact z)
theorem call_kw (F : ExcBaseFacts B newId initId bmB) (hT : ∀ X : String, bm.contains (.type X) = bmB.contains (.type X)) {rest : List Value} {fI : Addr}
    (hC : h.get? C = some (excClassObj nm q C N bs bm hdct sn sub ab col dd k0 k1 k2 k3 k5 newId))
    (hi : W.Looks (model prog w) h (typeLookup (.ref C) "__init__") (some (.ref fI)))
    (hb : ∀ self, W.Looks (model prog w) h (bindSpecial (.ref fI) self) (.ref fI, [self])) (hrest : rest.length ≤ sizeLine)
    (hq : codeAny (model prog w) (A.under (.builtin "type.__call__" ⟨.ref C :: rest, kw⟩)) (.call (.ref fI) ⟨.ref (h.objs.size + 1) :: rest, kw⟩)
      (W.InitBack (h.objs.size + 1) R) ⟨(h.push (W.kdv_tup rest)).push (excO C h.objs.size), g, d, t, os⟩) :
    codeAny (model prog w) A (.call (.ref C) ⟨rest, kw⟩) R ⟨h, g, d, t, os⟩ := by
  have tl := tc_lookup
  have tb := tc_bind (.ref C)
  have hTy : (⟨h, g, d, t, os⟩ : Shared).TypeIs (.ref C) "type" := ⟨_, hC, rfl⟩
  refine codeAny_of_tree ?_
  show wpAny _ _ (callAny (.ref C) _) _ _ _
  repeat (any_goals (first
    | assumption
    | with_reducible refine wpAny_loadPart_at hC ?_
    | wp_step))
  refine ⟨rfl, ?_⟩
  refine codeAny_call_builtin_at (Code.quiet_builtin _ (by decide +kernel)) entry_typeCall
    (callCheck_kw hC (type_call_kw F hT hC hi hb hrest ?_))
  refine codeAny_mono hq fun r s' z => ?_
  rcases r with e | (v | _ | _ | _) <;> exact z
end
section
variable {prog : Program} {w : World} {A : Around} {E : Value → Shared → Prop} {R : Result → Shared → Prop} {s : Shared}
variable {K : Frag} {mg : Str → Option Value} {cn f qi : Str} {C U fI : Addr}
theorem err_init_kw (T : ErrTxt K mg cn f qi C U fI) {x t0 : Addr} {v : Value} (X : K.In s.heap) (hlim : s.heap.NoLimit)
    (hx : s.heap.get? x = some (excO C t0)) (hroom : A.depth < recursionLimit)
    (hq : ∀ h' tk dx, InitLeft s.heap h' f x C dx t0 v → R (.ok (.ret .none)) { s with heap := h', toks := tk }) :
    codeAny (model prog w) A (.call (.ref fI) ⟨[.ref x], [(f, v)]⟩) R s := by
  obtain ⟨oc, od, kV, doc, pm, an, cdv, ct, osl, p1, p2, q1, q2, q3, q4, ho, hcd⟩ := T.fn
  obtain ⟨nm, q, N, bs, sn, sub, ab, col, dd, k0, k1, k2, k3, k5, hC⟩ := T.cls
  have hcl : clsIn K C = some (ClassData.mk nm bs (.ref C :: [.ref U, .type "Exception", .type "BaseException", .type "object"]) N q true sn sub ab col false) := by
    unfold clsIn
    rw [hC] <;> rfl
  have noN := T.noN
  have fl := T.fl
  have sa := T.sa
  unfold Fld at fl
  clear T
  rcases fl with rfl | rfl | rfl | rfl
  all_goals
    refine Att.call_fn (binds := [("self", .ref x), (_, v)]) X hlim ho hcd hroom (BindsTo.of_eq (by first | rfl | with_unfolding_all rfl | kernel_rfl)) (by first | rfl | decide | with_unfolding_all rfl) (fun s₁ IC => ?_) rfl rfl rfl
    obtain ⟨h₁, tk₁, rfl⟩ := IC.toInCall.same
    have k : ∀ b o, s.heap.get? b = some o → h₁.get? b = some o := IC.toInCall.keep
    have hn := IC.toInCall.ns
    have X₁ : K.In h₁ := X.keeps k
    have hx₁ := k _ _ hx
    show wpAny _ _ (execs _ _) _ _ _
    refine wpAny_execs_cons (plainObj_wpAny_Assign_Attribute ?_)
    refine ldE (v := v) hn (by first | rfl | with_unfolding_all rfl | kernel_rfl) (ldE (v := .ref x) hn (by first | rfl | with_unfolding_all rfl | kernel_rfl) ?_)
    refine set_plain X₁ (ox := excO C t0) (od := none) ⟨hx₁, rfl, rfl, trivial⟩ sa ?_
    refine first_field X₁ hx₁ hcl rfl rfl noN (fun h₃ tk₃ dx k₃ dn dne hx₃ hn₃ => ?_)
    show wpAny _ _ (execs _ _) _ _ _
    have z : s.heap.objs.size < h₁.objs.size := hn.lt
    exact wpAny_execs_nil (hq h₃ tk₃ dx ⟨fun b o hb e => k₃ b o hb (k b o e), hx₃, Nat.le_of_lt (Nat.lt_of_lt_of_le z dn), dne, hn₃⟩)
theorem err_made_kw (T : ErrTxt K mg cn f qi C U fI) {v : Value} (X : K.In s.heap) (hlim : s.heap.NoLimit) (hroom : A.depth + 1 < recursionLimit)
    (hq : ∀ h' tk e d, ErrMade s.heap h' f e C d v → R (.ok (.ret (.ref e))) { s with heap := h', toks := tk }) :
    codeAny (model prog w) A (.call (.ref C) ⟨[], [(f, v)]⟩) R s := by
  obtain ⟨nm, q, N, bs, sn, sub, ab, col, dd, k0, k1, k2, k3, k5, hC⟩ := T.cls
  obtain ⟨hp, g, dr, tk, os⟩ := s
  have k : ∀ b o, hp.get? b = some o → ((hp.push (kdv_tup [])).push (excO C hp.objs.size)).get? b = some o := fun b o e => Heap.get?_push_of_some _ (Heap.get?_push_of_some _ e)
  have hget : ((hp.push (kdv_tup [])).push (excO C hp.objs.size)).get? (hp.objs.size + 1) = some (excO C hp.objs.size) := by heap_get
  refine call_kw F.excBase_Exception (fun X => two_contains U X) (X _ _ hC) (looks_findIn X T.iC) (fun self => bind_fn X self T.tC) (Nat.zero_le _) ?_
  refine err_init_kw (s := ⟨(hp.push (kdv_tup [])).push (excO C hp.objs.size), g, dr, tk, os⟩) T (X.keeps k) (hlim.keeps k) hget ?_ fun h' tk' dx ⟨k', hx, dn, dne, hns⟩ => ?_
  · show A.depth + 1 < recursionLimit
    exact hroom
  · have old : ∀ b o, hp.get? b = some o → h'.get? b = some o := fun b o e => k' b o (Nat.ne_of_lt (Nat.lt_succ_of_lt (Heap.lt_size e))) (k b o e)
    have z : hp.objs.size + 1 + 1 ≤ dx := by
      first
        | (simpa only [Heap.size_push] using dn)
        | exact dn
        | (have q := dn; rw [Heap.size_push, Heap.size_push] at q; exact q)
    exact ⟨rfl, hq h' tk' (hp.objs.size + 1) dx ⟨old, Nat.le_succ _, ⟨_, _, hx, rfl, rfl, rfl, rfl, rfl⟩, Nat.le_trans (Nat.le_trans (Nat.le_succ _) (Nat.le_succ _)) z, dne, hns⟩⟩
end
end OwnEx
end PySem


set_option Elab.async false
set_option linter.all false
set_option maxRecDepth 100000
set_option maxHeartbeats 4000000
namespace L2
open PySem PySem.Spec PyProof.Rows
section
variable {X : Cx} {cn f qi : Str} {C U fI : Addr}
/-- E(f=e).f -/
def tNewErr (f : Str) (te : TA) : TE := fun σ H Q => te σ H fun vs H1 => ∃ v, vs = [v] ∧ ∀ d, H1 d = none → Q v (upd H1 d (.xd [(f, v)]))
theorem pe_newErr {e : Expr} {ta : TA} {p pos pos2 kpos : Pos} {k : Nat} (T : PySem.OwnEx.ErrTxt X.K X.mg cn f qi C U fI) (hr : Room k X.A) (ha : PK X [⟨some f, e, kpos⟩] ta) (hg : Gl X cn)
    (hall : (backToKw pos (keywordEach [⟨some f, e, kpos⟩] X.env)).all (·.1.isSome) = true := by rfl)
    (hks : (backToKw pos (keywordEach [⟨some f, e, kpos⟩] X.env)).filterMap (·.1) = [f] := by rfl)
    (hpl : ((backTo pos (starEach [] X.env)).any (·.1) || (backToKw pos (keywordEach [⟨some f, e, kpos⟩] X.env)).any (·.1.isNone)) = false := by rfl)
    (hb : attributeBase (.Call (.Name cn p) [] [⟨some f, e, kpos⟩] pos) f X.env (eval (.Call (.Name cn p) [] [⟨some f, e, kpos⟩] pos) X.env) = eval (.Call (.Name cn p) [] [⟨some f, e, kpos⟩] pos) X.env := by rfl) :
    PE X (.Attribute (.Call (.Name cn p) [] [⟨some f, e, kpos⟩] pos) f pos2) (tNewErr f ta) := by
  refine ⟨fun pins s σ H Q I h => ?_⟩
  refine attr_of hb (wpAny_Call_Name_kw (ld_glob I hg T.gC ?_ T.dbg))
  refine PySem.W.callWith_KW0 (h₀ := X.base) I.ok.mod.kin T.kC hall (thn (ha.run pos pins s σ H _ I h) fun ws s1 hh => ?_) hpl
  obtain ⟨vs, H1, I1, r1, v, ev, q1⟩ := hh
  subst ev
  refine ⟨I1.kIn, ?_⟩
  rw [hks]
  cases r1 with
  | cons rv rn =>
    rename_i v' us'
    cases rn
    show wpAny _ _ (call (.ref C) [] [(f, v')]) _ _ _
    have hlim := I1.nolimit
    obtain ⟨hp, g, dr, tk, os⟩ := s1
    refine wpAny_call (PySem.OwnEx.err_made_kw T I1.kIn hlim (by have := hr.dp; omega) fun h' tk' e d M => ?_)
    show wpAny _ _ (getAttr (.ref e) f true) _ _ _
    obtain ⟨oe, fv, hoe, hc, hd, hdat, h1, h2⟩ := M.obj
    have hns := M.ns
    have ob : ObjOk X.prog X.w (upd H1 d (.xd [(f, v)])) h' d (.xd [(f, v)]) := ⟨_, hns, fun y => relO_fld rv y⟩
    have J : Inv X pins σ (upd H1 d (.xd [(f, v)])) ⟨h', g, dr, tk', os⟩ := I1.laid (t' := tk') M.keep M.dbig ob
    obtain ⟨od, ho, hl⟩ := lookIn_ns hns
    have JA : PySem.W.InstAt h' e oe C (some od) := ⟨hoe, hc, by unfold PySem.W.notCls; rw [hdat] <;> rfl, by rw [hd]; exact ho⟩
    have hl' := (hl f).trans (congrArg some (if_pos (rfl : f = f)))
    exact HandSPX.exc_get J.kIn JA T.ga T.gg T.exC (PySem.W.findObj_own T.hdC T.noN rfl hl') (handed_of rv) ⟨v, _, J.tok _, rv, q1 d (I1.hok.fresh M.dbig)⟩
end
end L2


set_option Elab.async false
set_option linter.all false
/-! The mathematics of entries: written and read, in plain Lean. -/
namespace K68
open PySem
/-! ### numbers -/
def numT : List Int → Option (Int × Nat)
  | [] => none
  | x :: r => if x > 127 then (numT r).map (fun p => ((x - 128) + 128 * p.1, p.2 + 1)) else if x = 0 then none else some (x, 1)
def numS : List Int → Option (Int × Nat)
  | [] => none
  | x :: r => if x > 127 then (numT r).map (fun p => ((x - 128) + 128 * p.1, p.2 + 1)) else some (x, 1)
/-- the signs of a number, by fuel -/
def numL : Nat → Nat → List Int
  | 0, n => [(n : Int)]
  | f + 1, n => if n > 127 then ((n % 128 + 128 : Nat) : Int) :: numL f (n / 128) else [(n : Int)]
def num (n : Nat) : List Int := numL n n
theorem numL_ok : ∀ (f n : Nat), n ≤ f → ∀ post : List Int, 0 < n → numT (numL f n ++ post) = some ((n : Int), (numL f n).length)
  | 0, n, h, post, h0 => by omega
  | f + 1, n, h, post, h0 => by
    unfold numL
    by_cases c : n > 127
    · rw [if_pos c]
      have ih := numL_ok f (n / 128) (by omega) post (by omega)
      show (if ((n % 128 + 128 : Nat) : Int) > 127 then (numT (numL f (n / 128) ++ post)).map _ else _) = _
      rw [if_pos (by omega), ih]
      simp only [Option.map_some, List.length_cons]
      have e2 : ((n % 128 + 128 : Nat) : Int) - 128 + 128 * ((n / 128 : Nat) : Int) = (n : Int) := by omega
      rw [e2]
    · rw [if_neg c]
      show (if (n : Int) > 127 then _ else _) = _
      rw [if_neg (by omega), if_neg (by omega)]
      rfl
theorem num_ok (n : Nat) (post : List Int) : numS (num n ++ post) = some ((n : Int), (num n).length) := by
  unfold num
  cases n with
  | zero => rfl
  | succ m =>
    have h := numL_ok (m + 1) (m + 1) (Nat.le_refl _) post (by omega)
    unfold numL at h ⊢
    by_cases c : m + 1 > 127
    · rw [if_pos c] at h ⊢
      exact h
    · rw [if_neg c] at h ⊢
      show (if ((m + 1 : Nat) : Int) > 127 then _ else _) = _
      rw [if_neg (by omega)]
      rfl
theorem numL_len : ∀ (f n k : Nat), n < 128 ^ k → 0 < k → (numL f n).length ≤ k
  | 0, n, k, h, hk => by
    show 1 ≤ k
    exact hk
  | f + 1, n, k, h, hk => by
    unfold numL
    by_cases c : n > 127
    · rw [if_pos c]
      cases k with
      | zero => omega
      | succ j =>
        cases j with
        | zero =>
          simp at h
          omega
        | succ i =>
          have := numL_len f (n / 128) (i + 1) (by
            rw [Nat.div_lt_iff_lt_mul (by decide)]
            rw [Nat.pow_succ] at h
            exact h) (by omega)
          rw [List.length_cons]
          omega
    · rw [if_neg c]
      exact hk
theorem numL_byte : ∀ (f n : Nat), n ≤ f → ∀ x ∈ numL f n, 0 ≤ x ∧ x < 256
  | 0, n, h, x, hx => by
    unfold numL at hx
    simp at hx
    omega
  | f + 1, n, h, x, hx => by
    unfold numL at hx
    by_cases c : n > 127
    · rw [if_pos c] at hx
      rcases List.mem_cons.mp hx with e | hx
      · omega
      · exact numL_byte f (n / 128) (by omega) x hx
    · rw [if_neg c] at hx
      simp at hx
      omega
/-! ### values -/
def okCode (c : Int) : Bool := decide (32 ≤ c ∧ c ≤ 126) && decide (c ≠ 37)
def codesOf (s : Str) : List Int := s.cps.toList.map fun (c : Nat) => (c : Int)
def strOf (cs : List Int) : Str := ⟨(cs.map Int.toNat).toArray⟩
/-- the values of a tuple, one after the other -/
def thingsN (f : List Int → Option (PyData × Nat)) : Nat → Int → List Int → Option (List PyData × Nat)
  | fuel, m, l => if m ≤ 0 then some ([], 0) else match fuel with
    | 0 => none
    | g + 1 => match f l with
      | none => none
      | some (v, k) => (thingsN f g (m - 1) (l.drop k)).map fun p => (v :: p.1, k + p.2)
def lettersOf (l : List Int) (m : Int) : Option (PyData × Nat) :=
  let cs := l.take m.toNat
  if (cs.length : Int) < m ∨ cs.all okCode = false then none else some (.str (strOf cs), m.toNat)
def intOf (n : Int) : Int := if n % 2 = 0 then n / 2 else -(n + 1) / 2
def readV : Nat → List Int → Option (PyData × Nat)
  | _, [] => none
  | n, k :: r => if k > 5 then none else if k < 3 then some (if k = 0 then .none else .bool (decide (k = 2)), 1) else
    match numS r with
    | none => none
    | some (m, u) =>
      if k = 4 then (lettersOf (r.drop u) m).map fun p => (p.1, 1 + u + p.2)
      else if k = 5 then (match n with
        | 0 => none
        | n + 1 => (thingsN (readV n) (r.drop u).length m (r.drop u)).map fun p => (.tuple p.1, 1 + u + p.2))
      else some (.int (intOf m), 1 + u)
/-! ### written -/
mutual
def signsOf : PyData → List Int
  | .none => [0]
  | .bool b => [if b then 2 else 1]
  | .int i => 3 :: num (if 0 ≤ i then (2 * i).toNat else (-2 * i - 1).toNat)
  | .str x => 4 :: num x.cps.size ++ codesOf x
  | .tuple ds => 5 :: num ds.length ++ signsAll ds
  | .list _ => []
  | .dict _ => []
def signsAll : List PyData → List Int
  | [] => []
  | d :: ds => signsOf d ++ signsAll ds
end
mutual
/-- what may be written with n tuples yet around it -/
def Wr : Nat → PyData → Prop
  | _, .none => True
  | _, .bool _ => True
  | _, .int _ => True
  | _, .str x => ∀ c ∈ codesOf x, okCode c = true
  | 0, .tuple _ => False
  | n + 1, .tuple ds => WrAll n ds
  | _, .list _ => False
  | _, .dict _ => False
def WrAll : Nat → List PyData → Prop
  | _, [] => True
  | n, d :: ds => Wr n d ∧ WrAll n ds
end
theorem codes_len (x : Str) : (codesOf x).length = x.cps.size := by
  unfold codesOf
  simp
theorem strOf_codes (x : Str) : strOf (codesOf x) = x := by
  unfold strOf codesOf
  cases x with
  | mk cps =>
    have e : (cps.toList.map fun (c : Nat) => (c : Int)).map Int.toNat = cps.toList := by
      rw [List.map_map]
      conv => rhs; rw [← List.map_id cps.toList]
      apply List.map_congr_left
      intro a _
      simp
    show (⟨((cps.toList.map fun (c : Nat) => (c : Int)).map Int.toNat).toArray⟩ : Str) = ⟨cps⟩
    rw [e]
theorem intOf_ok (i : Int) : intOf (((if 0 ≤ i then (2 * i).toNat else (-2 * i - 1).toNat : Nat)) : Int) = i := by
  unfold intOf
  by_cases h : 0 ≤ i
  · rw [if_pos h]
    have e : ((2 * i).toNat : Int) = 2 * i := Int.toNat_of_nonneg (by omega)
    rw [e, if_pos (by omega)]
    omega
  · rw [if_neg h]
    have e : ((-2 * i - 1).toNat : Int) = -2 * i - 1 := Int.toNat_of_nonneg (by omega)
    rw [e, if_neg (by omega)]
    omega
theorem signs_pos : ∀ d, d ≠ .list [] → (∀ l, d ≠ .list l) → (∀ l, d ≠ .dict l) → 0 < (signsOf d).length := fun d _ h1 h2 => by
  cases d with
  | list l => exact absurd rfl (h1 l)
  | dict l => exact absurd rfl (h2 l)
  | _ => simp [signsOf]
theorem wr_pos {n : Nat} {d : PyData} (h : Wr n d) : 0 < (signsOf d).length := by
  cases d with
  | list l => cases n <;> exact h.elim
  | dict l => cases n <;> exact h.elim
  | _ => simp [signsOf]
theorem readV_kind {n : Nat} {k : Int} {r : List Int} (h3 : ¬ k > 5) (h4 : ¬ k < 3) : readV n (k :: r) = match numS r with
    | none => none
    | some (m, u) =>
      if k = 4 then (lettersOf (r.drop u) m).map fun p => (p.1, 1 + u + p.2)
      else if k = 5 then (match n with
        | 0 => none
        | n + 1 => (thingsN (readV n) (r.drop u).length m (r.drop u)).map fun p => (.tuple p.1, 1 + u + p.2))
      else some (.int (intOf m), 1 + u) := by
  unfold readV
  rw [if_neg h3, if_neg h4]
mutual
theorem readV_ok : ∀ (n : Nat) (d : PyData), Wr n d → ∀ post, readV n (signsOf d ++ post) = some (d, (signsOf d).length)
  | n, .none, _, post => by
    cases n <;> simp [signsOf, readV]
  | n, .bool b, _, post => by
    cases n <;> cases b <;> simp [signsOf, readV]
  | n, .int i, _, post => by
    have e0 : signsOf (.int i) ++ post = 3 :: (num (if 0 ≤ i then (2 * i).toNat else (-2 * i - 1).toNat) ++ post) := by simp [signsOf]
    rw [e0, readV_kind (by decide) (by decide), num_ok]
    simp only [signsOf, List.length_cons]
    rw [if_neg (by decide), if_neg (by decide), intOf_ok]
    congr 2
    omega
  | n, .str x, h, post => by
    have h' : ∀ c ∈ codesOf x, okCode c = true := by
      cases n <;> exact h
    have e0 : signsOf (.str x) ++ post = 4 :: (num x.cps.size ++ codesOf x ++ post) := by simp [signsOf]
    rw [e0, readV_kind (by decide) (by decide), List.append_assoc, num_ok]
    simp only [signsOf, List.length_cons, List.length_append]
    rw [if_pos trivial, List.drop_left]
    unfold lettersOf
    have e : ((x.cps.size : Int)).toNat = (codesOf x).length := by rw [codes_len]; simp
    rw [e, List.take_left]
    have ha : (codesOf x).all okCode = true := List.all_eq_true.mpr h'
    rw [if_neg (by
      rw [codes_len, ha]
      simp), strOf_codes]
    simp only [Option.map_some]
    congr 2
    omega
  | 0, .tuple ds, h, post => h.elim
  | n + 1, .tuple ds, h, post => by
    have e0 : signsOf (.tuple ds) ++ post = 5 :: (num ds.length ++ signsAll ds ++ post) := by simp [signsOf]
    rw [e0, readV_kind (by decide) (by decide), List.append_assoc, num_ok]
    simp only [signsOf, List.length_cons, List.length_append]
    rw [if_neg (by decide), if_pos trivial, List.drop_left]
    rw [thingsN_ok n ds h post _ (Nat.le_refl _)]
    simp only [Option.map_some]
    congr 2
    omega
  | 0, .list _, h, _ => h.elim
  | n + 1, .list _, h, _ => h.elim
  | 0, .dict _, h, _ => h.elim
  | n + 1, .dict _, h, _ => h.elim
theorem thingsN_ok : ∀ (n : Nat) (ds : List PyData), WrAll n ds → ∀ (post : List Int) (fuel : Nat), (signsAll ds ++ post).length ≤ fuel →
    thingsN (readV n) fuel (ds.length : Int) (signsAll ds ++ post) = some (ds, (signsAll ds).length)
  | n, [], _, post, fuel, _ => by
    cases fuel <;> rfl
  | n, d :: ds, h, post, fuel, hf => by
    obtain ⟨h1, h2⟩ := h
    have p := wr_pos h1
    have e : signsAll (d :: ds) ++ post = signsOf d ++ (signsAll ds ++ post) := by
      simp [signsAll]
    rw [e] at hf ⊢
    cases fuel with
    | zero =>
      simp at hf
      rw [hf.1] at p
      exact absurd p (by simp)
    | succ g =>
      unfold thingsN
      rw [if_neg (by rw [List.length_cons]; omega), readV_ok n d h1]
      simp only
      have em : ((List.length (d :: ds) : Nat) : Int) - 1 = (ds.length : Int) := by
        rw [List.length_cons]
        omega
      rw [em, List.drop_left, thingsN_ok n ds h2 post g (by
        rw [List.length_append] at hf
        omega)]
      simp [signsAll]
end
end K68


set_option Elab.async false
set_option linter.all false
namespace K68
open PySem
def plc : Int → List Int → Int
  | _, [] => 0
  | k, x :: r => x * k + plc (k + 1) r
def two (n : Int) : List Int := [n % 256, n / 256]
def sumsOf (s : List Int) : Int × Int := (s.sum % 65521, plc 1 s % 65521)
def elen (s : List Int) : Int := 4 + s.getD 2 0 + 256 * s.getD 3 0 + 4
/-- all but the last four -/
def but4 (s : List Int) : List Int := s.take (s.length - 4)
def last4 (s : List Int) : List Int := s.drop (s.length - 4)
inductive Fault
  | head | short | long | sums
def fault (s : List Int) : Option Fault :=
  if s.take 2 ≠ ([87, 72] : List Int).take s.length then some .head
  else if s.length < 4 ∨ (s.length : Int) < elen s then some .short
  else if (s.length : Int) > elen s ∨ s.length > 4096 then some .long
  else if last4 s ≠ two (sumsOf (but4 s)).1 ++ two (sumsOf (but4 s)).2 then some .sums
  else none
/-- what is read of an entry, or none -/
def readE (s : List Int) : Option PyData := match fault s with
  | some _ => none
  | none => match readV 10 ((but4 s).drop 4) with
    | none => none
    | some (v, u) => if u = ((but4 s).drop 4).length then some v else none
def readL : Nat → List Int → List PyData × Nat
  | 0, _ => ([], 0)
  | f + 1, l => if l.length < 4 then ([], 0) else match readE (l.take (elen l).toNat) with
    | none => ([], 0)
    | some v => let r := readL f (l.drop (l.take (elen l).toNat).length); (v :: r.1, (l.take (elen l).toNat).length + r.2)
def Bytes (s : List Int) : Prop := ∀ x ∈ s, 0 ≤ x ∧ x < 256
/-- the entry around a body -/
def wrap (body : List Int) : List Int :=
  let h := [87, 72] ++ two body.length ++ body
  h ++ (two (sumsOf h).1 ++ two (sumsOf h).2)
def entryOf (d : PyData) : List Int := wrap (signsOf d)
theorem two_len (n : Int) : (two n).length = 2 := rfl
theorem sums_bound (s : List Int) : 0 ≤ (sumsOf s).1 ∧ (sumsOf s).1 < 65521 ∧ 0 ≤ (sumsOf s).2 ∧ (sumsOf s).2 < 65521 := by
  unfold sumsOf
  dsimp only
  omega
theorem wrap_len (b : List Int) : (wrap b).length = 8 + b.length := by
  unfold wrap
  simp [two_len]
  omega
theorem wrap_but4 (b : List Int) : but4 (wrap b) = [87, 72] ++ two b.length ++ b := by
  unfold but4
  rw [wrap_len]
  unfold wrap
  dsimp only
  rw [List.take_left' (by simp [two_len]; omega)]
theorem wrap_last4 (b : List Int) : last4 (wrap b) = two (sumsOf (but4 (wrap b))).1 ++ two (sumsOf (but4 (wrap b))).2 := by
  rw [wrap_but4]
  unfold last4
  rw [wrap_len]
  unfold wrap
  dsimp only
  rw [List.drop_left' (by simp [two_len]; omega)]
theorem wrap_elen {b : List Int} : elen (wrap b) = 8 + (b.length : Int) := by
  unfold elen wrap two
  simp
  omega
theorem elen_take {s : List Int} {k : Nat} (h : 4 ≤ k) : elen (s.take k) = elen s := by
  unfold elen
  rw [List.getD_eq_getElem?_getD, List.getD_eq_getElem?_getD, List.getElem?_take_of_lt (by omega), List.getElem?_take_of_lt (by omega)]
  simp [List.getD_eq_getElem?_getD]
theorem elen_append {s t : List Int} (h : 4 ≤ s.length) : elen (s ++ t) = elen s := by
  unfold elen
  rw [List.getD_eq_getElem?_getD, List.getD_eq_getElem?_getD, List.getElem?_append_left (by omega), List.getElem?_append_left (by omega)]
  simp [List.getD_eq_getElem?_getD]
theorem wrap_head (b : List Int) : (wrap b).take 2 = [87, 72] := by
  unfold wrap
  rfl
theorem wrap_fault {b : List Int} (h : b.length ≤ 4088) : fault (wrap b) = none := by
  unfold fault
  rw [wrap_head, wrap_elen, ← wrap_last4, wrap_len]
  rw [if_neg (by
    rw [List.take_of_length_le]
    · simp
    · simp
      omega), if_neg (by omega), if_neg (by omega), if_neg (by simp)]
theorem readE_wrap {d : PyData} (h : (signsOf d).length ≤ 4088) (w : Wr 10 d) : readE (entryOf d) = some d := by
  unfold readE entryOf
  rw [wrap_fault h]
  dsimp only
  rw [wrap_but4]
  have e : List.drop 4 ([87, 72] ++ two (signsOf d).length ++ signsOf d) = signsOf d := rfl
  rw [e]
  have r := readV_ok 10 d w []
  rw [List.append_nil] at r
  rw [r]
  simp
/-- each cut one is short -/
theorem cut_short {b : List Int} {k : Nat} (hb : Bytes (wrap b)) (h : k < (wrap b).length) : fault ((wrap b).take k) = some .short := by
  unfold fault
  have e : ((wrap b).take k).take 2 = ([87, 72] : List Int).take ((wrap b).take k).length := by
    rw [List.take_take, List.length_take, Nat.min_eq_left (Nat.le_of_lt h)]
    have : (wrap b).take (min 2 k) = ((wrap b).take 2).take k := by
      rw [List.take_take, Nat.min_comm]
    rw [this, wrap_head]
  rw [if_neg (by rw [e]; simp)]
  rw [if_pos]
  rw [List.length_take, Nat.min_eq_left (Nat.le_of_lt h)]
  by_cases c : k < 4
  · exact .inl c
  · right
    rw [elen_take (by omega), wrap_elen]
    rw [wrap_len] at h
    omega
/-! ### spoilt at one or two signs -/
theorem sum_set : ∀ (l : List Int) (i : Nat) (x : Int), i < l.length → (l.set i x).sum = l.sum + (x - l.getD i 0)
  | [], i, x, h => absurd h (by simp)
  | a :: l, 0, x, h => by
    simp [List.set]
    omega
  | a :: l, i + 1, x, h => by
    have ih := sum_set l i x (by simpa using h)
    simp only [List.set_cons_succ, List.sum_cons, List.getD_cons_succ]
    omega
theorem plc_set : ∀ (l : List Int) (k : Int) (i : Nat) (x : Int), i < l.length → plc k (l.set i x) = plc k l + (x - l.getD i 0) * (k + i)
  | [], k, i, x, h => absurd h (by simp)
  | a :: l, k, 0, x, h => by
    simp only [List.set_cons_zero, plc, List.getD_cons_zero]
    have e : k + ((0 : Nat) : Int) = k := by omega
    rw [e, Int.sub_mul]
    omega
  | a :: l, k, i + 1, x, h => by
    have ih := plc_set l (k + 1) i x (by simpa using h)
    simp only [List.set_cons_succ, plc, List.getD_cons_succ]
    have e : k + ((i + 1 : Nat) : Int) = k + 1 + (i : Int) := by omega
    rw [ih, e]
    omega
/-- alike but at two places -/
def Near (s r : List Int) : Prop := r.length = s.length ∧ ∃ i j : Nat, i ≠ j ∧ ∀ k, k ≠ i → k ≠ j → r.getD k 0 = s.getD k 0
theorem ext_getD {a b : List Int} (h : a.length = b.length) (e : ∀ k, k < a.length → a.getD k 0 = b.getD k 0) : a = b := by
  refine List.ext_getElem h fun k h1 h2 => ?_
  have := e k h1
  rw [List.getD_eq_getElem?_getD, List.getD_eq_getElem?_getD, List.getElem?_eq_getElem h1, List.getElem?_eq_getElem h2] at this
  exact this
theorem getD_set {l : List Int} {i k : Nat} {x : Int} : (l.set i x).getD k 0 = if k = i ∧ i < l.length then x else l.getD k 0 := by
  rw [List.getD_eq_getElem?_getD, List.getD_eq_getElem?_getD, List.getElem?_set]
  by_cases e : i = k
  · subst e
    by_cases h : i < l.length
    · simp [h]
    · simp [h]
  · rw [if_neg e, if_neg (fun z => e z.1.symm)]
theorem near_set {s r : List Int} {i j : Nat} (h : r.length = s.length) (e : ∀ k, k ≠ i → k ≠ j → r.getD k 0 = s.getD k 0) : r = (s.set i (r.getD i 0)).set j (r.getD j 0) := by
  refine ext_getD (by simp [h]) fun k hk => ?_
  rw [getD_set, getD_set]
  by_cases h1 : k = j
  · subst h1
    rw [if_pos ⟨rfl, by simpa [h] using hk⟩]
  · rw [if_neg (fun z => h1 z.1)]
    by_cases h2 : k = i
    · subst h2
      rw [if_pos ⟨rfl, by rw [← h]; exact hk⟩]
    · rw [if_neg (fun z => h2 z.1)]
      exact e k h2 h1
theorem mul_small {a b : Int} {A B : Nat} (ha : a.natAbs ≤ A) (hb : b.natAbs ≤ B) (h : A * B < 65521) : -65521 < a * b ∧ a * b < 65521 := by
  have : (a * b).natAbs ≤ A * B := by
    rw [Int.natAbs_mul]
    exact Nat.mul_le_mul ha hb
  omega
theorem bytes_getD {s : List Int} (h : Bytes s) (k : Nat) : 0 ≤ s.getD k 0 ∧ s.getD k 0 < 256 := by
  rw [List.getD_eq_getElem?_getD]
  cases e : s[k]? with
  | none => simp
  | some x => exact h x (List.mem_of_getElem? e)
theorem two_inj {a b : Int} (h : two a = two b) : a = b := by
  unfold two at h
  simp at h
  omega
theorem four_inj {a b c d : Int} (h : two a ++ two b = two c ++ two d) : a = c ∧ b = d := by
  unfold two at h
  simp at h
  omega
/-- one place of what is summed has changed: both sums have -/
theorem one_changed {s : List Int} {i : Nat} {x : Int} (hi : i < s.length) (hl : s.length ≤ 248) (h0 : 0 ≤ s.getD i 0 ∧ s.getD i 0 < 256) (h1 : 0 ≤ x ∧ x < 256)
    (e : (sumsOf (s.set i x)).1 = (sumsOf s).1 ∨ (sumsOf (s.set i x)).2 = (sumsOf s).2) : x = s.getD i 0 := by
  unfold sumsOf at e
  dsimp only at e
  rw [sum_set s i x hi, plc_set s 1 i x hi] at e
  have b := mul_small (a := x - s.getD i 0) (b := 1 + (i : Int)) (A := 255) (B := 248) (by omega) (by omega) (by decide)
  generalize hz : (x - s.getD i 0) * (1 + (i : Int)) = z at e b
  rcases e with e | e
  · omega
  · have z0 : z = 0 := by omega
    rw [z0] at hz
    rcases Int.mul_eq_zero.mp hz with q | q
    · omega
    · omega
theorem two_changed {s : List Int} {i j : Nat} {x y : Int} (hij : i ≠ j) (hi : i < s.length) (hj : j < s.length) (hl : s.length ≤ 248) (h0 : 0 ≤ s.getD i 0 ∧ s.getD i 0 < 256) (h0' : 0 ≤ s.getD j 0 ∧ s.getD j 0 < 256)
    (h1 : 0 ≤ x ∧ x < 256) (h1' : 0 ≤ y ∧ y < 256) (e : sumsOf ((s.set i x).set j y) = sumsOf s) : x = s.getD i 0 ∧ y = s.getD j 0 := by
  unfold sumsOf at e
  obtain ⟨e1, e2⟩ := Prod.mk.inj e
  have gj : (s.set i x).getD j 0 = s.getD j 0 := by
    rw [getD_set, if_neg (fun z => hij z.1.symm)]
  rw [sum_set _ j y (by simpa using hj), sum_set s i x hi, gj] at e1
  rw [plc_set _ 1 j y (by simpa using hj), plc_set s 1 i x hi, gj] at e2
  have d0 : y - s.getD j 0 = -(x - s.getD i 0) := by omega
  have b := mul_small (a := x - s.getD i 0) (b := (i : Int) - (j : Int)) (A := 255) (B := 248) (by omega) (by omega) (by decide)
  have e3 : (x - s.getD i 0) * (1 + (i : Int)) + (y - s.getD j 0) * (1 + (j : Int)) = (x - s.getD i 0) * ((i : Int) - (j : Int)) := by
    rw [d0, Int.neg_mul, Int.mul_add, Int.mul_add, Int.mul_sub]
    omega
  generalize hz : (x - s.getD i 0) * ((i : Int) - (j : Int)) = z at e3 b
  generalize (x - s.getD i 0) * (1 + (i : Int)) = u at e2 e3
  generalize (y - s.getD j 0) * (1 + (j : Int)) = v at e2 e3
  have z0 : z = 0 := by omega
  rw [z0] at hz
  rcases Int.mul_eq_zero.mp hz with q | q
  · omega
  · omega
theorem getD_but4 {s : List Int} {k : Nat} (h : k < s.length - 4) : (but4 s).getD k 0 = s.getD k 0 := by
  unfold but4
  rw [List.getD_eq_getElem?_getD, List.getD_eq_getElem?_getD, List.getElem?_take_of_lt h]
theorem getD_last4 {s : List Int} (k : Nat) : (last4 s).getD k 0 = s.getD (s.length - 4 + k) 0 := by
  unfold last4
  rw [List.getD_eq_getElem?_getD, List.getD_eq_getElem?_getD, List.getElem?_drop]
theorem but_last {s : List Int} : but4 s ++ last4 s = s := List.take_append_drop _ _
/-- entries that have no fault and are alike but at two places are the same -/
theorem near_same {s r : List Int} (hs : fault s = none) (hr : fault r = none) (n : Near s r) (bs : Bytes s) (br : Bytes r) (hl : s.length ≤ 252) : r = s := by
  obtain ⟨hlen, i, j, hij, e⟩ := n
  have parts : ∀ {t : List Int}, fault t = none → t.take 2 = ([87, 72] : List Int).take t.length ∧ 4 ≤ t.length ∧ elen t = t.length ∧ last4 t = two (sumsOf (but4 t)).1 ++ two (sumsOf (but4 t)).2 := by
    intro t h
    unfold fault at h
    split at h
    · cases h
    · rename_i h1
      split at h
      · cases h
      · rename_i h2
        split at h
        · cases h
        · rename_i h3
          split at h
          · cases h
          · rename_i h4
            refine ⟨Decidable.of_not_not h1, by omega, by omega, Decidable.of_not_not h4⟩
  obtain ⟨_, s4, es, ls⟩ := parts hs
  obtain ⟨_, r4, er, lr⟩ := parts hr
  have bl : (but4 s).length = s.length - 4 := by
    unfold but4
    simp
  have blr : (but4 r).length = (but4 s).length := by
    unfold but4
    simp [hlen]
  suffices hb : but4 r = but4 s by
    rw [← but_last (s := r), ← but_last (s := s), lr, ls, hb]
  have eb : ∀ k, k < (but4 s).length → k ≠ i → k ≠ j → (but4 r).getD k 0 = (but4 s).getD k 0 := fun k hk h1 h2 => by
    rw [getD_but4 (by omega), getD_but4 (by omega)]
    exact e k h1 h2
  have el : ∀ k, s.length - 4 + k ≠ i → s.length - 4 + k ≠ j → (last4 r).getD k 0 = (last4 s).getD k 0 := fun k h1 h2 => by
    rw [getD_last4, getD_last4, hlen]
    exact e _ h1 h2
  have bb : ∀ k, 0 ≤ (but4 s).getD k 0 ∧ (but4 s).getD k 0 < 256 := fun k => bytes_getD (fun x hx => bs x (List.mem_of_mem_take hx)) k
  have bbr : ∀ k, 0 ≤ (but4 r).getD k 0 ∧ (but4 r).getD k 0 < 256 := fun k => bytes_getD (fun x hx => br x (List.mem_of_mem_take hx)) k
  have g : ∀ k, (last4 r).getD k 0 = (two (sumsOf (but4 r)).1 ++ two (sumsOf (but4 r)).2).getD k 0 := fun k => by rw [lr]
  have g' : ∀ k, (last4 s).getD k 0 = (two (sumsOf (but4 s)).1 ++ two (sumsOf (but4 s)).2).getD k 0 := fun k => by rw [ls]
  -- the place a alone is within what is summed
  have one : ∀ a b : Nat, (∀ k, k < (but4 s).length → k ≠ a → (but4 r).getD k 0 = (but4 s).getD k 0) → (∀ k, s.length - 4 + k ≠ b → (last4 r).getD k 0 = (last4 s).getD k 0) → but4 r = but4 s := fun a b h1 h2 => by
    by_cases ha : a < (but4 s).length
    · have eq : but4 r = (but4 s).set a ((but4 r).getD a 0) := by
        refine ext_getD (by simp [blr]) fun k hk => ?_
        rw [getD_set]
        by_cases q : k = a
        · subst q
          rw [if_pos ⟨rfl, ha⟩]
        · rw [if_neg (fun z => q z.1)]
          exact h1 k (by omega) q
      have same : (but4 r).getD a 0 = (but4 s).getD a 0 := by
        refine one_changed ha (by omega) (bb a) (bbr a) ?_
        rw [← eq]
        by_cases q : b < s.length - 4 + 2
        · right
          have k2 := h2 2 (by omega)
          have k3 := h2 3 (by omega)
          rw [g, g'] at k2 k3
          unfold two at k2 k3
          simp at k2 k3
          omega
        · left
          have k2 := h2 0 (by omega)
          have k3 := h2 1 (by omega)
          rw [g, g'] at k2 k3
          unfold two at k2 k3
          simp at k2 k3
          omega
      refine ext_getD blr fun k hk => ?_
      by_cases q : k = a
      · rw [q]
        exact same
      · exact h1 k (by omega) q
    · exact ext_getD blr fun k hk => h1 k (by omega) (by omega)
  by_cases hi : i < (but4 s).length
  · by_cases hj : j < (but4 s).length
    · have eq : but4 r = ((but4 s).set i ((but4 r).getD i 0)).set j ((but4 r).getD j 0) := by
        refine ext_getD (by simp [blr]) fun k hk => ?_
        rw [getD_set, getD_set]
        by_cases h1 : k = j
        · subst h1
          rw [if_pos ⟨rfl, by simpa using hj⟩]
        · rw [if_neg (fun z => h1 z.1)]
          by_cases h2 : k = i
          · subst h2
            rw [if_pos ⟨rfl, hi⟩]
          · rw [if_neg (fun z => h2 z.1)]
            exact eb k (by omega) h2 h1
      have sl : last4 r = last4 s := by
        refine ext_getD ?_ fun k hk => el k (by omega) (by omega)
        unfold last4
        simp [hlen]
      rw [ls, lr] at sl
      obtain ⟨q1, q2⟩ := four_inj sl
      have sm : sumsOf (((but4 s).set i ((but4 r).getD i 0)).set j ((but4 r).getD j 0)) = sumsOf (but4 s) := by
        rw [← eq]
        exact Prod.ext q1 q2
      obtain ⟨z1, z2⟩ := two_changed hij hi hj (by omega) (bb i) (bb j) (bbr i) (bbr j) sm
      refine ext_getD blr fun k hk => ?_
      by_cases h1 : k = i
      · rw [h1]
        exact z1
      · by_cases h2 : k = j
        · rw [h2]
          exact z2
        · exact eb k (by omega) h1 h2
    · exact one i j (fun k hk h => eb k hk h (by omega)) (fun k h => el k (by omega) h)
  · by_cases hj : j < (but4 s).length
    · exact one j i (fun k hk h => eb k hk (by omega) h) (fun k h => el k h (by omega))
    · exact ext_getD blr fun k hk => eb k (by omega) (by omega) (by omega)
/-! ### rows of entries -/
def logOf : List PyData → List Int
  | [] => []
  | d :: ds => entryOf d ++ logOf ds
/-- what may stand in an entry, and how long it is at most -/
def Fits (d : PyData) : Prop := Wr 10 d ∧ (signsOf d).length ≤ 4088
theorem entry_len (d : PyData) : (entryOf d).length = 8 + (signsOf d).length := wrap_len _
theorem entry_elen (d : PyData) (t : List Int) : (elen (entryOf d ++ t)).toNat = (entryOf d).length := by
  rw [elen_append (by rw [entry_len]; omega)]
  unfold entryOf
  rw [wrap_elen, wrap_len]
  omega
theorem readL_entry {d : PyData} {t : List Int} {f : Nat} (h : Fits d) : readL (f + 1) (entryOf d ++ t) = (d :: (readL f t).1, (entryOf d).length + (readL f t).2) := by
  show (if (entryOf d ++ t).length < 4 then _ else _) = _
  rw [if_neg (by rw [List.length_append, entry_len]; omega), entry_elen, List.take_left, readE_wrap h.2 h.1]
  dsimp only
  rw [List.drop_left]
theorem readL_log : ∀ (ds : List PyData) (t : List Int) (f : Nat), (∀ d ∈ ds, Fits d) → readL (f + ds.length) (logOf ds ++ t) = (ds ++ (readL f t).1, (logOf ds).length + (readL f t).2)
  | [], t, f, _ => by
    simp [logOf]
  | d :: ds, t, f, h => by
    have e : logOf (d :: ds) ++ t = entryOf d ++ (logOf ds ++ t) := by simp [logOf]
    rw [e]
    show readL (f + ds.length + 1) _ = _
    rw [readL_entry (h d (List.mem_cons_self ..)), readL_log ds t f (fun x hx => h x (List.mem_cons_of_mem _ hx))]
    simp [logOf]
    omega
/-- a row that is no whole entry ends the reading -/
theorem readL_stop {f : Nat} {t : List Int} (h : t.length < 4 ∨ readE (t.take (elen t).toNat) = none) : readL f t = ([], 0) := by
  cases f with
  | zero => rfl
  | succ g =>
    show (if t.length < 4 then _ else _) = _
    by_cases c : t.length < 4
    · rw [if_pos c]
    · rw [if_neg c]
      rcases h with h | h
      · exact absurd h c
      · rw [h]
theorem readE_fault {s : List Int} {x : Fault} (h : fault s = some x) : readE s = none := by
  unfold readE
  rw [h]
/-- the beginning of an entry, cut, is not read -/
theorem cut_stops {d : PyData} {k : Nat} (hb : Bytes (entryOf d)) (h : k < (entryOf d).length) : ((entryOf d).take k).length < 4 ∨ readE (((entryOf d).take k).take (elen ((entryOf d).take k)).toNat) = none := by
  by_cases c : k < 4
  · left
    rw [List.length_take]
    omega
  · right
    have e : elen ((entryOf d).take k) = elen (entryOf d) := elen_take (by omega)
    have e2 : (elen (entryOf d)).toNat = (entryOf d).length := by
      have := entry_elen d []
      rw [List.append_nil] at this
      exact this
    rw [e, e2, List.take_take, Nat.min_eq_right (Nat.le_of_lt h)]
    exact readE_fault (cut_short hb h)
end K68


set_option Elab.async false
set_option linter.all false
set_option maxRecDepth 100000
namespace K68
open PySem L2
def top (i : Nat) : Stmt := PySem.Challenge.pw_whoiswho_k68_whole_spoilt_and_cut_entrie.main.body.getD i (.Pass ⟨0, 0, 0, 0⟩)
abbrev sIsWhole : Stmt := top 4
abbrev nIsWhole : List Str := ["value"]
theorem scIsWhole : FnScope nIsWhole ["value"] (defScope sIsWhole) := ⟨rfl, rfl, rfl, by decide +kernel, rfl, by decide +kernel, by decide +kernel⟩
abbrev sIsNumber : Stmt := top 5
abbrev nIsNumber : List Str := ["value"]
theorem scIsNumber : FnScope nIsNumber ["value"] (defScope sIsNumber) := ⟨rfl, rfl, rfl, by decide +kernel, rfl, by decide +kernel, by decide +kernel⟩
abbrev sIsBelow : Stmt := top 6
abbrev nIsBelow : List Str := ["value", "many"]
theorem scIsBelow : FnScope nIsBelow ["value", "many"] (defScope sIsBelow) := ⟨rfl, rfl, rfl, by decide +kernel, rfl, by decide +kernel, by decide +kernel⟩
abbrev sIsSequence : Stmt := top 7
abbrev nIsSequence : List Str := ["value"]
theorem scIsSequence : FnScope nIsSequence ["value"] (defScope sIsSequence) := ⟨rfl, rfl, rfl, by decide +kernel, rfl, by decide +kernel, by decide +kernel⟩
abbrev sAreSigns : Stmt := top 16
abbrev nAreSigns : List Str := ["value", "sign"]
theorem scAreSigns : FnScope nAreSigns ["value"] (defScope sAreSigns) := ⟨rfl, rfl, rfl, by decide +kernel, rfl, by decide +kernel, by decide +kernel⟩
abbrev sTwoSums : Stmt := top 17
abbrev nTwoSums : List Str := ["signs", "plain", "placed", "at", "sign"]
theorem scTwoSums : FnScope nTwoSums ["signs"] (defScope sTwoSums) := ⟨rfl, rfl, rfl, by decide +kernel, rfl, by decide +kernel, by decide +kernel⟩
abbrev sTwoSigns : Stmt := top 18
abbrev nTwoSigns : List Str := ["number"]
theorem scTwoSigns : FnScope nTwoSigns ["number"] (defScope sTwoSigns) := ⟨rfl, rfl, rfl, by decide +kernel, rfl, by decide +kernel, by decide +kernel⟩
abbrev sReadNumber : Stmt := top 19
abbrev nReadNumber : List Str := ["signs", "at", "number", "unit", "here"]
theorem scReadNumber : FnScope nReadNumber ["signs", "at"] (defScope sReadNumber) := ⟨rfl, rfl, rfl, by decide +kernel, rfl, by decide +kernel, by decide +kernel⟩
abbrev sReadLetters : Stmt := top 20
abbrev nReadLetters : List Str := ["signs", "begin", "many", "codes", "text", "code"]
theorem scReadLetters : FnScope nReadLetters ["signs", "begin", "many"] (defScope sReadLetters) := ⟨rfl, rfl, rfl, by decide +kernel, rfl, by decide +kernel, by decide +kernel⟩
abbrev sReadThings : Stmt := top 21
abbrev nReadThings : List Str := ["signs", "begin", "many", "deep", "things", "here", "read"]
theorem scReadThings : FnScope nReadThings ["signs", "begin", "many", "deep"] (defScope sReadThings) := ⟨rfl, rfl, rfl, by decide +kernel, rfl, by decide +kernel, by decide +kernel⟩
abbrev sReadValue : Stmt := top 22
abbrev nReadValue : List Str := ["signs", "at", "deep", "kind", "read", "number", "here"]
theorem scReadValue : FnScope nReadValue ["signs", "at", "deep"] (defScope sReadValue) := ⟨rfl, rfl, rfl, by decide +kernel, rfl, by decide +kernel, by decide +kernel⟩
abbrev sEntryLength : Stmt := top 23
abbrev nEntryLength : List Str := ["signs"]
theorem scEntryLength : FnScope nEntryLength ["signs"] (defScope sEntryLength) := ⟨rfl, rfl, rfl, by decide +kernel, rfl, by decide +kernel, by decide +kernel⟩
abbrev sEntryFault : Stmt := top 24
abbrev nEntryFault : List Str := ["signs", "plain", "placed"]
theorem scEntryFault : FnScope nEntryFault ["signs"] (defScope sEntryFault) := ⟨rfl, rfl, rfl, by decide +kernel, rfl, by decide +kernel, by decide +kernel⟩
abbrev sReadEntry : Stmt := top 25
abbrev nReadEntry : List Str := ["signs", "fault", "told", "read"]
theorem scReadEntry : FnScope nReadEntry ["signs"] (defScope sReadEntry) := ⟨rfl, rfl, rfl, by decide +kernel, rfl, by decide +kernel, by decide +kernel⟩
abbrev sNextEntry : Stmt := top 26
abbrev nNextEntry : List Str := ["log", "begin", "end"]
theorem scNextEntry : FnScope nNextEntry ["log", "begin"] (defScope sNextEntry) := ⟨rfl, rfl, rfl, by decide +kernel, rfl, by decide +kernel, by decide +kernel⟩
abbrev sReadLog : Stmt := top 27
abbrev nReadLog : List Str := ["log", "values", "here", "entry"]
theorem scReadLog : FnScope nReadLog ["log"] (defScope sReadLog) := ⟨rfl, rfl, rfl, by decide +kernel, rfl, by decide +kernel, by decide +kernel⟩
abbrev sXDraw : Stmt := top 29
abbrev nXDraw : List Str := ["script", "salt", "cells", "blend", "cell"]
theorem scXDraw : FnScope nXDraw ["script", "salt"] (defScope sXDraw) := ⟨rfl, rfl, rfl, by decide +kernel, rfl, by decide +kernel, by decide +kernel⟩
abbrev sXAny : Stmt := top 30
abbrev nXAny : List Str := ["deal", "bound", "rest"]
theorem scXAny : FnScope nXAny ["deal", "bound"] (defScope sXAny) := ⟨rfl, rfl, rfl, by decide +kernel, rfl, by decide +kernel, by decide +kernel⟩
abbrev sXOf : Stmt := top 31
abbrev nXOf : List Str := ["deal", "some"]
theorem scXOf : FnScope nXOf ["deal", "some"] (defScope sXOf) := ⟨rfl, rfl, rfl, by decide +kernel, rfl, by decide +kernel, by decide +kernel⟩
abbrev sXNumber : Stmt := top 32
abbrev nXNumber : List Str := ["number", "signs"]
theorem scXNumber : FnScope nXNumber ["number"] (defScope sXNumber) := ⟨rfl, rfl, rfl, by decide +kernel, rfl, by decide +kernel, by decide +kernel⟩
abbrev sXSigns : Stmt := top 33
abbrev nXSigns : List Str := ["value", "signs", "one", "sign"]
theorem scXSigns : FnScope nXSigns ["value"] (defScope sXSigns) := ⟨rfl, rfl, rfl, by decide +kernel, rfl, by decide +kernel, by decide +kernel⟩
abbrev sXSums : Stmt := top 34
abbrev nXSums : List Str := ["signs", "first", "second", "at", "sign"]
theorem scXSums : FnScope nXSums ["signs"] (defScope sXSums) := ⟨rfl, rfl, rfl, by decide +kernel, rfl, by decide +kernel, by decide +kernel⟩
abbrev sXTwo : Stmt := top 35
abbrev nXTwo : List Str := ["number"]
theorem scXTwo : FnScope nXTwo ["number"] (defScope sXTwo) := ⟨rfl, rfl, rfl, by decide +kernel, rfl, by decide +kernel, by decide +kernel⟩
abbrev sXEntry : Stmt := top 36
abbrev nXEntry : List Str := ["value", "body", "signs", "first", "second"]
theorem scXEntry : FnScope nXEntry ["value"] (defScope sXEntry) := ⟨rfl, rfl, rfl, by decide +kernel, rfl, by decide +kernel, by decide +kernel⟩
abbrev sXValue : Stmt := top 37
abbrev nXValue : List Str := ["deal", "depth", "kind", "turn"]
theorem scXValue : FnScope nXValue ["deal", "depth"] (defScope sXValue) := ⟨rfl, rfl, rfl, by decide +kernel, rfl, by decide +kernel, by decide +kernel⟩
abbrev sXRefused : Stmt := top 38
abbrev nXRefused : List Str := ["signs", "e"]
theorem scXRefused : FnScope nXRefused ["signs"] (defScope sXRefused) := ⟨rfl, rfl, rfl, by decide +kernel, rfl, by decide +kernel, by decide +kernel⟩
abbrev sXSpoilt : Stmt := top 39
abbrev nXSpoilt : List Str := ["deal", "signs", "most", "row", "places", "turn", "at", "one", "other"]
theorem scXSpoilt : FnScope nXSpoilt ["deal", "signs", "most"] (defScope sXSpoilt) := ⟨rfl, rfl, rfl, by decide +kernel, rfl, by decide +kernel, by decide +kernel⟩
abbrev sXAnchor : Stmt := top 40
abbrev nXAnchor : List Str := ["signs", "row"]
theorem scXAnchor : FnScope nXAnchor [] (defScope sXAnchor) := ⟨rfl, rfl, rfl, by decide +kernel, rfl, by decide +kernel, by decide +kernel⟩
abbrev sLaw : Stmt := top 41
abbrev nLaw : List Str := ["script", "deal", "values", "entries", "signs", "log", "sizes", "cut", "many", "at", "spoilt", "row", "told", "wrong", "turn", "e", "value", "size"]
theorem scLaw : FnScope nLaw ["script"] (defScope sLaw) := ⟨rfl, rfl, rfl, by decide +kernel, rfl, by decide +kernel, by decide +kernel⟩
end K68


set_option Elab.async false
set_option linter.all false
set_option maxRecDepth 100000
set_option maxHeartbeats 4000000
namespace K68
open PySem L2
/-- the names of the classes that values here have -/
def names6 : List String := ["int", "bool", "NoneType", "str", "list", "tuple"]
theorem kit_int : ∀ n ∈ names6, kitB n "int" = some (n == "int" || n == "bool") := by decide +kernel
theorem kit_bool : ∀ n ∈ names6, kitB n "bool" = some (n == "bool") := by decide +kernel
theorem kit_str : ∀ n ∈ names6, kitB n "str" = some (n == "str") := by decide +kernel
theorem kit_list : ∀ n ∈ names6, kitB n "list" = some (n == "list") := by decide +kernel
theorem kit_tuple : ∀ n ∈ names6, kitB n "tuple" = some (n == "tuple") := by decide +kernel
theorem k_one : ∀ n ∈ names6, (n == "int" || n == "bool") = true → (!(n == "bool")) = (n == "int") := by decide +kernel
theorem k_two : ∀ n ∈ names6, ¬ (n == "int" || n == "bool") = true → (n == "int") = false := by decide +kernel
/-- the class of a value -/
def Is (K : PySem.W.Frag) (H : Hp) (x : V) (n : String) : Prop := n ∈ names6 ∧ TyX K H x (.type n)
structure TxtP (K : PySem.W.Frag) (mg : Str → Option Value) : Prop where
  int : mg "int" = none
  bool : mg "bool" = none
  list : mg "list" = none
  tuple : mg "tuple" = none
  str : mg "str" = none
  len : mg "len" = none
  isinstance : mg "isinstance" = none
  all : mg "all" = none
  sum : mg "sum" = none
  enumerate : mg "enumerate" = none
  range : mg "range" = none
  abs : mg "abs" = none
  ord : mg "ord" = none
def spWhole (K : PySem.W.Frag) : Sp := fun vs H Q _ => ∃ (x : V) (n : String), vs = [x] ∧ Is K H x n ∧ Q (.bl (n == "int")) H
def isNum : V → Bool
  | .int i => decide (0 ≤ i)
  | _ => false
def isBelow (m : Int) : V → Bool
  | .int i => decide (0 ≤ i ∧ i < m)
  | _ => false
theorem is_int {K : PySem.W.Frag} {H : Hp} (i : Int) : Is K H (.int i) "int" := ⟨by decide, .base (.int i)⟩
theorem is_bl {K : PySem.W.Frag} {H : Hp} (b : Bool) : Is K H (.bl b) "bool" := ⟨by decide, .base (.bl b)⟩
theorem is_non {K : PySem.W.Frag} {H : Hp} : Is K H .non "NoneType" := ⟨by decide, .base .non⟩
theorem is_str {K : PySem.W.Frag} {H : Hp} (s : Str) : Is K H (.str s) "str" := ⟨by decide, .base (.str s)⟩
section
variable {P : Program} {w : World} {K : PySem.W.Frag} {mg : Str → Option Value} {base : Heap}
theorem ok_whole {f : Addr} {fd : FuncData} (F : Fun K "is_whole" "is_whole" sIsWhole f fd) (T : TxtP K mg) : FnOk P w K mg base CX0 1 f fd ["value"] (spWhole K) := by
  refine F.ok scIsWhole (fun vs H Q E h => ?_) (fun cdv A outer s H vs Q E hr h => ?_)
  · obtain ⟨x, n, rfl, _⟩ := h
    rfl
  · obtain ⟨x, n, rfl, ⟨hn, ty⟩, q⟩ := h
    refine ⟨_, pss_one (ps_ret (pe_and (pe_callB call_isi (by rfl) T.isinstance (by decide +kernel) (pa_cons (pv 0) (pa_cons (pe_bltn (v := .ty "int") (by rfl) T.int (by decide +kernel) rfl) pa_nil)))
      (pe_one (pe_not (pe_callB call_isi (by rfl) T.isinstance (by decide +kernel) (pa_cons (pv 0) (pa_cons (pe_bltn (v := .ty "bool") (by rfl) T.bool (by decide +kernel) rfl) pa_nil))))))), ?_⟩
    refine ⟨_, rfl, x, _, _, _, _, rfl, .ty "int", ty, kit_ty (kit_int n hn), _, rfl, ?_⟩
    refine ite2 (fun c => ?_) (fun c => ?_)
    · refine ⟨_, rfl, x, _, _, _, _, rfl, .ty "bool", ty, kit_ty (kit_bool n hn), _, rfl, ?_⟩
      have e : (!(n == "bool")) = (n == "int") := by
        exact k_one n hn c
      rw [e]
      exact q
    · have e : (n == "int") = false := by
        exact k_two n hn c
      rw [e] at q
      exact q
/-- what a value here may be: told whether it is a number below m -/
inductive Odd (K : PySem.W.Frag) (H : Hp) : V → Prop
  | int (i : Int) : Odd K H (.int i)
  | bl (b : Bool) : Odd K H (.bl b)
  | non : Odd K H .non
  | str (s : Str) : Odd K H (.str s)
  | lst {a : Addr} {xs : List V} (h : SqL K H a xs) : Odd K H (.ref a)
  | tup {a : Addr} {xs : List V} (h : SqT K H a xs) : Odd K H (.ref a)
theorem is_lst {H : Hp} {a : Addr} {xs : List V} (h : SqL K H a xs) : Is K H (.ref a) "list" := by
  refine ⟨by decide, ?_⟩
  rcases h with (h | ⟨o, h⟩) | ⟨o, its, n, h, c, _⟩
  · exact .base (.lst h)
  · exact .base (.frz h)
  · exact .kList h c
theorem is_tup {H : Hp} {a : Addr} {xs : List V} (h : SqT K H a xs) : Is K H (.ref a) "tuple" := by
  refine ⟨by decide, ?_⟩
  rcases h with (h | ⟨o, h⟩) | ⟨o, its, n, h, c, _⟩
  · exact .base (.tup h)
  · exact .fTuple h
  · exact .kTuple h c
/-- the class's name of such a value is one of the six; it is int for ints alone -/
theorem Odd.is {H : Hp} {x : V} (h : Odd K H x) : ∃ n, Is K H x n ∧ ((n == "int") = true ↔ ∃ i, x = .int i) := by
  cases h with
  | int i => exact ⟨"int", is_int i, by simp⟩
  | bl b => exact ⟨"bool", is_bl b, by simp⟩
  | non => exact ⟨"NoneType", is_non, by simp⟩
  | str s => exact ⟨"str", is_str s, by simp⟩
  | lst h => exact ⟨"list", is_lst h, by simp⟩
  | tup h => exact ⟨"tuple", is_tup h, by simp⟩
def spNumber (K : PySem.W.Frag) : Sp := fun vs H Q _ => ∃ x : V, vs = [x] ∧ Odd K H x ∧ Q (.bl (isNum x)) H
def spBelow (K : PySem.W.Frag) : Sp := fun vs H Q _ => ∃ (x : V) (m : Int), vs = [x, .int m] ∧ Odd K H x ∧ Q (.bl (isBelow m x)) H
theorem ok_number {f fW : Addr} {fd fdW : FuncData} (F : Fun K "is_number" "is_number" sIsNumber f fd) (GW : FnOk P w K mg base CX0 1 fW fdW ["value"] (spWhole K)) (bW : Binds K fdW ["value"] []) (mW : mg "is_whole" = some (.ref fW)) (kW : PySem.W.keepIn K (.ref fW) = true) :
    FnOk P w K mg base CX0 2 f fd ["value"] (spNumber K) := by
  refine F.ok scIsNumber (fun vs H Q E h => ?_) (fun cdv A outer s H vs Q E hr h => ?_)
  · obtain ⟨x, rfl, _⟩ := h
    rfl
  · obtain ⟨x, rfl, o, q⟩ := h
    obtain ⟨n, is, iff⟩ := o.is
    refine ⟨_, pss_one (ps_ret (pe_and (pe_call GW hr rfl mW kW bW .nil pass0 (pa_cons (pv 0) pa_nil)) (pe_one (pe_cmpR op_ge (pv 0) pe_int (nomark _))))), ?_⟩
    refine ⟨_, rfl, x, n, rfl, is, _, rfl, ?_⟩
    refine ite2 (fun c => ?_) (fun c => ?_)
    · obtain ⟨i, rfl⟩ := iff.mp c
      exact ⟨_, rfl, _, _, rfl, rfl, q⟩
    · have e : isNum x = false := by
        cases x with
        | int i => exact absurd (iff.mpr ⟨i, rfl⟩) c
        | _ => rfl
      rw [e] at q
      exact q
theorem ok_below {f fN : Addr} {fd fdN : FuncData} (F : Fun K "is_below" "is_below" sIsBelow f fd) (GN : FnOk P w K mg base CX0 2 fN fdN ["value"] (spNumber K)) (bN : Binds K fdN ["value"] []) (mN : mg "is_number" = some (.ref fN)) (kN : PySem.W.keepIn K (.ref fN) = true) :
    FnOk P w K mg base CX0 3 f fd ["value", "many"] (spBelow K) := by
  refine F.ok scIsBelow (fun vs H Q E h => ?_) (fun cdv A outer s H vs Q E hr h => ?_)
  · obtain ⟨x, m, rfl, _⟩ := h
    rfl
  · obtain ⟨x, m, rfl, o, q⟩ := h
    refine ⟨_, pss_one (ps_ret (pe_and (pe_call GN hr rfl mN kN bN .nil pass0 (pa_cons (pv 0) pa_nil)) (pe_one (pe_cmpR op_lt (pv 0) (pv 1) (nomark _))))), ?_⟩
    refine ⟨_, rfl, x, rfl, o, _, rfl, ?_⟩
    refine ite2 (fun c => ?_) (fun c => ?_)
    · cases x with
      | int i =>
        refine ⟨_, rfl, _, rfl, _, _, rfl, rfl, ?_⟩
        have c' : 0 ≤ i := of_decide_eq_true c
        have e : isBelow m (.int i) = decide (i < m) := by
          show decide (0 ≤ i ∧ i < m) = _
          simp [c']
        rw [e] at q
        exact q
      | _ => exact absurd c (by simp [isNum])
    · have e : isBelow m x = false := by
        cases x with
        | int i =>
          have c' : ¬ 0 ≤ i := fun z => c (decide_eq_true z)
          show decide (0 ≤ i ∧ i < m) = false
          simp [c']
        | _ => rfl
      rw [e] at q
      exact q
/-- whether a value is a list or a tuple -/
def spSeq (K : PySem.W.Frag) : Sp := fun vs H Q _ => ∃ (x : V) (n : String), vs = [x] ∧ Is K H x n ∧ ∀ H', Same H H' → Q (.bl (n == "list" || n == "tuple")) H'
theorem Is.same {H H' : Hp} {x : V} {n : String} (h : Is K H x n) (s : Same H H') : Is K H' x n := by
  obtain ⟨hn, ty⟩ := h
  refine ⟨hn, ?_⟩
  generalize ht : Value.type n = t at ty
  cases ty with
  | base h =>
    cases h with
    | non => exact .base .non
    | bl x => exact .base (.bl x)
    | int i => exact .base (.int i)
    | str x => exact .base (.str x)
    | flt x => exact .base (.flt x)
    | lst e => exact .base (.lst (s _ _ e))
    | frz e => exact .base (.frz (s _ _ e))
    | tup e => exact .base (.tup (s _ _ e))
    | dK e => exact .base (.dK (s _ _ e))
    | dT e => exact .base (.dT (s _ _ e))
    | ins => cases ht
  | byt b => exact .byt b
  | set e => exact .set (s _ _ e)
  | kList e c => exact .kList e c
  | kTuple e c => exact .kTuple e c
  | kDict e c => exact .kDict e c
  | fTuple e => exact .fTuple (s _ _ e)
  | fDict e => exact .fDict (s _ _ e)
theorem ok_seq {f : Addr} {fd : FuncData} (F : Fun K "is_sequence" "is_sequence" sIsSequence f fd) (T : TxtP K mg) : FnOk P w K mg base CX0 1 f fd ["value"] (spSeq K) := by
  refine F.ok scIsSequence (fun vs H Q E h => ?_) (fun cdv A outer s H vs Q E hr h => ?_)
  · obtain ⟨x, n, rfl, _⟩ := h
    rfl
  · obtain ⟨x, n, rfl, is, q⟩ := h
    refine ⟨_, pss_one (ps_ret (pe_callB call_isiT (by rfl) T.isinstance (by decide +kernel) (pa_cons (pv 0) (pa_cons (pe_tup (pa_cons (pe_bltn (v := .ty "list") (by rfl) T.list (by decide +kernel) rfl)
      (pa_cons (pe_bltn (v := .ty "tuple") (by rfl) T.tuple (by decide +kernel) rfl) pa_nil))) pa_nil)))), ?_⟩
    refine ⟨_, rfl, by show 2 ≤ sizeLine; decide, fun p np => ?_⟩
    have s1 := same_new (o := .tup [.ty "list", .ty "tuple"]) np
    obtain ⟨hn, ty⟩ := is.same s1
    refine ⟨x, p, _, _, [.type "list", .type "tuple"], _, rfl, upd_same, .cons (.ty _) (.cons (.ty _) .nil), ty, ?_, q _ s1⟩
    refine kitAny_cons (kit_ty (kit_list n hn)) (fun e1 => ?_) (fun e1 => by rw [e1]; rfl)
    rw [e1]
    refine kitAny_cons (kit_ty (kit_tuple n hn)) (fun e2 => ?_) (fun e2 => by rw [e2]; rfl)
    rw [e2]
    exact kitAny_nil
end
end K68


set_option Elab.async false
set_option linter.all false
set_option maxRecDepth 100000
set_option maxHeartbeats 4000000
namespace K68
open PySem L2
section
variable {P : Program} {w : World} {K : PySem.W.Frag} {mg : Str → Option Value} {base : Heap}
theorem Odd.same {H H' : Hp} {x : V} (h : Odd K H x) (s : Same H H') : Odd K H' x := by
  cases h with
  | int i => exact .int i
  | bl b => exact .bl b
  | non => exact .non
  | str z => exact .str z
  | lst h => exact .lst (sqL_same s h)
  | tup h => exact .tup (sqT_same s h)
/-- a sequence of odd things, or what is none -/
def spSigns (K : PySem.W.Frag) : Sp := fun vs H Q _ => ∃ x : V, vs = [x] ∧
  ((∃ (a : Addr) (xs : List V), x = .ref a ∧ SqA K H a xs ∧ (∀ y ∈ xs, Odd K H y) ∧ xs.length ≤ 1000000 ∧ ∀ H', Same H H' → Q (.bl (xs.all (isBelow 256))) H') ∨
   (∃ n, Is K H x n ∧ (n == "list" || n == "tuple") = false ∧ ∀ H', Same H H' → Q (.bl false) H'))
theorem ok_signs {f fS fB : Addr} {fd fdS fdB : FuncData} (F : Fun K "are_signs" "are_signs" sAreSigns f fd) (T : TxtP K mg)
    (GS : FnOk P w K mg base CX0 1 fS fdS ["value"] (spSeq K)) (bS : Binds K fdS ["value"] []) (mS : mg "is_sequence" = some (.ref fS)) (kS : PySem.W.keepIn K (.ref fS) = true)
    (GB : FnOk P w K mg base CX0 3 fB fdB ["value", "many"] (spBelow K)) (bB : Binds K fdB ["value", "many"] []) (mB : mg "is_below" = some (.ref fB)) (kB : PySem.W.keepIn K (.ref fB) = true) :
    FnOk P w K mg base CX0 5 f fd ["value"] (spSigns K) := by
  refine F.ok scAreSigns (fun vs H Q E h => ?_) (fun cdv A outer s H vs Q E hr h => ?_)
  · obtain ⟨x, rfl, _⟩ := h
    rfl
  · obtain ⟨x, rfl, h⟩ := h
    refine ⟨_, pss_one (ps_ret (pe_and (pe_call GS (hr.mono (by decide)) rfl mS kS bS .nil pass0 (pa_cons (pv 0) pa_nil))
      (pe_one (pe_callB (cr_all rfl) (by rfl) T.all (by decide +kernel) (pa_cons
        (pe_lc (own := [("sign", 1)]) (g := gName 1) (tt := tYes) rfl scAreSigns.nd (PI.or (pi_list (pv 0)) (pi_tup (pv 0))) (blkOk_by (N := nAreSigns) (sc := defScope sAreSigns) (by decide +kernel))
          (fun _ _ _ _ _ => pg_name (i := 1) scAreSigns.nd rfl (Or.inl rfl)) (fun _ _ _ _ _ => pts_nil)
          (fun _ _ _ _ _ => pe_call GB (by exact (Room.mono hr (by decide))) rfl mB kB bB .nil pass0 (pa_cons (pv 1) (pa_cons pe_int pa_nil)))) pa_nil))))), ?_⟩
    rcases h with ⟨a, xs, rfl, hx, ho, hl, q⟩ | ⟨n, is, en, q⟩
    · have go : ∀ (H1 : Hp), Same H H1 → ∀ {J : It} {G : Hp → Prop} (w : Walk J xs.length G (YAt xs)) (D : Addr), H1 D = none → (∀ H2, Same H1 H2 → G H2) → ∃ W : Nat → Nat → Hp → Prop, (∃ m, W 0 m (upd H1 D (.lst []))) ∧ ∀ i m H, W i m H →
          (J.stop i H ∧ (fun H2 => rAll K [.ref D] H2 Q) H) ∨ (J.go i H ∧ ∃ Nx : Hp → Prop, (∀ H', Nx H' → ∃ m', m' < m ∧ W (i + 1) m' H') ∧ ∀ x H', J.yld i H x H' → gName 1 x (wipe [some (.ref a), none] [1]) H' fun σ2 H2 => wipe σ2 [1] = wipe [some (.ref a), none] [1] ∧ tYes σ2 H2 fun b H3 =>
            if b = true then tCall (spBelow K) [] E0 (tCons (tVar 1) (tCons (tC (V.int 256)) tNil)) σ2 H3 fun y H4 => ∃ acc, H4 D = some (.lst acc) ∧ acc.length < sizeLine ∧ Nx (upd H4 D (.lst (acc ++ [y]))) else Nx H3) := fun H1 s1 J G w D hD hG => by
        refine lc_grow w (fun i => (xs[i]?).map fun y => .bl (isBelow 256 y)) hD hl hG (fun i x H2 H3 hi s2 y Nx Ny hN _ => ?_) (fun H2 s2 e => ?_)
        · obtain ⟨rfl, hx'⟩ := y
          refine ⟨rfl, ?_⟩
          refine yes_of ?_
          exact ⟨_, rfl, x, 256, rfl, (ho x (List.mem_of_getElem? hx')).same (fun b o z => s2 _ _ (s1 _ _ z)), hN _ _ (by rw [hx']; rfl) (Same.refl _)⟩
        · rw [range_mapG] at e
          refine ⟨D, xs.map (isBelow 256), rfl, SqL.of (by rw [e, List.map_map]; rfl), ?_⟩
          rw [List.all_map]
          exact q _ (fun b o z => s2 _ _ (s1 _ _ z))
      have is : Is K H (.ref a) "list" ∨ Is K H (.ref a) "tuple" := by
        rcases hx with h | h
        · exact .inl (is_lst h)
        · exact .inr (is_tup h)
      have start : ∀ n, Is K H (.ref a) n → (n == "list" || n == "tuple") = true → tRet (tAndV (tCall (spSeq K) [] E0 (tCons (tVar 0) tNil)) (tCB (rAll K) (tCons (tLc (fun σ H_1 R => iList K (tVar 0) σ H_1 R ∨ iTup K (tVar 0) σ H_1 R) (gName 1) tYes (tCall (spBelow K) [] E0 (tCons (tVar 1) (tCons (tC (V.int 256)) tNil))) [1]) tNil)))
          { nx := fun x H' => Q V.non H', rt := Q } (L2.start nAreSigns [V.ref a]) H := fun n is e => by
        refine ⟨_, rfl, _, n, rfl, is, fun H1 s1 => ⟨_, rfl, ?_⟩⟩
        rw [e, if_pos rfl]
        rcases hx with h | h
        · exact .inl ⟨_, rfl, a, rfl, ⟨_, sqL_same s1 h⟩, fun D hD => go H1 s1 walk_list D hD (fun H2 s2 => sqL_same s2 (sqL_same s1 h))⟩
        · exact .inr ⟨_, rfl, a, rfl, ⟨_, sqT_same s1 h⟩, fun D hD => go H1 s1 walk_tup D hD (fun H2 s2 => sqT_same s2 (sqT_same s1 h))⟩
      rcases is with is | is
      · exact start _ is rfl
      · exact start _ is rfl
    · refine ⟨_, rfl, x, n, rfl, is, fun H1 s1 => ⟨_, rfl, ?_⟩⟩
      rw [en, if_neg (by decide)]
      exact q _ s1
end
end K68


set_option Elab.async false
set_option linter.all false
set_option maxRecDepth 100000
set_option maxHeartbeats 4000000
namespace K68
open PySem L2
def plcL : Int → List Int → List Int
  | _, [] => []
  | k, x :: r => x * k :: plcL (k + 1) r
theorem plcL_sum : ∀ (l : List Int) (k : Int), (plcL k l).sum = plc k l
  | [], _ => rfl
  | x :: r, k => by
    show x * k + (plcL (k + 1) r).sum = x * k + plc (k + 1) r
    rw [plcL_sum r]
theorem range_plc : ∀ (l : List Int) (k : Int), (List.range l.length).filterMap (fun (i : Nat) => (l[i]?).map fun z => V.int (z * ((i : Int) + k))) = (plcL k l).map V.int
  | [], _ => rfl
  | x :: r, k => by
    rw [List.length_cons, List.range_succ_eq_map, List.filterMap_cons]
    simp only [List.getElem?_cons_zero, Option.map_some, List.filterMap_map, plcL, List.map_cons]
    rw [← range_plc r (k + 1)]
    congr 1
    · congr 2
      omega
    · congr 1
      funext i
      simp only [Function.comp, List.getElem?_cons_succ]
      congr 1
      funext z
      congr 2
      omega
structure TxtG (mg : Str → Option Value) : Prop where
  prime : ∃ t, mg "PRIME" = some (.int 65521 t)
def spTwoSums (K : PySem.W.Frag) : Sp := fun vs H Q _ => ∃ (a : Addr) (ns : List Int), vs = [.ref a] ∧ SqA K H a (ns.map V.int) ∧ ns.length ≤ 1000000 ∧
  ∀ (p : Addr) (H' : Hp), Same H H' → H' p = some (.tup [.int (sumsOf ns).1, .int (sumsOf ns).2]) → Q (.ref p) H'
def spTwoSigns : Sp := fun vs H Q _ => ∃ n : Int, vs = [.int n] ∧ ∀ (p : Addr) (H' : Hp), Same H H' → H p = none → H' p = some (.lst ((two n).map V.int)) → Q (.ref p) H'
section
variable {P : Program} {w : World} {K : PySem.W.Frag} {mg : Str → Option Value} {base : Heap}
theorem ok_twoSigns {f : Addr} {fd : FuncData} (F : Fun K "two_signs" "two_signs" sTwoSigns f fd) : FnOk P w K mg base CX0 1 f fd ["number"] spTwoSigns := by
  refine F.ok scTwoSigns (fun vs H Q E h => ?_) (fun cdv A outer s H vs Q E hr h => ?_)
  · obtain ⟨n, rfl, _⟩ := h
    rfl
  · obtain ⟨n, rfl, q⟩ := h
    refine ⟨_, pss_one (ps_ret (pe_lst (pa_cons (pe_op op_mod (pv 0) pe_int) (pa_cons (pe_op op_fdiv (pv 0) pe_int) pa_nil)))), ?_⟩
    refine ⟨_, rfl, _, _, rfl, rfl, (by show (0 : Int) < 256; decide), _, rfl, _, _, rfl, rfl, ⟨by decide, by decide⟩, by show 2 ≤ sizeLine; decide, fun p np => ?_⟩
    exact q p _ (same_new np) np upd_same
theorem ok_twoSums {f : Addr} {fd : FuncData} (F : Fun K "two_sums" "two_sums" sTwoSums f fd) (T : TxtP K mg) (G : TxtG mg) : FnOk P w K mg base CX0 1 f fd ["signs"] (spTwoSums K) := by
  obtain ⟨tp, gp⟩ := G.prime
  refine F.ok scTwoSums (fun vs H Q E h => ?_) (fun cdv A outer s H vs Q E hr h => ?_)
  · obtain ⟨a, ns, rfl, _⟩ := h
    rfl
  · obtain ⟨a, ns, rfl, hs, hl, q⟩ := h
    refine ⟨_, pss_cons (ps_set (i := 1) scTwoSums.nd rfl (Or.inl rfl) (pe_callB (CallR.or (cr_sum rfl) (cr_sumT rfl)) (by rfl) T.sum (by decide +kernel) (pa_cons (pv 0) pa_nil)))
      (pss_cons (ps_set (i := 2) scTwoSums.nd rfl (Or.inl rfl) (pe_callB (cr_sum rfl) (by rfl) T.sum (by decide +kernel) (pa_cons
        (pe_lc (own := [("at", 3), ("sign", 4)]) (g := gTup K 2 (gCons (gName 3) (gCons (gName 4) gNil))) (tt := tYes) rfl scTwoSums.nd (PI.or (pi_enum (by rfl) T.enumerate (pa_cons (pv 0) pa_nil)) (pi_enumT (by rfl) T.enumerate (pa_cons (pv 0) pa_nil)))
          (blkOk_by (N := nTwoSums) (sc := defScope sTwoSums) (by decide +kernel))
          (fun _ _ _ _ _ => pg_tup (by rfl) (pgs_cons (pg_name (i := 3) scTwoSums.nd rfl (Or.inl rfl)) (pgs_cons (pg_name (i := 4) scTwoSums.nd rfl (Or.inl rfl)) pgs_nil))) (fun _ _ _ _ _ => pts_nil)
          (fun _ _ _ _ _ => pe_op op_mul (pv 4) (pe_op op_add (pv 3) pe_int))) pa_nil)))
      (pss_one (ps_ret (pe_tup (pa_cons (pe_op op_mod (pv 1) (pe_glob (v := .int 65521) (by rfl) gp ⟨_, rfl⟩)) (pa_cons (pe_op op_mod (pv 2) (pe_glob (v := .int 65521) (by rfl) gp ⟨_, rfl⟩)) pa_nil)))))), ?_⟩
    have fin : ∀ {J : It} {G : Hp → Prop} (w : Walk J (ns.map V.int).length G (YPair (fun i => some (.int (i : Nat))) (fun i => (ns.map V.int)[i]?))) (D : Addr) (Qd : Hp → Prop), H D = none → (∀ H2, Same H H2 → G H2) →
        (∀ H2, Same H H2 → H2 D = some (.lst ((plcL 1 ns).map V.int)) → Qd H2) → ∃ W : Nat → Nat → Hp → Prop, (∃ m, W 0 m (upd H D (.lst []))) ∧ ∀ i m H, W i m H →
          (J.stop i H ∧ Qd H) ∨ (J.go i H ∧ ∃ Nx : Hp → Prop, (∀ H', Nx H' → ∃ m', m' < m ∧ W (i + 1) m' H') ∧ ∀ x H', J.yld i H x H' → gTup K 2 (gCons (gName 3) (gCons (gName 4) gNil)) x (wipe [some (.ref a), some (.int ns.sum), none, none, none] [3, 4]) H' fun σ2 H2 => wipe σ2 [3, 4] = wipe [some (.ref a), some (.int ns.sum), none, none, none] [3, 4] ∧ tYes σ2 H2 fun b H3 =>
            if b = true then tOp (rI CMul fun i j => V.int (i * j)) (tVar 4) (tOp (rI0 fun i j => V.int (i + j)) (tVar 3) (tC (V.int 1))) σ2 H3 fun y H4 => ∃ acc, H4 D = some (.lst acc) ∧ acc.length < sizeLine ∧ Nx (upd H4 D (.lst (acc ++ [y]))) else Nx H3) := fun w D Qd hD hG hd => by
      refine lc_grow w (fun i => (ns[i]?).map fun z => V.int (z * ((i : Int) + 1))) hD (by rw [List.length_map]; exact hl) hG (fun i x H2 H3 hi s2 y Nx Ny hN _ => ?_) (fun H2 s2 e => hd H2 s2 ?_)
      · obtain ⟨t, x', y', rfl, nt, rfl, ex, ey⟩ := y
        cases ex
        have ey : (ns.map V.int)[i]? = some y' := ey
        rw [List.getElem?_map] at ey
        cases en : ns[i]? with
        | none =>
          rw [en] at ey
          cases ey
        | some z =>
          rw [en] at ey
          cases ey
          refine ⟨t, _, rfl, .inl (.inl upd_same), rfl, _, _, rfl, _, _, rfl, rfl, rfl, ?_⟩
          refine yes_of ?_
          rw [List.length_map] at hi
          refine ⟨_, rfl, _, rfl, _, _, rfl, rfl, _, _, rfl, rfl, .inr ⟨?_, ?_⟩, hN _ _ (by rw [en]; rfl) (same_new nt)⟩
          · show -(2 ^ 64) < (i : Int) + 1
            omega
          · show (i : Int) + 1 < 2 ^ 64
            omega
      · rw [List.length_map] at e
        rw [e, range_plc]
    have step : ∀ (D : Addr) (H2 : Hp), Same H H2 → H2 D = some (.lst ((plcL 1 ns).map V.int)) → rSum K [.ref D] H2 fun x H3 => tSeq (tAsg (tC x) (gName 2)) (tRet (tTup (tCons (tOp (rI (fun _ j => 0 < j) fun i j => V.int (i % j)) (tVar 1) (tC (V.int 65521))) (tCons (tOp (rI (fun _ j => 0 < j) fun i j => V.int (i % j)) (tVar 2) (tC (V.int 65521))) tNil))))
        { nx := fun x H' => Q V.non H', rt := Q } [some (.ref a), some (.int ns.sum), none, none, none] H3 := fun D H2 s2 e => by
      refine ⟨D, plcL 1 ns, rfl, SqL.of e, ?_⟩
      refine ⟨_, rfl, _, _, rfl, rfl, (by show (0 : Int) < 65521; decide), _, rfl, _, _, rfl, rfl, (by show (0 : Int) < 65521; decide), by show 2 ≤ sizeLine; decide, fun p np => ?_⟩
      refine q p _ (fun b o z => same_new np _ _ (s2 _ _ z)) ?_
      rw [upd_same, plcL_sum]
      rfl
    rcases hs with h | h
    · refine ⟨_, rfl, .inl ⟨a, ns, rfl, h, .inl ⟨_, rfl, a, _, rfl, h, fun D hD => ?_⟩⟩⟩
      exact fin walk_enum D _ hD (fun H2 s2 => sqL_same s2 h) fun H2 s2 e => step D H2 s2 e
    · refine ⟨_, rfl, .inr ⟨a, ns, rfl, h, .inr ⟨_, rfl, a, _, rfl, h, fun D hD => ?_⟩⟩⟩
      exact fin walk_enumT D _ hD (fun H2 s2 => sqT_same s2 h) fun H2 s2 e => step D H2 s2 e
end
end K68


set_option Elab.async false
set_option linter.all false
set_option maxRecDepth 100000
set_option maxHeartbeats 4000000
namespace K68
open PySem L2
theorem it_true {c : Bool} {A B : Prop} (hc : c = true) (h : A) : if c = true then A else B := by
  rw [if_pos hc]
  exact h
theorem it_false {c : Bool} {A B : Prop} (hc : c = false) (h : B) : if c = true then A else B := by
  rw [hc, if_neg Bool.false_ne_true]
  exact h
/-- a pair of a number and a place, or None -/
def spReadNum (K : PySem.W.Frag) : Sp := fun vs H Q _ => ∃ (a : Addr) (ns : List Int) (at_ : Nat), vs = [.ref a, .int at_] ∧ SqA K H a (ns.map V.int) ∧ Bytes ns ∧ ns.length ≤ 1000000 ∧ at_ ≤ ns.length ∧
  (numS (ns.drop at_) = none → Q .non H) ∧
  (∀ v u, numS (ns.drop at_) = some (v, u) → ∀ (p : Addr) (H' : Hp), Same H H' → H' p = some (.tup [.int v, .int ((at_ + u : Nat) : Int)]) → Q (.ref p) H')
theorem atI_map {ns : List Int} {j : Nat} (h : j < ns.length) : atI (ns.map V.int) (j : Int) = some (.int (ns[j])) :=
  atI_nat (by rw [List.getElem?_map, List.getElem?_eq_getElem h]; rfl)
theorem drop_at {ns : List Int} {j : Nat} (h : j < ns.length) : ns.drop j = ns[j] :: ns.drop (j + 1) := List.drop_eq_getElem_cons h
def left4 (n : Nat) (σ : L2.St) : Nat := match σ[4]? with
  | some (some (V.int i)) => n - i.toNat
  | _ => 0
/-- how far the reading is: j signs behind the beginning -/
def NumInv (s : List Int) (j : Nat) (number unit : Int) : Prop := (j = 0 ∧ number = 0 ∧ unit = 1) ∨
  (0 < j ∧ numS s = (numT (s.drop j)).map fun p => (number + unit * p.1, j + p.2))
def NumAt (H : Hp) (a : Addr) (at_ : Nat) (ns : List Int) (σ : L2.St) (H' : Hp) : Prop := H' = H ∧ ∃ (j : Nat) (number unit : Int),
  σ = [some (.ref a), some (.int at_), some (.int number), some (.int unit), some (.int ((at_ + j : Nat) : Int))] ∧ at_ + j ≤ ns.length ∧ NumInv (ns.drop at_) j number unit
theorem num_step {s : List Int} {j : Nat} {number unit x : Int} (h : NumInv s j number unit) (hj : j < s.length) (hx : s[j] = x) (c : x > 127) : NumInv s (j + 1) (number + (x - 128) * unit) (unit * 128) := by
  right
  refine ⟨by omega, ?_⟩
  rcases h with ⟨rfl, rfl, rfl⟩ | ⟨h0, h⟩
  · have e : s = s[0] :: s.drop 1 := by
      have := List.drop_eq_getElem_cons hj
      simpa using this
    rw [hx] at e
    generalize hr : s.drop 1 = r at e
    subst e
    show (if x > 127 then (numT r).map _ else _) = _
    rw [if_pos c]
    show _ = (numT r).map _
    cases numT r with
    | none => rfl
    | some p =>
      simp only [Option.map_some]
      congr 2
      · omega
      · omega
  · rw [h, List.drop_eq_getElem_cons hj, hx]
    show ((if x > 127 then (numT (s.drop (j + 1))).map _ else _ : Option (Int × Nat))).map _ = _
    rw [if_pos c]
    cases numT (s.drop (j + 1)) with
    | none => rfl
    | some p =>
      simp only [Option.map_some]
      congr 2
      · rw [Int.mul_add, ← Int.mul_assoc, Int.mul_comm unit (x - 128)]
        omega
      · omega
theorem num_end {s : List Int} {j : Nat} {number unit : Int} (h : NumInv s j number unit) (hj : ¬ j < s.length) : numS s = none := by
  rcases h with ⟨rfl, _, _⟩ | ⟨h0, h⟩
  · have : s = [] := List.length_eq_zero_iff.mp (by omega)
    rw [this]
    rfl
  · rw [h, List.drop_of_length_le (by omega)]
    rfl
theorem num_last {s : List Int} {j : Nat} {number unit x : Int} (h : NumInv s j number unit) (hj : j < s.length) (hx : s[j] = x) (c : ¬ x > 127) : numS s = if x = 0 ∧ 0 < j then none else some (number + x * unit, j + 1) := by
  rcases h with ⟨rfl, rfl, rfl⟩ | ⟨h0, h⟩
  · have e : s = s[0] :: s.drop 1 := by
      have := List.drop_eq_getElem_cons hj
      simpa using this
    rw [hx] at e
    rw [e]
    show (if x > 127 then _ else some (x, 1)) = _
    rw [if_neg c, if_neg (by omega)]
    congr 2
    omega
  · rw [h, List.drop_eq_getElem_cons hj, hx]
    show ((if x > 127 then _ else if x = 0 then none else some (x, 1) : Option (Int × Nat))).map _ = _
    rw [if_neg c]
    by_cases z : x = 0
    · rw [if_pos z, if_pos ⟨z, h0⟩]
      rfl
    · rw [if_neg z, if_neg (fun q => z q.1)]
      simp only [Option.map_some]
      rw [Int.mul_comm unit x]
section
variable {P : Program} {w : World} {K : PySem.W.Frag} {mg : Str → Option Value} {base : Heap}
theorem ok_readNum {f : Addr} {fd : FuncData} (F : Fun K "read_number" "read_number" sReadNumber f fd) (T : TxtP K mg) : FnOk P w K mg base CX0 1 f fd ["signs", "at"] (spReadNum K) := by
  refine F.ok scReadNumber (fun vs H Q E h => ?_) (fun cdv A outer s H vs Q E hr h => ?_)
  · obtain ⟨a, ns, at_, rfl, _⟩ := h
    rfl
  · obtain ⟨a, ns, at_, rfl, hs, hb, hl, ha, qn, qs⟩ := h
    refine ⟨_, pss_cons (ps_par3 (i := 2) (j := 3) (l := 4) rfl scReadNumber.nd rfl rfl rfl (by decide) (by decide) (by decide) rfl rfl rfl (pa_cons pe_int (pa_cons pe_int (pa_cons (pv 1) pa_nil))) (by rfl))
      (pss_cons (ps_while PassesOwn.never (PW.pt (pw_and (pt_cmpR op_lt (pv 4) (pe_callB call_len_seq (by rfl) T.len PySem.boot_len (pa_cons (pv 0) pa_nil)) (nomark _))
          (pw_and1 (pt_cmpR op_gt (pe_ix ix_any (pv 0) (pv 4) (fun _ _ => rfl)) pe_int (nomark _)))))
        (pss_cons (ps_aug (i := 2) scReadNumber.nd rfl (.inl rfl) (pe_op op_mul (pe_op op_sub (pe_ix ix_any (pv 0) (pv 4) (fun _ _ => rfl)) pe_int) (pv 3)) ip_add)
        (pss_cons (ps_set (i := 3) scReadNumber.nd rfl (Or.inl rfl) (pe_op op_mul (pv 3) pe_int))
        (pss_one (ps_aug (i := 4) scReadNumber.nd rfl (.inl rfl) pe_int ip_add)))))
      (pss_cons (ps_if (PW.pt (pw_or (pt_cmpR op_eq (pv 4) (pe_callB call_len_seq (by rfl) T.len PySem.boot_len (pa_cons (pv 0) pa_nil)) (nomark _))
          (pw_or1 (PW.pt (pw_and (pt_cmpR op_eq (pe_ix ix_any (pv 0) (pv 4) (fun _ _ => rfl)) pe_int (nomark _)) (pw_and1 (pt_cmpR op_gt (pv 4) (pv 1) (nomark _))))))))
        (pss_one (ps_ret pe_non)) pss_nil)
      (pss_one (ps_ret (pe_tup (pa_cons (pe_op op_add (pv 2) (pe_op op_mul (pe_ix ix_any (pv 0) (pv 4) (fun _ _ => rfl)) (pv 3))) (pa_cons (pe_op op_add (pv 4) pe_int) pa_nil))))))), ?_⟩
    have ll : (ns.map V.int).length = ns.length := List.length_map ..
    refine ⟨_, rfl, _, _, _, rfl, ?_⟩
    refine ⟨fun m σ H' => m = left4 ns.length σ ∧ NumAt H a at_ ns σ H', ⟨_, rfl, rfl, 0, 0, 1, rfl, ha, .inl ⟨rfl, rfl, rfl⟩⟩, ?_⟩
    · rintro m σ H' ⟨rfl, rfl, j, number, unit, rfl, hj, inv⟩
      refine ⟨_, rfl, _, rfl, a, _, rfl, hs, ?_⟩
      refine ⟨_, _, rfl, rfl, _, rfl, ?_⟩
      rw [ll]
      refine ite2 (fun c => ?_) (fun c => ?_)
      · have hj' : at_ + j < ns.length := by
          have := of_decide_eq_true c
          omega
        have hx : (ns.drop at_)[j]'(by rw [List.length_drop]; omega) = ns[at_ + j] := by
          rw [List.getElem_drop]
        refine ⟨_, rfl, _, rfl, ask_ix hs (atI_map hj') ?_⟩
        refine ⟨_, _, rfl, rfl, _, rfl, ?_⟩
        refine ite2 (fun c2 => ?_) (fun c2 => ?_)
        · have hc : ns[at_ + j] > 127 := of_decide_eq_true c2
          have hbx := hb _ (List.getElem_mem hj')
          refine ⟨fun σ' H2 => left4 ns.length σ' < ns.length - (((at_ + j : Nat) : Int)).toNat ∧ NumAt H' a at_ ns σ' H2, fun σ' H2 h => ⟨_, h.1, rfl, h.2⟩, ?_⟩
          refine ⟨_, rfl, _, rfl, _, rfl, ask_ix hs (atI_map hj') ?_⟩
          refine ⟨_, _, rfl, rfl, _, rfl, _, _, rfl, rfl, .inl ⟨?_, ?_⟩, _, _, rfl, rfl, ?_⟩
          · show -(2 ^ 64) < ns[at_ + j] - 128
            omega
          · show ns[at_ + j] - 128 < 2 ^ 64
            omega
          refine ⟨_, rfl, _, _, rfl, rfl, .inr ⟨by decide, by decide⟩, ?_⟩
          refine ⟨_, rfl, _, _, rfl, rfl, ?_⟩
          refine ⟨?_, rfl, j + 1, _, _, rfl, by omega, num_step inv (by rw [List.length_drop]; omega) hx hc⟩
          show ns.length - (((at_ + j : Nat) : Int) + 1).toNat < ns.length - (((at_ + j : Nat) : Int)).toNat
          omega
        · have hc : ¬ ns[at_ + j] > 127 := fun z => c2 (decide_eq_true z)
          have e := num_last inv (by rw [List.length_drop]; omega) hx hc
          refine ⟨_, rfl, _, rfl, a, _, rfl, hs, rfl, _, rfl, ?_⟩
          have ne : decide (V.int (((at_ + j : Nat) : Int)) = V.int ((ns.map V.int).length : Int)) = false := decide_eq_false (by intro z; injection z with z; omega)
          refine it_false ne ?_
          refine ⟨_, rfl, _, rfl, ask_ix hs (atI_map hj') ⟨rfl, _, rfl, ?_⟩⟩
          refine ite2 (fun c3 => ?_) (fun c3 => ?_)
          · have z0 : ns[at_ + j] = 0 := by
              have := of_decide_eq_true c3
              injection this
            refine ⟨_, rfl, _, rfl, _, _, rfl, rfl, _, rfl, ?_⟩
            refine ite2 (fun c4 => ?_) (fun c4 => ?_)
            · have p0 : 0 < j := by
                have := of_decide_eq_true c4
                omega
              rw [if_pos ⟨z0, p0⟩] at e
              exact qn e
            · have p0 : ¬ 0 < j := fun z => c4 (decide_eq_true (by omega))
              rw [if_neg (fun q => p0 q.2)] at e
              refine ⟨_, rfl, _, rfl, _, rfl, ask_ix hs (atI_map hj') ?_⟩
              refine ⟨_, rfl, _, _, rfl, rfl, .inl ⟨?_, ?_⟩, _, _, rfl, rfl, _, rfl, _, _, rfl, rfl, by show 2 ≤ sizeLine; decide, fun p np => ?_⟩
              · omega
              · omega
              · refine qs _ _ e p _ (same_new np) ?_
                rw [upd_same]
                congr 4
          · have z0 : ns[at_ + j] ≠ 0 := fun z => c3 (by rw [z]; exact decide_eq_true rfl)
            rw [if_neg (fun q => z0 q.1)] at e
            have hbx := hb _ (List.getElem_mem hj')
            refine ⟨_, rfl, _, rfl, _, rfl, ask_ix hs (atI_map hj') ?_⟩
            refine ⟨_, rfl, _, _, rfl, rfl, .inl ⟨?_, ?_⟩, _, _, rfl, rfl, _, rfl, _, _, rfl, rfl, by show 2 ≤ sizeLine; decide, fun p np => ?_⟩
            · omega
            · omega
            · refine qs _ _ e p _ (same_new np) ?_
              rw [upd_same]
              congr 4
      · have hj' : ¬ at_ + j < ns.length := fun z => c (decide_eq_true (by omega))
        have e := num_end inv (by rw [List.length_drop]; omega)
        refine ⟨_, rfl, _, rfl, a, _, rfl, hs, rfl, _, rfl, ?_⟩
        have ne : decide (V.int (((at_ + j : Nat) : Int)) = V.int ((ns.map V.int).length : Int)) = true := decide_eq_true (by congr 1; omega)
        refine it_true ne ?_
        exact qn e
end
end K68


set_option Elab.async false
set_option linter.all false
set_option maxRecDepth 100000
set_option maxHeartbeats 4000000
namespace K68
open PySem L2
/-! ### values in the heap -/
mutual
inductive Tv (H : Hp) : PyData → V → Prop
  | non : Tv H .none .non
  | bl (b : Bool) : Tv H (.bool b) (.bl b)
  | int (i : Int) : Tv H (.int i) (.int i)
  | str (x : Str) : Tv H (.str x) (.str x)
  | tup {a : Addr} {ds : List PyData} {xs : List V} : H a = some (.tup xs) → TvAll H ds xs → Tv H (.tuple ds) (.ref a)
inductive TvAll (H : Hp) : List PyData → List V → Prop
  | nil : TvAll H [] []
  | cons {d : PyData} {ds : List PyData} {x : V} {xs : List V} : Tv H d x → TvAll H ds xs → TvAll H (d :: ds) (x :: xs)
end
/-- tuples stay -/
def TS (H H' : Hp) : Prop := ∀ a xs, H a = some (.tup xs) → H' a = some (.tup xs)
theorem TS.refl (H : Hp) : TS H H := fun _ _ h => h
theorem TS.trans {H H1 H2 : Hp} (a : TS H H1) (b : TS H1 H2) : TS H H2 := fun c o h => b c o (a c o h)
theorem ts_same {H H' : Hp} (s : Same H H') : TS H H' := fun a xs h => s a _ h
mutual
theorem Tv.mono {H H' : Hp} (s : TS H H') : ∀ {d : PyData} {x : V}, Tv H d x → Tv H' d x
  | _, _, .non => .non
  | _, _, .bl b => .bl b
  | _, _, .int i => .int i
  | _, _, .str x => .str x
  | _, _, .tup h r => .tup (s _ _ h) (TvAll.mono s r)
theorem TvAll.mono {H H' : Hp} (s : TS H H') : ∀ {ds : List PyData} {xs : List V}, TvAll H ds xs → TvAll H' ds xs
  | _, _, .nil => .nil
  | _, _, .cons h r => .cons (Tv.mono s h) (TvAll.mono s r)
end
mutual
theorem Tv.dp {K : PySem.W.Frag} {H : Hp} : ∀ {d : PyData} {x : V}, Tv H d x → Dp K H x d
  | _, _, .non => .non
  | _, _, .bl b => .bl b
  | _, _, .int i => .int i
  | _, _, .str x => .str x
  | _, _, .tup h r => .tup (.inl (.inl h)) (TvAll.dp r)
theorem TvAll.dp {K : PySem.W.Frag} {H : Hp} : ∀ {ds : List PyData} {xs : List V}, TvAll H ds xs → DpAll K H xs ds
  | _, _, .nil => .nil
  | _, _, .cons h r => .cons (Tv.dp h) (TvAll.dp r)
end
theorem TvAll.len {H : Hp} : ∀ {ds : List PyData} {xs : List V}, TvAll H ds xs → xs.length = ds.length
  | _, _, .nil => rfl
  | _, _, .cons _ r => by rw [List.length_cons, List.length_cons, TvAll.len r]
theorem TvAll.snoc {H : Hp} : ∀ {ds : List PyData} {xs : List V} {d : PyData} {x : V}, TvAll H ds xs → Tv H d x → TvAll H (ds ++ [d]) (xs ++ [x])
  | _, _, _, _, .nil, h => .cons h .nil
  | _, _, _, _, .cons h r, k => .cons h (TvAll.snoc r k)
/-! ### slices -/
theorem cut_nat {α : Type} {xs : List α} (b e : Nat) : (xs.drop (HT.sIx xs.length 0 (some (b : Int)))).take (HT.sIx xs.length xs.length (some (e : Int)) - HT.sIx xs.length 0 (some (b : Int))) = (xs.drop b).take (e - b) := by
  rw [HT.sIx_nat, HT.sIx_nat]
  by_cases hb : b ≤ xs.length
  · rw [Nat.min_eq_left hb]
    by_cases he : e ≤ xs.length
    · rw [Nat.min_eq_left he]
    · rw [Nat.min_eq_right (by omega), List.take_of_length_le (by rw [List.length_drop]; omega), List.take_of_length_le (by rw [List.length_drop]; omega)]
  · rw [List.drop_of_length_le (by rw [Nat.min_eq_right (by omega)]; omega), List.drop_of_length_le (by omega)]
    simp
theorem cutV_nat {xs : List V} (b e : Nat) : cutV xs (some (b : Int)) (some (e : Int)) = (xs.drop b).take (e - b) := cut_nat b e
theorem cutV_to {xs : List V} (e : Nat) : cutV xs none (some (e : Int)) = xs.take e := by
  unfold cutV
  rw [HT.sIx_none, HT.sIx_nat, Nat.sub_zero, List.drop_zero]
  by_cases h : e ≤ xs.length
  · rw [Nat.min_eq_left h]
  · rw [Nat.min_eq_right (by omega), List.take_of_length_le (Nat.le_refl _), List.take_of_length_le (by omega)]
theorem sIx_neg {n d : Nat} {k : Int} (h : k < 0) : HT.sIx n d (some k) = (k + n).toNat := if_pos h
/-! ### letters -/
def one (c : Nat) : Str := ⟨#[c]⟩
theorem join_one : ∀ l : List Nat, Txt.join ⟨#[]⟩ (l.map one) = ⟨l.toArray⟩ := fun l => by
  show Builtin.Str.glued _ _ = _
  rw [StrLaws.glued_eq_join]
  induction l with
  | nil => rfl
  | cons c r ih =>
    cases r with
    | nil => rfl
    | cons d r =>
      show (one c ++ (⟨#[]⟩ : Str)) ++ Str.join ⟨#[]⟩ ((d :: r).map one) = _
      rw [ih]
      show (⟨(#[c] ++ #[]) ++ (d :: r).toArray⟩ : Str) = _
      simp
def letters : List Nat := (List.range 95).map (· + 32) |>.filter (· != 37)
theorem letters_at : ∀ c, c < 127 → 32 ≤ c → c ≠ 37 → letters[if c < 37 then c - 32 else c - 33]? = some c := by decide +kernel
end K68


set_option Elab.async false
set_option linter.all false
set_option maxRecDepth 100000
set_option maxHeartbeats 4000000
namespace K68
open PySem L2
def lettersS : Str := ⟨letters.toArray⟩
structure TxtG2 (mg : Str → Option Value) : Prop extends TxtG mg where
  percent : ∃ t, mg "PERCENT" = some (.int 37 t)
  letters : ∃ t, mg "LETTERS" = some (.str lettersS t)
  deepest : ∃ t, mg "DEEPEST" = some (.int 10 t)
  most : ∃ t, mg "MOST_SIGNS" = some (.int 4096 t)
def spLetters (K : PySem.W.Frag) : Sp := fun vs H Q _ => ∃ (a : Addr) (ns : List Int) (b : Nat) (m : Int), vs = [.ref a, .int b, .int m] ∧ SqA K H a (ns.map V.int) ∧ Bytes ns ∧ ns.length ≤ 1000000 ∧ 0 ≤ m ∧
  (lettersOf (ns.drop b) m = none → ∀ H', Same H H' → Q .non H') ∧
  (∀ z k, lettersOf (ns.drop b) m = some (.str z, k) → ∀ (p : Addr) (H' : Hp), Same H H' → H' p = some (.tup [.str z, .int ((b + k : Nat) : Int)]) → Q (.ref p) H')
theorem sum_ones : ∀ l : List Int, (((l.map Int.toNat).map one).map (·.length)).sum = l.length
  | [] => rfl
  | z :: r => by
    simp only [List.map_cons, List.sum_cons, List.length_cons]
    rw [sum_ones r]
    show 1 + r.length = r.length + 1
    omega
theorem letters_len : letters.length = 94 := by decide +kernel
theorem okCode_iff {c : Int} : okCode c = true ↔ (32 ≤ c ∧ c ≤ 126) ∧ c ≠ 37 := by
  unfold okCode
  simp
/-- all of a list or a tuple, a comprehension: over either -/
theorem over {K : PySem.W.Frag} {H : Hp} {a : Addr} {xs : List V} (h : SqA K H a xs) {R : It → Hp → Prop} (hl : SqL K H a xs → R (Itl K a) H) (ht : SqT K H a xs → R (Itt K a) H) {σ : L2.St} {i : Nat} (e : σ[i]? = some (some (.ref a))) :
    iList K (tVar i) σ H R ∨ iTup K (tVar i) σ H R := by
  rcases h with h | h
  · exact .inl ⟨_, e, a, rfl, ⟨_, h⟩, hl h⟩
  · exact .inr ⟨_, e, a, rfl, ⟨_, h⟩, ht h⟩
/-- a comprehension over ints in a list or tuple, each turn telling g of its item -/
theorem lc_ints {K : PySem.W.Frag} {H1 : Hp} {c : Addr} {cs : List Int} (h : SqA K H1 c (cs.map V.int)) (hl : cs.length ≤ 1000000) {i j : Nat} {te : TE} {σ : L2.St} (g : Int → V) {Q : VK} (e : σ[j]? = some (some (.ref c)))
    (hw : ∀ z : Int, wipe ((wipe σ [i]).set i (some (.int z))) [i] = wipe σ [i])
    (step : ∀ z ∈ cs, ∀ H2, Same H1 H2 → ∀ Nx : VK, (∀ H4, Same H2 H4 → Nx (g z) H4) → te ((wipe σ [i]).set i (some (.int z))) H2 Nx)
    (fin : ∀ D H2, Same H1 H2 → H2 D = some (.lst (cs.map g)) → Q (.ref D) H2) :
    tLc (fun σ H R => iList K (tVar j) σ H R ∨ iTup K (tVar j) σ H R) (gName i) tYes te [i] σ H1 Q := by
  have go : ∀ {J : It} {G : Hp → Prop} (w : Walk J (cs.map V.int).length G (YAt (cs.map V.int))) (D : Addr), H1 D = none → (∀ H2, Same H1 H2 → G H2) → _ := fun {J G} w D hD hG =>
    lc_grow (te := te) (g := gName i) (tt := tYes) (vs := [i]) (σ := σ) (Qd := fun H2 => Q (.ref D) H2) w (fun k => (cs[k]?).map g) hD (by rw [List.length_map]; exact hl) hG
      (fun k x H2 H3 hi s2 y Nx Ny hN _ => by
        obtain ⟨rfl, hx⟩ := y
        rw [List.getElem?_map] at hx
        cases ek : cs[k]? with
        | none =>
          rw [ek] at hx
          cases hx
        | some z =>
          rw [ek] at hx
          cases hx
          exact ⟨hw z, yes_of (step z (List.mem_of_getElem? ek) _ s2 _ fun H4 s4 => hN _ _ (by rw [ek]; rfl) s4)⟩)
      (fun H2 s2 ed => fin D H2 s2 (by
        rw [List.length_map] at ed
        rw [ed]
        have r := range_mapG g cs
        rw [r]))
  rcases h with h | h
  · exact .inl ⟨_, e, c, rfl, ⟨_, h⟩, fun D hD => go walk_list D hD fun H2 s2 => sqL_same s2 h⟩
  · exact .inr ⟨_, e, c, rfl, ⟨_, h⟩, fun D hD => go walk_tup D hD fun H2 s2 => sqT_same s2 h⟩
section
variable {P : Program} {w : World} {K : PySem.W.Frag} {mg : Str → Option Value} {base : Heap}
theorem ok_letters {f : Addr} {fd : FuncData} (F : Fun K "read_letters" "read_letters" sReadLetters f fd) (T : TxtP K mg) (G : TxtG2 mg) : FnOk P w K mg base CX0 1 f fd ["signs", "begin", "many"] (spLetters K) := by
  obtain ⟨tp, gp⟩ := G.percent
  obtain ⟨tl, gl⟩ := G.letters
  refine F.ok scReadLetters (fun vs H Q E h => ?_) (fun cdv A outer s H vs Q E hr h => ?_)
  · obtain ⟨a, ns, b, m, rfl, _⟩ := h
    rfl
  · obtain ⟨a, ns, b, m, rfl, hs, hb, hl, hm, qn, qs⟩ := h
    refine ⟨_, pss_cons (ps_set (i := 3) scReadLetters.nd rfl (Or.inl rfl) (pe_slice sl_any (pv 0) (po_some (pv 1)) (po_some (pe_op op_add (pv 1) (pv 2)))))
      (pss_cons (ps_if (PW.pt (pw_or (pt_cmpR op_lt (pe_callB call_len_seq (by rfl) T.len PySem.boot_len (pa_cons (pv 3) pa_nil)) (pv 2) (nomark _))
          (pw_or1 (pt_not (pt_val (pe_callB (cr_all rfl) (by rfl) T.all (by decide +kernel) (pa_cons
            (pe_lc (own := [("code", 5)]) (g := gName 5) (tt := tYes) rfl scReadLetters.nd (PI.or (pi_list (pv 3)) (pi_tup (pv 3))) (blkOk_by (N := nReadLetters) (sc := defScope sReadLetters) (by decide +kernel))
              (fun _ _ _ _ _ => pg_name (i := 5) scReadLetters.nd rfl (Or.inl rfl)) (fun _ _ _ _ _ => pts_nil)
              (fun _ _ _ _ _ => pe_and (pe_chain op_le op_le pe_int (pv 5) pe_int) (pe_one (pe_cmpR op_ne (pv 5) (pe_glob (v := .int 37) (by rfl) gp ⟨_, rfl⟩) (nomark _))))) pa_nil)))))))
        (pss_one (ps_ret pe_non)) pss_nil)
      (pss_cons (ps_set (i := 4) scReadLetters.nd rfl (Or.inl rfl) (pe_join pe_str
            (pe_lc (own := [("code", 5)]) (g := gName 5) (tt := tYes) rfl scReadLetters.nd (PI.or (pi_list (pv 3)) (pi_tup (pv 3))) (blkOk_by (N := nReadLetters) (sc := defScope sReadLetters) (by decide +kernel))
              (fun _ _ _ _ _ => pg_name (i := 5) scReadLetters.nd rfl (Or.inl rfl)) (fun _ _ _ _ _ => pts_nil)
              (fun _ _ _ _ _ => pe_ix ix_str (pe_glob (v := .str lettersS) (by rfl) gl ⟨_, rfl⟩) (pe_ifExp (pt_cmpR op_lt (pv 5) (pe_glob (v := .int 37) (by rfl) gp ⟨_, rfl⟩) (nomark _)) (pe_op op_sub (pv 5) pe_int) (pe_op op_sub (pv 5) pe_int)) (fun _ _ => rfl)))))
      (pss_one (ps_ret (pe_tup (pa_cons (pv 4) (pa_cons (pe_op op_add (pv 1) (pv 2)) pa_nil))))))), ?_⟩
    refine ⟨_, rfl, _, rfl, _, rfl, _, rfl, _, rfl, _, _, rfl, rfl, _, rfl, ?_⟩
    have em : ((b : Int) + m) = ((b + m.toNat : Nat) : Int) := by omega
    rw [em]
    refine ask_sl hs fun c H1 s1 hc => ?_
    rw [cutV_nat] at hc
    have ec : ((ns.map V.int).drop b).take (b + m.toNat - b) = ((ns.drop b).take m.toNat).map V.int := by
      rw [Nat.add_sub_cancel_left, List.map_take, List.map_drop]
    rw [ec] at hc
    have hcl : ((ns.drop b).take m.toNat).length ≤ 1000000 := by
      rw [List.length_take, List.length_drop]
      omega
    have hcb : Bytes ((ns.drop b).take m.toNat) := fun x hx => hb x (List.mem_of_mem_drop (List.mem_of_mem_take hx))
    generalize hcs : (ns.drop b).take m.toNat = cs at hc hcl hcb
    have hlet : lettersOf (ns.drop b) m = if (cs.length : Int) < m ∨ cs.all okCode = false then none else some (.str (strOf cs), m.toNat) := by
      unfold lettersOf
      rw [hcs]
    refine ⟨_, rfl, c, _, rfl, hc, ?_⟩
    refine ⟨_, rfl, _, _, rfl, rfl, _, rfl, ?_⟩
    have ll : (cs.map V.int).length = cs.length := List.length_map ..
    rw [ll]
    refine ite2 (fun c1 => ?_) (fun c1 => ?_)
    · have c1' := of_decide_eq_true c1
      exact qn (by rw [hlet, if_pos (.inl c1')]) H1 s1
    · have c1' : ¬ (cs.length : Int) < m := fun z => c1 (decide_eq_true z)
      refine ask_not (ask_B (ask_CB (ask_one (lc_ints hc hcl (i := 5) (j := 3) (fun z => .bl (okCode z)) (by rfl) (fun _ => by rfl) (fun z hz H2 s2 Nx hN => ?_) (fun D H2 s2 ed => ?_)))))
      · have key : okCode z = (decide ((32 : Int) ≤ z) && (decide (z ≤ 126) && !decide (V.int z = V.int 37))) := by
          unfold okCode
          have : decide (V.int z = V.int 37) = decide (z = 37) := by
            by_cases q : z = 37
            · simp [q]
            · simp [q]
          rw [this, Bool.decide_and, Bool.and_assoc, decide_not]
        refine ⟨_, rfl, _, _, rfl, rfl, _, rfl, ?_⟩
        refine ite2 (fun k1 => ?_) (fun k1 => ?_)
        · refine ⟨_, _, rfl, rfl, _, rfl, ?_⟩
          refine ite2 (fun k2 => ?_) (fun k2 => ?_)
          · refine ⟨_, rfl, rfl, ?_⟩
            have q := hN H2 (Same.refl _)
            rw [key, k1, k2] at q
            exact q
          · have k2' : decide (z ≤ 126) = false := by simpa using k2
            have q := hN H2 (Same.refl _)
            rw [key, k1, k2'] at q
            exact q
        · have k1' : decide ((32 : Int) ≤ z) = false := by simpa using k1
          refine ⟨_, rfl, ?_⟩
          refine it_false rfl ?_
          have q := hN H2 (Same.refl _)
          rw [key, k1'] at q
          exact q
      · refine ⟨D, cs.map okCode, rfl, SqL.of (by rw [ed, List.map_map]; rfl), _, rfl, ?_⟩
        have eall : (cs.map okCode).all id = cs.all okCode := by rw [List.all_map]; rfl
        rw [eall]
        cases hall : cs.all okCode with
        | false =>
          refine it_true rfl ?_
          exact qn (by rw [hlet, if_pos (.inr hall)]) H2 (fun b o z => s2 _ _ (s1 _ _ z))
        | true =>
          refine it_false rfl ?_
          have hc2 : SqA K H2 c (cs.map V.int) := hc.same s2
          refine ⟨⟨_, rfl⟩, ?_⟩
          refine lc_ints hc2 hcl (i := 5) (j := 3) (fun z => .str (one z.toNat)) (by rfl) (fun _ => by rfl) (fun z hz H3 s3 Nx hN => ?_) (fun D2 H3 s3 ed2 => ?_)
          · have ok := okCode_iff.mp (List.all_eq_true.mp hall z hz)
            have hat := letters_at z.toNat (by omega) (by omega) (by omega)
            have got : ∀ i : Int, (i = if z.toNat < 37 then ((z.toNat - 32 : Nat) : Int) else ((z.toNat - 33 : Nat) : Int)) → atI lettersS.cps.toList i = some z.toNat := fun i ei => by
              by_cases q : z.toNat < 37
              · rw [if_pos q] at ei hat
                rw [ei]
                exact atI_nat hat
              · rw [if_neg q] at ei hat
                rw [ei]
                exact atI_nat hat
            refine ⟨_, rfl, _, _, rfl, rfl, _, rfl, ?_⟩
            refine ite2 (fun k1 => ?_) (fun k1 => ?_)
            · have k1' : z < 37 := of_decide_eq_true k1
              refine ⟨_, rfl, _, _, rfl, rfl, _, _, _, rfl, rfl, ?_, got _ (by rw [if_pos (by omega)]; omega), hN _ (Same.refl _)⟩
              show letters.toArray.size ≤ sizeLine
              rw [List.size_toArray, letters_len]
              decide
            · have k1' : ¬ z < 37 := fun q => k1 (decide_eq_true q)
              refine ⟨_, rfl, _, _, rfl, rfl, _, _, _, rfl, rfl, ?_, got _ (by rw [if_neg (by omega)]; omega), hN _ (Same.refl _)⟩
              show letters.toArray.size ≤ sizeLine
              rw [List.size_toArray, letters_len]
              decide
          · have ej : (cs.map fun z => V.str (one z.toNat)) = ((cs.map Int.toNat).map one).map V.str := by
              rw [List.map_map, List.map_map]
              rfl
            refine ⟨_, D2, (cs.map Int.toNat).map one, rfl, rfl, .inl (SqL.of (by rw [ed2, ej])), ?_, ?_⟩
            · rw [sum_ones, List.length_map, List.length_map]
              show cs.length + cs.length * 0 ≤ 16777216
              omega
            · have ejoin : Txt.join ⟨#[]⟩ ((cs.map Int.toNat).map one) = strOf cs := join_one _
              refine ⟨_, rfl, _, rfl, _, rfl, _, _, rfl, rfl, by show 2 ≤ sizeLine; decide, fun p np => ?_⟩
              refine qs (strOf cs) m.toNat (by rw [hlet, if_neg (by rw [hall]; simp; omega)]) p _ (fun b o z => same_new np _ _ (s3 _ _ (s2 _ _ (s1 _ _ z)))) ?_
              rw [upd_same]
              show some (HO.tup [V.str (Txt.join ⟨#[]⟩ ((cs.map Int.toNat).map one)), V.int ((b : Int) + m)]) = _
              rw [ejoin, em]
end
end K68


set_option Elab.async false
set_option linter.all false
set_option maxRecDepth 100000
set_option maxHeartbeats 4000000
namespace K68
open PySem L2
theorem numT_len : ∀ (l : List Int) (v : Int) (u : Nat), numT l = some (v, u) → 0 < u ∧ u ≤ l.length
  | [], v, u, h => by cases h
  | x :: r, v, u, h => by
    have h : (if x > 127 then (numT r).map (fun p => ((x - 128) + 128 * p.1, p.2 + 1)) else if x = 0 then none else some (x, 1)) = some (v, u) := h
    by_cases c : x > 127
    · rw [if_pos c] at h
      cases e : numT r with
      | none =>
        rw [e] at h
        cases h
      | some p =>
        obtain ⟨v', u'⟩ := p
        rw [e] at h
        cases h
        have := numT_len r v' u' e
        simp only [List.length_cons]
        omega
    · rw [if_neg c] at h
      by_cases z : x = 0
      · rw [if_pos z] at h
        cases h
      · rw [if_neg z] at h
        cases h
        simp
theorem numS_len {l : List Int} {v : Int} {u : Nat} (h : numS l = some (v, u)) : 0 < u ∧ u ≤ l.length := by
  cases l with
  | nil => cases h
  | cons x r =>
    have h : (if x > 127 then (numT r).map (fun p => ((x - 128) + 128 * p.1, p.2 + 1)) else some (x, 1)) = some (v, u) := h
    by_cases c : x > 127
    · rw [if_pos c] at h
      cases e : numT r with
      | none =>
        rw [e] at h
        cases h
      | some p =>
        obtain ⟨v', u'⟩ := p
        rw [e] at h
        cases h
        have := numT_len r v' u' e
        simp only [List.length_cons]
        omega
    · rw [if_neg c] at h
      cases h
      simp
theorem numT_nonneg : ∀ (l : List Int) (v : Int) (u : Nat), Bytes l → numT l = some (v, u) → 0 ≤ v
  | [], v, u, _, h => by cases h
  | x :: r, v, u, hb, h => by
    have h : (if x > 127 then (numT r).map (fun p => ((x - 128) + 128 * p.1, p.2 + 1)) else if x = 0 then none else some (x, 1)) = some (v, u) := h
    have hx := hb x (List.mem_cons_self ..)
    by_cases c : x > 127
    · rw [if_pos c] at h
      cases e : numT r with
      | none =>
        rw [e] at h
        cases h
      | some p =>
        obtain ⟨v', u'⟩ := p
        rw [e] at h
        cases h
        have := numT_nonneg r v' u' (fun y hy => hb y (List.mem_cons_of_mem _ hy)) e
        omega
    · rw [if_neg c] at h
      by_cases z : x = 0
      · rw [if_pos z] at h
        cases h
      · rw [if_neg z] at h
        cases h
        omega
theorem numS_nonneg {l : List Int} {v : Int} {u : Nat} (hb : Bytes l) (h : numS l = some (v, u)) : 0 ≤ v := by
  cases l with
  | nil => cases h
  | cons x r =>
    have h : (if x > 127 then (numT r).map (fun p => ((x - 128) + 128 * p.1, p.2 + 1)) else some (x, 1)) = some (v, u) := h
    have hx := hb x (List.mem_cons_self ..)
    by_cases c : x > 127
    · rw [if_pos c] at h
      cases e : numT r with
      | none =>
        rw [e] at h
        cases h
      | some p =>
        obtain ⟨v', u'⟩ := p
        rw [e] at h
        cases h
        have := numT_nonneg r v' u' (fun y hy => hb y (List.mem_cons_of_mem _ hy)) e
        omega
    · rw [if_neg c] at h
      cases h
      omega
/-- each reading takes a sign or more, and no more than there are -/
def Eats (f : List Int → Option (PyData × Nat)) : Prop := ∀ l v k, f l = some (v, k) → 0 < k ∧ k ≤ l.length
theorem Eats.nil {f : List Int → Option (PyData × Nat)} (h : Eats f) : f [] = none := by
  cases e : f [] with
  | none => rfl
  | some p =>
    have := h [] p.1 p.2 e
    simp at this
    omega
theorem thingsN_fuel {f : List Int → Option (PyData × Nat)} (h : Eats f) : ∀ (g g' : Nat) (m : Int) (l : List Int), l.length ≤ g → l.length ≤ g' → thingsN f g m l = thingsN f g' m l
  | 0, g', m, l, h1, h2 => by
    have : l = [] := List.length_eq_zero_iff.mp (by omega)
    subst this
    cases g' with
    | zero => rfl
    | succ k =>
      unfold thingsN
      by_cases c : m ≤ 0
      · rw [if_pos c, if_pos c]
      · rw [if_neg c, if_neg c]
        simp only [h.nil]
  | g + 1, 0, m, l, h1, h2 => by
    have : l = [] := List.length_eq_zero_iff.mp (by omega)
    subst this
    unfold thingsN
    by_cases c : m ≤ 0
    · rw [if_pos c, if_pos c]
    · rw [if_neg c, if_neg c]
      simp only [h.nil]
  | g + 1, g' + 1, m, l, h1, h2 => by
    unfold thingsN
    by_cases c : m ≤ 0
    · rw [if_pos c, if_pos c]
    · rw [if_neg c, if_neg c]
      simp only
      cases e : f l with
      | none => rfl
      | some p =>
        obtain ⟨v, k⟩ := p
        have := h l v k e
        simp only
        rw [thingsN_fuel h g g' (m - 1) (l.drop k) (by rw [List.length_drop]; omega) (by rw [List.length_drop]; omega)]
theorem thingsN_len {f : List Int → Option (PyData × Nat)} (h : Eats f) : ∀ (g : Nat) (m : Int) (l : List Int) (ds : List PyData) (k : Nat), thingsN f g m l = some (ds, k) → k ≤ l.length
  | g, m, l, ds, k, e => by
    unfold thingsN at e
    by_cases c : m ≤ 0
    · rw [if_pos c] at e
      cases e
      exact Nat.zero_le _
    · rw [if_neg c] at e
      cases g with
      | zero => cases e
      | succ g =>
        simp only at e
        cases ef : f l with
        | none =>
          rw [ef] at e
          cases e
        | some p =>
          obtain ⟨v, k1⟩ := p
          rw [ef] at e
          simp only at e
          cases er : thingsN f g (m - 1) (l.drop k1) with
          | none =>
            rw [er] at e
            cases e
          | some q =>
            obtain ⟨ds', k2⟩ := q
            rw [er] at e
            cases e
            have a := h l v k1 ef
            have b := thingsN_len h g (m - 1) (l.drop k1) ds' k2 er
            rw [List.length_drop] at b
            omega
/-- what stands in a tuple of m things, with n tuples more that may be around -/
def thingsR : Nat → List Int → Int → Option (List PyData × Nat)
  | 0, _, _ => none
  | n + 1, l, m => thingsN (readV n) l.length m l
theorem readV_cons {n : Nat} {x : Int} {r : List Int} : readV n (x :: r) = if x > 5 then none else if x < 3 then some (if x = 0 then .none else .bool (decide (x = 2)), 1) else match numS r with
    | none => none
    | some (m, u) => if x = 4 then (lettersOf (r.drop u) m).map fun p => (p.1, 1 + u + p.2) else if x = 5 then (thingsR n (r.drop u) m).map fun p => (.tuple p.1, 1 + u + p.2) else some (.int (intOf m), 1 + u) := by
  cases n with
  | zero =>
    unfold readV
    by_cases c1 : x > 5
    · rw [if_pos c1, if_pos c1]
    · rw [if_neg c1, if_neg c1]
      by_cases c2 : x < 3
      · rw [if_pos c2, if_pos c2]
      · rw [if_neg c2, if_neg c2]
        cases numS r with
        | none => rfl
        | some p => rfl
  | succ n =>
    unfold readV
    by_cases c1 : x > 5
    · rw [if_pos c1, if_pos c1]
    · rw [if_neg c1, if_neg c1]
      by_cases c2 : x < 3
      · rw [if_pos c2, if_pos c2]
      · rw [if_neg c2, if_neg c2]
        cases numS r with
        | none => rfl
        | some p => rfl
theorem lettersOf_len {l : List Int} {m : Int} {d : PyData} {k : Nat} (h : lettersOf l m = some (d, k)) : k ≤ l.length ∧ ∃ z, d = .str z := by
  unfold lettersOf at h
  simp only at h
  by_cases c : ((l.take m.toNat).length : Int) < m ∨ (l.take m.toNat).all okCode = false
  · rw [if_pos c] at h
    cases h
  · rw [if_neg c] at h
    cases h
    refine ⟨?_, _, rfl⟩
    have c1 : ¬ ((l.take m.toNat).length : Int) < m := fun z => c (.inl z)
    rw [List.length_take] at c1
    omega
theorem eats_of {n : Nat} (ih : ∀ (l : List Int) (m : Int) ds k, thingsR n l m = some (ds, k) → k ≤ l.length) : Eats (readV n) := by
  intro l v k h
  cases l with
  | nil =>
    cases n <;> cases h
  | cons x r =>
    rw [readV_cons] at h
    by_cases c1 : x > 5
    · rw [if_pos c1] at h
      cases h
    · rw [if_neg c1] at h
      by_cases c2 : x < 3
      · rw [if_pos c2] at h
        cases h
        simp
      · rw [if_neg c2] at h
        cases e : numS r with
        | none =>
          rw [e] at h
          cases h
        | some p =>
          obtain ⟨m, u⟩ := p
          rw [e] at h
          simp only at h
          have hu := numS_len e
          by_cases c3 : x = 4
          · rw [if_pos c3] at h
            cases el : lettersOf (r.drop u) m with
            | none =>
              rw [el] at h
              cases h
            | some q =>
              obtain ⟨d, k'⟩ := q
              rw [el] at h
              cases h
              have := (lettersOf_len el).1
              rw [List.length_drop] at this
              simp only [List.length_cons]
              omega
          · rw [if_neg c3] at h
            by_cases c4 : x = 5
            · rw [if_pos c4] at h
              cases et : thingsR n (r.drop u) m with
              | none =>
                rw [et] at h
                cases h
              | some q =>
                obtain ⟨ds, k'⟩ := q
                rw [et] at h
                cases h
                have := ih _ _ _ _ et
                rw [List.length_drop] at this
                simp only [List.length_cons]
                omega
            · rw [if_neg c4] at h
              cases h
              simp only [List.length_cons]
              omega
theorem readV_eats : ∀ n, Eats (readV n)
  | 0 => eats_of fun l m ds k h => by cases h
  | n + 1 => eats_of fun l m ds k h => thingsN_len (readV_eats n) _ _ _ _ _ h
/-- one thing more -/
theorem things_more {n : Nat} {l : List Int} {m : Int} {v : PyData} {k : Nat} (hm : ¬ m ≤ 0) (h : readV n l = some (v, k)) : thingsR (n + 1) l m = (thingsR (n + 1) (l.drop k) (m - 1)).map fun p => (v :: p.1, k + p.2) := by
  have hk := readV_eats n l v k h
  show thingsN (readV n) l.length m l = (thingsN (readV n) (l.drop k).length (m - 1) (l.drop k)).map _
  have e1 : thingsN (readV n) l.length m l = thingsN (readV n) ((l.length - 1) + 1) m l := thingsN_fuel (readV_eats n) _ _ _ _ (Nat.le_refl _) (by omega)
  rw [e1]
  conv => lhs; unfold thingsN
  rw [if_neg hm]
  simp only [h]
  rw [thingsN_fuel (readV_eats n) (l.length - 1) (l.drop k).length (m - 1) (l.drop k) (by rw [List.length_drop]; omega) (Nat.le_refl _)]
theorem things_stop {n : Nat} {l : List Int} {m : Int} (hm : m ≤ 0) : thingsR (n + 1) l m = some ([], 0) := by
  show thingsN (readV n) l.length m l = _
  unfold thingsN
  rw [if_pos hm]
theorem things_none {n : Nat} {l : List Int} {m : Int} (hm : ¬ m ≤ 0) (h : readV n l = none) : thingsR (n + 1) l m = none := by
  show thingsN (readV n) l.length m l = _
  unfold thingsN
  rw [if_neg hm]
  cases l.length with
  | zero => rfl
  | succ g =>
    simp only [h]
end K68


set_option Elab.async false
set_option linter.all false
set_option maxRecDepth 100000
set_option maxHeartbeats 4000000
namespace K68
open PySem L2
structure TxtT (K : PySem.W.Frag) (mg : Str → Option Value) : Prop extends TxtG2 mg where
  plain : ∃ a, mg "PLAIN" = some (.ref a) ∧ ∀ H, SqT K H a [.non, .bl false, .bl true]
  head : ∃ a, mg "HEAD" = some (.ref a) ∧ ∀ H, SqT K H a ([87, 72].map V.int)
def deepOf (n : Nat) : Int := 10 - (n : Int)
def spReadV (K : PySem.W.Frag) (n : Nat) : Sp := fun vs H Q _ => ∃ (a : Addr) (ns : List Int) (at_ : Nat), vs = [.ref a, .int at_, .int (deepOf n)] ∧ SqA K H a (ns.map V.int) ∧ Bytes ns ∧ ns.length ≤ 1000000 ∧ at_ ≤ ns.length ∧
  (readV n (ns.drop at_) = none → ∀ H', Same H H' → Q .non H') ∧
  (∀ d u, readV n (ns.drop at_) = some (d, u) → ∀ (p : Addr) (v : V) (H' : Hp), Same H H' → H' p = some (.tup [v, .int ((at_ + u : Nat) : Int)]) → Tv H' d v → Q (.ref p) H')
def spThings (K : PySem.W.Frag) (n : Nat) : Sp := fun vs H Q _ => ∃ (a : Addr) (ns : List Int) (b : Nat) (m : Int), vs = [.ref a, .int b, .int m, .int (deepOf n)] ∧ SqA K H a (ns.map V.int) ∧ Bytes ns ∧ ns.length ≤ 1000000 ∧ b ≤ ns.length ∧
  (thingsR n (ns.drop b) m = none → ∀ H', Same H H' → Q .non H') ∧
  (∀ ds u, thingsR n (ns.drop b) m = some (ds, u) → ∀ (p : Addr) (v : V) (H' : Hp), Same H H' → H' p = some (.tup [v, .int ((b + u : Nat) : Int)]) → Tv H' (.tuple ds) v → Q (.ref p) H')
theorem ts_put {H : Hp} {L : Addr} {xs ys : List V} (h : H L = some (.lst xs)) : TS H (upd H L (.lst ys)) := fun c zs e => by
  rw [upd_ne (fun q => by
    rw [q, h] at e
    cases e)]
  exact e
theorem same_put {H H1 : Hp} {L : Addr} {ys : List V} (s : Same H H1) (n : H L = none) : Same H (upd H1 L (.lst ys)) := fun c o e => by
  rw [upd_ne (ne_of_none e n)]
  exact s _ _ e
section
variable {P : Program} {w : World} {K : PySem.W.Frag} {mg : Str → Option Value} {base : Heap}
theorem ok_things0 {f : Addr} {fd : FuncData} (F : Fun K "read_things" "read_things" sReadThings f fd) (T : TxtP K mg) (G : TxtT K mg) : FnOk P w K mg base CX0 1 f fd ["signs", "begin", "many", "deep"] (spThings K 0) := by
  obtain ⟨td, gd⟩ := G.deepest
  refine F.ok scReadThings (fun vs H Q E h => ?_) (fun cdv A outer s H vs Q E hr h => ?_)
  · obtain ⟨a, ns, b, m, rfl, _⟩ := h
    rfl
  · obtain ⟨a, ns, b, m, rfl, hs, hb, hl, hm, qn, qs⟩ := h
    refine ⟨_, pss_cons (ps_if (pt_cmpR op_eq (pv 3) (pe_glob (v := .int 10) (by rfl) gd ⟨_, rfl⟩) (nomark _)) (pss_one (ps_ret pe_non)) pss_nil) pss_never, ?_⟩
    refine ⟨_, rfl, rfl, _, rfl, ?_⟩
    refine it_true rfl ?_
    exact qn rfl H (Same.refl _)
def ThAt (H : Hp) (a L : Addr) (ns : List Int) (b : Nat) (m : Int) (n : Nat) (μ : Nat) (σ : L2.St) (H' : Hp) : Prop := Same H H' ∧ ∃ (j : Nat) (ds : List PyData) (xs : List V) (r : Option V),
  σ = [some (.ref a), some (.int b), some (.int m), some (.int (deepOf (n + 1))), some (.ref L), some (.int ((b + j : Nat) : Int)), r] ∧ μ = ns.length - (b + j) ∧ b + j ≤ ns.length ∧ ds.length ≤ j ∧
  H' L = some (.lst xs) ∧ TvAll H' ds xs ∧ thingsR (n + 1) (ns.drop b) m = (thingsR (n + 1) (ns.drop (b + j)) (m - ds.length)).map fun p => (ds ++ p.1, j + p.2)
theorem ok_thingsS {n k : Nat} {f fV : Addr} {fd fdV : FuncData} (F : Fun K "read_things" "read_things" sReadThings f fd) (T : TxtP K mg) (G : TxtT K mg)
    (GV : FnOk P w K mg base CX0 k fV fdV ["signs", "at", "deep"] (spReadV K n)) (bV : Binds K fdV ["signs", "at", "deep"] []) (mV : mg "read_value" = some (.ref fV)) (kV : PySem.W.keepIn K (.ref fV) = true) (hn : n < 10) :
    FnOk P w K mg base CX0 (k + 1) f fd ["signs", "begin", "many", "deep"] (spThings K (n + 1)) := by
  obtain ⟨td, gd⟩ := G.deepest
  refine F.ok scReadThings (fun vs H Q E h => ?_) (fun cdv A outer s H vs Q E hr h => ?_)
  · obtain ⟨a, ns, b, m, rfl, _⟩ := h
    rfl
  · obtain ⟨a, ns, b, m, rfl, hs, hb, hl, hm, qn, qs⟩ := h
    refine ⟨_, pss_cons (ps_if (pt_cmpR op_eq (pv 3) (pe_glob (v := .int 10) (by rfl) gd ⟨_, rfl⟩) (nomark _)) (pss_one (ps_ret pe_non)) pss_nil)
      (pss_cons (ps_set (i := 4) scReadThings.nd rfl (Or.inl rfl) (pe_lst pa_nil))
      (pss_cons (ps_set (i := 5) scReadThings.nd rfl (Or.inl rfl) (pv 1))
      (pss_cons (ps_while PassesOwn.never (pt_cmpR op_lt (pe_callB call_len_seq (by rfl) T.len PySem.boot_len (pa_cons (pv 4) pa_nil)) (pv 2) (nomark _))
        (pss_cons (ps_set (i := 6) scReadThings.nd rfl (Or.inl rfl) (pe_call GV hr rfl mV kV bV .nil pass0 (pa_cons (pv 0) (pa_cons (pv 5) (pa_cons (pe_op op_add (pv 3) pe_int) pa_nil)))))
        (pss_cons (ps_if (pt_cmpR op_isN (pv 6) pe_non (nomark _)) (pss_one (ps_ret pe_non)) pss_nil)
        (pss_cons (ps_expr (pe_bm PySem.F.plainAttrs_list PySem.F.slot_list_append PySem.F.type_list_append mt_append (pv 4) (pa_cons (pe_ix ix_tup (pv 6) pe_int (fun _ _ => rfl)) pa_nil)))
        (pss_one (ps_set (i := 5) scReadThings.nd rfl (Or.inl rfl) (pe_ix ix_tup (pv 6) pe_int (fun _ _ => rfl))))))))
      (pss_one (ps_ret (pe_tup (pa_cons (pe_tupleOf (by rfl) T.tuple (pv 4)) (pa_cons (pv 5) pa_nil)))))))), ?_⟩
    refine ⟨_, rfl, rfl, _, rfl, ?_⟩
    have nd : decide (V.int (deepOf (n + 1)) = V.int 10) = false := decide_eq_false (by
      intro z
      injection z with z
      unfold deepOf at z
      omega)
    refine it_false nd ?_
    refine ⟨by show 0 ≤ sizeLine; decide, fun L nL => ?_⟩
    refine ⟨_, rfl, ?_⟩
    refine ⟨fun μ σ H' => ThAt H a L ns b m n μ σ H', ⟨_, same_new nL, 0, [], [], none, rfl, rfl, hm, Nat.le_refl _, upd_same, .nil, ?_⟩, ?_⟩
    · have : m - ((([] : List PyData).length : Nat) : Int) = m := by simp
      rw [this, Nat.add_zero]
      cases thingsR (n + 1) (ns.drop b) m with
      | none => rfl
      | some p =>
        obtain ⟨p1, p2⟩ := p
        simp
    · rintro μ σ H' ⟨sH, j, ds, xs, r, rfl, rfl, hj, hk, hL, tv, eq⟩
      have xl := tv.len
      refine ⟨_, rfl, L, xs, rfl, .inl (SqL.of hL), ?_⟩
      refine ⟨_, rfl, _, _, rfl, rfl, _, rfl, ?_⟩
      refine ite2 (fun c => ?_) (fun c => ?_)
      · have hm' : ¬ m - (ds.length : Int) ≤ 0 := by
          have := of_decide_eq_true c
          omega
        refine ⟨fun σ' H2 => ∃ μ', μ' < ns.length - (b + j) ∧ ThAt H a L ns b m n μ' σ' H2, fun σ' H2 h => h, ?_⟩
        refine ⟨_, rfl, _, rfl, _, rfl, _, _, rfl, rfl, ?_⟩
        refine ⟨a, ns, b + j, ?_, hs.same sH, hb, hl, hj, fun en H2 s2 => ?_, fun d u ev p v H2 s2 hp tv2 => ?_⟩
        · show [V.ref a, V.int ((b + j : Nat) : Int), V.int (deepOf (n + 1) + 1)] = _
          have e : deepOf (n + 1) + 1 = deepOf n := by
            unfold deepOf
            omega
          rw [e]
        · refine ⟨_, rfl, rfl, _, rfl, ?_⟩
          refine it_true rfl ?_
          exact qn (by rw [eq, things_none hm' en]; rfl) H2 (sH.trans s2)
        · refine ⟨_, rfl, rfl, _, rfl, ?_⟩
          refine it_false rfl ?_
          have hL2 := s2 _ _ hL
          have hu := readV_eats n _ d u ev
          rw [List.length_drop] at hu
          refine ⟨_, rfl, .inl ⟨rfl, _, SqL.of hL2⟩, ?_⟩
          refine ⟨_, rfl, p, _, 0, v, rfl, rfl, SqT.of hp, rfl, ?_⟩
          refine ⟨L, xs, v, rfl, rfl, hL2, by rw [sizeLine_eq]; omega, ?_⟩
          have np : p ≠ L := fun z => by
            rw [z, hL2] at hp
            cases hp
          refine ⟨_, rfl, p, _, 1, _, rfl, rfl, SqT.of (by rw [upd_ne np]; exact hp), rfl, ?_⟩
          refine ⟨_, ?_, same_put (sH.trans s2) nL, j + u, ds ++ [d], xs ++ [v], some (.ref p), ?_, rfl, by omega, ?_, upd_same, ?_, ?_⟩
          · omega
          · rw [← Nat.add_assoc]
            rfl
          · rw [List.length_append, List.length_singleton]
            omega
          · exact ((tv.mono (ts_same s2)).snoc tv2).mono (ts_put hL2)
          · rw [eq, things_more hm' ev, List.drop_drop]
            have e1 : b + j + u = b + (j + u) := by omega
            have e2 : m - (ds.length : Int) - 1 = m - ((ds ++ [d]).length : Int) := by
              rw [List.length_append, List.length_singleton]
              omega
            rw [e1, e2]
            cases thingsR (n + 1) (ns.drop (b + (j + u))) (m - ((ds ++ [d]).length : Int)) with
            | none => rfl
            | some q =>
              obtain ⟨q1, q2⟩ := q
              simp
              omega
      · have hm' : m - (ds.length : Int) ≤ 0 := by
          have : ¬ (xs.length : Int) < m := fun z => c (decide_eq_true z)
          omega
        refine ⟨_, rfl, .inl ⟨L, xs, rfl, SqL.of hL, fun q nq => ?_⟩⟩
        refine ⟨_, rfl, by show 2 ≤ sizeLine; decide, fun p np => ?_⟩
        have s3 : Same H (upd (upd H' q (.tup xs)) p (.tup [.ref q, .int ((b + j : Nat) : Int)])) := fun c o e => same_new np _ _ (same_new nq _ _ (sH _ _ e))
        have nqp : q ≠ p := fun z => by
          rw [← z, upd_same] at np
          cases np
        refine qs ds j ?_ p (.ref q) _ s3 upd_same ?_
        · rw [eq, things_stop hm']
          simp
        · refine .tup (xs := xs) (by rw [upd_ne nqp, upd_same]) (tv.mono fun c o e => same_new np _ _ (same_new nq _ _ e))

theorem plain_at {x : Int} (h0 : 0 ≤ x) (h1 : x < 3) : ∃ v, atI [V.non, .bl false, .bl true] x = some v ∧ ∀ H, Tv H (if x = 0 then .none else .bool (decide (x = 2))) v := by
  have : x = 0 ∨ x = 1 ∨ x = 2 := by omega
  rcases this with rfl | rfl | rfl
  · exact ⟨_, rfl, fun H => .non⟩
  · exact ⟨_, rfl, fun H => .bl _⟩
  · exact ⟨_, rfl, fun H => .bl _⟩
theorem ok_readV {n k : Nat} {f fN fL fT : Addr} {fd fdN fdL fdT : FuncData} (F : Fun K "read_value" "read_value" sReadValue f fd) (T : TxtP K mg) (G : TxtT K mg)
    (GN : FnOk P w K mg base CX0 1 fN fdN ["signs", "at"] (spReadNum K)) (bN : Binds K fdN ["signs", "at"] []) (mN : mg "read_number" = some (.ref fN)) (kN : PySem.W.keepIn K (.ref fN) = true)
    (GL : FnOk P w K mg base CX0 1 fL fdL ["signs", "begin", "many"] (spLetters K)) (bL : Binds K fdL ["signs", "begin", "many"] []) (mL : mg "read_letters" = some (.ref fL)) (kL : PySem.W.keepIn K (.ref fL) = true)
    (GT : FnOk P w K mg base CX0 (k + 1) fT fdT ["signs", "begin", "many", "deep"] (spThings K n)) (bT : Binds K fdT ["signs", "begin", "many", "deep"] []) (mT : mg "read_things" = some (.ref fT)) (kT : PySem.W.keepIn K (.ref fT) = true) :
    FnOk P w K mg base CX0 (k + 2) f fd ["signs", "at", "deep"] (spReadV K n) := by
  obtain ⟨pA, gp, hp⟩ := G.plain
  refine F.ok scReadValue (fun vs H Q E h => ?_) (fun cdv A outer s H vs Q E hr h => ?_)
  · obtain ⟨a, ns, at_, rfl, _⟩ := h
    rfl
  · obtain ⟨a, ns, at_, rfl, hs, hb, hl, ha, qn, qs⟩ := h
    refine ⟨_, pss_cons (ps_if (PW.pt (pw_or (pt_cmpR op_eq (pv 1) (pe_callB call_len_seq (by rfl) T.len PySem.boot_len (pa_cons (pv 0) pa_nil)) (nomark _)) (pw_or1 (pt_cmpR op_gt (pe_ix ix_any (pv 0) (pv 1) (fun _ _ => rfl)) pe_int (nomark _))))) (pss_one (ps_ret pe_non)) pss_nil)
      (pss_cons (ps_set (i := 3) scReadValue.nd rfl (Or.inl rfl) (pe_ix ix_any (pv 0) (pv 1) (fun _ _ => rfl)))
      (pss_cons (ps_if (pt_cmpR op_lt (pv 3) pe_int (nomark _)) (pss_one (ps_ret (pe_tup (pa_cons (pe_ix ix_tup (pe_glob (v := .ref pA) (by rfl) gp rfl) (pv 3) (fun _ _ => rfl)) (pa_cons (pe_op op_add (pv 1) pe_int) pa_nil))))) pss_nil)
      (pss_cons (ps_set (i := 4) scReadValue.nd rfl (Or.inl rfl) (pe_call GN (hr.mono (by omega)) rfl mN kN bN .nil pass0 (pa_cons (pv 0) (pa_cons (pe_op op_add (pv 1) pe_int) pa_nil))))
      (pss_cons (ps_if (pt_cmpR op_isN (pv 4) pe_non (nomark _)) (pss_one (ps_ret pe_non)) pss_nil)
      (pss_cons (ps_asg (pv 4) (pg_tup (by rfl) (pgs_cons (pg_name (i := 5) scReadValue.nd rfl (Or.inl rfl)) (pgs_cons (pg_name (i := 6) scReadValue.nd rfl (Or.inl rfl)) pgs_nil))))
      (pss_cons (ps_if (pt_cmpR op_eq (pv 3) pe_int (nomark _)) (pss_one (ps_ret (pe_call GL (hr.mono (by omega)) rfl mL kL bL .nil pass0 (pa_cons (pv 0) (pa_cons (pv 6) (pa_cons (pv 5) pa_nil)))))) pss_nil)
      (pss_cons (ps_if (pt_cmpR op_eq (pv 3) pe_int (nomark _)) (pss_one (ps_ret (pe_call GT hr rfl mT kT bT .nil pass0 (pa_cons (pv 0) (pa_cons (pv 6) (pa_cons (pv 5) (pa_cons (pv 2) pa_nil))))))) pss_nil)
      (pss_one (ps_ret (pe_tup (pa_cons (pe_ifExp (pt_cmpR op_eq (pe_op op_mod (pv 5) pe_int) pe_int (nomark _)) (pe_op op_fdiv (pv 5) pe_int) (pe_op op_fdiv (pe_un un_neg (pe_op op_add (pv 5) pe_int)) pe_int)) (pa_cons (pv 6) pa_nil)))))))))))), ?_⟩
    have ll : (ns.map V.int).length = ns.length := List.length_map ..
    refine ⟨_, rfl, _, rfl, a, _, rfl, hs, rfl, _, rfl, ?_⟩
    rw [ll]
    refine ite2 (fun c => ?_) (fun c => ?_)
    · have : ns.drop at_ = [] := by
        have h := of_decide_eq_true c
        injection h with h
        exact List.drop_of_length_le (by omega)
      rw [this] at qn
      exact qn (by cases n <;> rfl) H (Same.refl _)
    · have hlt : at_ < ns.length := by
        have h : ¬ V.int (at_ : Int) = V.int (ns.length : Int) := fun z => c (decide_eq_true z)
        have : at_ ≠ ns.length := fun z => h (by rw [z])
        omega
      have e0 := drop_at hlt
      have hx := hb _ (List.getElem_mem hlt)
      have hat := atI_map hlt
      generalize hxx : ns[at_] = x at e0 hx hat
      rw [e0, readV_cons] at qn qs
      refine ⟨_, rfl, _, rfl, ask_ix hs hat ?_⟩
      refine ⟨_, _, rfl, rfl, _, rfl, ?_⟩
      refine ite2 (fun c1 => ?_) (fun c1 => ?_)
      · exact qn (if_pos (of_decide_eq_true c1)) H (Same.refl _)
      have c1' : ¬ x > 5 := fun z => c1 (decide_eq_true z)
      rw [if_neg c1'] at qn qs
      refine ⟨_, rfl, _, rfl, ask_ix hs hat ?_⟩
      refine ⟨_, rfl, _, _, rfl, rfl, _, rfl, ?_⟩
      refine ite2 (fun c2 => ?_) (fun c2 => ?_)
      · have c2' : x < 3 := of_decide_eq_true c2
        rw [if_pos c2'] at qn qs
        obtain ⟨v, hv, tv⟩ := plain_at hx.1 c2'
        refine ⟨_, rfl, pA, _, _, _, rfl, rfl, hp _, hv, ?_⟩
        refine ⟨_, rfl, _, _, rfl, rfl, by show 2 ≤ sizeLine; decide, fun p np => ?_⟩
        exact qs _ _ rfl p v _ (same_new np) upd_same (tv _)
      have c2' : ¬ x < 3 := fun z => c2 (decide_eq_true z)
      rw [if_neg c2'] at qn qs
      refine ⟨_, rfl, _, rfl, _, _, rfl, rfl, ?_⟩
      refine ⟨a, ns, at_ + 1, rfl, hs, hb, hl, hlt, fun en => ?_, fun m u em p H1 s1 hp1 => ?_⟩
      · rw [en] at qn
        refine ⟨_, rfl, rfl, _, rfl, ?_⟩
        refine it_true rfl ?_
        exact qn rfl H (Same.refl _)
      rw [em] at qn qs
      simp only at qn qs
      refine ⟨_, rfl, rfl, _, rfl, ?_⟩
      refine it_false rfl ?_
      have hu := numS_len em
      have hm0 := numS_nonneg (fun y hy => hb y (List.mem_of_mem_drop hy)) em
      rw [List.length_drop] at hu
      refine ⟨_, rfl, p, _, rfl, SqT.of hp1, rfl, _, _, rfl, _, _, rfl, rfl, ?_⟩
      refine ⟨_, rfl, rfl, _, rfl, ?_⟩
      have ed : (ns.drop (at_ + 1)).drop u = ns.drop (at_ + 1 + u) := List.drop_drop ..
      rw [ed] at qn qs
      refine ite2 (fun c3 => ?_) (fun c3 => ?_)
      · have c3' : x = 4 := by
          have := of_decide_eq_true c3
          injection this
        rw [if_pos c3'] at qn qs
        refine ⟨_, rfl, _, rfl, _, rfl, ?_⟩
        refine ⟨a, ns, at_ + 1 + u, m, rfl, hs.same s1, hb, hl, hm0, fun en H2 s2 => ?_, fun z k2 ez p2 H2 s2 hp2 => ?_⟩
        · exact qn (by rw [en]; rfl) H2 (s1.trans s2)
        · refine qs (.str z) (1 + u + k2) (by rw [ez]; rfl) p2 (.str z) H2 (s1.trans s2) ?_ (.str z)
          rw [hp2]
          have e : at_ + 1 + u + k2 = at_ + (1 + u + k2) := by omega
          rw [e]
      have c3' : ¬ x = 4 := fun z => c3 (by rw [z]; exact decide_eq_true rfl)
      rw [if_neg c3'] at qn qs
      refine ⟨_, rfl, rfl, _, rfl, ?_⟩
      refine ite2 (fun c4 => ?_) (fun c4 => ?_)
      · have c4' : x = 5 := by
          have := of_decide_eq_true c4
          injection this
        rw [if_pos c4'] at qn qs
        refine ⟨_, rfl, _, rfl, _, rfl, _, rfl, ?_⟩
        refine ⟨a, ns, at_ + 1 + u, m, rfl, hs.same s1, hb, hl, by omega, fun en H2 s2 => ?_, fun ds k2 ez p2 v2 H2 s2 hp2 tv2 => ?_⟩
        · exact qn (by rw [en]; rfl) H2 (s1.trans s2)
        · refine qs (.tuple ds) (1 + u + k2) (by rw [ez]; rfl) p2 v2 H2 (s1.trans s2) ?_ tv2
          rw [hp2]
          have e : at_ + 1 + u + k2 = at_ + (1 + u + k2) := by omega
          rw [e]
      have c4' : ¬ x = 5 := fun z => c4 (by rw [z]; exact decide_eq_true rfl)
      rw [if_neg c4'] at qn qs
      have fin : ∀ i : Int, intOf m = i → (tTup (tCons (tC (.int i)) (tCons (tVar 6) tNil))) [some (V.ref a), some (V.int (at_ : Int)), some (V.int (deepOf n)), some (V.int x), some (V.ref p), some (V.int m), some (V.int ((at_ + 1 + u : Nat) : Int))] H1 Q := fun i ei => by
        refine ⟨_, rfl, by show 2 ≤ sizeLine; decide, fun p2 np2 => ?_⟩
        refine qs _ _ rfl p2 (.int i) _ (fun c o e => same_new np2 _ _ (s1 _ _ e)) ?_ (by rw [ei]; exact .int i)
        rw [upd_same]
        have e : at_ + 1 + u = at_ + (1 + u) := by omega
        rw [e]
      refine ⟨_, rfl, _, _, rfl, rfl, (by show (0 : Int) < 2; decide), rfl, _, rfl, ?_⟩
      refine ite2 (fun c5 => ?_) (fun c5 => ?_)
      · refine ⟨_, rfl, _, _, rfl, rfl, ⟨by decide, by decide⟩, ?_⟩
        refine fin (m / 2) ?_
        have := of_decide_eq_true c5
        injection this with this
        unfold intOf
        rw [if_pos this]
      · refine ⟨_, rfl, _, _, rfl, rfl, _, rfl, _, _, rfl, rfl, ⟨by decide, by decide⟩, ?_⟩
        refine fin (-(m + 1) / 2) ?_
        have : ¬ m % 2 = 0 := fun z => c5 (decide_eq_true (show V.int (m % 2) = V.int 0 by rw [z]))
        unfold intOf
        rw [if_neg this]
end
end K68


set_option Elab.async false
set_option linter.all false
set_option maxRecDepth 100000
set_option maxHeartbeats 4000000
namespace K68
open PySem L2
/-! ### data, compared -/
theorem eqvAll_ints : ∀ ns ms : List Int, PyData.eqvAll (ns.map PyData.int) (ms.map PyData.int) = decide (ns = ms)
  | [], [] => by simp [PyData.eqvAll]
  | [], _ :: _ => by simp [PyData.eqvAll]
  | _ :: _, [] => by simp [PyData.eqvAll]
  | n :: r, k :: q => by
    simp only [List.map_cons, PyData.eqvAll, PyData.eqv, eqvAll_ints r q]
    by_cases h : n = k <;> simp [h]
theorem eqv_tup (ns ms : List Int) : PyData.eqv (.tuple (ns.map PyData.int)) (.tuple (ms.map PyData.int)) = decide (ns = ms) := by
  simp only [PyData.eqv]
  exact eqvAll_ints ns ms
theorem eqv_lst (ns ms : List Int) : PyData.eqv (.list (ns.map PyData.int)) (.list (ms.map PyData.int)) = decide (ns = ms) := by
  simp only [PyData.eqv]
  exact eqvAll_ints ns ms
theorem shaped_lst (ns : List Int) : SeqAt.shaped (.list (ns.map PyData.int)) = true := PySem.W.shaped_ints ns
theorem shaped_tup (ns : List Int) : SeqAt.shaped (.tuple (ns.map PyData.int)) = true := by
  have h := PySem.W.shaped_ints ns
  unfold SeqAt.shaped at h ⊢
  simpa [PyData.canLay0, PyData.depth] using h
theorem dp_ints {K : PySem.W.Frag} {H : Hp} : ∀ ns : List Int, DpAll K H (ns.map V.int) (ns.map PyData.int)
  | [] => .nil
  | n :: r => .cons (.int n) (dp_ints r)
theorem dp_tup {K : PySem.W.Frag} {H : Hp} {a : Addr} {ns : List Int} (h : SqT K H a (ns.map V.int)) : Dp K H (.ref a) (.tuple (ns.map PyData.int)) := .tup h (dp_ints ns)
theorem dp_lst {K : PySem.W.Frag} {H : Hp} {a : Addr} {ns : List Int} (h : SqL K H a (ns.map V.int)) : Dp K H (.ref a) (.list (ns.map PyData.int)) := .lst h (dp_ints ns)
theorem ask_neT {K : PySem.W.Frag} {H : Hp} {Q : VK} {a b : Addr} {ns ms : List Int} (ha : SqT K H a (ns.map V.int)) (hb : SqT K H b (ms.map V.int)) (q : Q (.bl (!decide (ns = ms))) H) : rNeD K (.ref a) (.ref b) H Q :=
  ⟨_, _, dp_tup ha, dp_tup hb, shaped_tup ns, shaped_tup ms, by rw [eqv_tup]; exact q⟩
theorem ask_eqT {K : PySem.W.Frag} {H : Hp} {Q : VK} {a b : Addr} {ns ms : List Int} (ha : SqT K H a (ns.map V.int)) (hb : SqT K H b (ms.map V.int)) (q : Q (.bl (decide (ns = ms))) H) : rEqD K (.ref a) (.ref b) H Q :=
  ⟨_, _, dp_tup ha, dp_tup hb, shaped_tup ns, shaped_tup ms, by rw [eqv_tup]; exact q⟩
theorem ask_neL {K : PySem.W.Frag} {H : Hp} {Q : VK} {a b : Addr} {ns ms : List Int} (ha : SqL K H a (ns.map V.int)) (hb : SqL K H b (ms.map V.int)) (q : Q (.bl (!decide (ns = ms))) H) : rNeD K (.ref a) (.ref b) H Q :=
  ⟨_, _, dp_lst ha, dp_lst hb, shaped_lst ns, shaped_lst ms, by rw [eqv_lst]; exact q⟩
/-- tuple(x) of a list or tuple -/
theorem ask_tupOf {K : PySem.W.Frag} {H : Hp} {Q : VK} {a : Addr} {xs : List V} (h : SqA K H a xs) (q : ∀ p H', Same H H' → SqT K H' p xs → Q (.ref p) H') : kTup K (.ref a) H Q := by
  rcases h with h | h
  · exact .inl ⟨a, xs, rfl, h, fun p n => q p _ (same_new n) (.inl (.inl upd_same))⟩
  · exact .inr ⟨a, xs, rfl, h, q a H (Same.refl _) h⟩
theorem cutV_but {xs : List V} : cutV xs none (some (-4)) = xs.take (xs.length - 4) := by
  unfold cutV
  rw [HT.sIx_none, sIx_neg (by decide), List.drop_zero, Nat.sub_zero]
  congr 1
  omega
theorem cutV_last {xs : List V} : cutV xs (some (-4)) none = xs.drop (xs.length - 4) := by
  unfold cutV
  rw [HT.sIx_none, sIx_neg (by decide)]
  have e : (-4 + (xs.length : Int)).toNat = xs.length - 4 := by omega
  rw [e, List.take_of_length_le (by rw [List.length_drop]; omega)]
theorem cutV_mid {xs : List V} (h : 8 ≤ xs.length) : cutV xs (some 4) (some (-4)) = (xs.take (xs.length - 4)).drop 4 := by
  unfold cutV
  have e4 : (4 : Int) = ((4 : Nat) : Int) := rfl
  rw [sIx_neg (by decide), e4, HT.sIx_nat]
  have e : (-((4 : Nat) : Int) + (xs.length : Int)).toNat = xs.length - 4 := by omega
  rw [e, Nat.min_eq_left (by omega), List.drop_take]
def wordOf : Fault → Str
  | .head => "head"
  | .short => "short"
  | .long => "long"
  | .sums => "sums"
def faultV (s : List Int) : V := match fault s with
  | none => .non
  | some x => .str (wordOf x)
def spLen (K : PySem.W.Frag) : Sp := fun vs H Q _ => ∃ (a : Addr) (ns : List Int), vs = [.ref a] ∧ SqA K H a (ns.map V.int) ∧ Bytes ns ∧ 4 ≤ ns.length ∧ Q (.int (elen ns)) H
def spFault (K : PySem.W.Frag) : Sp := fun vs H Q _ => ∃ (a : Addr) (ns : List Int), vs = [.ref a] ∧ SqA K H a (ns.map V.int) ∧ Bytes ns ∧ ns.length ≤ 1000000 ∧ ∀ H', Same H H' → Q (faultV ns) H'
section
variable {P : Program} {w : World} {K : PySem.W.Frag} {mg : Str → Option Value} {base : Heap}
theorem ok_len {f : Addr} {fd : FuncData} (F : Fun K "entry_length" "entry_length" sEntryLength f fd) : FnOk P w K mg base CX0 1 f fd ["signs"] (spLen K) := by
  refine F.ok scEntryLength (fun vs H Q E h => ?_) (fun cdv A outer s H vs Q E hr h => ?_)
  · obtain ⟨a, ns, rfl, _⟩ := h
    rfl
  · obtain ⟨a, ns, rfl, hs, hb, hl, q⟩ := h
    refine ⟨_, pss_one (ps_ret (pe_op op_add (pe_op op_add (pe_op op_add pe_int (pe_ix ix_any (pv 0) pe_int (fun _ _ => rfl))) (pe_op op_mul pe_int (pe_ix ix_any (pv 0) pe_int (fun _ _ => rfl)))) pe_int)), ?_⟩
    have h2 := atI_map (ns := ns) (j := 2) (by omega)
    have h3 := atI_map (ns := ns) (j := 3) (by omega)
    refine ⟨_, rfl, ask_ix hs h2 ?_⟩
    refine ⟨_, _, rfl, rfl, _, rfl, ask_ix hs h3 ?_⟩
    refine ⟨_, _, rfl, rfl, .inl ⟨by decide, by decide⟩, _, _, rfl, rfl, _, _, rfl, rfl, ?_⟩
    have e : elen ns = 4 + ns[2] + 256 * ns[3] + 4 := by
      unfold elen
      rw [List.getD_eq_getElem?_getD, List.getD_eq_getElem?_getD, List.getElem?_eq_getElem (by omega), List.getElem?_eq_getElem (by omega)]
      rfl
    rw [e] at q
    exact q
theorem fault_head {s : List Int} (h : s.take 2 ≠ ([87, 72] : List Int).take s.length) : fault s = some .head := if_pos h
theorem fault_short {s : List Int} (h : ¬ s.take 2 ≠ ([87, 72] : List Int).take s.length) (h2 : s.length < 4 ∨ (s.length : Int) < elen s) : fault s = some .short := by
  unfold fault
  rw [if_neg h, if_pos h2]
theorem fault_long {s : List Int} (h : ¬ s.take 2 ≠ ([87, 72] : List Int).take s.length) (h2 : ¬ (s.length < 4 ∨ (s.length : Int) < elen s)) (h3 : (s.length : Int) > elen s ∨ s.length > 4096) : fault s = some .long := by
  unfold fault
  rw [if_neg h, if_neg h2, if_pos h3]
theorem fault_rest {s : List Int} (h : ¬ s.take 2 ≠ ([87, 72] : List Int).take s.length) (h2 : ¬ (s.length < 4 ∨ (s.length : Int) < elen s)) (h3 : ¬ ((s.length : Int) > elen s ∨ s.length > 4096)) :
    fault s = if last4 s ≠ two (sumsOf (but4 s)).1 ++ two (sumsOf (but4 s)).2 then some .sums else none := by
  unfold fault
  rw [if_neg h, if_neg h2, if_neg h3]
theorem ok_fault {f fL fS fT : Addr} {fd fdL fdS fdT : FuncData} (F : Fun K "entry_fault" "entry_fault" sEntryFault f fd) (T : TxtP K mg) (G : TxtT K mg) (gl : mg "list" = none)
    (GL : FnOk P w K mg base CX0 1 fL fdL ["signs"] (spLen K)) (bL : Binds K fdL ["signs"] []) (mL : mg "entry_length" = some (.ref fL)) (kL : PySem.W.keepIn K (.ref fL) = true)
    (GS : FnOk P w K mg base CX0 1 fS fdS ["signs"] (spTwoSums K)) (bS : Binds K fdS ["signs"] []) (mS : mg "two_sums" = some (.ref fS)) (kS : PySem.W.keepIn K (.ref fS) = true)
    (GT : FnOk P w K mg base CX0 1 fT fdT ["number"] spTwoSigns) (bT : Binds K fdT ["number"] []) (mT : mg "two_signs" = some (.ref fT)) (kT : PySem.W.keepIn K (.ref fT) = true) :
    FnOk P w K mg base CX0 2 f fd ["signs"] (spFault K) := by
  obtain ⟨hA, gh, hh⟩ := G.head
  obtain ⟨tm, gm⟩ := G.most
  refine F.ok scEntryFault (fun vs H Q E h => ?_) (fun cdv A outer s H vs Q E hr h => ?_)
  · obtain ⟨a, ns, rfl, _⟩ := h
    rfl
  · obtain ⟨a, ns, rfl, hs, hb, hl, q⟩ := h
    refine ⟨_, pss_cons (ps_if (pt_cmpR (op_neD hr.units) (pe_tupleOf (by rfl) T.tuple (pe_slice sl_any (pv 0) po_none (po_some pe_int))) (pe_slice sl_any (pe_glob (v := .ref hA) (by rfl) gh rfl) po_none (po_some (pe_callB call_len_seq (by rfl) T.len PySem.boot_len (pa_cons (pv 0) pa_nil)))) (nomark _)) (pss_one (ps_ret pe_str)) pss_nil)
      (pss_cons (ps_if (PW.pt (pw_or (pt_cmpR op_lt (pe_callB call_len_seq (by rfl) T.len PySem.boot_len (pa_cons (pv 0) pa_nil)) pe_int (nomark _)) (pw_or1 (pt_cmpR op_lt (pe_callB call_len_seq (by rfl) T.len PySem.boot_len (pa_cons (pv 0) pa_nil)) (pe_call GL hr rfl mL kL bL .nil pass0 (pa_cons (pv 0) pa_nil)) (nomark _))))) (pss_one (ps_ret pe_str)) pss_nil)
      (pss_cons (ps_if (PW.pt (pw_or (pt_cmpR op_gt (pe_callB call_len_seq (by rfl) T.len PySem.boot_len (pa_cons (pv 0) pa_nil)) (pe_call GL hr rfl mL kL bL .nil pass0 (pa_cons (pv 0) pa_nil)) (nomark _)) (pw_or1 (pt_cmpR op_gt (pe_callB call_len_seq (by rfl) T.len PySem.boot_len (pa_cons (pv 0) pa_nil)) (pe_glob (v := .int 4096) (by rfl) gm ⟨_, rfl⟩) (nomark _))))) (pss_one (ps_ret pe_str)) pss_nil)
      (pss_cons (ps_asg (pe_call GS hr rfl mS kS bS .nil pass0 (pa_cons (pe_slice sl_any (pv 0) po_none (po_some (pe_un un_neg pe_int))) pa_nil)) (pg_tup (by rfl) (pgs_cons (pg_name (i := 1) scEntryFault.nd rfl (Or.inl rfl)) (pgs_cons (pg_name (i := 2) scEntryFault.nd rfl (Or.inl rfl)) pgs_nil))))
      (pss_cons (ps_if (pt_cmpR (op_neD hr.units) (pe_callTy call_list_of (by rfl) gl (by decide +kernel) (pa_cons (pe_slice sl_any (pv 0) (po_some (pe_un un_neg pe_int)) po_none) pa_nil)) (pe_op op_cat (pe_call GT hr rfl mT kT bT .nil pass0 (pa_cons (pv 1) pa_nil)) (pe_call GT hr rfl mT kT bT .nil pass0 (pa_cons (pv 2) pa_nil))) (nomark _)) (pss_one (ps_ret pe_str)) pss_nil)
      (pss_one (ps_ret pe_non)))))), ?_⟩
    have ll : (ns.map V.int).length = ns.length := List.length_map ..
    refine ⟨_, rfl, _, rfl, ask_sl hs fun c H1 s1 hc => ?_⟩
    have e2 : cutV (ns.map V.int) none (some 2) = (ns.take 2).map V.int := by
      rw [List.map_take]
      exact cutV_to 2
    rw [e2] at hc
    refine ask_tupOf hc fun p H2 s2 hp => ?_
    have s02 := s1.trans s2
    refine ⟨_, rfl, a, _, rfl, hs.same s02, _, rfl, ask_slT (hh H2) fun r H3 s3 hr3 => ?_⟩
    have e3 : cutV (([87, 72] : List Int).map V.int) none (some ((ns.map V.int).length : Int)) = (([87, 72] : List Int).take ns.length).map V.int := by
      rw [ll, List.map_take]
      exact cutV_to _
    rw [e3] at hr3
    refine ask_neT (sqT_same s3 hp) hr3 ⟨_, rfl, ?_⟩
    have s03 := s02.trans s3
    refine ite2 (fun c1 => ?_) (fun c1 => ?_)
    · have h1 : ns.take 2 ≠ ([87, 72] : List Int).take ns.length := by simpa using c1
      have z := q H3 s03
      unfold faultV at z
      rw [fault_head h1] at z
      exact z
    have h1 : ¬ ns.take 2 ≠ ([87, 72] : List Int).take ns.length := by simpa using c1
    have hs3 := hs.same s03
    refine ⟨_, rfl, a, _, rfl, hs3, _, _, rfl, rfl, _, rfl, ?_⟩
    rw [ll]
    have short : (ns.length < 4 ∨ (ns.length : Int) < elen ns) → Q (.str "short") H3 := fun h2 => by
      have z := q H3 s03
      unfold faultV at z
      rw [fault_short h1 h2] at z
      exact z
    refine ite2 (fun c2 => ?_) (fun c2 => ?_)
    · have := of_decide_eq_true c2
      exact short (.inl (by omega))
    have h4 : 4 ≤ ns.length := by
      have : ¬ (ns.length : Int) < 4 := fun z => c2 (decide_eq_true z)
      omega
    refine ⟨_, rfl, a, _, rfl, hs3, _, rfl, a, ns, rfl, hs3, hb, h4, _, _, rfl, rfl, _, rfl, ?_⟩
    rw [ll]
    refine ite2 (fun c3 => ?_) (fun c3 => ?_)
    · exact short (.inr (of_decide_eq_true c3))
    have h2 : ¬ (ns.length < 4 ∨ (ns.length : Int) < elen ns) := fun z => by
      rcases z with z | z
      · omega
      · exact c3 (decide_eq_true z)
    have long : ((ns.length : Int) > elen ns ∨ ns.length > 4096) → Q (.str "long") H3 := fun h3 => by
      have z := q H3 s03
      unfold faultV at z
      rw [fault_long h1 h2 h3] at z
      exact z
    refine ⟨_, rfl, a, _, rfl, hs3, _, rfl, a, ns, rfl, hs3, hb, h4, _, _, rfl, rfl, _, rfl, ?_⟩
    rw [ll]
    refine ite2 (fun c4 => ?_) (fun c4 => ?_)
    · exact long (.inl (of_decide_eq_true c4))
    refine ⟨_, rfl, a, _, rfl, hs3, _, _, rfl, rfl, _, rfl, ?_⟩
    rw [ll]
    refine ite2 (fun c5 => ?_) (fun c5 => ?_)
    · have := of_decide_eq_true c5
      exact long (.inr (by omega))
    have h3 : ¬ ((ns.length : Int) > elen ns ∨ ns.length > 4096) := fun z => by
      rcases z with z | z
      · exact c4 (decide_eq_true z)
      · exact c5 (decide_eq_true (by omega))
    refine ⟨_, rfl, _, rfl, _, rfl, ask_sl hs3 fun c H4 s4 hc4 => ?_⟩
    have e4 : cutV (ns.map V.int) none (some (-4)) = (but4 ns).map V.int := by
      rw [cutV_but, ll, ← List.map_take]
      rfl
    rw [e4] at hc4
    refine ⟨c, but4 ns, rfl, hc4, ?_, fun p5 H5 s5 hp5 => ?_⟩
    · unfold but4
      rw [List.length_take]
      omega
    refine ⟨p5, _, rfl, SqT.of hp5, rfl, _, _, rfl, _, _, rfl, rfl, ?_⟩
    have s05 := (s03.trans s4).trans s5
    refine ⟨_, rfl, _, rfl, _, rfl, ask_sl (hs.same s05) fun c6 H6 s6 hc6 => ?_⟩
    have e6 : cutV (ns.map V.int) (some (-4)) none = (last4 ns).map V.int := by
      rw [cutV_last, ll, ← List.map_drop]
      rfl
    rw [e6] at hc6
    refine ⟨c6, _, rfl, hc6, fun l nl => ?_⟩
    have s7 := same_new (o := .lst ((last4 ns).map V.int)) nl
    refine ⟨_, rfl, _, rfl, fun p8 H8 s8 np8 hp8 => ?_⟩
    refine ⟨_, rfl, _, rfl, fun p9 H9 s9 np9 hp9 => ?_⟩
    refine ⟨p8, p9, _, _, rfl, rfl, s9 _ _ hp8, hp9, by show 4 ≤ sizeLine; decide, fun p10 np10 => ?_⟩
    have s10 := same_new (o := .lst ((two (sumsOf (but4 ns)).1).map V.int ++ (two (sumsOf (but4 ns)).2).map V.int)) np10
    refine ask_neL (ns := last4 ns) (ms := two (sumsOf (but4 ns)).1 ++ two (sumsOf (but4 ns)).2) (SqL.of (s10 _ _ (s9 _ _ (s8 _ _ upd_same)))) (SqL.of (by rw [upd_same, List.map_append])) ⟨_, rfl, ?_⟩
    have sAll := ((((s05.trans s6).trans s7).trans s8).trans s9).trans s10
    have er := fault_rest h1 h2 h3
    refine ite2 (fun c7 => ?_) (fun c7 => ?_)
    · have h7 : last4 ns ≠ two (sumsOf (but4 ns)).1 ++ two (sumsOf (but4 ns)).2 := by simpa using c7
      have z := q _ sAll
      unfold faultV at z
      rw [er, if_pos h7] at z
      exact z
    · have h7 : ¬ last4 ns ≠ two (sumsOf (but4 ns)).1 ++ two (sumsOf (but4 ns)).2 := by simpa using c7
      have z := q _ sAll
      unfold faultV at z
      rw [er, if_neg h7] at z
      exact z
end
end K68


set_option Elab.async false
set_option linter.all false
set_option maxRecDepth 100000
set_option maxHeartbeats 4000000
/-! Own errors whose context is None, and raised where one is handled. -/
namespace L2N
open PySem PySem.Spec PyProof.Rows L2
theorem passL {X : Cx} : Passes (L2N.CX X.prog X.w) X E0 := fun _ _ _ _ _ _ _ h => by
  obtain ⟨_, _, _, _, _, _, _, _, _, _, _, _, z⟩ := h
  exact z.elim
theorem takes_no {X : Cx} : L2N.Takes X (fun _ _ _ _ => False) := fun u s' xx => by
  obtain ⟨a, B, sI, pins', σ', H', cls, d, rfl, J', nb, up, sky, na, os, ag, w⟩ := xx
  exact w.elim
section
variable {X : Cx} {cn f qi : Str} {C U fI : Addr}
theorem pmk_err {a : Expr} {ta : TA} {p pos : Pos} (T : PySem.OwnEx.ErrTxt X.K X.mg cn f qi C U fI) (hr : X.A.depth + 1 < recursionLimit) (ha : PA X [a] ta) (hg : Gl X cn)
    (he : starEach (a :: []) X.env = (false, eval a X.env) :: starEach [] X.env := by rfl) (hpl : (backTo pos (starEach [] X.env)).any (·.1) = false := by rfl) :
    L2N.PMk X (.Call (.Name cn p) [a] [] pos) (tMkErr f C ta) := by
  intro pins s σ H Q I h
  refine wpAny_Call_Name_kw (ld_glob I hg T.gC ?_ T.dbg)
  refine PySem.W.callWith_K (h₀ := X.base) I.ok.mod.kin T.kC (thn (ha.run pos pins s σ H _ I h) fun us s1 hh => ?_) he hpl
  obtain ⟨vs, H1, I1, r1, v, ev, q1⟩ := hh
  subst ev
  refine ⟨I1.kIn, ?_⟩
  cases r1 with
  | cons rv rn =>
    rename_i v' us'
    cases rn
    show wpAny _ _ (call (.ref C) [v']) _ _ _
    have hlim := I1.nolimit
    obtain ⟨hp, g, dr, tk, os⟩ := s1
    refine wpAny_call (PySem.OwnEx.err_made T I1.kIn hlim hr fun h' tk' e d M => ?_)
    show L2N.MkP X pins σ Q (.ref e) ⟨h', g, dr, tk', os⟩
    obtain ⟨oe, fv, hoe, hc, hd, hdat, h1, h2⟩ := M.obj
    have hns := M.ns
    obtain ⟨G', g1, g2⟩ := restrict h' fun b => decide (b ≠ e)
    have gk : ∀ b, b ≠ e → G'.get? b = h'.get? b := fun b hb => g1 b (decide_eq_true hb)
    have ge : G'.get? e = none := g2 e (by simp)
    have old : ∀ b o, hp.get? b = some o → G'.get? b = some o := fun b o q => (gk b (Nat.ne_of_lt (Nat.lt_of_lt_of_le (Heap.lt_size q) M.new))).trans (M.keep b o q)
    have ob : ObjOk X.prog X.w (upd H1 d (.xd [(f, v)])) G' d (.xd [(f, v)]) := ⟨_, hns.at (fun o q => (gk d M.dne).trans q), fun y => relO_fld rv y⟩
    have J : Inv X pins σ (upd H1 d (.xd [(f, v)])) ⟨G', g, dr, tk', os⟩ := I1.laid (t' := tk') old M.dbig ob
    refine ⟨e, oe, fv, ⟨G', g, dr, tk', os⟩, _, .ref C, some d, rfl, J, fun b o q => ?_, ge, hoe, ⟨hc, hd, fun vs ev => ?_⟩, hdat, h1, ?_, rfl, I1.bare, raises_own T.exC T.tyC, q1 d (I1.hok.fresh M.dbig)⟩
    · by_cases hb : b = e
      · have q' : G'.get? b = some o := q
        rw [hb, ge] at q'; cases q'
      · exact (gk b hb).symm.trans q
    · rw [hdat] at ev
      cases ev
      exact h2
    · rw [upd_ne (Ne.symm M.dne)]
      exact I1.hok.fresh M.new
theorem ps_raiseErr {a : Expr} {ta : TA} {W : WX} {p pos pos2 : Pos} {k : Nat} (hc : X.calm = true) (T : PySem.OwnEx.ErrTxt X.K X.mg cn f qi C U fI) (hr : Room k X.A) (tk : L2N.Takes X W) (ha : PA X [a] ta) (hg : Gl X cn)
    (he : starEach (a :: []) X.env = (false, eval a X.env) :: starEach [] X.env := by rfl) (hpl : (backTo pos (starEach [] X.env)).any (·.1) = false := by rfl) :
    PS X (.Raise (some (.Call (.Name cn p) [a] [] pos)) none pos2) (tRaiseErr f C W ta) := L2N.ps_raise hc tk (pmk_err T (by have := hr.dp; omega) ha hg he hpl)
/-- raise E(e) where an exception is handled -/
theorem ps_raiseErrH {a : Expr} {ta : TA} {W : WX} {p pos pos2 : Pos} {k : Nat} (hc : L2H.HotC X) (T : PySem.OwnEx.ErrTxt X.K X.mg cn f qi C U fI) (hr : L2H.RoomH k X.A) (tk : L2.Takes X W) (ha : PA X [a] ta) (hg : Gl X cn)
    (he : starEach (a :: []) X.env = (false, eval a X.env) :: starEach [] X.env := by rfl) (hpl : (backTo pos (starEach [] X.env)).any (·.1) = false := by rfl) :
    PS X (.Raise (some (.Call (.Name cn p) [a] [] pos)) none pos2) (tRaiseErr f C W ta) := L2H.ps_raiseH hc tk (pmk_err T (by have := hr.dp; omega) ha hg he hpl)
end
section
variable {P : Program} {w : World} {K : PySem.W.Frag} {mg : Str → Option Value} {base : Heap}
theorem Fun.okXN {x qual : Str} {st : Stmt} {f : Addr} {fd : FuncData} {N ps : List Str} {k : Nat} {sp : Sp} (F : Fun K x qual st f fd) (S : FnScope N ps (defScope st)) (len : ∀ vs H Q E, sp vs H Q E → vs.length = ps.length)
    (hbody : ∀ (cdv : Value) (A : Around) (outer : List Env) (s : Shared) (H : Hp) (vs : List V) (Q : VK) (E : XK), Room k (A.deeper (envOfC qual (defScope st) s.heap.objs.size f cdv)) → sp vs H Q E →
      ∃ t, PSs (cxOf (L2N.CX P w) P w K mg base N qual (defScope st) f cdv A outer s H E) (defBody st) t ∧ t { nx := fun _ H' => Q .non H', rt := Q } (L2.start N vs) H) : FnOk P w K mg base (L2N.CX P w) (k + 1) f fd ps sp := by
  obtain ⟨oc, od, kV, doc, pm, an, cdv, ct, osl, rfl, lk, hcd⟩ := F.ex
  exact fn_of lk hcd S len fun A outer s H vs Q E hr hsp => hbody cdv A outer s H vs Q E hr hsp
end
end L2N
namespace L2H
open PySem PySem.Spec PyProof.Rows L2
section
variable {P : Program} {w : World} {K : PySem.W.Frag} {mg : Str → Option Value} {base : Heap}
/-- a def that is called where an exception is handled -/
theorem Fun.okH {CX : CXT} {x qual : Str} {st : Stmt} {f : Addr} {fd : FuncData} {N ps : List Str} {k : Nat} {sp : Sp} (F : Fun K x qual st f fd) (S : FnScope N ps (defScope st)) (len : ∀ vs H Q E, sp vs H Q E → vs.length = ps.length)
    (hbody : ∀ (cdv : Value) (A : Around) (outer : List Env) (s : Shared) (H : Hp) (vs : List V) (Q : VK) (E : XK) (p : Addr × Obj), Hot1 A p → RoomH k (A.deeper (envOfC qual (defScope st) s.heap.objs.size f cdv)) → sp vs H Q E →
      ∃ t, PSs (cxH CX P w K mg base N qual (defScope st) f cdv A outer s H E p) (defBody st) t ∧ t { nx := fun _ H' => Q .non H', rt := Q } (L2.start N vs) H) : FnH P w K mg base CX (k + 1) f fd ps sp := by
  obtain ⟨oc, od, kV, doc, pm, an, cdv, ct, osl, rfl, lk, hcd⟩ := F.ex
  exact fn_ofH lk hcd S len fun A outer s H vs Q E p hot hr hsp => hbody cdv A outer s H vs Q E p hot hr hsp
theorem hot_cxH {CX : CXT} {N : List Str} {qual : Str} {scope : Scope} {f : Addr} {cd : Value} {A : Around} {outer : List Env} {s : Shared} {H : Hp} {E : XK} {p : Addr × Obj} (h : Hot1 A p) : HotC (cxH CX P w K mg base N qual scope f cd A outer s H E p) := ⟨p, h, List.mem_singleton.mpr rfl⟩
end
/-- in a suite whose exception's context is None -/
theorem hot_suite {X : Cx} {a : Addr} {oe : Obj} {cls : Value} {d : Option Addr} {pn : List (Addr × Obj)} (z : L2N.Zn cls d oe) (f : ∃ vs, oe.data = .fields vs) : HotC (X.suite a ((a, oe) :: pn)) := by
  obtain ⟨vs, e⟩ := f
  exact ⟨(a, oe), ⟨rfl, vs, e, z.2.2 vs e⟩, List.mem_cons_self ..⟩
end L2H


set_option Elab.async false
set_option linter.all false
set_option maxRecDepth 100000
set_option maxHeartbeats 4000000
namespace K68
open PySem L2
/-- the word of what read_entry refuses -/
def wordE (s : List Int) : Option Str := match fault s with
  | some x => some (wordOf x)
  | none => match readE s with
    | none => some "value"
    | some _ => none
def NotSigns (K : PySem.W.Frag) (H : Hp) (x : V) : Prop :=
  (∃ (a : Addr) (xs : List V), x = .ref a ∧ SqA K H a xs ∧ (∀ y ∈ xs, Odd K H y) ∧ xs.length ≤ 1000000 ∧ xs.all (isBelow 256) = false) ∨ (∃ n, Is K H x n ∧ (n == "list" || n == "tuple") = false)
theorem NotSigns.same {K : PySem.W.Frag} {H H' : Hp} {x : V} (h : NotSigns K H x) (s : Same H H') : NotSigns K H' x := by
  rcases h with ⟨a, xs, e, h1, h2, h3, h4⟩ | ⟨n, h1, h2⟩
  · exact .inl ⟨a, xs, e, h1.same s, fun y hy => (h2 y hy).same s, h3, h4⟩
  · exact .inr ⟨n, h1.same s, h2⟩
def Thrown (C : Addr) (w : Str) (H : Hp) (E : XK) : Prop := ∀ (H' : Hp) (d : Addr), Same H H' → H' d = none → E (.ref C) (some d) (upd H' d (.xd [("word", .str w)]))
def spEntry (K : PySem.W.Frag) (C : Addr) : Sp := fun vs H Q E => ∃ x : V, vs = [x] ∧
  ((∃ (a : Addr) (ns : List Int), x = .ref a ∧ SqA K H a (ns.map V.int) ∧ Bytes ns ∧ ns.length ≤ 1000000 ∧ (∀ w, wordE ns = some w → Thrown C w H E) ∧
    (∀ d, readE ns = some d → ∀ (v : V) (H' : Hp), Same H H' → Tv H' d v → Q v H')) ∨ (NotSigns K H x ∧ Thrown C "signs" H E))
def spLog (K : PySem.W.Frag) (C : Addr) : Sp := fun vs H Q E => ∃ x : V, vs = [x] ∧
  ((∃ (a : Addr) (ns : List Int), x = .ref a ∧ SqA K H a (ns.map V.int) ∧ Bytes ns ∧ ns.length ≤ 1000000 ∧
    (∀ (p : Addr) (v : V) (H' : Hp), Same H H' → H' p = some (.tup [v, .int (((readL ns.length ns).2 : Nat) : Int)]) → Tv H' (.tuple (readL ns.length ns).1) v → Q (.ref p) H')) ∨ (NotSigns K H x ∧ Thrown C "signs" H E))
theorem all_below {ns : List Int} (h : Bytes ns) : (ns.map V.int).all (isBelow 256) = true := by
  rw [List.all_map, List.all_eq_true]
  intro x hx
  have := h x hx
  exact decide_eq_true this
theorem odd_ints {K : PySem.W.Frag} {H : Hp} {ns : List Int} : ∀ y ∈ ns.map V.int, Odd K H y := fun y hy => by
  obtain ⟨i, _, rfl⟩ := List.mem_map.mp hy
  exact .int i
/-- what are_signs is asked of either -/
theorem ask_signs {K : PySem.W.Frag} {H : Hp} {Q : VK} {x : V} (h : NotSigns K H x) (q : ∀ H', Same H H' → Q (.bl false) H') {E : XK} : spSigns K [x] H Q E := by
  rcases h with ⟨a, xs, e, h1, h2, h3, h4⟩ | ⟨n, h1, h2⟩
  · exact ⟨x, rfl, .inl ⟨a, xs, e, h1, h2, h3, by rw [h4]; exact q⟩⟩
  · exact ⟨x, rfl, .inr ⟨n, h1, h2, q⟩⟩
theorem ask_signsT {K : PySem.W.Frag} {H : Hp} {Q : VK} {a : Addr} {ns : List Int} (h : SqA K H a (ns.map V.int)) (hb : Bytes ns) (hl : ns.length ≤ 1000000) (q : ∀ H', Same H H' → Q (.bl true) H') {E : XK} : spSigns K [.ref a] H Q E :=
  ⟨_, rfl, .inl ⟨a, _, rfl, h, odd_ints, by rw [List.length_map]; exact hl, by rw [all_below hb]; exact q⟩⟩
theorem no_fault {s : List Int} (h : fault s = none) (hb : Bytes s) : 8 ≤ s.length ∧ s.length ≤ 4096 := by
  unfold fault at h
  split at h
  · cases h
  · split at h
    · cases h
    · rename_i h2
      split at h
      · cases h
      · rename_i h3
        have b2 := bytes_getD hb 2
        have b3 := bytes_getD hb 3
        have : 8 ≤ elen s := by
          unfold elen
          omega
        omega
section
variable {P : Program} {w : World} {K : PySem.W.Frag} {mg : Str → Option Value} {base : Heap}
theorem ok_rv {fV fT fN fL : Addr} {fdV fdT fdN fdL : FuncData} (FV : Fun K "read_value" "read_value" sReadValue fV fdV) (FT : Fun K "read_things" "read_things" sReadThings fT fdT) (T : TxtP K mg) (G : TxtT K mg)
    (GN : FnOk P w K mg base CX0 1 fN fdN ["signs", "at"] (spReadNum K)) (bN : Binds K fdN ["signs", "at"] []) (mN : mg "read_number" = some (.ref fN)) (kN : PySem.W.keepIn K (.ref fN) = true)
    (GL : FnOk P w K mg base CX0 1 fL fdL ["signs", "begin", "many"] (spLetters K)) (bL : Binds K fdL ["signs", "begin", "many"] []) (mL : mg "read_letters" = some (.ref fL)) (kL : PySem.W.keepIn K (.ref fL) = true)
    (bT : Binds K fdT ["signs", "begin", "many", "deep"] []) (mT : mg "read_things" = some (.ref fT)) (kT : PySem.W.keepIn K (.ref fT) = true)
    (bV : Binds K fdV ["signs", "at", "deep"] []) (mV : mg "read_value" = some (.ref fV)) (kV : PySem.W.keepIn K (.ref fV) = true) :
    ∀ n, n ≤ 10 → FnOk P w K mg base CX0 (2 * n + 2) fV fdV ["signs", "at", "deep"] (spReadV K n)
  | 0, _ => ok_readV (k := 0) FV T G GN bN mN kN GL bL mL kL (ok_things0 FT T G) bT mT kT
  | n + 1, h => by
    have ih := ok_rv FV FT T G GN bN mN kN GL bL mL kL bT mT kT bV mV kV n (by omega)
    have ht := ok_thingsS FT T G ih bV mV kV (by omega)
    have e : 2 * (n + 1) + 2 = (2 * n + 2) + 2 := by omega
    rw [e]
    exact ok_readV (k := 2 * n + 2) FV T G GN bN mN kN GL bL mL kL ht bT mT kT
theorem ok_entry {f fS fF fV C U fI : Addr} {fd fdS fdF fdV : FuncData} {qi : Str} (F : Fun K "read_entry" "read_entry" sReadEntry f fd) (T : TxtP K mg) (ET : PySem.OwnEx.ErrTxt K mg "InvalidEntry" "word" qi C U fI)
    (GS : FnOk P w K mg base CX0 5 fS fdS ["value"] (spSigns K)) (bS : Binds K fdS ["value"] []) (mS : mg "are_signs" = some (.ref fS)) (kS : PySem.W.keepIn K (.ref fS) = true)
    (GF : FnOk P w K mg base CX0 2 fF fdF ["signs"] (spFault K)) (bF : Binds K fdF ["signs"] []) (mF : mg "entry_fault" = some (.ref fF)) (kF : PySem.W.keepIn K (.ref fF) = true)
    (GV : FnOk P w K mg base CX0 22 fV fdV ["signs", "at", "deep"] (spReadV K 10)) (bV : Binds K fdV ["signs", "at", "deep"] []) (mV : mg "read_value" = some (.ref fV)) (kV : PySem.W.keepIn K (.ref fV) = true) :
    FnOk P w K mg base (L2N.CX P w) 23 f fd ["signs"] (spEntry K C) := by
  refine L2N.Fun.okXN F scReadEntry (fun vs H Q E h => ?_) (fun cdv A outer s H vs Q E hr h => ?_)
  · obtain ⟨x, rfl, _⟩ := h
    rfl
  · obtain ⟨x, rfl, h⟩ := h
    refine ⟨_, pss_cons (ps_if (pt_not (pt_val (pe_call GS (hr.mono (by decide)) rfl mS kS bS .nil pass0 (pa_cons (pv 0) pa_nil)))) (pss_one (L2N.ps_raiseErr rfl ET hr (L2N.takes_of rfl rfl rfl rfl) (by exact (pa_cons pe_str pa_nil)) rfl)) pss_nil)
      (pss_cons (ps_set (i := 1) scReadEntry.nd rfl (Or.inl rfl) (pe_call GF (hr.mono (by decide)) rfl mF kF bF .nil pass0 (pa_cons (pv 0) pa_nil)))
      (pss_cons (ps_if (pt_cmpR op_notN (pv 1) pe_non (nomark _)) (pss_one (L2N.ps_raiseErr rfl ET hr (L2N.takes_of rfl rfl rfl rfl) (by exact (pa_cons (pv 1) pa_nil)) rfl)) pss_nil)
      (pss_cons (ps_set (i := 2) scReadEntry.nd rfl (Or.inl rfl) (pe_slice sl_any (pv 0) (po_some pe_int) (po_some (pe_un un_neg pe_int))))
      (pss_cons (ps_set (i := 3) scReadEntry.nd rfl (Or.inl rfl) (pe_call GV hr rfl mV kV bV .nil pass0 (pa_cons (pv 2) (pa_cons pe_int (pa_cons pe_int pa_nil)))))
      (pss_cons (ps_if (PW.pt (pw_or (pt_cmpR op_isN (pv 3) pe_non (nomark _)) (pw_or1 (pt_cmpR op_ne (pe_ix ix_tup (pv 3) pe_int (fun _ _ => rfl)) (pe_callB call_len_seq (by rfl) T.len PySem.boot_len (pa_cons (pv 2) pa_nil)) (nomark _))))) (pss_one (L2N.ps_raiseErr rfl ET hr (L2N.takes_of rfl rfl rfl rfl) (by exact (pa_cons pe_str pa_nil)) rfl)) pss_nil)
      (pss_one (ps_ret (pe_ix ix_tup (pv 3) pe_int (fun _ _ => rfl))))))))), ?_⟩
    rcases h with ⟨a, ns, rfl, hs, hb, hl, hw, hv⟩ | ⟨ho, hw⟩
    · refine ⟨_, rfl, _, rfl, .inl ⟨a, ns.map V.int, rfl, hs, odd_ints, (by rw [List.length_map]; exact hl), fun H1 s1 => ⟨_, rfl, ?_⟩⟩⟩
      rw [all_below hb]
      refine it_false rfl ?_
      refine ⟨_, rfl, a, ns, rfl, hs.same s1, hb, hl, fun H2 s2 => ?_⟩
      have s02 := s1.trans s2
      refine ⟨_, rfl, rfl, _, rfl, ?_⟩
      cases hf : fault ns with
      | some x =>
        unfold faultV
        rw [hf]
        refine it_true rfl ?_
        have z := hw (wordOf x) (by unfold wordE; rw [hf])
        exact ⟨_, rfl, _, rfl, fun d hd => z H2 d s02 hd⟩
      | none =>
        unfold faultV
        rw [hf]
        refine it_false rfl ?_
        have h8 := no_fault hf hb
        refine ⟨_, rfl, _, rfl, _, rfl, _, rfl, ask_sl (hs.same s02) fun t H3 s3 ht => ?_⟩
        have ll : (ns.map V.int).length = ns.length := List.length_map ..
        have et : cutV (ns.map V.int) (some 4) (some (-4)) = ((but4 ns).drop 4).map V.int := by
          rw [cutV_mid (by rw [ll]; exact h8.1), ll, ← List.map_take, ← List.map_drop]
          rfl
        rw [et] at ht
        have s03 := s02.trans s3
        have tb : Bytes ((but4 ns).drop 4) := fun y hy => hb y (List.mem_of_mem_take (List.mem_of_mem_drop hy))
        have tl : ((but4 ns).drop 4).length ≤ 1000000 := by
          unfold but4
          rw [List.length_drop, List.length_take]
          omega
        have er : readE ns = match readV 10 ((but4 ns).drop 4) with
          | none => none
          | some (v, u) => if u = ((but4 ns).drop 4).length then some v else none := by
          unfold readE
          first
            | (rw [hf]; done)
            | (rw [hf]; rfl)
        have bad : readE ns = none → Thrown C "value" H E := fun e => hw "value" (by unfold wordE; rw [hf, e])
        generalize (but4 ns).drop 4 = tld at ht tb tl er
        have lt : (tld.map V.int).length = tld.length := List.length_map ..
        refine ⟨_, rfl, t, tld, 0, rfl, ht, tb, tl, Nat.zero_le _, fun en H4 s4 => ?_, fun d u ev p v H4 s4 hp tv => ?_⟩
        · rw [List.drop_zero] at en
          rw [en] at er
          refine ⟨_, rfl, rfl, _, rfl, ?_⟩
          refine it_true rfl ?_
          exact ⟨_, rfl, fun d hd => bad er H4 d (s03.trans s4) hd⟩
        · rw [List.drop_zero] at ev
          rw [ev] at er
          simp only at er
          rw [Nat.zero_add] at hp
          refine ⟨_, rfl, rfl, _, rfl, ?_⟩
          refine it_false rfl ?_
          refine ⟨_, rfl, p, _, 1, _, rfl, rfl, SqT.of hp, rfl, ?_⟩
          refine ⟨_, rfl, t, _, rfl, ht.same s4, ?_⟩
          rw [lt]
          refine ⟨rfl, _, rfl, ?_⟩
          refine ite2 (fun c => ?_) (fun c => ?_)
          · have ne : u ≠ tld.length := by
              intro z
              rw [z] at c
              simp at c
            rw [if_neg ne] at er
            exact ⟨_, rfl, fun d hd => bad er H4 d (s03.trans s4) hd⟩
          · have e : u = tld.length := by
              have : ¬ V.int (u : Int) ≠ V.int (tld.length : Int) := by simpa using c
              have := Decidable.of_not_not this
              injection this with this
              omega
            rw [if_pos e] at er
            refine ⟨_, rfl, p, _, 0, v, rfl, rfl, SqT.of hp, rfl, ?_⟩
            exact hv d er v H4 (s03.trans s4) tv
    · rcases ho with ⟨a, xs, rfl, h1, h2, h3, h4⟩ | ⟨n, h1, h2⟩
      · refine ⟨_, rfl, _, rfl, .inl ⟨a, xs, rfl, h1, h2, h3, fun H1 s1 => ⟨_, rfl, ?_⟩⟩⟩
        rw [h4]
        refine it_true rfl ?_
        exact ⟨_, rfl, fun d hd => hw H1 d s1 hd⟩
      · refine ⟨_, rfl, _, rfl, .inr ⟨n, h1, h2, fun H1 s1 => ⟨_, rfl, ?_⟩⟩⟩
        refine it_true rfl ?_
        exact ⟨_, rfl, fun d hd => hw H1 d s1 hd⟩
end
end K68


set_option Elab.async false
set_option linter.all false
set_option maxRecDepth 100000
set_option maxHeartbeats 4000000
namespace K68
open PySem L2
/-- the entry at the beginning of these signs -/
def headE (s : List Int) : List Int := s.take (elen s).toNat
def LogInv (ns : List Int) (j : Nat) (ds : List PyData) (f : Nat) : Prop := j ≤ ns.length ∧ ns.length - j ≤ f ∧ ds.length ≤ j ∧
  readL ns.length ns = (ds ++ (readL f (ns.drop j)).1, j + (readL f (ns.drop j)).2)
theorem log_start (ns : List Int) : LogInv ns 0 [] ns.length := ⟨Nat.zero_le _, Nat.le_refl _, Nat.le_refl _, by simp⟩
theorem log_stop {ns : List Int} {j f : Nat} {ds : List PyData} (h : LogInv ns j ds f) (s : (ns.drop j).length < 4 ∨ readE (headE (ns.drop j)) = none) : readL ns.length ns = (ds, j) := by
  rw [h.2.2.2, readL_stop s]
  simp
theorem log_more {ns : List Int} {j f : Nat} {ds : List PyData} {v : PyData} (h : LogInv ns j ds f) (hb : Bytes ns) (s : ¬ (ns.drop j).length < 4) (e : readE (headE (ns.drop j)) = some v) :
    LogInv ns (j + (headE (ns.drop j)).length) (ds ++ [v]) (f - 1) ∧ 0 < (headE (ns.drop j)).length := by
  obtain ⟨h1, h2, h3, h4⟩ := h
  have nf : fault (headE (ns.drop j)) = none := by
    cases x : fault (headE (ns.drop j)) with
    | none => rfl
    | some y =>
      rw [readE_fault x] at e
      cases e
  have hb' : Bytes (headE (ns.drop j)) := fun y hy => hb y (List.mem_of_mem_drop (List.mem_of_mem_take hy))
  have l8 := no_fault nf hb'
  have le : (headE (ns.drop j)).length ≤ ns.length - j := by
    unfold headE
    rw [List.length_take, List.length_drop]
    omega
  rw [List.length_drop] at s
  cases f with
  | zero => omega
  | succ g =>
    refine ⟨⟨by omega, by omega, by rw [List.length_append, List.length_singleton]; omega, ?_⟩, by omega⟩
    rw [h4]
    have st : readL (g + 1) (ns.drop j) = (v :: (readL g ((ns.drop j).drop (headE (ns.drop j)).length)).1, (headE (ns.drop j)).length + (readL g ((ns.drop j).drop (headE (ns.drop j)).length)).2) := by
      show (if (ns.drop j).length < 4 then _ else match readE (headE (ns.drop j)) with
        | none => _
        | some v => _) = _
      rw [if_neg (by rw [List.length_drop]; omega), e]
      rfl
    rw [st, List.drop_drop]
    show _ = (ds ++ [v] ++ (readL g _).1, _ + (readL g _).2)
    simp
    omega
/-- what stands next, told or not -/
def NxAt (H : Hp) (ns : List Int) (j : Nat) (x : V) : Prop := (x = .non ∧ ((ns.drop j).length < 4 ∨ readE (headE (ns.drop j)) = none)) ∨
  ∃ (v : PyData) (p : Addr) (u : V), x = .ref p ∧ ¬ (ns.drop j).length < 4 ∧ readE (headE (ns.drop j)) = some v ∧ H p = some (.tup [u, .int ((j + (headE (ns.drop j)).length : Nat) : Int)]) ∧ Tv H v u
def spNext (K : PySem.W.Frag) : Sp := fun vs H Q _ => ∃ (a : Addr) (ns : List Int) (j : Nat), vs = [.ref a, .int (j : Int)] ∧ SqA K H a (ns.map V.int) ∧ Bytes ns ∧ ns.length ≤ 1000000 ∧ j ≤ ns.length ∧
  ∀ (x : V) (H' : Hp), Same H H' → NxAt H' ns j x → Q x H'
theorem headE_len {s : List Int} {v : PyData} (hb : Bytes s) (h4 : ¬ s.length < 4) (h : readE (headE s) = some v) : elen s = ((headE s).length : Int) := by
  have nf : fault (headE s) = none := by
    cases x : fault (headE s) with
    | none => rfl
    | some y =>
      rw [readE_fault x] at h
      cases h
  have hb' : Bytes (headE s) := fun y hy => hb y (List.mem_of_mem_take hy)
  have l8 := no_fault nf hb'
  unfold fault at nf
  have e1 : elen (headE s) = elen s := by
    unfold headE
    refine elen_take ?_
    have := l8.1
    unfold headE at this
    rw [List.length_take] at this
    omega
  rw [e1] at nf
  split at nf
  · cases nf
  · split at nf
    · cases nf
    · split at nf
      · cases nf
      · rename_i h2 h3
        omega
def LgAt (K : PySem.W.Frag) (H : Hp) (a L : Addr) (x : V) (ns : List Int) (m : Nat) (σ : L2.St) (H' : Hp) : Prop := Same H H' ∧ ∃ (j : Nat) (ds : List PyData) (xs : List V) (f : Nat) (r : V),
  σ = [some x, some (.ref L), some (.int (j : Int)), some r] ∧ m = ns.length - j ∧ LogInv ns j ds f ∧ H' L = some (.lst xs) ∧ TvAll H' ds xs ∧ NxAt H' ns j r ∧ SqA K H' a (ns.map V.int)
theorem ts_new {H : Hp} {p : Addr} {o : HO} (n : H p = none) : TS H (upd H p o) := ts_same (same_new n)
theorem xd_same {H H1 : Hp} {d : Addr} {o : HO} (s : Same H H1) (n : H1 d = none) : Same H (upd H1 d o) := fun c z e => same_new n _ _ (s _ _ e)
theorem ask_sl2 {K : PySem.W.Frag} {H : Hp} {Q : VK} {a : Addr} {xs : List V} {lo hi : Option Int} (h : SqA K H a xs)
    (q : ∀ p H', Same H H' → SqA K H' p (cutV xs lo hi) → ((p = a ∧ cutV xs lo hi = xs) ∨ H p = none) → Q (.ref p) H') : rSlL K (.ref a) lo hi H Q ∨ rSlA K (.ref a) lo hi H Q := by
  rcases h with h | h
  · exact .inl ⟨a, xs, rfl, h, fun p n => q p _ (same_new n) (.inl (SqL.of upd_same)) (.inr n)⟩
  · refine .inr ⟨a, xs, rfl, h, fun f => q a H (Same.refl _) (.inr ?_) (.inl ⟨rfl, cutV_full f⟩), fun _ p n => q p _ (same_new n) (.inr (.inl (.inl upd_same))) (.inr n)⟩
    rw [cutV_full f]
    exact h
/-- what is put at another place -/
theorem sqA_put {K : PySem.W.Frag} {H : Hp} {a L : Addr} {xs : List V} {o : HO} (h : SqA K H a xs) (ne : a ≠ L) : SqA K (upd H L o) a xs := by
  rcases h with h | h
  · rcases h with (h | ⟨z, h⟩) | h
    · exact .inl (.inl (.inl (by rw [upd_ne ne]; exact h)))
    · exact .inl (.inl (.inr ⟨z, by rw [upd_ne ne]; exact h⟩))
    · exact .inl (.inr h)
  · rcases h with (h | ⟨z, h⟩) | h
    · exact .inr (.inl (.inl (by rw [upd_ne ne]; exact h)))
    · exact .inr (.inl (.inr ⟨z, by rw [upd_ne ne]; exact h⟩))
    · exact .inr (.inr h)
theorem sqA_put0 {K : PySem.W.Frag} {H H1 : Hp} {a L : Addr} {xs : List V} {o : HO} (h : SqA K H a xs) (s : Same H H1) (n : H L = none) : SqA K (upd H1 L o) a xs := by
  have e : ∀ z, H a = some z → upd H1 L o a = some z := fun z q => by
    rw [upd_ne (ne_of_none q n)]
    exact s _ _ q
  rcases h with h | h
  · rcases h with (h | ⟨z, h⟩) | h
    · exact .inl (.inl (.inl (e _ h)))
    · exact .inl (.inl (.inr ⟨z, e _ h⟩))
    · exact .inl (.inr h)
  · rcases h with (h | ⟨z, h⟩) | h
    · exact .inr (.inl (.inl (e _ h)))
    · exact .inr (.inl (.inr ⟨z, e _ h⟩))
    · exact .inr (.inr h)
section
variable {P : Program} {w : World} {K : PySem.W.Frag} {mg : Str → Option Value} {base : Heap}
theorem ok_next {f fL fE C U fI : Addr} {fd fdL fdE : FuncData} {qi : Str} (F : Fun K "next_entry" "next_entry" sNextEntry f fd) (T : TxtP K mg) (ET : PySem.OwnEx.ErrTxt K mg "InvalidEntry" "word" qi C U fI)
    (ex : PySem.W.exmOne K (.ref C) (.ref C) = some true)
    (GL : FnOk P w K mg base CX0 1 fL fdL ["signs"] (spLen K)) (bL : Binds K fdL ["signs"] []) (mL : mg "entry_length" = some (.ref fL)) (kL : PySem.W.keepIn K (.ref fL) = true)
    (GE : FnOk P w K mg base (L2N.CX P w) 23 fE fdE ["signs"] (spEntry K C)) (bE : Binds K fdE ["signs"] []) (mE : mg "read_entry" = some (.ref fE)) (kE : PySem.W.keepIn K (.ref fE) = true) :
    FnOk P w K mg base (L2N.CX P w) 24 f fd ["log", "begin"] (spNext K) := by
  refine L2N.Fun.okXN F scNextEntry (fun vs H Q E h => ?_) (fun cdv A outer s H vs Q E hr h => ?_)
  · obtain ⟨a, ns, j, rfl, _⟩ := h
    rfl
  · obtain ⟨a, ns, j, rfl, hs, hb, hl, hj, q⟩ := h
    refine ⟨_, pss_cons (ps_if (pt_cmpR op_lt (pe_callB call_len_seq (by rfl) T.len PySem.boot_len (pa_cons (pv 0) pa_nil)) (pe_op op_add (pv 1) pe_int) (nomark _)) (pss_one (ps_ret pe_non)) pss_nil)
      (pss_cons (ps_set (i := 2) scNextEntry.nd rfl (Or.inl rfl) (pe_op op_add (pv 1) (pe_call GL (hr.mono (by decide)) rfl mL kL bL .nil pass0 (pa_cons (pe_slice sl_any (pv 0) (po_some (pv 1)) (po_some (pe_op op_add (pv 1) pe_int))) pa_nil))))
      (pss_one (L2N.ps_try_many (Wout := fun cls d _ H' => E cls d H') (l := [(.ref C, fun _ _ _ => tRet (tC .non))]) (tb := fun W => tRet (tTup (tCons (tCallS (spEntry K C) (WE W) (tCons (tSl (fun x lo hi H Q => rSlL K x lo hi H Q ∨ rSlA K x lo hi H Q) (tVar 0) (tPart (tVar 1)) (tPart (tVar 2))) tNil)) (tCons (tVar 2) tNil)))) rfl rfl (L2N.takes_of rfl rfl rfl rfl)
            (fun W pn xe tk _ => pss_one (ps_ret (pe_tup (pa_cons (pe_callS GE hr rfl mE kE bE (fun σ => L2N.passAt tk σ) (by exact (pa_cons (pe_slice sl_any (pv 0) (po_some (pv 1)) (po_some (pv 2))) pa_nil))) (pa_cons (pv 2) pa_nil)))))
            (L2N.HdsOk.cons ⟨rfl, by decide, .inl ET.gC⟩ (fun a oe cls d pn hz hf => pss_one (ps_ret pe_non)) .nil)))), ?_⟩
    have ll : (ns.map V.int).length = ns.length := List.length_map ..
    refine ⟨_, rfl, a, _, rfl, hs, _, rfl, _, _, rfl, rfl, _, _, rfl, rfl, _, rfl, ?_⟩
    rw [ll]
    refine ite2 (fun c => ?_) (fun c => ?_)
    · have h4 : (ns.drop j).length < 4 := by
        have := of_decide_eq_true c
        rw [List.length_drop]
        omega
      exact q _ _ (Same.refl _) (.inl ⟨rfl, .inl h4⟩)
    · have h4 : ¬ (ns.drop j).length < 4 := by
        have : ¬ (ns.length : Int) < (j : Int) + 4 := fun z => c (decide_eq_true z)
        rw [List.length_drop]
        omega
      refine ⟨_, rfl, _, rfl, _, rfl, _, rfl, _, rfl, _, _, rfl, rfl, _, rfl, ask_sl hs fun t H2 s2 ht => ?_⟩
      have e4 : cutV (ns.map V.int) (some (j : Int)) (some ((j : Int) + 4)) = ((ns.drop j).take 4).map V.int := by
        have : (j : Int) + 4 = ((j + 4 : Nat) : Int) := by omega
        rw [this, cutV_nat, Nat.add_sub_cancel_left, List.map_take, List.map_drop]
      rw [e4] at ht
      have hdb : Bytes (ns.drop j) := fun y hy => hb y (List.mem_of_mem_drop hy)
      refine ⟨t, _, rfl, ht, fun y hy => hdb y (List.mem_of_mem_take hy), by rw [List.length_take]; omega, _, _, rfl, rfl, ?_⟩
      rw [elen_take (Nat.le_refl 4)]
      refine ⟨_, rfl, _, rfl, _, rfl, ?_⟩
      refine ⟨_, rfl, _, rfl, ask_sl2 (hs.same s2) fun e H3 s3 he hwh => ?_⟩
      have he0 : 0 ≤ elen (ns.drop j) := by
        have b2 := bytes_getD hdb 2
        have b3 := bytes_getD hdb 3
        unfold elen
        omega
      have ee : cutV (ns.map V.int) (some (j : Int)) (some ((j : Int) + elen (ns.drop j))) = (headE (ns.drop j)).map V.int := by
        have : (j : Int) + elen (ns.drop j) = ((j + (elen (ns.drop j)).toNat : Nat) : Int) := by omega
        rw [this, cutV_nat, Nat.add_sub_cancel_left]
        unfold headE
        rw [List.map_take, List.map_drop]
      rw [ee] at he hwh
      have ebytes : Bytes (headE (ns.drop j)) := fun y hy => hdb y (List.mem_of_mem_take hy)
      have elh : (headE (ns.drop j)).length ≤ 1000000 := by
        unfold headE
        rw [List.length_take, List.length_drop]
        omega
      have s23 := s2.trans s3
      refine ⟨_, rfl, .inl ⟨e, _, rfl, he, ebytes, elh, fun wd ew H4 d s4 nd => ?_, fun v ev u H4 s4 tv4 => ?_⟩⟩
      · refine ⟨true, ex, fun _ ax nax => ?_, fun z => by cases z⟩
        have none' : readE (headE (ns.drop j)) = none := by
          cases x : readE (headE (ns.drop j)) with
          | none => rfl
          | some v =>
            unfold wordE at ew
            have nf : fault (headE (ns.drop j)) = none := by
              cases y : fault (headE (ns.drop j)) with
              | none => rfl
              | some z =>
                rw [readE_fault y] at x
                cases x
            rw [nf, x] at ew
            cases ew
        exact q _ _ (xd_same (s23.trans s4) nd) (.inl ⟨rfl, .inr none'⟩)
      · refine ⟨_, rfl, by show 2 ≤ sizeLine; decide, fun p np => ?_⟩
        have el := headE_len hdb h4 ev
        refine q _ _ ((s23.trans s4).trans (same_new np)) (.inr ⟨v, p, u, rfl, h4, ev, ?_, tv4.mono (ts_new np)⟩)
        rw [upd_same]
        show some (HO.tup [u, .int ((j : Int) + elen (ns.drop j))]) = _
        rw [el, Int.natCast_add]
theorem log_go {ns : List Int} {j f : Nat} {ds : List PyData} {v : PyData} (h : LogInv ns j ds f) (hb : Bytes ns) (s : ¬ (ns.drop j).length < 4) (e : readE (headE (ns.drop j)) = some v) :
    LogInv ns (j + (headE (ns.drop j)).length) (ds ++ [v]) (f - 1) ∧ ns.length - (j + (headE (ns.drop j)).length) < ns.length - j := by
  obtain ⟨a, b⟩ := log_more h hb s e
  have := a.1
  exact ⟨a, by omega⟩
theorem ok_log {f fS fN C U fI : Addr} {fd fdS fdN : FuncData} {qi : Str} (F : Fun K "read_log" "read_log" sReadLog f fd) (T : TxtP K mg) (ET : PySem.OwnEx.ErrTxt K mg "InvalidEntry" "word" qi C U fI)
    (GS : FnOk P w K mg base CX0 5 fS fdS ["value"] (spSigns K)) (bS : Binds K fdS ["value"] []) (mS : mg "are_signs" = some (.ref fS)) (kS : PySem.W.keepIn K (.ref fS) = true)
    (GN : FnOk P w K mg base (L2N.CX P w) 24 fN fdN ["log", "begin"] (spNext K)) (bN : Binds K fdN ["log", "begin"] []) (mN : mg "next_entry" = some (.ref fN)) (kN : PySem.W.keepIn K (.ref fN) = true) :
    FnOk P w K mg base (L2N.CX P w) 25 f fd ["log"] (spLog K C) := by
  refine L2N.Fun.okXN F scReadLog (fun vs H Q E h => ?_) (fun cdv A outer s H vs Q E hr h => ?_)
  · obtain ⟨x, rfl, _⟩ := h
    rfl
  · obtain ⟨x, rfl, h⟩ := h
    refine ⟨_, pss_cons (ps_if (pt_not (pt_val (pe_call GS (hr.mono (by decide)) rfl mS kS bS .nil pass0 (pa_cons (pv 0) pa_nil)))) (pss_one (L2N.ps_raiseErr rfl ET hr (L2N.takes_of rfl rfl rfl rfl) (by exact (pa_cons pe_str pa_nil)) rfl)) pss_nil)
      (pss_cons (ps_set (i := 1) scReadLog.nd rfl (Or.inl rfl) (pe_lst pa_nil))
      (pss_cons (ps_set (i := 2) scReadLog.nd rfl (Or.inl rfl) pe_int)
      (pss_cons (ps_set (i := 3) scReadLog.nd rfl (Or.inl rfl) (pe_call GN hr rfl mN kN bN .nil L2N.passL (pa_cons (pv 0) (pa_cons pe_int pa_nil))))
      (pss_cons (ps_while (passes_of rfl) (pt_cmpR op_notN (pv 3) pe_non (nomark _))
        (pss_cons (ps_expr (pe_bm PySem.F.plainAttrs_list PySem.F.slot_list_append PySem.F.type_list_append mt_append (pv 1) (pa_cons (pe_ix ix_tup (pv 3) pe_int (fun _ _ => rfl)) pa_nil)))
        (pss_cons (ps_set (i := 2) scReadLog.nd rfl (Or.inl rfl) (pe_ix ix_tup (pv 3) pe_int (fun _ _ => rfl)))
        (pss_one (ps_set (i := 3) scReadLog.nd rfl (Or.inl rfl) (pe_call GN hr rfl mN kN bN .nil L2N.passL (pa_cons (pv 0) (pa_cons (pv 2) pa_nil))))))))
      (pss_one (ps_ret (pe_tup (pa_cons (pe_tupleOf (by rfl) T.tuple (pv 1)) (pa_cons (pv 2) pa_nil))))))))), ?_⟩
    rcases h with ⟨a, ns, rfl, hs, hb, hl, q⟩ | ⟨ho, hw⟩
    · refine ⟨_, rfl, _, rfl, .inl ⟨a, ns.map V.int, rfl, hs, odd_ints, (by rw [List.length_map]; exact hl), fun H1 s1 => ⟨_, rfl, ?_⟩⟩⟩
      rw [all_below hb]
      refine it_false rfl ?_
      refine ⟨by show 0 ≤ sizeLine; decide, fun L nL => ?_⟩
      have nL0 : H L = none := by
        cases e : H L with
        | none => rfl
        | some o =>
          rw [s1 _ _ e] at nL
          cases nL
      have s0 : Same H (upd H1 L (.lst [])) := s1.trans (same_new nL)
      refine ⟨_, rfl, a, ns, 0, rfl, hs.same s0, hb, hl, Nat.zero_le _, fun r H2 s2 nx => ?_⟩
      refine ⟨fun m σ H' => LgAt K H a L (.ref a) ns m σ H', ⟨_, s0.trans s2, 0, [], [], ns.length, r, rfl, rfl, log_start ns, s2 _ _ upd_same, .nil, nx, hs.same (s0.trans s2)⟩, ?_⟩
      rintro m σ H' ⟨sH, j, ds, xs, g, r, rfl, rfl, inv, hL, tv, nx, hsq⟩
      have xl := tv.len
      rcases nx with ⟨rfl, stop⟩ | ⟨v, p, u, rfl, h4, ev, hp, tvu⟩
      · refine ⟨_, rfl, rfl, _, rfl, ?_⟩
        refine it_false rfl ?_
        have er := log_stop inv stop
        refine ⟨_, rfl, .inl ⟨L, xs, rfl, SqL.of hL, fun t nt => ?_⟩⟩
        refine ⟨_, rfl, by show 2 ≤ sizeLine; decide, fun p np => ?_⟩
        have ntp : t ≠ p := fun z => by
          rw [← z, upd_same] at np
          cases np
        rw [er] at q
        exact q p (.ref t) _ (fun c z e => same_new np _ _ (same_new nt _ _ (sH _ _ e))) upd_same (.tup (xs := xs) (by rw [upd_ne ntp, upd_same]) ((tv.mono (ts_new nt)).mono (ts_new np)))
      · obtain ⟨inv', dec⟩ := log_go inv hb h4 ev
        have jl := inv'.1
        have dl := inv'.2.2.1
        rw [List.length_append, List.length_singleton] at dl
        have npL : p ≠ L := fun z => by
          rw [z, hL] at hp
          cases hp
        refine ⟨_, rfl, rfl, _, rfl, ?_⟩
        refine it_true rfl ?_
        refine ⟨fun σ' H2 => ∃ m', m' < ns.length - j ∧ LgAt K H a L (.ref a) ns m' σ' H2, fun σ' H2 h => h, ?_⟩
        refine ⟨_, rfl, .inl ⟨rfl, _, SqL.of hL⟩, ?_⟩
        refine ⟨_, rfl, p, _, 0, u, rfl, rfl, .inl (.inl hp), rfl, ?_⟩
        refine ⟨L, xs, u, rfl, rfl, hL, by rw [sizeLine_eq]; omega, ?_⟩
        have hp' : upd H' L (.lst (xs ++ [u])) p = some (.tup [u, .int ((j + (headE (ns.drop j)).length : Nat) : Int)]) := by
          rw [upd_ne npL]
          exact hp
        refine ⟨_, rfl, p, _, 1, _, rfl, rfl, .inl (.inl hp'), rfl, ?_⟩
        have sP : Same H (upd H' L (.lst (xs ++ [u]))) := same_put sH nL0
        refine ⟨_, rfl, _, rfl, a, ns, j + (headE (ns.drop j)).length, rfl, sqA_put0 hs sH nL0, hb, hl, jl, fun r' H3 s3 nx' => ?_⟩
        exact ⟨_, dec, sP.trans s3, _, ds ++ [v], xs ++ [u], g - 1, r', rfl, rfl, inv', s3 _ _ upd_same, ((tv.snoc tvu).mono (ts_put hL)).mono (ts_same s3), nx', hs.same (sP.trans s3)⟩
    · rcases ho with ⟨a, xs, rfl, h1, h2, h3, h4⟩ | ⟨n, h1, h2⟩
      · refine ⟨_, rfl, _, rfl, .inl ⟨a, xs, rfl, h1, h2, h3, fun H1 s1 => ⟨_, rfl, ?_⟩⟩⟩
        rw [h4]
        refine it_true rfl ?_
        exact ⟨_, rfl, fun d hd => hw H1 d s1 hd⟩
      · refine ⟨_, rfl, _, rfl, .inr ⟨n, h1, h2, fun H1 s1 => ⟨_, rfl, ?_⟩⟩⟩
        refine it_true rfl ?_
        exact ⟨_, rfl, fun d hd => hw H1 d s1 hd⟩
end
end K68


set_option Elab.async false
set_option linter.all false
set_option maxRecDepth 100000
set_option maxHeartbeats 4000000
namespace K68
open PySem L2
/-- a deal: a list of a list of numbers and a number -/
def Deal (H : Hp) (b L : Addr) : Prop := b ≠ L ∧ ∃ (ns : List Int) (z : Int), H b = some (.lst [.ref L, .int z]) ∧ H L = some (.lst (ns.map V.int)) ∧ ns.length ≤ 1000
/-- all but the deal stays -/
def But (b L : Addr) (H H' : Hp) : Prop := ∀ c o, c ≠ b → c ≠ L → H c = some o → H' c = some o
theorem But.refl {b L : Addr} {H : Hp} : But b L H H := fun _ _ _ _ h => h
theorem But.trans {b L : Addr} {H H1 H2 : Hp} (h : But b L H H1) (k : But b L H1 H2) : But b L H H2 := fun c o n m e => k c o n m (h c o n m e)
theorem but_same {b L : Addr} {H H1 : Hp} (h : Same H H1) : But b L H H1 := fun c o _ _ e => h c o e
theorem Deal.same {H H1 : Hp} {b L : Addr} (h : Deal H b L) (s : Same H H1) : Deal H1 b L := by
  obtain ⟨n, ns, z, h1, h2, h3⟩ := h
  exact ⟨n, ns, z, s _ _ h1, s _ _ h2, h3⟩
theorem but_ts {b L : Addr} {H H1 : Hp} (h : But b L H H1) (d : Deal H b L) : TS H H1 := fun c xs e => by
  obtain ⟨n, ns, z, h1, h2, h3⟩ := d
  refine h c _ (fun q => ?_) (fun q => ?_) e
  · rw [q, h1] at e
    cases e
  · rw [q, h2] at e
    cases e
theorem Deal.bl {H : Hp} {b L : Addr} (h : Deal H b L) : ∃ o, H b = some o := by
  obtain ⟨n, ns, z, h1, h2, h3⟩ := h
  exact ⟨_, h1⟩
theorem Deal.ne {H : Hp} {b L c : Addr} (h : Deal H b L) (n : H c = none) : c ≠ b ∧ c ≠ L := by
  obtain ⟨_, ns, z, h1, h2, h3⟩ := h
  exact ⟨fun q => (by rw [q, h1] at n; cases n), fun q => (by rw [q, h2] at n; cases n)⟩
def spAny : Sp := fun vs H Q _ => ∃ (b L : Addr) (m : Int), vs = [.ref b, .int m] ∧ Deal H b L ∧ 0 < m ∧ m ≤ 1000000000000 ∧
  ∀ (d : Int) (H' : Hp), 0 ≤ d → d < m → Deal H' b L → But b L H H' → Q (.int d) H'
/-- one of some things -/
def spOf (K : PySem.W.Frag) : Sp := fun vs H Q _ => ∃ (b L t : Addr) (xs : List V), vs = [.ref b, .ref t] ∧ Deal H b L ∧ H t = some (.lst xs) ∧ t ≠ b ∧ t ≠ L ∧ 0 < xs.length ∧ xs.length < 1000 ∧
  ∀ (x : V) (H' : Hp), x ∈ xs → Deal H' b L → But b L H H' → Q x H'
def spDraw (K : PySem.W.Frag) : Sp := fun vs H Q _ => ∃ (t : Addr) (ns : List Int), vs = [.ref t, .int 68] ∧ SqL K H t (ns.map V.int) ∧ ns.length ≤ 63 ∧
  ∀ (b L : Addr) (H' : Hp), H b = none → Same H H' → Deal H' b L → Q (.ref b) H'
theorem mod_lt {x m : Int} (h : 0 < m) : 0 ≤ x % m ∧ x % m < m := ⟨Int.emod_nonneg _ (by omega), Int.emod_lt_of_pos _ h⟩
theorem last_ints {ns : List Int} (h : ns ≠ []) : ∃ y : Int, (ns.map V.int)[(ns.map V.int).length - 1]? = some (.int y) ∧ (ns.map V.int).dropLast = ns.dropLast.map V.int ∧ ns.dropLast.length < ns.length := by
  have hl : 0 < ns.length := List.length_pos_iff.mpr h
  refine ⟨ns[ns.length - 1], ?_, ?_, ?_⟩
  · rw [List.length_map, List.getElem?_map, List.getElem?_eq_getElem (by omega)]
    rfl
  · rw [List.map_dropLast]
  · rw [List.length_dropLast]
    omega
theorem atI_last {ns : List Int} (h : ns ≠ []) : ∃ y : Int, atI (ns.map V.int) (-1) = some (.int y) := by
  have hl : 0 < ns.length := List.length_pos_iff.mpr h
  refine ⟨ns[ns.length - 1], ?_⟩
  have e := atI_map (ns := ns) (j := ns.length - 1) (by omega)
  rw [← e]
  unfold atI ixN
  simp only [List.length_map]
  congr 1
  rw [if_neg (by omega), if_pos (by omega), if_pos (by omega), if_pos (by omega)]
  congr 1
  omega
section
variable {P : Program} {w : World} {K : PySem.W.Frag} {mg : Str → Option Value} {base : Heap}
def MtDeal (H : Hp) (b L : Addr) (m : Int) (μ : Nat) (σ : L2.St) (H' : Hp) : Prop := σ = [some (.ref b), some (.int m), none] ∧ But b L H H' ∧ b ≠ L ∧ ∃ (ns : List Int) (z : Int), μ = ns.length ∧ H' b = some (.lst [.ref L, .int z]) ∧ H' L = some (.lst (ns.map V.int)) ∧ ns.length ≤ 1000
theorem ok_any {f : Addr} {fd : FuncData} (F : Fun K "_law_any" "_law_any" sXAny f fd) (T : TxtP K mg) : FnOk P w K mg base CX0 1 f fd ["deal", "bound"] spAny := by
  refine F.ok scXAny (fun vs H Q E h => ?_) (fun cdv A outer s H vs Q E hr h => ?_)
  · obtain ⟨b, L, m, rfl, _⟩ := h
    rfl
  · obtain ⟨b, L, m, rfl, hd, m0, m1, q⟩ := h
    refine ⟨_, pss_cons (ps_while PassesOwn.never (PW.pt (pw_and (pt_cmpR (op_neD hr.units) (pe_ix ix_list (pv 0) pe_int (fun _ _ => rfl)) (pe_lst pa_nil) (nomark _))
          (pw_and1 (pt_cmpR op_eq (pe_ix ix_list (pe_ix ix_list (pv 0) pe_int (fun _ _ => rfl)) (pe_un un_neg pe_int) (fun _ _ => rfl)) pe_int (nomark _)))))
        (pss_one (ps_expr (pe_bm0 PySem.F.plainAttrs_list PySem.F.slot_list_pop PySem.F.type_list_pop mt_pop (pe_ix ix_list (pv 0) pe_int (fun _ _ => rfl))))))
      (pss_cons (ps_if (pt_cmpR (op_neD hr.units) (pe_ix ix_list (pv 0) pe_int (fun _ _ => rfl)) (pe_lst pa_nil) (nomark _))
        (pss_cons (ps_set (i := 2) scXAny.nd rfl (Or.inl rfl) (pe_callTy call_int1 (by rfl) T.int (by decide +kernel) (pa_cons (pe_bm0 PySem.F.plainAttrs_list PySem.F.slot_list_pop PySem.F.type_list_pop mt_pop (pe_ix ix_list (pv 0) pe_int (fun _ _ => rfl))) pa_nil)))
        (pss_cons (ps_expr (pe_bm PySem.F.plainAttrs_list PySem.F.slot_list_append PySem.F.type_list_append mt_append (pe_ix ix_list (pv 0) pe_int (fun _ _ => rfl)) (pa_cons (pe_op op_fdivW (pv 2) (pv 1)) pa_nil)))
        (pss_one (ps_ret (pe_op op_mod (pv 2) (pv 1))))))
        pss_nil)
      (pss_cons (ps_asg (pe_op op_mod (pe_callTy call_int1 (by rfl) T.int (by decide +kernel) (pa_cons (pe_op op_add (pe_op op_mul (pe_ix ix_list (pv 0) pe_int (fun _ _ => rfl)) pe_int) pe_int) pa_nil)) pe_int) (pg_sub (pv 0) pe_int set_list))
      (pss_one (ps_ret (pe_op op_mod (pe_callTy call_int1 (by rfl) T.int (by decide +kernel) (pa_cons (pe_op op_fdiv (pe_ix ix_list (pv 0) pe_int (fun _ _ => rfl)) pe_int) pa_nil)) (pv 1)))))), ?_⟩
    obtain ⟨hne, ns0, z0, hb0, hL0, hn0⟩ := hd
    have at0 : ∀ x y : V, atI [x, y] 0 = some x := fun _ _ => rfl
    have at1 : ∀ x y : V, atI [x, y] 1 = some y := fun _ _ => rfl
    refine ⟨fun μ σ H' => MtDeal H b L m μ σ H', ⟨_, rfl, But.refl, hne, ns0, z0, rfl, hb0, hL0, hn0⟩, ?_⟩
    rintro μ σ H1 ⟨rfl, but, _, ns, z, rfl, hb, hL, hn⟩
    refine ⟨_, rfl, b, _, _, _, rfl, rfl, SqL.of hb, at0 _ _, ?_⟩
    refine ⟨by show 0 ≤ sizeLine; decide, fun p np => ?_⟩
    have npb : b ≠ p := fun e => by
      rw [← e, hb] at np
      cases np
    have npL : L ≠ p := fun e => by
      rw [← e, hL] at np
      cases np
    have hbp : upd H1 p (.lst []) b = some (.lst [.ref L, .int z]) := by rw [upd_ne npb]; exact hb
    have hLp : upd H1 p (.lst []) L = some (.lst (ns.map V.int)) := by rw [upd_ne npL]; exact hL
    have butp : But b L H (upd H1 p (.lst [])) := but.trans (but_same (same_new np))
    -- when nothing is left in the list
    have tail : ∀ H2 : Hp, But b L H H2 → ∀ z2 : Int, H2 b = some (.lst [.ref L, .int z2]) → H2 L = some (.lst (ns.map V.int)) →
        tSeq (tAsg (tOp (rI (fun _ j => 0 < j) fun i j => V.int (i % j)) (tCB (fun xs H Q => (∃ i, xs = [V.int i] ∧ Q (V.int i) H) ∨ ∃ k, xs = [V.bl k] ∧ Q (V.int (if k then 1 else 0)) H) (tCons (tOp (rI0 fun i j => V.int (i + j)) (tOp (rI CMul fun i j => V.int (i * j)) (tOp (rIxL K) (tVar 0) (tC (V.int 1))) (tC (V.int 40693))) (tC (V.int 71))) tNil)) (tC (V.int 2147483647))) (gSub (tVar 0) (tC (V.int 1)) rSetL))
          (tRet (tOp (rI (fun _ j => 0 < j) fun i j => V.int (i % j)) (tCB (fun xs H Q => (∃ i, xs = [V.int i] ∧ Q (V.int i) H) ∨ ∃ k, xs = [V.bl k] ∧ Q (V.int (if k then 1 else 0)) H) (tCons (tOp (rI CDiv fun i j => V.int (i / j)) (tOp (rIxL K) (tVar 0) (tC (V.int 1))) (tC (V.int 64))) tNil)) (tVar 1)))
          { nx := fun x H' => Q V.non H', rt := Q } [some (.ref b), some (.int m), none] H2 := fun H2 but2 z2 hb2 hL2 => by
      refine ⟨_, rfl, b, _, _, _, rfl, rfl, SqL.of hb2, at1 _ _, _, _, rfl, rfl, .inr (by decide), _, _, rfl, rfl, .inl ⟨_, rfl, _, _, rfl, rfl, (by show (0 : Int) < 2147483647; decide), ?_⟩⟩
      refine ⟨_, rfl, b, _, _, _, rfl, rfl, hb2, rfl, ?_⟩
      have h3 : ∀ v : V, upd H2 b (.lst ([V.ref L, .int z2].set 1 v)) b = some (.lst [.ref L, v]) := fun v => upd_same
      refine ⟨_, rfl, b, _, _, _, rfl, rfl, SqL.of (h3 _), at1 _ _, _, _, rfl, rfl, ⟨by decide, by decide⟩, .inl ⟨_, rfl, _, rfl, _, _, rfl, rfl, m0, ?_⟩⟩
      refine q _ _ (mod_lt m0).1 (mod_lt m0).2 ⟨hne, ns, _, h3 _, by rw [upd_ne (Ne.symm hne)]; exact hL2, hn⟩ fun c o n1 n2 e => ?_
      rw [upd_ne n1]
      exact but2 c o n1 n2 e
    refine ask_neL (ns := ns) (ms := []) (SqL.of hLp) (SqL.of upd_same) ⟨_, rfl, ?_⟩
    -- behind the loop
    have fin : ∀ H2 : Hp, But b L H H2 → H2 b = some (.lst [.ref L, .int z]) → H2 L = some (.lst (ns.map V.int)) → _ := fun H2 but2 hb2 hL2 => by
      refine (⟨_, rfl, b, _, _, _, rfl, rfl, SqL.of hb2, at0 _ _, ⟨by show 0 ≤ sizeLine; decide, fun p2 np2 => ?_⟩⟩ : (tSeq (tIfS (tTest (tOp (rNeD K) (tOp (rIxL K) (tVar 0) (tC (V.int 0))) (tLst tNil)))
          (tSeq (tAsg (tCB (fun xs H Q => (∃ i, xs = [V.int i] ∧ Q (V.int i) H) ∨ ∃ k, xs = [V.bl k] ∧ Q (V.int (if k then 1 else 0)) H) (tCons (tBM0 K "list" rPop (tOp (rIxL K) (tVar 0) (tC (V.int 0)))) tNil)) (gName 2))
            (tSeq (tDrop (tBM K "list" rAppend (tOp (rIxL K) (tVar 0) (tC (V.int 0))) (tCons (tOp (rI CDivW fun i j => V.int (i / j)) (tVar 2) (tVar 1)) tNil))) (tRet (tOp (rI (fun _ j => 0 < j) fun i j => V.int (i % j)) (tVar 2) (tVar 1))))) tNext)
          (tSeq (tAsg (tOp (rI (fun _ j => 0 < j) fun i j => V.int (i % j)) (tCB (fun xs H Q => (∃ i, xs = [V.int i] ∧ Q (V.int i) H) ∨ ∃ k, xs = [V.bl k] ∧ Q (V.int (if k then 1 else 0)) H) (tCons (tOp (rI0 fun i j => V.int (i + j)) (tOp (rI CMul fun i j => V.int (i * j)) (tOp (rIxL K) (tVar 0) (tC (V.int 1))) (tC (V.int 40693))) (tC (V.int 71))) tNil)) (tC (V.int 2147483647))) (gSub (tVar 0) (tC (V.int 1)) rSetL))
            (tRet (tOp (rI (fun _ j => 0 < j) fun i j => V.int (i % j)) (tCB (fun xs H Q => (∃ i, xs = [V.int i] ∧ Q (V.int i) H) ∨ ∃ k, xs = [V.bl k] ∧ Q (V.int (if k then 1 else 0)) H) (tCons (tOp (rI CDiv fun i j => V.int (i / j)) (tOp (rIxL K) (tVar 0) (tC (V.int 1))) (tC (V.int 64))) tNil)) (tVar 1)))))
          { nx := fun x H' => Q V.non H', rt := Q } [some (.ref b), some (.int m), none] H2)
      have ne2b : b ≠ p2 := fun e => by
        rw [← e, hb2] at np2
        cases np2
      have ne2L : L ≠ p2 := fun e => by
        rw [← e, hL2] at np2
        cases np2
      have hbq : upd H2 p2 (.lst []) b = some (.lst [.ref L, .int z]) := by rw [upd_ne ne2b]; exact hb2
      have hLq : upd H2 p2 (.lst []) L = some (.lst (ns.map V.int)) := by rw [upd_ne ne2L]; exact hL2
      have butq : But b L H (upd H2 p2 (.lst [])) := but2.trans (but_same (same_new np2))
      refine ask_neL (ns := ns) (ms := []) (SqL.of hLq) (SqL.of upd_same) ⟨_, rfl, ?_⟩
      refine ite2 (fun c => ?_) (fun c => ?_)
      · have hns : ns ≠ [] := by simpa using c
        obtain ⟨y, hy, hdl, hlen⟩ := last_ints hns
        refine ⟨_, rfl, b, _, _, _, rfl, rfl, SqL.of hbq, at0 _ _, .inl ⟨rfl, _, SqL.of hLq⟩, L, _, _, rfl, rfl, hLq, hy, .inl ⟨_, rfl, ?_⟩⟩
        rw [hdl]
        have hbr : ∀ v, upd (upd H2 p2 (.lst [])) L v b = some (.lst [.ref L, .int z]) := fun v => by rw [upd_ne hne]; exact hbq
        refine ⟨_, rfl, b, _, _, _, rfl, rfl, SqL.of (hbr _), at0 _ _, .inl ⟨rfl, _, SqL.of upd_same⟩, _, rfl, _, rfl, _, _, rfl, rfl, wide_div (b := 41) m0 (by omega) (by decide) (by decide), ?_⟩
        refine ⟨L, _, _, rfl, rfl, upd_same, by rw [List.length_map, sizeLine_eq]; omega, ?_⟩
        refine ⟨_, rfl, _, rfl, _, _, rfl, rfl, m0, ?_⟩
        refine q _ _ (mod_lt m0).1 (mod_lt m0).2 ⟨hne, ns.dropLast ++ [y / m], z, ?_, ?_, ?_⟩ fun c o n1 n2 e => ?_
        · rw [upd_ne hne]
          exact hbr _
        · rw [upd_same, List.map_append]
          rfl
        · rw [List.length_append, List.length_singleton]
          omega
        · rw [upd_ne n2, upd_ne n2]
          exact butq c o n1 n2 e
      · exact tail _ butq z hbq hLq
    refine ite2 (fun c => ?_) (fun c => ?_)
    · have hns : ns ≠ [] := by simpa using c
      obtain ⟨y, hy, hdl, hlen⟩ := last_ints hns
      obtain ⟨y', hy'⟩ := atI_last hns
      refine ⟨_, rfl, b, _, _, _, rfl, rfl, SqL.of hbp, at0 _ _, _, rfl, L, _, _, _, rfl, rfl, SqL.of hLp, hy', rfl, _, rfl, ?_⟩
      refine ite2 (fun c2 => ?_) (fun c2 => ?_)
      · refine ⟨fun σ' H2 => ∃ μ', μ' < ns.length ∧ MtDeal H b L m μ' σ' H2, fun σ' H2 h => h, ?_⟩
        refine ⟨_, rfl, b, _, _, _, rfl, rfl, SqL.of hbp, at0 _ _, .inl ⟨rfl, _, SqL.of hLp⟩, L, _, _, rfl, rfl, hLp, hy, ?_⟩
        rw [hdl]
        refine ⟨_, hlen, rfl, fun c o n1 n2 e => ?_, hne, ns.dropLast, z, rfl, ?_, upd_same, by omega⟩
        · rw [upd_ne n2]
          exact butp c o n1 n2 e
        · rw [upd_ne hne]
          exact hbp
      · exact fin _ butp hbp hLp
    · exact fin _ butp hbp hLp
end
end K68


set_option Elab.async false
set_option linter.all false
set_option maxRecDepth 100000
set_option maxHeartbeats 4000000
namespace K68
open PySem L2
theorem seqL_put {K : PySem.W.Frag} {H H' : Hp} {a : Addr} {xs : List V} (h : SqL K H a xs) (e : ∀ o, H a = some o → H' a = some o) : SqL K H' a xs := by
  rcases h with (h | ⟨o, h⟩) | h
  · exact .inl (.inl (e _ h))
  · exact .inl (.inr ⟨o, e _ h⟩)
  · exact .inr h
section
variable {P : Program} {w : World} {K : PySem.W.Frag} {mg : Str → Option Value} {base : Heap}
theorem ok_of {f fA : Addr} {fd fdA : FuncData} (F : Fun K "_law_of" "_law_of" sXOf f fd) (T : TxtP K mg) (GA : FnOk P w K mg base CX0 1 fA fdA ["deal", "bound"] spAny) (bA : Binds K fdA ["deal", "bound"] [])
    (mA : mg "_law_any" = some (.ref fA)) (kA : PySem.W.keepIn K (.ref fA) = true) : FnOk P w K mg base CX0 2 f fd ["deal", "some"] (spOf K) := by
  refine F.ok scXOf (fun vs H Q E h => ?_) (fun cdv A outer s H vs Q E hr h => ?_)
  · obtain ⟨b, L, t, xs, rfl, _⟩ := h
    rfl
  · obtain ⟨b, L, t, xs, rfl, hd, hs, n1, n2, l0, l1, k⟩ := h
    refine ⟨_, pss_one (ps_ret (pe_ix ix_list (pv 1) (pe_call GA hr rfl mA kA bA .nil pass0 (pa_cons (pv 0) (pa_cons (pe_callB call_len_seq (by rfl) T.len PySem.boot_len (pa_cons (pv 1) pa_nil)) pa_nil))) (fun _ _ => rfl))), ?_⟩
    refine ⟨_, rfl, _, rfl, _, rfl, t, xs, rfl, .inl (SqL.of hs), b, L, _, rfl, hd, by omega, by omega, fun d H' d0 d1 hd' hu => ?_⟩
    obtain ⟨j, rfl⟩ : ∃ j : Nat, d = (j : Int) := ⟨d.toNat, by omega⟩
    have hj : j < xs.length := by omega
    exact ⟨t, xs, _, _, rfl, rfl, SqL.of (hu t _ n1 n2 hs), atI_nat (List.getElem?_eq_getElem hj), k _ _ (List.getElem_mem hj) hd' hu⟩
theorem ok_draw {f : Addr} {fd : FuncData} (F : Fun K "_law_draw" "_law_draw" sXDraw f fd) (T : TxtP K mg) : FnOk P w K mg base CX0 1 f fd ["script", "salt"] (spDraw K) := by
  refine F.ok scXDraw (fun vs H Q E h => ?_) (fun cdv A outer s H vs Q E hr h => ?_)
  · obtain ⟨t, ns, rfl, _⟩ := h
    rfl
  · obtain ⟨t, ns, rfl, hs, hl, q⟩ := h
    refine ⟨_, pss_cons (ps_setLc (i := 2) (own := [("cell", 4)]) (g := gName 4) (tt := tYes) rfl scXDraw.nd rfl rfl rfl (pi_list (pe_slice sl_list (pv 0) po_none (po_some pe_int))) (blkOk_by (N := nXDraw) (sc := defScope sXDraw) (by decide +kernel))
          (fun _ _ _ _ _ => pg_name (i := 4) scXDraw.nd rfl (Or.inl rfl)) (fun _ _ _ _ _ => pts_nil)
          (fun _ _ _ _ _ => pe_callB call_abs (by rfl) T.abs (by decide +kernel) (pa_cons (pe_callTy call_int1 (by rfl) T.int (by decide +kernel) (pa_cons (pv 4) pa_nil)) pa_nil)))
      (pss_cons (ps_set (i := 3) scXDraw.nd rfl (Or.inl rfl) (pe_op op_add pe_int (pe_op op_mul pe_int (pv 1))))
      (pss_cons (ps_for PassesOwn.never rfl (pi_list (pv 2)) (pg_name (i := 4) scXDraw.nd rfl (Or.inl rfl))
        (pss_one (ps_set (i := 3) scXDraw.nd rfl (Or.inl rfl) (pe_op op_mod (pe_callTy call_int1 (by rfl) T.int (by decide +kernel) (pa_cons (pe_op op_add (pe_op op_add (pe_op op_mul (pv 3) pe_int) (pe_op op_mod (pv 4) pe_int)) pe_int) pa_nil)) pe_int))))
      (pss_one (ps_ret (pe_lst (pa_cons (pe_revL
        (pe_lc (own := [("cell", 4)]) (g := gName 4) rfl scXDraw.nd (pi_list (pv 2)) (blkOk_by (N := nXDraw) (sc := defScope sXDraw) (by decide +kernel))
          (fun _ _ _ _ _ => pg_name (i := 4) scXDraw.nd rfl (Or.inl rfl)) (fun _ _ _ _ _ => pts_one (pt_cmpR op_ge (pv 4) (pe_op op_pow pe_int pe_int) (nomark _)))
          (fun _ _ _ _ _ => pv 4))) (pa_cons (pv 3) pa_nil))))))), ?_⟩
    refine ⟨_, rfl, _, rfl, t, _, rfl, hs, fun c nc => ?_⟩
    have s1 := same_new (o := .lst (cutV (ns.map V.int) none (some 48))) nc
    have ec : cutV (ns.map V.int) none (some 48) = (ns.take 48).map V.int := by
      rw [List.map_take]
      exact cutV_to 48
    have hc : SqL K (upd H c (.lst (cutV (ns.map V.int) none (some 48)))) c ((ns.take 48).map V.int) := SqL.of (by rw [upd_same, ec])
    have cl : (ns.take 48).length ≤ 48 := by
      rw [List.length_take]
      omega
    generalize ns.take 48 = cs at hc cl
    generalize upd H c (.lst (cutV (ns.map V.int) none (some 48))) = H1 at s1 hc
    refine ⟨c, rfl, ⟨_, hc⟩, fun D hD => ?_⟩
    refine lc_grow walk_list (fun k => (cs[k]?).map fun z => .int (if z < 0 then -z else z)) hD (by rw [List.length_map]; omega) (fun H2 s2 => sqL_same s2 hc) (fun k x H2 H3 hi s2 y Nx Ny hN _ => ?_) (fun H2 s2 ed => ?_)
    · obtain ⟨rfl, hx⟩ := y
      rw [List.getElem?_map] at hx
      cases ek : cs[k]? with
      | none =>
        rw [ek] at hx
        cases hx
      | some z =>
        rw [ek] at hx
        cases hx
        refine ⟨rfl, yes_of ?_⟩
        exact ⟨_, rfl, .inl ⟨_, rfl, _, rfl, hN _ _ (by rw [ek]; rfl) (Same.refl _)⟩⟩
    · rw [List.length_map, range_mapG (fun z : Int => V.int (if z < 0 then -z else z)) cs] at ed
      have s02 := s1.trans s2
      refine ⟨_, rfl, _, _, rfl, rfl, .inr (by decide), _, _, rfl, rfl, ?_⟩
      have edi : (cs.map fun z : Int => V.int (if z < 0 then -z else z)) = (cs.map fun z : Int => if z < 0 then -z else z).map V.int := by
        rw [List.map_map]
        rfl
      rw [edi] at ed
      generalize hbs : (cs.map fun z : Int => if z < 0 then -z else z) = bs at ed
      have bl : bs.length ≤ 48 := by
        rw [← hbs, List.length_map]
        exact cl
      refine ⟨_, rfl, D, rfl, ⟨_, SqL.of ed⟩, ?_⟩
      refine for_list (fun i σ H' => H' = H2 ∧ ∃ (z : Int) (r : Option V), σ = [some (.ref t), some (.int 68), some (.ref D), some (.int z), r]) ⟨rfl, _, none, rfl⟩ (fun i σ H' _ h => by rw [h.1]; exact SqL.of ed) (fun i x σ H' hx h => ?_) (fun σ H' h => ?_)
      · obtain ⟨rfl, z, r, rfl⟩ := h
        rw [List.getElem?_map] at hx
        cases ek : bs[i]? with
        | none =>
          rw [ek] at hx
          cases hx
        | some y =>
          rw [ek] at hx
          cases hx
          refine ⟨_, rfl, _, _, rfl, rfl, .inr (by decide), _, rfl, _, _, rfl, rfl, (by show (0 : Int) < 2147483549; decide), _, _, rfl, rfl, ?_⟩
          refine ⟨_, _, rfl, rfl, .inl ⟨_, rfl, _, _, rfl, rfl, (by show (0 : Int) < 2147483647; decide), ?_⟩⟩
          exact ⟨rfl, _, _, rfl⟩
      · obtain ⟨rfl, z, r, rfl⟩ := h
        refine ⟨_, rfl, D, rfl, ⟨_, SqL.of ed⟩, fun D2 hD2 => ?_⟩
        refine lc_grow walk_list (fun k => (bs[k]?).bind fun y => if (10 : Int) ^ (18 : Int).toNat ≤ y then some (.int y) else none) hD2 (by rw [List.length_map]; omega) (fun H3 s3 => sqL_same s3 (SqL.of ed)) (fun k x H3 H4 hi s3 y Nx Ny hN hY => ?_) (fun H3 s3 ed3 => ?_)
        · obtain ⟨rfl, hx⟩ := y
          rw [List.getElem?_map] at hx
          cases ek : bs[k]? with
          | none =>
            rw [ek] at hx
            cases hx
          | some y =>
            rw [ek] at hx
            cases hx
            refine ⟨rfl, _, rfl, _, _, rfl, rfl, ⟨by decide, by decide, by decide⟩, _, _, rfl, rfl, _, rfl, ?_⟩
            refine ite2 (fun cc => ?_) (fun cc => ?_)
            · exact ⟨_, rfl, hN _ _ (by rw [ek]; exact if_pos (of_decide_eq_true cc)) (Same.refl _)⟩
            · exact hY _ (by rw [ek]; exact if_neg (fun e => cc (decide_eq_true e))) (Same.refl _)
        · obtain ⟨fs, efs, fl⟩ : ∃ fs : List Int, ((List.range (bs.map V.int).length).filterMap fun k => (bs[k]?).bind fun y => if (10 : Int) ^ (18 : Int).toNat ≤ y then some (V.int y) else none) = fs.map V.int ∧ fs.length ≤ 48 := by
            refine ⟨(List.range (bs.map V.int).length).filterMap fun k => (bs[k]?).bind fun y => if (10 : Int) ^ (18 : Int).toNat ≤ y then some y else none, ?_, ?_⟩
            · rw [List.map_filterMap]
              congr 1
              funext k
              cases bs[k]? with
              | none => rfl
              | some y =>
                simp only [Option.bind_some]
                split <;> rfl
            · refine Nat.le_trans (List.length_filterMap_le ..) ?_
              rw [List.length_range, List.length_map]
              exact bl
          rw [efs] at ed3
          refine ⟨D2, _, rfl, SqL.of ed3, fun L nL => ?_⟩
          refine ⟨_, rfl, by show 2 ≤ sizeLine; decide, fun b nb => ?_⟩
          have nbL : L ≠ b := fun e => by
            rw [← e, upd_same] at nb
            cases nb
          have sAll : Same H (upd (upd H3 L (.lst (fs.map V.int).reverse)) b (.lst [.ref L, .int z])) := fun cc o e => same_new nb _ _ (same_new nL _ _ (s3 _ _ (s02 _ _ e)))
          refine q b L _ ?_ sAll ⟨Ne.symm nbL, fs.reverse, z, upd_same, ?_, ?_⟩
          · cases e : H b with
            | none => rfl
            | some o =>
              rw [same_new nL _ _ (s3 _ _ (s02 _ _ e))] at nb
              cases nb
          · rw [upd_ne nbL, upd_same, List.map_reverse]
          · rw [List.length_reverse]
            omega
end
end K68


set_option Elab.async false
set_option linter.all false
set_option maxRecDepth 100000
set_option maxHeartbeats 4000000
namespace K68
open PySem L2
theorem numL_fuel : ∀ (f g n : Nat), n ≤ f → n ≤ g → numL f n = numL g n
  | 0, g, n, h, k => by
    have : n = 0 := by omega
    subst this
    cases g <;> rfl
  | f + 1, 0, n, h, k => by
    have : n = 0 := by omega
    subst this
    rfl
  | f + 1, g + 1, n, h, k => by
    unfold numL
    by_cases c : n > 127
    · rw [if_pos c, if_pos c, numL_fuel f g (n / 128) (by omega) (by omega)]
    · rw [if_neg c, if_neg c]
theorem num_big {n : Nat} (h : n > 127) : num n = ((n % 128 + 128 : Nat) : Int) :: num (n / 128) := by
  unfold num
  cases n with
  | zero => omega
  | succ m =>
    conv => lhs; unfold numL
    rw [if_pos h, numL_fuel m ((m + 1) / 128) ((m + 1) / 128) (by omega) (Nat.le_refl _)]
theorem num_small {n : Nat} (h : ¬ n > 127) : num n = [(n : Int)] := by
  unfold num
  cases n with
  | zero => rfl
  | succ m =>
    unfold numL
    rw [if_neg h]
theorem num_len8 {n : Nat} (h : n < 128 ^ 8) : (num n).length ≤ 8 := numL_len n n 8 h (by decide)
def spXNum : Sp := fun vs H Q _ => ∃ n : Nat, vs = [.int (n : Int)] ∧ n < 128 ^ 8 ∧ ∀ (p : Addr) (H' : Hp), Same H H' → H p = none → H' p = some (.lst ((num n).map V.int)) → Q (.ref p) H'
def spXSums (K : PySem.W.Frag) : Sp := fun vs H Q _ => ∃ (a : Addr) (ns : List Int), vs = [.ref a] ∧ SqL K H a (ns.map V.int) ∧ ns.length ≤ 1000000 ∧ Bytes ns ∧
  ∀ (p : Addr) (H' : Hp), Same H H' → H' p = some (.tup [.int (sumsOf ns).1, .int (sumsOf ns).2]) → Q (.ref p) H'
theorem cutV_but1 {xs : List V} {y : V} : cutV (xs ++ [y]) none (some (-1)) = xs := by
  unfold cutV
  rw [HT.sIx_none, sIx_neg (by decide), List.drop_zero, Nat.sub_zero]
  have e : (-1 + ((xs ++ [y]).length : Int)).toNat = xs.length := by
    rw [List.length_append, List.length_singleton]
    omega
  rw [e, List.take_left]
theorem atI_snoc {xs : List V} {y : V} : atI (xs ++ [y]) (-1) = some y := by
  unfold atI ixN
  rw [List.length_append, List.length_singleton, if_neg (by decide), if_pos (by omega)]
  have e : ((-1 : Int) + ((xs.length + 1 : Nat) : Int)).toNat = xs.length := by omega
  rw [e]
  show (xs ++ [y])[xs.length]? = some y
  rw [List.getElem?_append_right (Nat.le_refl _)]
  simp
theorem plc_snoc : ∀ (l : List Int) (k x : Int), plc k (l ++ [x]) = plc k l + x * (k + l.length)
  | [], k, x => by
    simp [plc]
  | a :: l, k, x => by
    rw [List.cons_append]
    show a * k + plc (k + 1) (l ++ [x]) = a * k + plc (k + 1) l + x * _
    rw [plc_snoc l (k + 1) x, List.length_cons]
    have e : k + 1 + (l.length : Int) = k + ((l.length + 1 : Nat) : Int) := by omega
    rw [e]
    omega
def NbAt (H : Hp) (n : Nat) (μ : Nat) (σ : L2.St) (H' : Hp) : Prop := Same H H' ∧ ∃ (k : Nat) (p : Addr) (pre : List Int), k = μ ∧ σ = [some (.int (k : Int)), some (.ref p)] ∧ H p = none ∧ H' p = some (.lst (pre.map V.int ++ [.int ((k % 128 : Nat) : Int)])) ∧ num n = pre ++ num k
section
variable {P : Program} {w : World} {K : PySem.W.Frag} {mg : Str → Option Value} {base : Heap}
theorem ok_xtwo {f : Addr} {fd : FuncData} (F : Fun K "_law_two" "_law_two" sXTwo f fd) : FnOk P w K mg base CX0 1 f fd ["number"] spTwoSigns := by
  refine F.ok scXTwo (fun vs H Q E h => ?_) (fun cdv A outer s H vs Q E hr h => ?_)
  · obtain ⟨n, rfl, _⟩ := h
    rfl
  · obtain ⟨n, rfl, q⟩ := h
    refine ⟨_, pss_one (ps_ret (pe_lst (pa_cons (pe_op op_mod (pv 0) pe_int) (pa_cons (pe_op op_fdiv (pv 0) pe_int) pa_nil)))), ?_⟩
    refine ⟨_, rfl, _, _, rfl, rfl, (by show (0 : Int) < 256; decide), _, rfl, _, _, rfl, rfl, ⟨by decide, by decide⟩, by show 2 ≤ sizeLine; decide, fun p np => ?_⟩
    exact q p _ (same_new np) np upd_same
theorem none_of {H H' : Hp} {p : Addr} (s : Same H H') (n : H' p = none) : H p = none := by
  cases e : H p with
  | none => rfl
  | some o =>
    rw [s _ _ e] at n
    cases n
theorem ok_xnum {f : Addr} {fd : FuncData} (F : Fun K "_law_number" "_law_number" sXNumber f fd) : FnOk P w K mg base CX0 1 f fd ["number"] spXNum := by
  refine F.ok scXNumber (fun vs H Q E h => ?_) (fun cdv A outer s H vs Q E hr h => ?_)
  · obtain ⟨n, rfl, _⟩ := h
    rfl
  · obtain ⟨n, rfl, hn, q⟩ := h
    refine ⟨_, pss_cons (ps_set (i := 1) scXNumber.nd rfl (Or.inl rfl) (pe_lst (pa_cons (pe_op op_mod (pv 0) pe_int) pa_nil)))
      (pss_cons (ps_while PassesOwn.never (pt_cmpR op_gt (pv 0) pe_int (nomark _))
        (pss_cons (ps_set (i := 0) scXNumber.nd rfl (Or.inl rfl) (pe_op op_fdiv (pv 0) pe_int))
        (pss_one (ps_set (i := 1) scXNumber.nd rfl (Or.inl rfl) (pe_op op_cat (pe_slice sl_list (pv 1) po_none (po_some (pe_un un_neg pe_int))) (pe_lst (pa_cons (pe_op op_add (pe_ix ix_list (pv 1) (pe_un un_neg pe_int) (fun _ _ => rfl)) pe_int) (pa_cons (pe_op op_mod (pv 0) pe_int) pa_nil))))))))
      (pss_one (ps_ret (pv 1)))), ?_⟩
    refine ⟨_, rfl, _, _, rfl, rfl, (by show (0 : Int) < 128; decide), by show 1 ≤ sizeLine; decide, fun p0 np0 => ?_⟩
    refine ⟨fun μ σ H' => NbAt H n μ σ H', ⟨_, same_new np0, n, p0, [], rfl, rfl, np0, upd_same, rfl⟩, ?_⟩
    rintro μ σ H1 ⟨sH, k, p, pre, rfl, rfl, np, hp, eq⟩
    refine ⟨_, rfl, _, _, rfl, rfl, _, rfl, ?_⟩
    refine ite2 (fun c => ?_) (fun c => ?_)
    · have c' : k > 127 := by
        have := of_decide_eq_true c
        omega
      have pl : pre.length + (num (k / 128)).length + 1 ≤ 8 := by
        have := num_len8 hn
        rw [eq, num_big c', List.length_append, List.length_cons] at this
        omega
      refine ⟨fun σ' H2 => ∃ μ', μ' < k ∧ NbAt H n μ' σ' H2, fun σ' H2 h => h, ?_⟩
      refine ⟨_, rfl, _, _, rfl, rfl, ⟨by decide, by decide⟩, ?_⟩
      refine ⟨_, rfl, _, rfl, _, rfl, p, _, rfl, SqL.of hp, fun t nt => ?_⟩
      rw [cutV_but1]
      have sp := same_new (o := .lst (pre.map V.int)) nt
      refine ⟨_, rfl, _, rfl, p, _, _, _, rfl, rfl, SqL.of (sp _ _ hp), atI_snoc, ?_⟩
      refine ⟨_, _, rfl, rfl, _, rfl, _, _, rfl, rfl, (by show (0 : Int) < 128; decide), by show 2 ≤ sizeLine; decide, fun u nu => ?_⟩
      have su := same_new (o := .lst [.int (((k % 128 : Nat) : Int) + 128), .int ((k : Int) / 128 % 128)]) nu
      refine ⟨t, u, _, _, rfl, rfl, su _ _ upd_same, upd_same, ?_, fun r nr => ?_⟩
      · rw [List.length_map, sizeLine_eq]
        show pre.length + 2 ≤ _
        omega
      have sr := same_new (o := .lst (pre.map V.int ++ [.int (((k % 128 : Nat) : Int) + 128), .int ((k : Int) / 128 % 128)])) nr
      have sAll := ((sH.trans sp).trans su).trans sr
      refine ⟨k / 128, by omega, sAll, k / 128, r, pre ++ [((k % 128 + 128 : Nat) : Int)], rfl, rfl, none_of ((sH.trans sp).trans su) nr, ?_, ?_⟩
      · rw [upd_same, List.map_append]
        simp
      · rw [eq, num_big c']
        simp
    · have c' : ¬ k > 127 := fun z => c (decide_eq_true (by omega))
      refine ⟨_, rfl, ?_⟩
      refine q p H1 sH np ?_
      rw [hp, eq, num_small c', List.map_append]
      have e : k % 128 = k := by omega
      rw [e]
      rfl
theorem ok_xsums {f : Addr} {fd : FuncData} (F : Fun K "_law_sums" "_law_sums" sXSums f fd) (T : TxtP K mg) : FnOk P w K mg base CX0 1 f fd ["signs"] (spXSums K) := by
  refine F.ok scXSums (fun vs H Q E h => ?_) (fun cdv A outer s H vs Q E hr h => ?_)
  · obtain ⟨a, ns, rfl, _⟩ := h
    rfl
  · obtain ⟨a, ns, rfl, hs, hl, hb, q⟩ := h
    refine ⟨_, pss_cons (ps_asg (pe_tup (pa_cons pe_int (pa_cons pe_int pa_nil))) (pg_tup (by rfl) (pgs_cons (pg_name (i := 1) scXSums.nd rfl (Or.inl rfl)) (pgs_cons (pg_name (i := 2) scXSums.nd rfl (Or.inl rfl)) pgs_nil))))
      (pss_cons (ps_for PassesOwn.never rfl (pi_enum (by rfl) T.enumerate (pa_cons (pv 0) pa_nil)) (pg_tup (by rfl) (pgs_cons (pg_name (i := 3) scXSums.nd rfl (Or.inl rfl)) (pgs_cons (pg_name (i := 4) scXSums.nd rfl (Or.inl rfl)) pgs_nil)))
        (pss_one (ps_par (i := 1) (j := 2) rfl scXSums.nd rfl rfl (by decide) rfl rfl (pa_cons (pe_op op_add (pv 1) (pv 4)) (pa_cons (pe_op op_add (pv 2) (pe_op op_mul (pe_op op_add (pv 3) pe_int) (pv 4))) pa_nil)) (by rfl))))
      (pss_one (ps_ret (pe_tup (pa_cons (pe_op op_mod (pv 1) pe_int) (pa_cons (pe_op op_mod (pv 2) pe_int) pa_nil)))))), ?_⟩
    refine ⟨by show 2 ≤ sizeLine; decide, fun tp ntp => ⟨tp, _, rfl, SqT.of upd_same, rfl, _, _, rfl, _, _, rfl, rfl, ?_⟩⟩
    have s0 := same_new (o := .tup [.int 0, .int 0]) ntp
    refine ⟨_, rfl, a, _, rfl, sqL_same s0 hs, ?_⟩
    refine for_it walk_enum (fun i σ H' => Same H H' ∧ ∃ r3 r4 : Option V, σ = [some (.ref a), some (.int (ns.take i).sum), some (.int (plc 1 (ns.take i))), r3, r4]) ⟨s0, none, none, rfl⟩ (fun i σ H' _ h => sqL_same h.1 hs) (fun i x σ H1 H2 hi h y => ?_) (fun σ H1 h => ?_)
    · obtain ⟨sH, r3, r4, rfl⟩ := h
      obtain ⟨t, x', y', rfl, nt, rfl, ex, ey⟩ := y
      cases ex
      have ey : (ns.map V.int)[i]? = some y' := ey
      rw [List.length_map] at hi
      rw [List.getElem?_map, List.getElem?_eq_getElem hi] at ey
      cases ey
      refine ⟨t, _, rfl, .inl (.inl upd_same), rfl, _, _, rfl, _, _, rfl, rfl, ?_⟩
      refine ⟨_, rfl, _, rfl, _, _, rfl, rfl, _, rfl, _, rfl, _, _, rfl, rfl, _, rfl, _, _, rfl, rfl, .inl ⟨?_, ?_⟩, _, _, rfl, rfl, _, _, rfl, ?_⟩
      · show -(2 ^ 64) < (i : Int) + 1
        omega
      · show (i : Int) + 1 < 2 ^ 64
        omega
      · refine ⟨sH.trans (same_new nt), some (.int (i : Int)), some (.int ns[i]), ?_⟩
        have e1 : (ns.take (i + 1)).sum = (ns.take i).sum + ns[i] := by
          rw [List.take_succ_eq_append_getElem hi, List.sum_append]
          simp
        have e2 : plc 1 (ns.take (i + 1)) = plc 1 (ns.take i) + ((i : Int) + 1) * ns[i] := by
          rw [List.take_succ_eq_append_getElem hi, plc_snoc, List.length_take, Nat.min_eq_left (by omega), Int.mul_comm ns[i], Int.add_comm 1]
        rw [e1, e2]
        rfl
    · obtain ⟨sH, r3, r4, rfl⟩ := h
      rw [List.length_map, List.take_length]
      refine ⟨_, rfl, _, _, rfl, rfl, (by show (0 : Int) < 65521; decide), _, rfl, _, _, rfl, rfl, (by show (0 : Int) < 65521; decide), by show 2 ≤ sizeLine; decide, fun p np => ?_⟩
      exact q p _ (sH.trans (same_new np)) upd_same
end
end K68


set_option Elab.async false
set_option linter.all false
set_option maxRecDepth 100000
set_option maxHeartbeats 4000000
namespace K68
open PySem L2
mutual
/-- the small values that the law draws, n tuples deep -/
def Sm : Nat → PyData → Prop
  | _, .none => True
  | _, .bool _ => True
  | _, .int i => i.natAbs ≤ 1000000000000
  | _, .str x => x.cps.size ≤ 4 ∧ ∀ c ∈ codesOf x, okCode c = true
  | 0, .tuple _ => False
  | n + 1, .tuple ds => ds.length ≤ 3 ∧ SmAll n ds
  | _, .list _ => False
  | _, .dict _ => False
def SmAll : Nat → List PyData → Prop
  | _, [] => True
  | n, d :: ds => Sm n d ∧ SmAll n ds
end
def bigS : Nat → Nat
  | 0 => 7
  | n + 1 => 2 + 3 * bigS n
theorem bigS_ge : ∀ n, 7 ≤ bigS n
  | 0 => Nat.le_refl _
  | n + 1 => by
    have := bigS_ge n
    show 7 ≤ 2 + 3 * bigS n
    omega
mutual
theorem sm_wr : ∀ (n k : Nat) (d : PyData), n ≤ k → Sm n d → Wr k d
  | n, 0, .none, _, _ => trivial
  | n, k + 1, .none, _, _ => trivial
  | n, 0, .bool _, _, _ => trivial
  | n, k + 1, .bool _, _, _ => trivial
  | n, 0, .int _, _, _ => trivial
  | n, k + 1, .int _, _, _ => trivial
  | 0, 0, .str x, _, h => h.2
  | 0, k + 1, .str x, _, h => h.2
  | n + 1, 0, .str x, _, h => h.2
  | n + 1, k + 1, .str x, _, h => h.2
  | 0, _, .tuple _, _, h => h.elim
  | n + 1, 0, .tuple ds, hk, h => absurd hk (by omega)
  | n + 1, k + 1, .tuple ds, hk, h => sm_wrAll n k ds (by omega) h.2
  | 0, _, .list _, _, h => h.elim
  | n + 1, _, .list _, _, h => h.elim
  | 0, _, .dict _, _, h => h.elim
  | n + 1, _, .dict _, _, h => h.elim
theorem sm_wrAll : ∀ (n k : Nat) (ds : List PyData), n ≤ k → SmAll n ds → WrAll k ds
  | _, _, [], _, _ => by
    unfold WrAll
    trivial
  | n, k, d :: ds, hk, h => ⟨sm_wr n k d hk h.1, sm_wrAll n k ds hk h.2⟩
end
theorem intC_lt {i : Int} (h : i.natAbs ≤ 1000000000000) : (if 0 ≤ i then (2 * i).toNat else (-2 * i - 1).toNat) < 128 ^ 6 := by
  have e : (128 : Nat) ^ 6 = 4398046511104 := by decide
  rw [e]
  split <;> omega
theorem sm_int {n : Nat} {i : Int} (h : Sm n (.int i)) : i.natAbs ≤ 1000000000000 := by
  cases n <;> exact h
theorem sm_str {n : Nat} {x : Str} (h : Sm n (.str x)) : x.cps.size ≤ 4 ∧ ∀ c ∈ codesOf x, okCode c = true := by
  cases n <;> exact h
mutual
theorem sm_len : ∀ (n : Nat) (d : PyData), Sm n d → (signsOf d).length ≤ bigS n
  | n, .none, _ => Nat.le_trans (by simp [signsOf]) (bigS_ge n)
  | n, .bool b, _ => Nat.le_trans (by simp [signsOf]) (bigS_ge n)
  | n, .int i, h => by
    refine Nat.le_trans ?_ (bigS_ge n)
    simp only [signsOf, List.length_cons]
    have := numL_len (if 0 ≤ i then (2 * i).toNat else (-2 * i - 1).toNat) (if 0 ≤ i then (2 * i).toNat else (-2 * i - 1).toNat) 6 (intC_lt (sm_int h)) (by decide)
    unfold num
    omega
  | n, .str x, h => by
    refine Nat.le_trans ?_ (bigS_ge n)
    have h4 := (sm_str h).1
    simp only [signsOf, List.length_cons, List.length_append]
    rw [num_small (by omega), codes_len, List.length_singleton]
    omega
  | 0, .tuple ds, h => h.elim
  | n + 1, .tuple ds, h => by
    have h3 := h.1
    have := sm_lenAll n ds h.2
    simp only [signsOf, List.length_cons, List.length_append]
    rw [num_small (by omega), List.length_singleton]
    show 1 + 1 + (signsAll ds).length ≤ 2 + 3 * bigS n
    have : ds.length * bigS n ≤ 3 * bigS n := Nat.mul_le_mul_right _ h3
    omega
  | 0, .list _, h => h.elim
  | n + 1, .list _, h => h.elim
  | 0, .dict _, h => h.elim
  | n + 1, .dict _, h => h.elim
theorem sm_lenAll : ∀ (n : Nat) (ds : List PyData), SmAll n ds → (signsAll ds).length ≤ ds.length * bigS n
  | n, [], _ => by simp [signsAll]
  | n, d :: ds, h => by
    simp only [signsAll, List.length_append, List.length_cons]
    have a := sm_len n d h.1
    have b := sm_lenAll n ds h.2
    rw [Nat.succ_mul]
    omega
end
theorem num_bytes (n : Nat) : Bytes (num n) := numL_byte n n (Nat.le_refl _)
theorem bytes_append {a b : List Int} (h : Bytes a) (k : Bytes b) : Bytes (a ++ b) := fun x hx => by
  rcases List.mem_append.mp hx with q | q
  · exact h x q
  · exact k x q
theorem bytes_cons {x : Int} {b : List Int} (h : 0 ≤ x ∧ x < 256) (k : Bytes b) : Bytes (x :: b) := fun y hy => by
  rcases List.mem_cons.mp hy with q | q
  · rw [q]
    exact h
  · exact k y q
theorem bytes_nil : Bytes [] := fun x hx => by cases hx
mutual
theorem sm_bytes : ∀ (n : Nat) (d : PyData), Sm n d → Bytes (signsOf d)
  | n, .none, _ => bytes_cons (by decide) bytes_nil
  | n, .bool b, _ => bytes_cons (by cases b <;> decide) bytes_nil
  | n, .int i, h => by
    simp only [signsOf]
    exact bytes_cons (by decide) (num_bytes _)
  | n, .str x, h => by
    simp only [signsOf]
    refine bytes_append (bytes_cons (by decide) (num_bytes _)) fun c hc => ?_
    have := okCode_iff.mp ((sm_str h).2 c hc)
    omega
  | 0, .tuple ds, h => h.elim
  | n + 1, .tuple ds, h => by
    simp only [signsOf]
    exact bytes_append (bytes_cons (by decide) (num_bytes _)) (sm_bytesAll n ds h.2)
  | 0, .list _, h => h.elim
  | n + 1, .list _, h => h.elim
  | 0, .dict _, h => h.elim
  | n + 1, .dict _, h => h.elim
theorem sm_bytesAll : ∀ (n : Nat) (ds : List PyData), SmAll n ds → Bytes (signsAll ds)
  | n, [], _ => bytes_nil
  | n, d :: ds, h => by
    simp only [signsAll]
    exact bytes_append (sm_bytes n d h.1) (sm_bytesAll n ds h.2)
end
theorem two_bytes {n : Int} (h0 : 0 ≤ n) (h1 : n < 65536) : Bytes (two n) := bytes_cons (by omega) (bytes_cons (by omega) bytes_nil)
theorem entry_bytes {n : Nat} {d : PyData} (h : Sm n d) (hb : bigS n ≤ 4088) : Bytes (entryOf d) := by
  have hl := sm_len n d h
  unfold entryOf wrap
  dsimp only
  refine bytes_append (bytes_append (bytes_append (bytes_cons (by decide) (bytes_cons (by decide) bytes_nil)) (two_bytes (by omega) (by omega))) (sm_bytes n d h)) (bytes_append ?_ ?_)
  · have := sums_bound ([87, 72] ++ two ((signsOf d).length : Int) ++ signsOf d)
    exact two_bytes this.1 (by omega)
  · have := sums_bound ([87, 72] ++ two ((signsOf d).length : Int) ++ signsOf d)
    exact two_bytes this.2.2.1 (by omega)
theorem sm_fits {n : Nat} {d : PyData} (h : Sm n d) (hn : n ≤ 2) : Fits d := by
  refine ⟨sm_wr n 10 d (by omega) h, ?_⟩
  have := sm_len n d h
  have : bigS n ≤ 71 := by
    have : n = 0 ∨ n = 1 ∨ n = 2 := by omega
    rcases this with rfl | rfl | rfl <;> decide
  omega
def spXSigns (K : PySem.W.Frag) (n : Nat) : Sp := fun vs H Q _ => ∃ (v : V) (d : PyData), vs = [v] ∧ Tv H d v ∧ Sm n d ∧ bigS n ≤ 4088 ∧
  ∀ (p : Addr) (H' : Hp), Same H H' → H p = none → H' p = some (.lst ((signsOf d).map V.int)) → Q (.ref p) H'
end K68


set_option Elab.async false
set_option linter.all false
set_option maxRecDepth 100000
set_option maxHeartbeats 4000000
namespace K68
open PySem L2
/-- the class's name of such a value -/
def nameOf : PyData → String
  | .none => "NoneType"
  | .bool _ => "bool"
  | .int _ => "int"
  | .str _ => "str"
  | .tuple _ => "tuple"
  | .list _ => "list"
  | .dict _ => "dict"
theorem Tv.is {K : PySem.W.Frag} {H : Hp} {d : PyData} {v : V} (h : Tv H d v) : Is K H v (nameOf d) := by
  cases h with
  | non => exact is_non
  | bl b => exact is_bl b
  | int i => exact is_int i
  | str x => exact is_str x
  | tup h _ => exact is_tup (SqT.of h)
theorem signsAll_take {ds : List PyData} {i : Nat} (h : i < ds.length) : signsAll (ds.take (i + 1)) = signsAll (ds.take i) ++ signsOf ds[i] := by
  induction ds generalizing i with
  | nil => simp at h
  | cons d r ih =>
    cases i with
    | zero => simp [signsAll]
    | succ i =>
      simp only [List.take_succ_cons, signsAll, List.getElem_cons_succ, List.append_assoc]
      rw [ih (by simpa using h)]
theorem TvAll.get {H : Hp} : ∀ {ds : List PyData} {xs : List V} {i : Nat} {x : V}, TvAll H ds xs → xs[i]? = some x → ∃ h : i < ds.length, Tv H ds[i] x
  | _, _, i, x, .nil, e => by simp at e
  | _, _, 0, x, .cons h r, e => by
    cases e
    exact ⟨by simp, h⟩
  | _, _, i + 1, x, .cons h r, e => by
    obtain ⟨hi, ht⟩ := TvAll.get r (by simpa using e)
    exact ⟨by simpa using hi, by simpa using ht⟩
theorem SmAll.get {n : Nat} : ∀ {ds : List PyData} {i : Nat}, SmAll n ds → (h : i < ds.length) → Sm n ds[i]
  | [], i, _, h => absurd h (by simp)
  | d :: r, 0, s, h => s.1
  | d :: r, i + 1, s, h => SmAll.get (ds := r) s.2 (by simpa using h)
section
variable {P : Program} {w : World} {K : PySem.W.Frag} {mg : Str → Option Value} {base : Heap}
theorem ok_xsigns {n k : Nat} {f fN fS : Addr} {fd fdN fdS : FuncData} (F : Fun K "_law_signs" "_law_signs" sXSigns f fd) (T : TxtP K mg)
    (GN : FnOk P w K mg base CX0 1 fN fdN ["number"] spXNum) (bN : Binds K fdN ["number"] []) (mN : mg "_law_number" = some (.ref fN)) (kN : PySem.W.keepIn K (.ref fN) = true)
    (ih : ∀ j, n = j + 1 → FnOk P w K mg base CX0 (k + 1) fS fdS ["value"] (spXSigns K j)) (bS : Binds K fdS ["value"] []) (mS : mg "_law_signs" = some (.ref fS)) (kS : PySem.W.keepIn K (.ref fS) = true) (G0 : FnOk P w K mg base CX0 (k + 1) fS fdS ["value"] (fun _ _ _ _ => False)) :
    FnOk P w K mg base CX0 (k + 2) f fd ["value"] (spXSigns K n) := by
  -- the call within, whatever it is
  obtain ⟨sp, GS, hsp⟩ : ∃ sp : Sp, FnOk P w K mg base CX0 (k + 1) fS fdS ["value"] sp ∧ ∀ j, n = j + 1 → sp = spXSigns K j := by
    cases n with
    | zero => exact ⟨_, G0, fun j e => by cases e⟩
    | succ j => exact ⟨_, ih j rfl, fun i e => by cases e; rfl⟩
  refine F.ok scXSigns (fun vs H Q E h => ?_) (fun cdv A outer s H vs Q E hr h => ?_)
  · obtain ⟨v, d, rfl, _⟩ := h
    rfl
  · obtain ⟨v, d, rfl, tv, sm, hB, q⟩ := h
    refine ⟨_, pss_cons (ps_if (pt_cmpR op_isN (pv 0) pe_non (nomark _)) (pss_one (ps_ret (pe_lst (pa_cons pe_int pa_nil)))) pss_nil)
      (pss_cons (ps_if (pt_val (pe_callB call_isi (by rfl) T.isinstance (by decide +kernel) (pa_cons (pv 0) (pa_cons (pe_bltn (v := .ty "bool") (by rfl) T.bool (by decide +kernel) rfl) pa_nil)))) (pss_one (ps_ret (pe_lst (pa_cons (pe_ifExp (pt_val (pv 0)) pe_int pe_int) pa_nil)))) pss_nil)
      (pss_cons (ps_if (pt_val (pe_callB call_isi (by rfl) T.isinstance (by decide +kernel) (pa_cons (pv 0) (pa_cons (pe_bltn (v := .ty "int") (by rfl) T.int (by decide +kernel) rfl) pa_nil))))
        (pss_one (ps_ret (pe_op op_cat (pe_lst (pa_cons pe_int pa_nil)) (pe_call GN (hr.mono (by omega)) rfl mN kN bN .nil pass0 (pa_cons (pe_ifExp (pt_cmpR op_ge (pv 0) pe_int (nomark _)) (pe_op op_mul pe_int (pv 0)) (pe_op op_sub (pe_op op_mul (pe_un un_neg pe_int) (pv 0)) pe_int)) pa_nil))))) pss_nil)
      (pss_cons (ps_if (pt_val (pe_callB call_isi (by rfl) T.isinstance (by decide +kernel) (pa_cons (pv 0) (pa_cons (pe_bltn (v := .ty "str") (by rfl) T.str (by decide +kernel) rfl) pa_nil))))
        (pss_one (ps_ret (pe_op op_cat (pe_op op_cat (pe_lst (pa_cons pe_int pa_nil)) (pe_call GN (hr.mono (by omega)) rfl mN kN bN .nil pass0 (pa_cons (pe_callB call_len_str (by rfl) T.len PySem.boot_len (pa_cons (pv 0) pa_nil)) pa_nil)))
          (pe_lc (own := [("sign", 3)]) (g := gName 3) (tt := tYes) rfl scXSigns.nd (pi_str (pv 0)) (blkOk_by (N := nXSigns) (sc := defScope sXSigns) (by decide +kernel))
            (fun _ _ _ _ _ => pg_name (i := 3) scXSigns.nd rfl (Or.inl rfl)) (fun _ _ _ _ _ => pts_nil)
            (fun _ _ _ _ _ => pe_callB call_ord (by rfl) T.ord (by decide +kernel) (pa_cons (pv 3) pa_nil)))))) pss_nil)
      (pss_cons (ps_set (i := 1) scXSigns.nd rfl (Or.inl rfl) (pe_op op_cat (pe_lst (pa_cons pe_int pa_nil)) (pe_call GN (hr.mono (by omega)) rfl mN kN bN .nil pass0 (pa_cons (pe_callB call_len_seq (by rfl) T.len PySem.boot_len (pa_cons (pv 0) pa_nil)) pa_nil))))
      (pss_cons (ps_for PassesOwn.never rfl (pi_tup (pv 0)) (pg_name (i := 2) scXSigns.nd rfl (Or.inl rfl))
        (pss_one (ps_set (i := 1) scXSigns.nd rfl (Or.inl rfl) (pe_op op_cat (pv 1) (pe_call GS hr rfl mS kS bS .nil pass0 (pa_cons (pv 2) pa_nil))))))
      (pss_one (ps_ret (pv 1)))))))), ?_⟩
    have is := tv.is (K := K)
    have l1 : 1 ≤ sizeLine := by decide
    refine ⟨_, rfl, rfl, _, rfl, ?_⟩
    cases tv with
    | non =>
      refine it_true rfl ?_
      exact ⟨l1, fun p np => q p _ (same_new np) np (by rw [upd_same]; simp [signsOf])⟩
    | bl b =>
      refine it_false rfl ?_
      refine ⟨_, rfl, _, _, _, _, _, rfl, .ty "bool", is.2, kit_ty (kit_bool _ is.1), _, rfl, ?_⟩
      refine it_true rfl ?_
      refine ⟨_, rfl, _, rfl, ?_⟩
      cases b with
      | true => exact ⟨l1, fun p np => q p _ (same_new np) np (by rw [upd_same]; simp [signsOf])⟩
      | false => exact ⟨l1, fun p np => q p _ (same_new np) np (by rw [upd_same]; simp [signsOf])⟩
    | int i =>
      refine it_false rfl ?_
      refine ⟨_, rfl, _, _, _, _, _, rfl, .ty "bool", is.2, kit_ty (kit_bool _ is.1), _, rfl, ?_⟩
      refine it_false rfl ?_
      refine ⟨_, rfl, _, _, _, _, _, rfl, .ty "int", is.2, kit_ty (kit_int _ is.1), _, rfl, ?_⟩
      refine it_true rfl ?_
      refine ⟨l1, fun p1 n1 => ?_⟩
      have hi := sm_int sm
      have hlt := intC_lt hi
      have fin : ∀ (c : Int), c = (((if 0 ≤ i then (2 * i).toNat else (-2 * i - 1).toNat) : Nat) : Int) → spXNum [.int c] (upd H p1 (.lst [.int 3])) (fun x H2 => rCat (.ref p1) x H2 Q) (fun _ _ _ => False) := fun c ec => by
        refine ⟨_, by rw [ec], Nat.lt_trans hlt (by decide), fun p2 H2 s2 n2 hp2 => ?_⟩
        refine ⟨p1, p2, _, _, rfl, rfl, s2 _ _ upd_same, hp2, ?_, fun p3 n3 => ?_⟩
        · have := numL_len (if 0 ≤ i then (2 * i).toNat else (-2 * i - 1).toNat) (if 0 ≤ i then (2 * i).toNat else (-2 * i - 1).toNat) 6 hlt (by decide)
          rw [List.length_map, sizeLine_eq]
          show 1 + (num _).length ≤ _
          unfold num
          omega
        · have sA := (same_new (o := .lst [.int 3]) n1).trans s2
          exact q p3 _ (sA.trans (same_new n3)) (none_of sA n3) (by rw [upd_same]; simp [signsOf])
      refine ⟨_, rfl, _, _, rfl, rfl, _, rfl, ?_⟩
      refine ite2 (fun c => ?_) (fun c => ?_)
      · have c' : 0 ≤ i := of_decide_eq_true c
        exact ⟨_, rfl, _, _, rfl, rfl, .inl ⟨by decide, by decide⟩, fin _ (by rw [if_pos c', Int.toNat_of_nonneg (by omega)])⟩
      · have c' : ¬ 0 ≤ i := fun z => c (decide_eq_true z)
        exact ⟨_, rfl, _, rfl, _, _, rfl, rfl, .inl ⟨by decide, by decide⟩, _, _, rfl, rfl, fin _ (by rw [if_neg c', Int.toNat_of_nonneg (by omega)])⟩
    | str x =>
      refine it_false rfl ?_
      refine ⟨_, rfl, _, _, _, _, _, rfl, .ty "bool", is.2, kit_ty (kit_bool _ is.1), _, rfl, ?_⟩
      refine it_false rfl ?_
      refine ⟨_, rfl, _, _, _, _, _, rfl, .ty "int", is.2, kit_ty (kit_int _ is.1), _, rfl, ?_⟩
      refine it_false rfl ?_
      refine ⟨_, rfl, _, _, _, _, _, rfl, .ty "str", is.2, kit_ty (kit_str _ is.1), _, rfl, ?_⟩
      refine it_true rfl ?_
      refine ⟨l1, fun p1 n1 => ?_⟩
      obtain ⟨h4, hok⟩ := sm_str sm
      have xl : x.length = x.cps.size := rfl
      refine ⟨_, rfl, x, rfl, by rw [xl, sizeLine_eq]; omega, x.cps.size, rfl, Nat.lt_of_le_of_lt h4 (by decide), fun p2 H2 s2 n2 hp2 => ?_⟩
      refine ⟨p1, p2, _, _, rfl, rfl, s2 _ _ upd_same, hp2, ?_, fun p3 n3 => ?_⟩
      · rw [num_small (by omega), sizeLine_eq]
        show 1 + 1 ≤ 16777216
        decide
      have sA := ((same_new (o := .lst [.int 4]) n1).trans s2).trans (same_new (o := .lst ([.int 4] ++ (num x.cps.size).map V.int)) n3)
      refine ⟨_, rfl, x, rfl, fun D hD => ?_⟩
      refine lc_grow walk_str (fun k => (x.cps.toList[k]?).map fun (c : Nat) => V.int (c : Int)) hD (by omega) (fun _ _ => trivial) (fun k y H4 H5 hk s4 hy Nx Ny hN _ => ?_) (fun H4 s4 ed => ?_)
      · obtain ⟨rfl, c, hc, rfl⟩ := hy
        refine ⟨rfl, yes_of ?_⟩
        refine ⟨_, rfl, _, rfl, rfl, hN _ _ ?_ (Same.refl _)⟩
        rw [Array.getElem?_toList, hc]
        rfl
      · have el : x.cps.size = x.cps.toList.length := by simp
        have ec : (x.cps.toList.map fun (c : Nat) => V.int (c : Int)) = (codesOf x).map V.int := by
          unfold codesOf
          rw [List.map_map]
          rfl
        rw [el, range_mapG (fun c : Nat => V.int (c : Int)) x.cps.toList, ec] at ed
        have hp3 := s4 _ _ (upd_same (H := H2) (a := p3) (o := .lst ([.int 4] ++ (num x.cps.size).map V.int)))
        refine ⟨p3, D, _, _, rfl, rfl, hp3, ed, ?_, fun p5 n5 => ?_⟩
        · rw [num_small (by omega), List.length_map, codes_len, sizeLine_eq]
          show 2 + _ ≤ 16777216
          omega
        · refine q p5 _ ((sA.trans s4).trans (same_new n5)) (none_of (sA.trans s4) n5) ?_
          rw [upd_same]
          simp [signsOf]
    | tup ha tvs =>
      rename_i a ds xs
      refine it_false rfl ?_
      refine ⟨_, rfl, _, _, _, _, _, rfl, .ty "bool", is.2, kit_ty (kit_bool _ is.1), _, rfl, ?_⟩
      refine it_false rfl ?_
      refine ⟨_, rfl, _, _, _, _, _, rfl, .ty "int", is.2, kit_ty (kit_int _ is.1), _, rfl, ?_⟩
      refine it_false rfl ?_
      refine ⟨_, rfl, _, _, _, _, _, rfl, .ty "str", is.2, kit_ty (kit_str _ is.1), _, rfl, ?_⟩
      refine it_false rfl ?_
      cases n with
      | zero => exact sm.elim
      | succ n =>
        have esp := hsp n rfl
        subst esp
        obtain ⟨h3, sms⟩ := sm
        have xl := tvs.len
        refine ⟨l1, fun p1 n1 => ?_⟩
        have s1 := same_new (o := .lst [.int 5]) n1
        refine ⟨_, rfl, a, xs, rfl, .inr (SqT.of (s1 _ _ ha)), xs.length, rfl, Nat.lt_of_le_of_lt (by omega : xs.length ≤ 3) (by decide), fun p2 H2 s2 n2 hp2 => ?_⟩
        refine ⟨p1, p2, _, _, rfl, rfl, s2 _ _ upd_same, hp2, ?_, fun p3 n3 => ?_⟩
        · rw [num_small (by omega), sizeLine_eq]
          show 1 + 1 ≤ 16777216
          decide
        have s3 := same_new (o := .lst ([.int 5] ++ (num xs.length).map V.int)) n3
        have sA := (s1.trans s2).trans s3
        refine ⟨_, rfl, a, rfl, ⟨xs, SqT.of (sA _ _ ha)⟩, ?_⟩
        refine for_it walk_tup (fun i σ H' => Same H H' ∧ ∃ (p : Addr) (r2 r3 : Option V), σ = [some (.ref a), some (.ref p), r2, r3] ∧ H p = none ∧ H' p = some (.lst ((5 :: num xs.length ++ signsAll (ds.take i)).map V.int)))
          ⟨sA, p3, none, none, rfl, none_of (s1.trans s2) n3, by rw [upd_same]; simp [signsAll]⟩ (fun i σ H' _ h => sqT_same h.1 (SqT.of ha)) (fun i x σ H4 H5 hi h y => ?_) (fun σ H4 h => ?_)
        · obtain ⟨s4, p, r2, r3, rfl, np, hp⟩ := h
          obtain ⟨rfl, hx⟩ := y
          obtain ⟨hid, tvi⟩ := tvs.get hx
          have smi := sms.get hid
          have hB' : bigS n ≤ 4088 := by
            have : bigS (n + 1) = 2 + 3 * bigS n := rfl
            omega
          refine ⟨_, rfl, _, rfl, x, ds[i], rfl, tvi.mono (ts_same s4), smi, hB', fun p5 H6 s6 n6 hp6 => ?_⟩
          refine ⟨p, p5, _, _, rfl, rfl, s6 _ _ hp, hp6, ?_, fun p7 n7 => ?_⟩
          · have b1 := sm_len n _ smi
            have b2 := sm_lenAll n ds sms
            have b3 : (signsAll (ds.take i)).length ≤ (signsAll ds).length := by
              have : ∀ (l : List PyData) (i : Nat), (signsAll (l.take i)).length ≤ (signsAll l).length := by
                intro l
                induction l with
                | nil => intro i; simp
                | cons d r ihh =>
                  intro i
                  cases i with
                  | zero => simp [signsAll]
                  | succ i =>
                    have := ihh i
                    simp only [List.take_succ_cons, signsAll, List.length_append]
                    omega
              exact this ds i
            have b4 : ds.length * bigS n ≤ 3 * bigS n := Nat.mul_le_mul_right _ h3
            rw [num_small (by omega), List.length_map, List.length_map, sizeLine_eq]
            simp only [List.length_cons, List.length_append, List.length_nil]
            omega
          · refine ⟨(s4.trans s6).trans (same_new n7), p7, some x, r3, rfl, none_of (s4.trans s6) n7, ?_⟩
            rw [upd_same, signsAll_take hid]
            simp
        · obtain ⟨s4, p, r2, r3, rfl, np, hp⟩ := h
          refine ⟨_, rfl, ?_⟩
          refine q p H4 s4 np ?_
          rw [hp, xl, List.take_length]
          simp [signsOf]
end
end K68


set_option Elab.async false
set_option linter.all false
set_option maxRecDepth 100000
set_option maxHeartbeats 4000000
namespace K68
open PySem L2
def spXEntry (K : PySem.W.Frag) : Sp := fun vs H Q _ => ∃ (v : V) (d : PyData), vs = [v] ∧ Tv H d v ∧ Sm 2 d ∧
  ∀ (p : Addr) (H' : Hp), Same H H' → H p = none → H' p = some (.tup ((entryOf d).map V.int)) → Q (.ref p) H'
def spXValue (n : Nat) : Sp := fun vs H Q _ => ∃ (b L : Addr), vs = [.ref b, .int (n : Int)] ∧ Deal H b L ∧
  ∀ (d : PyData) (v : V) (H' : Hp), Tv H' d v → Sm n d → Deal H' b L → But b L H H' → Q v H'
section
variable {P : Program} {w : World} {K : PySem.W.Frag} {mg : Str → Option Value} {base : Heap}
theorem ok_xs {f fN : Addr} {fd fdN : FuncData} (F : Fun K "_law_signs" "_law_signs" sXSigns f fd) (T : TxtP K mg)
    (GN : FnOk P w K mg base CX0 1 fN fdN ["number"] spXNum) (bN : Binds K fdN ["number"] []) (mN : mg "_law_number" = some (.ref fN)) (kN : PySem.W.keepIn K (.ref fN) = true)
    (bS : Binds K fd ["value"] []) (mS : mg "_law_signs" = some (.ref f)) (kS : PySem.W.keepIn K (.ref f) = true) : ∀ n, FnOk P w K mg base CX0 (n + 2) f fd ["value"] (spXSigns K n) := by
  have G0 : FnOk P w K mg base CX0 1 f fd ["value"] (fun _ _ _ _ => False) := F.ok scXSigns (fun vs H Q E h => h.elim) (fun cdv A outer s H vs Q E hr h => h.elim)
  intro n
  induction n with
  | zero => exact ok_xsigns (k := 0) F T GN bN mN kN (fun j e => by cases e) bS mS kS G0
  | succ n ih => exact ok_xsigns (k := n + 1) F T GN bN mN kN (fun j e => by cases e; exact ih) bS mS kS (G0.mono (by omega))
theorem ok_xentry {f fS fT fM : Addr} {fd fdS fdT fdM : FuncData} (F : Fun K "_law_entry" "_law_entry" sXEntry f fd) (T : TxtP K mg)
    (GS : FnOk P w K mg base CX0 4 fS fdS ["value"] (spXSigns K 2)) (bS : Binds K fdS ["value"] []) (mS : mg "_law_signs" = some (.ref fS)) (kS : PySem.W.keepIn K (.ref fS) = true)
    (GT : FnOk P w K mg base CX0 1 fT fdT ["number"] spTwoSigns) (bT : Binds K fdT ["number"] []) (mT : mg "_law_two" = some (.ref fT)) (kT : PySem.W.keepIn K (.ref fT) = true)
    (GM : FnOk P w K mg base CX0 1 fM fdM ["signs"] (spXSums K)) (bM : Binds K fdM ["signs"] []) (mM : mg "_law_sums" = some (.ref fM)) (kM : PySem.W.keepIn K (.ref fM) = true) :
    FnOk P w K mg base CX0 5 f fd ["value"] (spXEntry K) := by
  refine F.ok scXEntry (fun vs H Q E h => ?_) (fun cdv A outer s H vs Q E hr h => ?_)
  · obtain ⟨v, d, rfl, _⟩ := h
    rfl
  · obtain ⟨v, d, rfl, tv, sm, q⟩ := h
    refine ⟨_, pss_cons (ps_set (i := 1) scXEntry.nd rfl (Or.inl rfl) (pe_call GS hr rfl mS kS bS .nil pass0 (pa_cons (pv 0) pa_nil)))
      (pss_cons (ps_set (i := 2) scXEntry.nd rfl (Or.inl rfl) (pe_op op_cat (pe_op op_cat (pe_lst (pa_cons pe_int (pa_cons pe_int pa_nil))) (pe_call GT (hr.mono (by decide)) rfl mT kT bT .nil pass0 (pa_cons (pe_callB call_len_seq (by rfl) T.len PySem.boot_len (pa_cons (pv 1) pa_nil)) pa_nil))) (pv 1)))
      (pss_cons (ps_asg (pe_call GM (hr.mono (by decide)) rfl mM kM bM .nil pass0 (pa_cons (pv 2) pa_nil)) (pg_tup (by rfl) (pgs_cons (pg_name (i := 3) scXEntry.nd rfl (Or.inl rfl)) (pgs_cons (pg_name (i := 4) scXEntry.nd rfl (Or.inl rfl)) pgs_nil))))
      (pss_one (ps_ret (pe_tupleOf (by rfl) T.tuple (pe_op op_cat (pe_op op_cat (pv 2) (pe_call GT (hr.mono (by decide)) rfl mT kT bT .nil pass0 (pa_cons (pv 3) pa_nil))) (pe_call GT (hr.mono (by decide)) rfl mT kT bT .nil pass0 (pa_cons (pv 4) pa_nil)))))))), ?_⟩
    have hl := sm_len 2 d sm
    have hl71 : (signsOf d).length ≤ 71 := hl
    have hsb := sm_bytes 2 d sm
    refine ⟨_, rfl, v, d, rfl, tv, sm, by decide, fun p1 H1 s1 n1 hp1 => ?_⟩
    have ll : ((signsOf d).map V.int).length = (signsOf d).length := List.length_map ..
    refine ⟨by show 2 ≤ sizeLine; decide, fun p2 n2 => ?_⟩
    have s2 := same_new (o := .lst [.int 87, .int 72]) n2
    refine ⟨_, rfl, p1, _, rfl, .inl (SqL.of (s2 _ _ hp1)), _, rfl, fun p3 H3 s3 n3 hp3 => ?_⟩
    refine ⟨p2, p3, _, _, rfl, rfl, s3 _ _ upd_same, hp3, by rw [sizeLine_eq]; show 4 ≤ 16777216; decide, fun p4 n4 => ?_⟩
    have s4 := same_new (o := .lst ([.int 87, .int 72] ++ (two (((signsOf d).map V.int).length : Int)).map V.int)) n4
    have hp14 := s4 _ _ (s3 _ _ (s2 _ _ hp1))
    refine ⟨_, rfl, p4, p1, _, _, rfl, rfl, upd_same, hp14, ?_, fun p5 n5 => ?_⟩
    · rw [List.length_append, List.length_map, List.length_map, two_len, sizeLine_eq]
      show 2 + 2 + _ ≤ 16777216
      omega
    have eh : ([.int 87, .int 72] ++ (two (((signsOf d).map V.int).length : Int)).map V.int) ++ (signsOf d).map V.int = ([87, 72] ++ two ((signsOf d).length : Int) ++ signsOf d).map V.int := by
      rw [ll]
      simp
    rw [eh] at *
    have ent : entryOf d = ([87, 72] ++ two ((signsOf d).length : Int) ++ signsOf d) ++ (two (sumsOf ([87, 72] ++ two ((signsOf d).length : Int) ++ signsOf d)).1 ++ two (sumsOf ([87, 72] ++ two ((signsOf d).length : Int) ++ signsOf d)).2) := rfl
    have hbl : ([87, 72] ++ two ((signsOf d).length : Int) ++ signsOf d).length ≤ 75 := by
      simp [two_len]
      omega
    have hbb : Bytes ([87, 72] ++ two ((signsOf d).length : Int) ++ signsOf d) := bytes_append (bytes_append (bytes_cons (by decide) (bytes_cons (by decide) bytes_nil)) (two_bytes (by omega) (by omega))) hsb
    generalize ([87, 72] ++ two ((signsOf d).length : Int) ++ signsOf d) = hd at *
    have s5 := same_new (o := .lst (hd.map V.int)) n5
    have s05 := (((s1.trans s2).trans s3).trans s4).trans s5
    refine ⟨_, rfl, p5, hd, rfl, SqL.of upd_same, by omega, hbb, fun p6 H6 s6 hp6 => ?_⟩
    refine ⟨p6, _, rfl, SqT.of hp6, rfl, _, _, rfl, _, _, rfl, rfl, ?_⟩
    have hp56 := s6 _ _ (upd_same (o := .lst (hd.map V.int)) (a := p5))
    refine ⟨_, rfl, _, rfl, _, rfl, fun p7 H7 s7 n7 hp7 => ?_⟩
    refine ⟨p5, p7, _, _, rfl, rfl, s7 _ _ hp56, hp7, ?_, fun p8 n8 => ?_⟩
    · rw [List.length_map, List.length_map, two_len, sizeLine_eq]
      omega
    refine ⟨_, rfl, _, rfl, fun p9 H9 s9 n9 hp9 => ?_⟩
    have s8 := same_new (o := .lst (hd.map V.int ++ (two (sumsOf hd).1).map V.int)) n8
    refine ⟨p8, p9, _, _, rfl, rfl, s9 _ _ upd_same, hp9, ?_, fun p10 n10 => ?_⟩
    · rw [List.length_append, List.length_map, List.length_map, List.length_map, two_len, two_len, sizeLine_eq]
      omega
    have s10 := same_new (o := .lst ((hd.map V.int ++ (two (sumsOf hd).1).map V.int) ++ (two (sumsOf hd).2).map V.int)) n10
    have sAll := ((((s05.trans s6).trans s7).trans s8).trans s9).trans s10
    refine .inl ⟨p10, _, rfl, SqL.of upd_same, fun p11 n11 => ?_⟩
    refine q p11 _ (sAll.trans (same_new n11)) (none_of sAll n11) ?_
    rw [upd_same, ent]
    simp
end
end K68


set_option Elab.async false
set_option linter.all false
set_option maxRecDepth 100000
set_option maxHeartbeats 4000000
namespace K68
open PySem L2
theorem SmAll.snoc {n : Nat} : ∀ {ds : List PyData} {d : PyData}, SmAll n ds → Sm n d → SmAll n (ds ++ [d])
  | [], d, _, h => ⟨h, by unfold SmAll; trivial⟩
  | e :: r, d, s, h => ⟨s.1, SmAll.snoc (ds := r) s.2 h⟩
theorem sm_letters {n : Nat} {cs : List Nat} (hl : cs.length ≤ 4) (h : ∀ c ∈ cs, okCode (c : Int) = true) : Sm n (.str ⟨cs.toArray⟩) := by
  have : cs.toArray.size ≤ 4 ∧ ∀ c ∈ codesOf ⟨cs.toArray⟩, okCode c = true := by
    refine ⟨by simpa using hl, fun c hc => ?_⟩
    unfold codesOf at hc
    obtain ⟨k, hk, rfl⟩ := List.mem_map.mp hc
    exact h k (by simpa using hk)
  cases n <;> exact this
theorem sm_i {n : Nat} {i : Int} (h : i.natAbs ≤ 1000000000000) : Sm n (.int i) := by
  cases n <;> exact h
theorem sm_b {n : Nat} {b : Bool} : Sm n (.bool b) := by
  cases n <;> trivial
theorem sm_n {n : Nat} : Sm n .none := by
  cases n <;> trivial
theorem len_one (cs : List Nat) : ((cs.map one).map (·.length)).sum = cs.length := by
  induction cs with
  | nil => rfl
  | cons c r ih =>
    simp only [List.map_cons, List.sum_cons, List.length_cons]
    rw [ih]
    show 1 + r.length = r.length + 1
    omega
section
variable {P : Program} {w : World} {K : PySem.W.Frag} {mg : Str → Option Value} {base : Heap}
theorem ok_xvalueS {n k : Nat} {f fA fO fS : Addr} {fd fdA fdO fdS : FuncData} (F : Fun K "_law_value" "_law_value" sXValue f fd) (T : TxtP K mg)
    (GA : FnOk P w K mg base CX0 1 fA fdA ["deal", "bound"] spAny) (bA : Binds K fdA ["deal", "bound"] []) (mA : mg "_law_any" = some (.ref fA)) (kA : PySem.W.keepIn K (.ref fA) = true)
    (GO : FnOk P w K mg base CX0 2 fO fdO ["deal", "some"] (spOf K)) (bO : Binds K fdO ["deal", "some"] []) (mO : mg "_law_of" = some (.ref fO)) (kO : PySem.W.keepIn K (.ref fO) = true)
    (ih : ∀ j, n = j + 1 → FnOk P w K mg base CX0 (k + 2) fS fdS ["deal", "depth"] (spXValue j)) (bS : Binds K fdS ["deal", "depth"] []) (mS : mg "_law_value" = some (.ref fS)) (kS : PySem.W.keepIn K (.ref fS) = true) (G0 : FnOk P w K mg base CX0 (k + 2) fS fdS ["deal", "depth"] (fun _ _ _ _ => False)) :
    FnOk P w K mg base CX0 (k + 3) f fd ["deal", "depth"] (spXValue n) := by
  obtain ⟨sp, GS, hsp⟩ : ∃ sp : Sp, FnOk P w K mg base CX0 (k + 2) fS fdS ["deal", "depth"] sp ∧ ∀ j, n = j + 1 → sp = spXValue j := by
    cases n with
    | zero => exact ⟨_, G0, fun j e => by cases e⟩
    | succ j => exact ⟨_, ih j rfl, fun i e => by cases e; rfl⟩
  refine F.ok scXValue (fun vs H Q E h => ?_) (fun cdv A outer s H vs Q E hr h => ?_)
  · obtain ⟨b, L, rfl, _⟩ := h
    rfl
  · obtain ⟨b, L, rfl, hd, q⟩ := h
    refine ⟨_, pss_cons (ps_set (i := 2) scXValue.nd rfl (Or.inl rfl) (pe_call GA (hr.mono (by omega)) rfl mA kA bA .nil pass0 (pa_cons (pv 0) (pa_cons pe_int pa_nil))))
      (Evl.pss_cut (ps_if (PW.pt (pw_and (pt_cmpR op_lt (pv 2) pe_int (nomark _)) (pw_and1 (pt_cmpR op_gt (pv 1) pe_int (nomark _)))))
        (pss_one (ps_ret (pe_tupleOf (by rfl) T.tuple (pe_lc (own := [("turn", 3)]) (g := gName 3) (tt := tYes) rfl scXValue.nd (pi_range1 (by rfl) T.range (pa_cons (pe_call GA (hr.mono (by omega)) rfl mA kA bA .nil pass0 (pa_cons (pv 0) (pa_cons pe_int pa_nil))) pa_nil)) (blkOk_by (N := nXValue) (sc := defScope sXValue) (by decide +kernel))
            (fun _ _ _ _ _ => pg_name (i := 3) scXValue.nd rfl (Or.inl rfl)) (fun _ _ _ _ _ => pts_nil)
            (fun _ _ _ _ _ => pe_call GS (by exact Room.mono hr (by omega)) rfl mS kS bS .nil pass0 (pa_cons (pv 0) (pa_cons (pe_op op_sub (pv 1) pe_int) pa_nil))))))) pss_nil)
      (pss_cons (ps_if (pt_cmpR op_lt (pv 2) pe_int (nomark _))
        (pss_one (ps_ret (pe_join pe_str (pe_lc (own := [("turn", 3)]) (g := gName 3) (tt := tYes) rfl scXValue.nd (pi_range1 (by rfl) T.range (pa_cons (pe_call GA (hr.mono (by omega)) rfl mA kA bA .nil pass0 (pa_cons (pv 0) (pa_cons pe_int pa_nil))) pa_nil)) (blkOk_by (N := nXValue) (sc := defScope sXValue) (by decide +kernel))
            (fun _ _ _ _ _ => pg_name (i := 3) scXValue.nd rfl (Or.inl rfl)) (fun _ _ _ _ _ => pts_nil)
            (fun _ _ _ _ _ => pe_call GO (by exact Room.mono hr (by omega)) rfl mO kO bO .nil pass0 (pa_cons (pv 0) (pa_cons (pe_lst (pa_cons pe_str (pa_cons pe_str (pa_cons pe_str (pa_cons pe_str (pa_cons pe_str pa_nil)))))) pa_nil))))))) pss_nil)
      (pss_cons (ps_if (pt_cmpR op_eq (pv 2) pe_int (nomark _)) (pss_one (ps_ret (pe_call GO (hr.mono (by omega)) rfl mO kO bO .nil pass0 (pa_cons (pv 0) (pa_cons (pe_lst (pa_cons pe_non (pa_cons pe_bl (pa_cons pe_bl pa_nil)))) pa_nil))))) pss_nil)
      (pss_one (ps_ret (pe_op op_mul (pe_call GO (hr.mono (by omega)) rfl mO kO bO .nil pass0 (pa_cons (pv 0) (pa_cons (pe_lst (pa_cons pe_int (pa_cons (pe_un un_neg pe_int) pa_nil))) pa_nil)))
        (pe_call GA (hr.mono (by omega)) rfl mA kA bA .nil pass0 (pa_cons (pv 0) (pa_cons (pe_call GO (hr.mono (by omega)) rfl mO kO bO .nil pass0 (pa_cons (pv 0) (pa_cons (pe_lst (pa_cons pe_int (pa_cons pe_int (pa_cons pe_int (pa_cons (pe_op op_pow pe_int pe_int) pa_nil))))) pa_nil))) pa_nil))))))))), ?_⟩
    refine ⟨_, rfl, b, L, 9, rfl, hd, by decide, by decide, fun c H1 c0 c1 d1 u1 => ?_⟩
    refine ⟨fun σ H' => σ = [some (.ref b), some (.int (n : Int)), some (.int c), none] ∧ H' = H1, ?_, ?_⟩
    · refine ⟨_, rfl, _, _, rfl, rfl, _, rfl, ?_⟩
      refine ite2 (fun _ => ?_) (fun _ => ⟨rfl, rfl⟩)
      refine ⟨_, rfl, _, _, rfl, rfl, _, rfl, ?_⟩
      refine ite2 (fun e => ?_) (fun _ => ⟨rfl, rfl⟩)
      obtain ⟨j, rfl⟩ : ∃ j, n = j + 1 := ⟨n - 1, by have := of_decide_eq_true e; omega⟩
      have esp := hsp j rfl
      subst esp
      refine ⟨_, rfl, b, L, 4, rfl, d1, by decide, by decide, fun m H2 m0 m1 d2 u2 => ?_⟩
      refine ⟨m, rfl, by omega, by omega, fun D nD => ?_⟩
      have nD2 := d2.ne nD
      refine lc_it walk_range (fun i H' => But b L H2 H' ∧ Deal H' b L ∧ ∃ (ds : List PyData) (xs : List V), H' D = some (.lst xs) ∧ TvAll H' ds xs ∧ SmAll j ds ∧ ds.length = i)
        ⟨but_same (same_new nD), d2.same (same_new nD), [], [], upd_same, .nil, by unfold SmAll; trivial, rfl⟩ (fun _ _ _ _ => trivial) (fun i x H3 H4 hi h y => ?_) (fun H3 h => ?_)
      · obtain ⟨u3, d3, ds, xs, hD, tvs, sms, el⟩ := h
        obtain ⟨rfl, rfl⟩ := y
        refine ⟨rfl, yes_of ?_⟩
        refine ⟨_, rfl, _, rfl, _, _, rfl, rfl, b, L, ?_, d3, fun d v H5 tv sm d5 u5 => ?_⟩
        · show [V.ref b, V.int (((j + 1 : Nat) : Int) - 1)] = _
          have : ((j + 1 : Nat) : Int) - 1 = (j : Int) := by omega
          rw [this]
        · have hD5 := u5 _ _ nD2.1 nD2.2 hD
          refine ⟨xs, hD5, ?_, ?_, ?_, ds ++ [d], xs ++ [v], upd_same, ?_, sms.snoc sm, by rw [List.length_append, List.length_singleton, el]⟩
          · rw [tvs.len, sizeLine_eq]
            omega
          · intro z o n1 n2 hz
            have zD : z ≠ D := ne_of_none hz nD
            rw [upd_ne zD]
            exact u5 _ _ n1 n2 (u3 _ _ n1 n2 hz)
          · obtain ⟨e0, ns, z, e1, e2, e3⟩ := d5
            exact ⟨e0, ns, z, by rw [upd_ne (Ne.symm nD2.1)]; exact e1, by rw [upd_ne (Ne.symm nD2.2)]; exact e2, e3⟩
          · exact ((tvs.mono (but_ts u5 d3)).snoc tv).mono (ts_put hD5)
      · obtain ⟨u3, d3, ds, xs, hD, tvs, sms, el⟩ := h
        refine .inl ⟨D, xs, rfl, SqL.of hD, fun p np => ?_⟩
        exact q (.tuple ds) (.ref p) _ (.tup upd_same (tvs.mono (ts_new np))) ⟨by omega, sms⟩ (d3.same (same_new np)) (((u1.trans u2).trans u3).trans (but_same (same_new np)))
    · rintro σ H' ⟨rfl, rfl⟩
      refine ⟨_, rfl, _, _, rfl, rfl, _, rfl, ?_⟩
      refine ite2 (fun _ => ?_) (fun _ => ?_)
      · refine ⟨⟨_, rfl⟩, ?_⟩
        refine ⟨_, rfl, b, L, 5, rfl, d1, by decide, by decide, fun m H2 m0 m1 d2 u2 => ?_⟩
        refine ⟨m, rfl, by omega, by omega, fun D nD => ?_⟩
        have nD2 := d2.ne nD
        refine lc_it walk_range (fun i H' => But b L H2 H' ∧ Deal H' b L ∧ ∃ cs : List Nat, H' D = some (.lst ((cs.map one).map V.str)) ∧ (∀ k ∈ cs, okCode (k : Int) = true) ∧ cs.length = i)
          ⟨but_same (same_new nD), d2.same (same_new nD), [], upd_same, by simp, rfl⟩ (fun _ _ _ _ => trivial) (fun i x H3 H4 hi h y => ?_) (fun H3 h => ?_)
        · obtain ⟨u3, d3, cs, hD, hok, el⟩ := h
          obtain ⟨rfl, rfl⟩ := y
          refine ⟨rfl, yes_of ?_⟩
          refine ⟨_, rfl, by show 5 ≤ sizeLine; decide, fun t nt => ?_⟩
          have nt2 := d3.ne nt
          have st := same_new (o := .lst [.str " ", .str "a", .str "~", .str "Z", .str "0"]) nt
          refine ⟨b, L, t, _, rfl, d3.same st, upd_same, nt2.1, nt2.2, by show 0 < 5; decide, by show 5 < 1000; decide, fun x H5 hx d5 u5 => ?_⟩
          have hD5 := u5 _ _ nD2.1 nD2.2 (st _ _ hD)
          have hx2 : ∃ k : Nat, x = .str (one k) ∧ okCode (k : Int) = true := by
            simp only [List.mem_cons, List.not_mem_nil, or_false] at hx
            rcases hx with rfl | rfl | rfl | rfl | rfl
            · exact ⟨32, rfl, by decide⟩
            · exact ⟨97, rfl, by decide⟩
            · exact ⟨126, rfl, by decide⟩
            · exact ⟨90, rfl, by decide⟩
            · exact ⟨48, rfl, by decide⟩
          obtain ⟨kk, rfl, hkk⟩ := hx2
          refine ⟨_, hD5, ?_, ?_, ?_, cs ++ [kk], ?_, ?_, by rw [List.length_append, List.length_singleton, el]⟩
          · rw [List.length_map, List.length_map, sizeLine_eq]
            omega
          · intro z o n1 n2 hz
            have zD : z ≠ D := ne_of_none hz nD
            rw [upd_ne zD]
            exact u5 _ _ n1 n2 (st _ _ (u3 _ _ n1 n2 hz))
          · obtain ⟨e0, ns, z, e1, e2, e3⟩ := d5
            exact ⟨e0, ns, z, by rw [upd_ne (Ne.symm nD2.1)]; exact e1, by rw [upd_ne (Ne.symm nD2.2)]; exact e2, e3⟩
          · rw [upd_same]
            simp
          · intro z hz
            rcases List.mem_append.mp hz with e | e
            · exact hok z e
            · rw [List.mem_singleton.mp e]
              exact hkk
        · obtain ⟨u3, d3, cs, hD, hok, el⟩ := h
          refine ⟨_, D, cs.map one, rfl, rfl, .inl (SqL.of hD), ?_, ?_⟩
          · rw [len_one, List.length_map]
            show cs.length + cs.length * 0 ≤ 16777216
            omega
          · have ejoin : Txt.join ⟨#[]⟩ (cs.map one) = ⟨cs.toArray⟩ := join_one _
            have qq := q (.str ⟨cs.toArray⟩) (.str ⟨cs.toArray⟩) H3 (.str _) (sm_letters (by omega) hok) d3 ((u1.trans u2).trans u3)
            rw [← ejoin] at qq
            exact qq
      · refine ⟨_, rfl, rfl, _, rfl, ?_⟩
        refine ite2 (fun _ => ?_) (fun _ => ?_)
        · refine ⟨_, rfl, by show 3 ≤ sizeLine; decide, fun t nt => ?_⟩
          have nt2 := d1.ne nt
          have st := same_new (o := .lst [.non, .bl true, .bl false]) nt
          refine ⟨b, L, t, _, rfl, d1.same st, upd_same, nt2.1, nt2.2, by show 0 < 3; decide, by show 3 < 1000; decide, fun x H5 hx d5 u5 => ?_⟩
          have uu := (u1.trans (but_same st)).trans u5
          simp only [List.mem_cons, List.not_mem_nil, or_false] at hx
          rcases hx with rfl | rfl | rfl
          · exact q .none _ H5 .non sm_n d5 uu
          · exact q (.bool true) _ H5 (.bl _) sm_b d5 uu
          · exact q (.bool false) _ H5 (.bl _) sm_b d5 uu
        · refine ⟨_, rfl, _, rfl, by show 2 ≤ sizeLine; decide, fun t nt => ?_⟩
          have nt2 := d1.ne nt
          have st := same_new (o := .lst [.int 1, .int (-1)]) nt
          refine ⟨b, L, t, _, rfl, d1.same st, upd_same, nt2.1, nt2.2, by show 0 < 2; decide, by show 2 < 1000; decide, fun x H5 hx d5 u5 => ?_⟩
          have uu := (u1.trans (but_same st)).trans u5
          have hx2 : ∃ i : Int, x = .int i ∧ (i = 1 ∨ i = -1) := by
            simp only [List.mem_cons, List.not_mem_nil, or_false] at hx
            rcases hx with rfl | rfl
            · exact ⟨1, rfl, .inl rfl⟩
            · exact ⟨-1, rfl, .inr rfl⟩
          obtain ⟨i, rfl, hi⟩ := hx2
          refine ⟨_, rfl, _, rfl, _, _, rfl, rfl, ⟨by decide, by decide, by decide⟩, by show 4 ≤ sizeLine; decide, fun t2 nt3 => ?_⟩
          have nt4 := d5.ne nt3
          have st2 := same_new (o := .lst [.int 3, .int 130, .int 70000, .int ((10 : Int) ^ (12 : Int).toNat)]) nt3
          refine ⟨b, L, t2, _, rfl, d5.same st2, upd_same, nt4.1, nt4.2, by show 0 < 4; decide, by show 4 < 1000; decide, fun x2 H6 hx2 d6 u6 => ?_⟩
          have hx3 : ∃ i2 : Int, x2 = .int i2 ∧ 0 < i2 ∧ i2 ≤ 1000000000000 := by
            simp only [List.mem_cons, List.not_mem_nil, or_false] at hx2
            rcases hx2 with rfl | rfl | rfl | rfl
            · exact ⟨3, rfl, by decide, by decide⟩
            · exact ⟨130, rfl, by decide, by decide⟩
            · exact ⟨70000, rfl, by decide, by decide⟩
            · exact ⟨(10 : Int) ^ (12 : Int).toNat, rfl, by decide, by decide⟩
          obtain ⟨i2, rfl, p2, l2⟩ := hx3
          refine ⟨b, L, i2, rfl, d6, p2, l2, fun r H7 r0 r1 d7 u7 => ?_⟩
          refine ⟨_, _, rfl, rfl, .inl ⟨by omega, by omega⟩, ?_⟩
          refine q (.int (i * r)) (.int (i * r)) H7 (.int _) (sm_i ?_) d7 (((uu.trans (but_same st2)).trans u6).trans u7)
          rcases hi with rfl | rfl
          · omega
          · omega
theorem ok_xv {f fA fO : Addr} {fd fdA fdO : FuncData} (F : Fun K "_law_value" "_law_value" sXValue f fd) (T : TxtP K mg)
    (GA : FnOk P w K mg base CX0 1 fA fdA ["deal", "bound"] spAny) (bA : Binds K fdA ["deal", "bound"] []) (mA : mg "_law_any" = some (.ref fA)) (kA : PySem.W.keepIn K (.ref fA) = true)
    (GO : FnOk P w K mg base CX0 2 fO fdO ["deal", "some"] (spOf K)) (bO : Binds K fdO ["deal", "some"] []) (mO : mg "_law_of" = some (.ref fO)) (kO : PySem.W.keepIn K (.ref fO) = true)
    (bS : Binds K fd ["deal", "depth"] []) (mS : mg "_law_value" = some (.ref f)) (kS : PySem.W.keepIn K (.ref f) = true) : ∀ n, FnOk P w K mg base CX0 (n + 3) f fd ["deal", "depth"] (spXValue n) := by
  have G0 : FnOk P w K mg base CX0 1 f fd ["deal", "depth"] (fun _ _ _ _ => False) := F.ok scXValue (fun vs H Q E h => h.elim) (fun cdv A outer s H vs Q E hr h => h.elim)
  intro n
  induction n with
  | zero => exact ok_xvalueS (k := 0) F T GA bA mA kA GO bO mO kO (fun j e => by cases e) bS mS kS (G0.mono (by omega))
  | succ n ih => exact ok_xvalueS (k := n + 1) F T GA bA mA kA GO bO mO kO (fun j e => by cases e; exact ih) bS mS kS (G0.mono (by omega))
end
end K68


set_option Elab.async false
set_option linter.all false
set_option maxRecDepth 100000
set_option maxHeartbeats 4000000
namespace L2
open PySem PySem.Spec PyProof.Rows
section
variable {X : Cx} {CX : CXT} {k : Nat} {f : Addr} {fd : FuncData} {sp : Sp} {E : St → XK} {x nm : Str} {p pos kpos : Pos} {e : Expr} {t : TA}
/-- f(name = e), the only parameter by its name -/
theorem pe_callS1 (F : FnOk X.prog X.w X.K X.mg X.base CX k f fd [nm] sp) (hr : Room k X.A) (hg : Gl X x) (hm : X.mg x = some (.ref f)) (hk : PySem.W.keepIn X.K (.ref f) = true) (hb : ∀ (s : Shared) (v : Value), BindsTo s fd ⟨[], [(nm, v)]⟩ [(nm, v)]) (hx : ∀ σ, PassesAt CX X σ (E σ))
    (ha : PK X [⟨some nm, e, kpos⟩] t)
    (hall : (backToKw pos (keywordEach [⟨some nm, e, kpos⟩] X.env)).all (·.1.isSome) = true := by rfl)
    (hks : (backToKw pos (keywordEach [⟨some nm, e, kpos⟩] X.env)).filterMap (·.1) = [nm] := by rfl)
    (hpl : ((backTo pos (starEach [] X.env)).any (·.1) || (backToKw pos (keywordEach [⟨some nm, e, kpos⟩] X.env)).any (·.1.isNone)) = false := by rfl)
    (hdb : (x == ("__debug__" : Str)) = false := by decide) :
    PE X (.Call (.Name x p) [] [⟨some nm, e, kpos⟩] pos) (tCallS sp E t) := by
  refine ⟨fun pins s σ H Q I h => ?_⟩
  refine wpAny_Call_Name_kw (ld_glob I hg hm ?_ hdb)
  refine PySem.W.callWith_KW0 (h₀ := X.base) I.ok.mod.kin hk hall (thn (ha.run pos pins s σ H _ I h) fun ws s1 hh => ?_) hpl
  obtain ⟨vs, H1, I1, r1, q1⟩ := hh
  refine ⟨I1.kIn, ?_⟩
  rw [hks]
  have hl : vs.length = 1 := F.len _ _ _ _ q1
  have hl2 : ws.length = 1 := by rw [← r1.length]; exact hl
  obtain ⟨v', rfl⟩ : ∃ v, ws = [v] := by
    cases ws with
    | nil => simp at hl2
    | cons a b =>
      cases b with
      | nil => exact ⟨a, rfl⟩
      | cons => simp at hl2
  show wpAny _ _ (call (.ref f) [] [(nm, v')]) _ _ _
  refine wpAny_call (codeAny_mono (F.run X.A X.stack s1 H1 ⟨[], [(nm, v')]⟩ [v'] vs Q (E σ) hr I1.env0 (hb s1 v') r1 q1) fun r s' hq => ?_)
  cases r with
  | error e => exact hx σ pins H1 s1 e s' I1 hq
  | ok fl =>
    cases fl with
    | ret u => exact I1.after hq
    | next => exact False.elim hq
    | brk => exact False.elim hq
    | cont => exact False.elim hq
theorem takes_no : Takes X (fun _ _ _ _ => False) := fun u s' xx => by
  obtain ⟨a, B, sI, pins', σ', H', cls, d, rfl, J', nb, up, sky, na, os, ag, w⟩ := xx
  exact w.elim
end
end L2
namespace K68
open PySem L2
def wordV (s : List Int) : V := match wordE s with
  | none => .non
  | some w => .str w
def spRefused (K : PySem.W.Frag) : Sp := fun vs H Q _ => ∃ x : V, vs = [x] ∧
  ((∃ (a : Addr) (ns : List Int), x = .ref a ∧ SqA K H a (ns.map V.int) ∧ Bytes ns ∧ ns.length ≤ 1000000 ∧ ∀ H', Same H H' → Q (wordV ns) H') ∨ (NotSigns K H x ∧ ∀ H', Same H H' → Q (.str "signs") H'))
theorem word_some {s : List Int} {w : Str} (h : wordE s = some w) : wordV s = .str w := by
  unfold wordV
  rw [h]
theorem word_read {s : List Int} {d : PyData} (h : readE s = some d) : wordV s = .non := by
  unfold wordV wordE
  have nf : fault s = none := by
    cases y : fault s with
    | none => rfl
    | some z =>
      rw [readE_fault y] at h
      cases h
  rw [nf, h]
section
variable {P : Program} {w : World} {K : PySem.W.Frag} {mg : Str → Option Value} {base : Heap}
theorem ok_refused {f fE C U fI : Addr} {fd fdE : FuncData} {qi : Str} (F : Fun K "_law_refused" "_law_refused" sXRefused f fd) (ET : PySem.OwnEx.ErrTxt K mg "InvalidEntry" "word" qi C U fI) (ex : PySem.W.exmOne K (.ref C) (.ref C) = some true)
    (GE : FnOk P w K mg base (L2N.CX P w) 23 fE fdE ["signs"] (spEntry K C)) (bE : ∀ (s : Shared) (v : Value), BindsTo s fdE ⟨[], [("signs", v)]⟩ [("signs", v)]) (mE : mg "read_entry" = some (.ref fE)) (kE : PySem.W.keepIn K (.ref fE) = true) :
    FnOk P w K mg base CX0 24 f fd ["signs"] (spRefused K) := by
  refine F.ok scXRefused (fun vs H Q E h => ?_) (fun cdv A outer s H vs Q E hr h => ?_)
  · obtain ⟨x, rfl, _⟩ := h
    rfl
  · obtain ⟨x, rfl, h⟩ := h
    refine ⟨_, pss_cons (L2N.ps_try_as (i := 1) (Wout := fun _ _ _ _ => False) (tb := fun W => tDrop (tCallS (spEntry K C) (WE W) (tCons (tVar 0) tNil))) (ts := fun a cls d => tRet (tErrFld "word" C a cls d (tVar 1))) rfl rfl scXRefused.nd rfl rfl ⟨rfl, by decide, .inl ET.gC⟩ L2N.takes_no
        (fun W pn xe tk _ => pss_one (ps_expr (pe_callS1 GE hr rfl mE kE bE (fun σ => L2N.passAt tk σ) (by exact (pk_cons (pv 0) pk_nil)))))
        (fun a oe cls d pn hz hf => pss_one (ps_ret (pe_errFld ET hz.zc hf (pv 1)))))
      (pss_one (ps_ret pe_non)), ?_⟩
    rcases h with ⟨a, ns, rfl, hs, hb, hl, q⟩ | ⟨ho, q⟩
    · refine ⟨_, rfl, _, rfl, .inl ⟨a, ns, rfl, hs, hb, hl, fun wd ew H1 d s1 nd => ?_, fun dv ev v H1 s1 tv => ?_⟩⟩
      · refine ⟨true, ex, fun _ ax nax => ?_, fun z => by cases z⟩
        have z := q _ (xd_same (o := .xd [("word", .str wd)]) s1 nd)
        rw [word_some ew] at z
        exact ⟨_, rfl, rfl, rfl, d, .str wd, rfl, upd_same, z⟩
      · have z := q H1 s1
        rw [word_read ev] at z
        exact z
    · refine ⟨_, rfl, _, rfl, .inr ⟨ho, fun H1 d s1 nd => ?_⟩⟩
      refine ⟨true, ex, fun _ ax nax => ?_, fun z => by cases z⟩
      exact ⟨_, rfl, rfl, rfl, d, .str "signs", rfl, upd_same, q _ (xd_same s1 nd)⟩
end
end K68


set_option Elab.async false
set_option linter.all false
set_option maxRecDepth 100000
set_option maxHeartbeats 4000000
namespace K68
open PySem L2
def spSpoilt (K : PySem.W.Frag) : Sp := fun vs H Q _ => ∃ (b L t : Addr) (ns : List Int), vs = [.ref b, .ref t, .int 2] ∧ Deal H b L ∧ H t = some (.tup (ns.map V.int)) ∧ 3 ≤ ns.length ∧ ns.length < 1000 ∧ Bytes ns ∧
  ∀ (p : Addr) (H' : Hp) (rs : List Int), Deal H' b L → But b L H H' → H' p = some (.tup (rs.map V.int)) → Bytes rs → Near ns rs → Q (.ref p) H'
theorem inV_nat {js : List Nat} {k : Nat} : inV (.int (k : Int)) (js.map fun j : Nat => V.int (j : Int)) = decide (k ∈ js) := by
  unfold inV
  rw [List.any_map]
  induction js with
  | nil => simp
  | cons j r ih =>
    rw [List.any_cons, ih]
    have e : ((fun y => eqV y (V.int (k : Int))) ∘ fun j : Nat => V.int (j : Int)) j = decide (j = k) := by
      show ((j : Int) == (k : Int)) = _
      by_cases h : j = k
      · simp [h]
      · have : ¬ (j : Int) = (k : Int) := by omega
        simp [h, this]
    rw [e]
    by_cases h : j = k
    · simp [h]
    · have h2 : ¬ k = j := fun z => h z.symm
      simp [h, h2]
theorem flat_nats (js : List Nat) : (js.map fun j : Nat => V.int (j : Int)).all flatV = true := by
  rw [List.all_map]
  exact List.all_eq_true.mpr fun _ _ => rfl
/-- the places that are yet free -/
def freeP (js : List Nat) (k : Nat) : Option V := if k ∈ js then none else some (.int (k : Int))
theorem free_some {js : List Nat} {n : Nat} (hj : js.length ≤ 1) (hn : 2 ≤ n) : 0 < ((List.range n).filterMap (freeP js)).length := by
  have : ∃ k, k < n ∧ k ∉ js := by
    match js, hj with
    | [], _ => exact ⟨0, by omega, by simp⟩
    | [j], _ =>
      by_cases h : j = 0
      · exact ⟨1, by omega, by simp [h]⟩
      · exact ⟨0, by omega, by simp; exact fun z => h z.symm⟩
  obtain ⟨k, hk, hm⟩ := this
  have : V.int (k : Int) ∈ (List.range n).filterMap (freeP js) := List.mem_filterMap.mpr ⟨k, List.mem_range.mpr hk, if_neg hm⟩
  exact List.length_pos_of_mem this
theorem free_mem {js : List Nat} {n : Nat} {x : V} (h : x ∈ (List.range n).filterMap (freeP js)) : ∃ k : Nat, x = .int (k : Int) ∧ k < n := by
  obtain ⟨k, hk, e⟩ := List.mem_filterMap.mp h
  unfold freeP at e
  by_cases m : k ∈ js
  · rw [if_pos m] at e
    cases e
  · rw [if_neg m] at e
    cases e
    exact ⟨k, rfl, List.mem_range.mp hk⟩
theorem free_len {js : List Nat} {n : Nat} : ((List.range n).filterMap (freeP js)).length ≤ n := by
  refine Nat.le_trans (List.length_filterMap_le ..) ?_
  rw [List.length_range]
  exact Nat.le_refl _
theorem deal_put {H : Hp} {b L c : Addr} {o : HO} (h : Deal H b L) (n1 : c ≠ b) (n2 : c ≠ L) : Deal (upd H c o) b L := by
  obtain ⟨e0, ns, z, e1, e2, e3⟩ := h
  exact ⟨e0, ns, z, by rw [upd_ne (Ne.symm n1)]; exact e1, by rw [upd_ne (Ne.symm n2)]; exact e2, e3⟩
theorem but_put {H H1 H2 : Hp} {b L c : Addr} {o : HO} (h : But b L H H1) (n : H c = none) : But b L H (upd H1 c o) := fun z x n1 n2 e => by
  rw [upd_ne (ne_of_none e n)]
  exact h z x n1 n2 e
theorem bytes_set {rs : List Int} {i : Nat} {x : Int} (h : Bytes rs) (hx : 0 ≤ x ∧ x < 256) : Bytes (rs.set i x) := fun y hy => by
  rcases List.mem_or_eq_of_mem_set hy with q | q
  · exact h y q
  · rw [q]
    exact hx
theorem near_of {ns rs : List Int} {js : List Nat} (hl : rs.length = ns.length) (hj : js.length ≤ 2) (e : ∀ k, k ∉ js → rs.getD k 0 = ns.getD k 0) : Near ns rs := by
  refine ⟨hl, ?_⟩
  match js, hj with
  | [], _ => exact ⟨0, 1, by decide, fun k _ _ => e k (by simp)⟩
  | [i], _ => exact ⟨i, i + 1, by omega, fun k h _ => e k (by simpa using h)⟩
  | [i, j], _ =>
    by_cases h : i = j
    · exact ⟨i, i + 1, by omega, fun k h1 _ => e k (by simp [h.symm, h1])⟩
    · exact ⟨i, j, h, fun k h1 h2 => e k (by simp [h1, h2])⟩
section
variable {P : Program} {w : World} {K : PySem.W.Frag} {mg : Str → Option Value} {base : Heap}
theorem ok_spoilt {f fA fO : Addr} {fd fdA fdO : FuncData} (F : Fun K "_law_spoilt" "_law_spoilt" sXSpoilt f fd) (T : TxtP K mg)
    (GA : FnOk P w K mg base CX0 1 fA fdA ["deal", "bound"] spAny) (bA : Binds K fdA ["deal", "bound"] []) (mA : mg "_law_any" = some (.ref fA)) (kA : PySem.W.keepIn K (.ref fA) = true)
    (GO : FnOk P w K mg base CX0 2 fO fdO ["deal", "some"] (spOf K)) (bO : Binds K fdO ["deal", "some"] []) (mO : mg "_law_of" = some (.ref fO)) (kO : PySem.W.keepIn K (.ref fO) = true) :
    FnOk P w K mg base CX0 3 f fd ["deal", "signs", "most"] (spSpoilt K) := by
  refine F.ok scXSpoilt (fun vs H Q E h => ?_) (fun cdv A outer s H vs Q E hr h => ?_)
  · obtain ⟨b, L, t, ns, rfl, _⟩ := h
    rfl
  · obtain ⟨b, L, t, ns, rfl, hd, ht, l3, l1, hb, q⟩ := h
    refine ⟨_, pss_cons (ps_asg (pe_tup (pa_cons (pe_callTy call_list_of (by rfl) T.list (by decide +kernel) (pa_cons (pv 1) pa_nil)) (pa_cons (pe_lst pa_nil) pa_nil))) (pg_tup (by rfl) (pgs_cons (pg_name (i := 3) scXSpoilt.nd rfl (Or.inl rfl)) (pgs_cons (pg_name (i := 4) scXSpoilt.nd rfl (Or.inr rfl)) pgs_nil))))
      (pss_cons (ps_for PassesOwn.never rfl (pi_range1 (by rfl) T.range (pa_cons (pe_op op_add pe_int (pe_call GA (hr.mono (by decide)) rfl mA kA bA .nil pass0 (pa_cons (pv 0) (pa_cons (pv 2) pa_nil)))) pa_nil)) (pg_name (i := 5) scXSpoilt.nd rfl (Or.inl rfl))
        (pss_one (ps_expr (pe_bm PySem.F.plainAttrs_list PySem.F.slot_list_append PySem.F.type_list_append mt_append (pv 4) (pa_cons (pe_call GO (hr.mono (by decide)) rfl mO kO bO .nil pass0 (pa_cons (pv 0) (pa_cons
          (pe_lc (own := [("at", 6)]) (g := gName 6) rfl scXSpoilt.nd (pi_range1 (by rfl) T.range (pa_cons (pe_callB call_len_seq (by rfl) T.len PySem.boot_len (pa_cons (pv 3) pa_nil)) pa_nil)) (blkOk_by (N := nXSpoilt) (sc := defScope sXSpoilt) (by decide +kernel))
            (fun _ _ _ _ _ => pg_name (i := 6) scXSpoilt.nd rfl (Or.inl rfl)) (fun _ _ _ _ _ => pts_one (pt_cmpR (r := rIn K true) (by exact op_notIn_seq) (pv 6) (pv 4) (by rfl)))
            (fun _ _ _ _ _ => pv 6)) pa_nil))) pa_nil)))))
      (pss_cons (ps_for PassesOwn.never rfl (pi_list (pv 4)) (pg_name (i := 6) scXSpoilt.nd rfl (Or.inl rfl))
        (pss_one (ps_asg (pe_op op_mod (pe_op op_add (pe_op op_add (pe_ix ix_list (pv 3) (pv 6) (fun _ _ => rfl)) pe_int) (pe_call GA (hr.mono (by decide)) rfl mA kA bA .nil pass0 (pa_cons (pv 0) (pa_cons pe_int pa_nil)))) pe_int) (pg_sub (pv 3) (pv 6) set_list))))
      (pss_cons (ps_par (i := 7) (j := 8) rfl scXSpoilt.nd rfl rfl (by decide) rfl rfl (pa_cons (pe_call GA (hr.mono (by decide)) rfl mA kA bA .nil pass0 (pa_cons (pv 0) (pa_cons (pe_callB call_len_seq (by rfl) T.len PySem.boot_len (pa_cons (pv 3) pa_nil)) pa_nil))) (pa_cons (pe_call GA (hr.mono (by decide)) rfl mA kA bA .nil pass0 (pa_cons (pv 0) (pa_cons (pe_callB call_len_seq (by rfl) T.len PySem.boot_len (pa_cons (pv 3) pa_nil)) pa_nil))) pa_nil)) (by rfl))
      (pss_cons (ps_if (PW.pt (pw_and (pt_cmpR op_eq (pe_call GA (hr.mono (by decide)) rfl mA kA bA .nil pass0 (pa_cons (pv 0) (pa_cons pe_int pa_nil))) pe_int (nomark _)) (pw_and1 (pt_cmpR op_ne (pe_ix ix_tup (pv 1) (pv 7) (fun _ _ => rfl)) (pe_ix ix_tup (pv 1) (pv 8) (fun _ _ => rfl)) (nomark _)))))
        (pss_cons (ps_set (i := 3) scXSpoilt.nd rfl (Or.inl rfl) (pe_callTy call_list_of (by rfl) T.list (by decide +kernel) (pa_cons (pv 1) pa_nil)))
        (pss_one (ps_asg (pe_tup (pa_cons (pe_ix ix_list (pv 3) (pv 8) (fun _ _ => rfl)) (pa_cons (pe_ix ix_list (pv 3) (pv 7) (fun _ _ => rfl)) pa_nil))) (pg_tup (by rfl) (pgs_cons (pg_sub (pv 3) (pv 7) set_list) (pgs_cons (pg_sub (pv 3) (pv 8) set_list) pgs_nil)))))) pss_nil)
      (pss_one (ps_ret (pe_tupleOf (by rfl) T.tuple (pv 3)))))))), ?_⟩
    have s2l : 2 ≤ sizeLine := by decide
    have ll : (ns.map V.int).length = ns.length := List.length_map ..
    refine ⟨_, rfl, t, _, rfl, .inr (SqT.of ht), fun R nR => ?_⟩
    have sR := same_new (o := .lst (ns.map V.int)) nR
    refine ⟨by show 0 ≤ sizeLine; decide, fun Pl nPl => ?_⟩
    have sP := same_new (o := .lst ([] : List V)) nPl
    have nRP : R ≠ Pl := fun e => by
      rw [← e, upd_same] at nPl
      cases nPl
    have nP0 : H Pl = none := none_of sR nPl
    refine ⟨s2l, fun tp ntp => ⟨tp, _, rfl, SqT.of upd_same, rfl, _, _, rfl, _, _, rfl, rfl, ?_⟩⟩
    have sT := same_new (o := .tup [.ref R, .ref Pl]) ntp
    have s0 := (sR.trans sP).trans sT
    have d0 := hd.same s0
    obtain ⟨nRb, nRL⟩ := hd.ne nR
    obtain ⟨nPb, nPL⟩ := hd.ne nP0
    have hR0 : upd (upd (upd H R (.lst (ns.map V.int))) Pl (.lst [])) tp (.tup [.ref R, .ref Pl]) R = some (.lst (ns.map V.int)) := sT _ _ (sP _ _ upd_same)
    have hP0 : upd (upd (upd H R (.lst (ns.map V.int))) Pl (.lst [])) tp (.tup [.ref R, .ref Pl]) Pl = some (.lst []) := sT _ _ upd_same
    generalize upd (upd (upd H R (.lst (ns.map V.int))) Pl (.lst [])) tp (.tup [.ref R, .ref Pl]) = H0 at s0 d0 hR0 hP0
    refine ⟨_, rfl, _, rfl, b, L, 2, rfl, d0, by decide, by decide, fun m H1 m0 m1 d1 u1 => ?_⟩
    refine ⟨_, _, rfl, rfl, _, rfl, by omega, by omega, ?_⟩
    have mm : (1 + m).toNat ≤ 2 := by omega
    refine for_range (fun i σ H' => But b L H H' ∧ Deal H' b L ∧ H' R = some (.lst (ns.map V.int)) ∧ ∃ (js : List Nat) (r5 : Option V), H' Pl = some (.lst (js.map fun j : Nat => V.int (j : Int))) ∧ js.length = i ∧ (∀ j ∈ js, j < ns.length) ∧
        σ = [some (.ref b), some (.ref t), some (.int 2), some (.ref R), some (.ref Pl), r5, none, none, none])
      ⟨(but_same s0).trans u1, d1, u1 _ _ nRb nRL hR0, [], none, u1 _ _ nPb nPL hP0, rfl, by simp, rfl⟩ (fun i σ H' hi h => ?_) (fun σ H' h => ?_)
    · obtain ⟨u2, d2, hR, js, r5, hP, el, hjs, rfl⟩ := h
      refine ⟨_, rfl, .inl ⟨rfl, _, SqL.of hP⟩, ?_⟩
      refine ⟨_, rfl, _, rfl, R, _, rfl, .inl (SqL.of hR), _, rfl, by rw [ll]; omega, by rw [ll]; omega, fun D hD => ?_⟩
      have nD2 := d2.ne hD
      rw [ll]
      refine lc_grow walk_range (freeP js) hD (by show (ns.length : Int).toNat ≤ _; omega) (fun _ _ => trivial) (fun k x H3 H4 hk s3 y Nx Ny hN hY => ?_) (fun H3 s3 ed => ?_)
      · obtain ⟨rfl, rfl⟩ := y
        refine ⟨rfl, _, rfl, _, rfl, Pl, _, rfl, .inl (SqL.of (s3 _ _ hP)), rfl, flat_nats js, _, rfl, ?_⟩
        have ez : inV ((fun i : Nat => V.int (0 + (i : Int))) k) (js.map fun j : Nat => V.int (j : Int)) = decide (k ∈ js) := by
          show inV (.int (0 + (k : Int))) _ = _
          rw [Int.zero_add]
          exact inV_nat
        show if (!inV ((fun i : Nat => V.int (0 + (i : Int))) k) (js.map fun j : Nat => V.int (j : Int))) = true then _ else _
        rw [ez]
        by_cases hm : k ∈ js
        · rw [decide_eq_true hm]
          refine it_false rfl ?_
          exact hY _ (if_pos hm) (Same.refl _)
        · rw [decide_eq_false hm]
          refine it_true rfl ?_
          exact ⟨_, rfl, hN _ _ (by show freeP js k = some (V.int (0 + (k : Int))); rw [Int.zero_add]; exact if_neg hm) (Same.refl _)⟩
      · have en : ((ns.length : Nat) : Int).toNat = ns.length := by omega
        rw [en] at ed
        have d3 := d2.same s3
        refine ⟨b, L, D, _, rfl, d3, ed, nD2.1, nD2.2, free_some (by omega) (by omega), Nat.lt_of_le_of_lt free_len l1, fun x H5 hx d5 u5 => ?_⟩
        obtain ⟨k, rfl, hk⟩ := free_mem hx
        have hP5 := u5 _ _ nPb nPL (s3 _ _ hP)
        have hR5 := u5 _ _ nRb nRL (s3 _ _ hR)
        refine ⟨Pl, _, _, rfl, rfl, hP5, by rw [List.length_map, sizeLine_eq]; omega, ?_⟩
        refine ⟨but_put (H2 := H) ((u2.trans (but_same s3)).trans u5) nP0, deal_put d5 nPb nPL, by rw [upd_ne nRP]; exact hR5, js ++ [k], _, by rw [upd_same, List.map_append]; rfl, by rw [List.length_append, List.length_singleton, el], fun j hj => ?_, rfl⟩
        rcases List.mem_append.mp hj with e | e
        · exact hjs j e
        · rw [List.mem_singleton.mp e]
          exact hk
    · obtain ⟨u2, d2, hR, js, r5, hP, el, hjs, rfl⟩ := h
      have jl : js.length ≤ 2 := by omega
      refine ⟨_, rfl, Pl, rfl, ⟨_, SqL.of hP⟩, ?_⟩
      refine for_list (fun i σ H' => But b L H H' ∧ Deal H' b L ∧ H' Pl = some (.lst (js.map fun j : Nat => V.int (j : Int))) ∧ ∃ (rs : List Int) (r6 : Option V), H' R = some (.lst (rs.map V.int)) ∧ rs.length = ns.length ∧ Bytes rs ∧ (∀ k, k ∉ js.take i → rs.getD k 0 = ns.getD k 0) ∧
          σ = [some (.ref b), some (.ref t), some (.int 2), some (.ref R), some (.ref Pl), r5, r6, none, none])
        ⟨u2, d2, hP, ns, none, hR, rfl, hb, fun k _ => rfl, rfl⟩ (fun i σ H' _ h => SqL.of h.2.2.1) (fun i x σ H' hx h => ?_) (fun σ H' h => ?_)
      · obtain ⟨u3, d3, hP3, rs, r6, hR3, rl, rb, re, rfl⟩ := h
        rw [List.getElem?_map] at hx
        cases ej : js[i]? with
        | none =>
          rw [ej] at hx
          cases hx
        | some j =>
          rw [ej] at hx
          cases hx
          have hj : j < rs.length := by
            rw [rl]
            exact hjs j (List.mem_of_getElem? ej)
          refine ⟨_, rfl, _, rfl, R, _, _, _, rfl, rfl, SqL.of hR3, atI_map hj, _, _, rfl, rfl, _, rfl, b, L, 255, rfl, d3, by decide, by decide, fun a H4 a0 a1 d4 u4 => ?_⟩
          refine ⟨_, _, rfl, rfl, _, _, rfl, rfl, (by show (0 : Int) < 256; decide), ?_⟩
          have hR4 := u4 _ _ nRb nRL hR3
          have hP4 := u4 _ _ nPb nPL hP3
          refine ⟨_, rfl, _, rfl, R, _, (j : Int), j, rfl, rfl, hR4, ?_, ?_⟩
          · rw [List.length_map]
            unfold ixN
            rw [if_pos (by omega), if_pos (by omega)]
            rfl
          · refine ⟨but_put (H2 := H) (u3.trans u4) nR, deal_put d4 nRb nRL, by rw [upd_ne (Ne.symm nRP)]; exact hP4, rs.set j ((rs[j] + 1 + a) % 256), _, by rw [upd_same, List.map_set], by rw [List.length_set]; exact rl, bytes_set rb (mod_lt (by decide)), fun k hk => ?_, rfl⟩
            have es : js.take (i + 1) = js.take i ++ [j] := by
              have hi := (List.getElem?_eq_some_iff.mp ej).1
              rw [List.take_succ_eq_append_getElem hi]
              congr 2
              exact (List.getElem?_eq_some_iff.mp ej).2
            rw [es] at hk
            simp only [List.mem_append, List.mem_singleton, not_or] at hk
            rw [getD_set, if_neg (fun z => hk.2 z.1)]
            exact re k hk.1
      · obtain ⟨u3, d3, hP3, rs, r6, hR3, rl, rb, re, rfl⟩ := h
        rw [List.length_map, List.take_length] at re
        have near := near_of rl jl re
        have lr : (rs.map V.int).length = rs.length := List.length_map ..
        refine ⟨_, rfl, _, rfl, R, _, rfl, .inl (SqL.of hR3), b, L, _, rfl, d3, by rw [lr]; omega, by rw [lr]; omega, fun one_ H4 o0 o1 d4 u4 => ?_⟩
        have hR4 := u4 _ _ nRb nRL hR3
        refine ⟨_, rfl, _, rfl, R, _, rfl, .inl (SqL.of hR4), b, L, _, rfl, d4, by rw [lr]; omega, by rw [lr]; omega, fun oth H5 p0 p1 d5 u5 => ?_⟩
        have hR5 := u5 _ _ nRb nRL hR4
        rw [lr] at o1 p1
        refine ⟨_, _, rfl, ?_⟩
        have u35 := (u3.trans u4).trans u5
        have done : ∀ (H6 : Hp) (R' : Addr) (zs : List Int) (r7 r8 : Option V), Deal H6 b L → But b L H H6 → H6 R' = some (.lst (zs.map V.int)) → Bytes zs → Near ns zs → (tRet (tThen (tVar 3) (kTup K))) { nx := fun x H' => Q V.non H', rt := Q } [some (V.ref b), some (V.ref t), some (V.int 2), some (V.ref R'), some (V.ref Pl), r5, r6, r7, r8] H6 := fun H6 R' zs r7 r8 d6 u6 h6 bz nz => by
          refine ⟨_, rfl, .inl ⟨R', _, rfl, SqL.of h6, fun p np => ?_⟩⟩
          exact q p _ zs (d6.same (same_new np)) (u6.trans (but_same (same_new np))) upd_same bz nz
        refine ⟨_, rfl, b, L, 3, rfl, d5, by decide, by decide, fun c H6 c0 c1 d6 u6 => ?_⟩
        have hR6 := u6 _ _ nRb nRL hR5
        have u36 := u35.trans u6
        refine ⟨rfl, _, rfl, ?_⟩
        refine ite2 (fun _ => ?_) (fun _ => done H6 R rs _ _ d6 u36 hR6 rb near)
        have tb : ∀ {H' : Hp}, But b L H H' → H' t = some (.tup (ns.map V.int)) := fun {H'} u => but_ts u hd _ _ ht
        have ht6 := tb u36
        obtain ⟨i, rfl⟩ : ∃ i : Nat, one_ = (i : Int) := ⟨one_.toNat, by omega⟩
        obtain ⟨j, rfl⟩ : ∃ j : Nat, oth = (j : Int) := ⟨oth.toNat, by omega⟩
        have hi : i < ns.length := by omega
        have hj : j < ns.length := by omega
        refine ⟨_, rfl, _, rfl, t, _, _, _, rfl, rfl, SqT.of ht6, atI_map hi, _, rfl, _, rfl, t, _, _, _, rfl, rfl, SqT.of ht6, atI_map hj, rfl, _, rfl, ?_⟩
        refine ite2 (fun cn => ?_) (fun _ => done H6 R rs _ _ d6 u36 hR6 rb near)
        have hij : i ≠ j := fun z => by
          subst z
          simp at cn
        refine ⟨_, rfl, t, _, rfl, .inr (SqT.of ht6), fun R2 nR2 => ?_⟩
        have n2 := d6.ne nR2
        have h2 : upd H6 R2 (.lst (ns.map V.int)) R2 = some (.lst (ns.map V.int)) := upd_same
        refine ⟨_, rfl, _, rfl, R2, _, _, _, rfl, rfl, SqL.of h2, atI_map hj, _, rfl, _, rfl, R2, _, _, _, rfl, rfl, SqL.of h2, atI_map hi, s2l, fun tq ntq => ?_⟩
        have nq : R2 ≠ tq := fun e => by
          rw [← e, upd_same] at ntq
          cases ntq
        have h3 : upd (upd H6 R2 (.lst (ns.map V.int))) tq (.tup [.int ns[j], .int ns[i]]) R2 = some (.lst (ns.map V.int)) := by rw [upd_ne nq]; exact h2
        refine ⟨tq, _, rfl, SqT.of upd_same, rfl, _, _, rfl, ?_⟩
        refine ⟨_, rfl, _, rfl, R2, _, (i : Int), i, rfl, rfl, h3, ?_, _, _, rfl, _, rfl, _, rfl, R2, _, (j : Int), j, rfl, rfl, upd_same, ?_, rfl, ?_⟩
        · rw [ll]
          unfold ixN
          rw [if_pos (by omega), if_pos (by omega)]
          rfl
        · rw [List.length_set, ll]
          unfold ixN
          rw [if_pos (by omega), if_pos (by omega)]
          rfl
        · have hz : H R2 = none := by
            cases e : H R2 with
            | none => rfl
            | some o =>
              rw [u36 _ _ n2.1 n2.2 e] at nR2
              cases nR2
          have ntq6 : H6 tq = none := none_of (same_new nR2) ntq
          have nq2 := d6.ne ntq6
          refine done _ R2 ((ns.set i ns[j]).set j ns[i]) _ _ ?_ ?_ ?_ (bytes_set (bytes_set hb (hb _ (List.getElem_mem hj))) (hb _ (List.getElem_mem hi))) ?_
          · exact deal_put (deal_put (deal_put (deal_put d6 n2.1 n2.2) nq2.1 nq2.2) n2.1 n2.2) n2.1 n2.2
          · refine but_put (H2 := H) (but_put (H2 := H) ((u36.trans (but_same (same_new nR2))).trans (but_same (same_new ntq))) hz) hz
          · rw [upd_same, List.map_set, List.map_set]
          · refine ⟨by rw [List.length_set, List.length_set], i, j, hij, fun k h1 h2 => ?_⟩
            rw [getD_set, if_neg (fun z => h2 z.1), getD_set, if_neg (fun z => h1 z.1)]
end
end K68


set_option Elab.async false
set_option linter.all false
set_option maxRecDepth 100000
set_option maxHeartbeats 4000000
namespace K68
open PySem L2
theorem ask_cat {K : PySem.W.Frag} {H : Hp} {Q : VK} {a b : Addr} {xs ys : List V} (ha : SqT K H a xs) (hb : SqT K H b ys) (hl : xs.length + ys.length ≤ sizeLine) (q : ∀ p H', Same H H' → SqT K H' p (xs ++ ys) → Q (.ref p) H') : rCatA K (.ref a) (.ref b) H Q := by
  refine ⟨a, b, xs, ys, rfl, rfl, ha, hb, hl, fun e => q b H (Same.refl _) (by rw [e]; exact hb), fun _ e => q a H (Same.refl _) (by rw [e, List.append_nil]; exact ha), fun _ _ p np => q p _ (same_new np) (.inl (.inl upd_same))⟩
mutual
theorem sm_lay : ∀ (n : Nat) (d : PyData), Sm n d → d.canLay0 = true ∧ d.depth ≤ n
  | n, .none, _ => ⟨rfl, Nat.zero_le _⟩
  | n, .bool _, _ => ⟨rfl, Nat.zero_le _⟩
  | n, .int _, _ => ⟨rfl, Nat.zero_le _⟩
  | n, .str x, h => by
    refine ⟨?_, Nat.zero_le _⟩
    show PyData.strOk x = true
    unfold PyData.strOk
    rw [Array.all_eq_true']
    intro c hc
    have := okCode_iff.mp ((sm_str h).2 (c : Int) (List.mem_map.mpr ⟨c, by simpa using hc, rfl⟩))
    exact decide_eq_true (by omega)
  | 0, .tuple _, h => h.elim
  | n + 1, .tuple ds, h => by
    have := sm_layAll n ds h.2
    refine ⟨by simpa [PyData.canLay0] using this.1, ?_⟩
    show PyData.depthAll ds + 1 ≤ n + 1
    omega
  | 0, .list _, h => h.elim
  | n + 1, .list _, h => h.elim
  | 0, .dict _, h => h.elim
  | n + 1, .dict _, h => h.elim
theorem sm_layAll : ∀ (n : Nat) (ds : List PyData), SmAll n ds → PyData.canLayAll0 ds = true ∧ PyData.depthAll ds ≤ n
  | n, [], _ => ⟨rfl, Nat.zero_le _⟩
  | n, d :: ds, h => by
    have a := sm_lay n d h.1
    have b := sm_layAll n ds h.2
    refine ⟨by simp [PyData.canLayAll0, a.1, b.1], ?_⟩
    show max d.depth (PyData.depthAll ds) ≤ n
    omega
end
theorem shaped_vals {n : Nat} {ds : List PyData} (h : SmAll n ds) (hn : n ≤ 50) : SeqAt.shaped (.tuple ds) = true := by
  have a := sm_layAll n ds h
  unfold SeqAt.shaped
  rw [Bool.and_eq_true]
  refine ⟨by simpa [PyData.canLay0] using a.1, decide_eq_true ?_⟩
  show PyData.depthAll ds + 1 ≤ 64
  omega
theorem shaped_told {n : Nat} {ds : List PyData} {i : Int} (h : SmAll n ds) (hn : n ≤ 50) : SeqAt.shaped (.tuple [.tuple ds, .int i]) = true := by
  have a := sm_layAll n ds h
  unfold SeqAt.shaped
  rw [Bool.and_eq_true]
  refine ⟨by simpa [PyData.canLay0, PyData.canLayAll0] using a.1, decide_eq_true ?_⟩
  show max (PyData.depthAll ds + 1) (max 0 0) + 1 ≤ 64
  omega
theorem SmAll.take {n : Nat} : ∀ {ds : List PyData} {k : Nat}, SmAll n ds → SmAll n (ds.take k)
  | [], k, _ => by
    rw [List.take_nil]
    unfold SmAll
    trivial
  | d :: r, 0, _ => by
    rw [List.take_zero]
    unfold SmAll
    trivial
  | d :: r, k + 1, h => by
    rw [List.take_succ_cons]
    exact ⟨h.1, SmAll.take (ds := r) h.2⟩
theorem SmAll.mem {n : Nat} : ∀ {ds : List PyData}, SmAll n ds → ∀ d ∈ ds, Sm n d
  | [], _, d, h => by cases h
  | e :: r, s, d, h => by
    rcases List.mem_cons.mp h with q | q
    · rw [q]
      exact s.1
    · exact SmAll.mem (ds := r) s.2 d q
/-- what is told, as data -/
theorem dp_told {K : PySem.W.Frag} {H : Hp} {p : Addr} {v : V} {ds : List PyData} {i : Int} (hp : SqT K H p [v, .int i]) (hv : Dp K H v (.tuple ds)) : Dp K H (.ref p) (.tuple [.tuple ds, .int i]) :=
  .tup hp (.cons hv (.cons (.int i) .nil))
theorem refl_of {d : PyData} (h : SeqAt.shaped d = true) : PyData.eqv d d = true := SeqAt.eqv_refl d (SeqAt.canLay_of_shaped h)
def spAnchor : Sp := fun vs H Q _ => vs = [] ∧ ∀ H', Same H H' → Q (.bl true) H'
def abS : PyData := .str "ab"
def abE : List Int := [87, 72, 4, 0, 4, 2, 97, 98, 108, 1, 202, 6]
theorem abE_is : entryOf abS = abE := by decide +kernel
theorem ab_sm : Sm 2 abS := by
  show ("ab" : Str).cps.size ≤ 4 ∧ ∀ c ∈ codesOf "ab", okCode c = true
  decide +kernel
end K68


set_option Elab.async false
set_option linter.all false
set_option maxRecDepth 100000
set_option maxHeartbeats 4000000
namespace K68
open PySem L2
def rowE : List Int := [87, 72, 4, 0, 4, 2, 98, 97, 108, 1, 202, 6]
theorem rowE_is : cutV (abE.map V.int) none (some 6) ++ [V.int (97 + 1), V.int (98 - 1)] ++ cutV (abE.map V.int) (some 8) none = rowE.map V.int := by decide +kernel
theorem row_word : wordE rowE = some "sums" := by decide +kernel
theorem ab9 : cutV (abE.map V.int) none (some 9) = (abE.take 9).map V.int := by decide +kernel
theorem ab9_word : wordE (abE.take 9) = some "short" := by decide +kernel
theorem ab5 : cutV (abE.map V.int) none (some 5) = (abE.take 5).map V.int := by decide +kernel
theorem bytes_dec {l : List Int} (h : l.all (fun x => decide (0 ≤ x) && decide (x < 256)) = true) : Bytes l := fun x hx => by
  have := List.all_eq_true.mp h x hx
  simpa using this
theorem ab_fits : Fits abS := sm_fits ab_sm (Nat.le_refl _)
theorem ab_read : readE abE = some abS := by
  rw [← abE_is]
  exact readE_wrap ab_fits.2 ab_fits.1
theorem ab_log : readL (abE ++ abE.take 5).length (abE ++ abE.take 5) = ([abS], 12) := by
  have h := readL_log [abS] (abE.take 5) 16 (fun d hd => by rw [List.mem_singleton.mp hd]; exact ab_fits)
  have e : logOf [abS] = abE := by
    show entryOf abS ++ [] = abE
    rw [abE_is, List.append_nil]
  rw [e] at h
  have st : readL 16 (abE.take 5) = ([], 0) := readL_stop (by
    have c := cut_stops (d := abS) (k := 5) (by rw [abE_is]; exact bytes_dec (by decide)) (by rw [abE_is]; decide)
    rw [abE_is] at c
    exact c)
  rw [st] at h
  exact h
theorem nil_log : readL ([] : List Int).length [] = ([], 0) := rfl
section
variable {P : Program} {w : World} {K : PySem.W.Frag} {mg : Str → Option Value} {base : Heap}
theorem ok_anchor {f fE fR fL C : Addr} {fd fdE fdR fdL : FuncData} (F : Fun K "_law_anchor" "_law_anchor" sXAnchor f fd) (T : TxtP K mg)
    (GE : FnOk P w K mg base CX0 5 fE fdE ["value"] (spXEntry K)) (bE : Binds K fdE ["value"] []) (mE : mg "_law_entry" = some (.ref fE)) (kE : PySem.W.keepIn K (.ref fE) = true)
    (GR : FnOk P w K mg base CX0 24 fR fdR ["signs"] (spRefused K)) (bR : Binds K fdR ["signs"] []) (mR : mg "_law_refused" = some (.ref fR)) (kR : PySem.W.keepIn K (.ref fR) = true)
    (GL : FnOk P w K mg base (L2N.CX P w) 25 fL fdL ["log"] (spLog K C)) (bL : Binds K fdL ["log"] []) (bL1 : ∀ (s : Shared) (v : Value), BindsTo s fdL ⟨[], [("log", v)]⟩ [("log", v)]) (mL : mg "read_log" = some (.ref fL)) (kL : PySem.W.keepIn K (.ref fL) = true) :
    FnOk P w K mg base CX0 26 f fd [] spAnchor := by
  refine F.ok scXAnchor (fun vs H Q E h => ?_) (fun cdv A outer s H vs Q E hr h => ?_)
  · obtain ⟨rfl, _⟩ := h
    rfl
  · obtain ⟨rfl, q⟩ := h
    refine ⟨_, pss_cons (ps_set (i := 0) scXAnchor.nd rfl (Or.inl rfl) (pe_call GE (hr.mono (by decide)) rfl mE kE bE .nil pass0 (pa_cons pe_str pa_nil)))
      (pss_cons (ps_set (i := 1) scXAnchor.nd rfl (Or.inl rfl) (pe_op op_catA (pe_op op_catA (pe_slice sl_any (pv 0) po_none (po_some pe_int)) (pe_tup (pa_cons (pe_op op_add (pe_ix ix_tup (pv 0) pe_int (fun _ _ => rfl)) pe_int) (pa_cons (pe_op op_sub (pe_ix ix_tup (pv 0) pe_int (fun _ _ => rfl)) pe_int) pa_nil)))) (pe_slice sl_any (pv 0) (po_some pe_int) po_none)))
      (pss_cons (ps_if (PW.pt (pw_or (pt_cmpR op_isN (pe_call GR (hr.mono (by decide)) rfl mR kR bR .nil pass0 (pa_cons (pv 1) pa_nil)) pe_non (nomark _))
          (pw_or (pt_cmpR op_notN (pe_call GR (hr.mono (by decide)) rfl mR kR bR .nil pass0 (pa_cons (pv 0) pa_nil)) pe_non (nomark _))
          (pw_or1 (pt_cmpR op_ne (pe_call GR (hr.mono (by decide)) rfl mR kR bR .nil pass0 (pa_cons (pe_slice sl_any (pv 0) po_none (po_some pe_int)) pa_nil)) pe_str (nomark _)))))) (pss_one (ps_ret pe_bl)) pss_nil)
      (pss_one (ps_ret (pe_and (pe_cmpR (op_eqD hr.units) (pe_callS1 GL hr rfl mL kL bL1 (E := fun _ => E0) (fun σ pins H s e s' I c => L2N.passL pins σ H s e s' I c) (pk_cons (pe_op op_catA (pv 0) (pe_slice sl_any (pv 0) po_none (po_some pe_int))) pk_nil)) (pe_tup (pa_cons (pe_tup (pa_cons pe_str pa_nil)) (pa_cons (pe_callB call_len_seq (by rfl) T.len PySem.boot_len (pa_cons (pv 0) pa_nil)) pa_nil))) (nomark _))
        (pe_one (pe_cmpR (op_eqD hr.units) (pe_call GL hr rfl mL kL bL .nil L2N.passL (pa_cons (pe_tup pa_nil) pa_nil)) (pe_tup (pa_cons (pe_tup pa_nil) (pa_cons pe_int pa_nil))) (nomark _)))))))), ?_⟩
    refine ⟨_, abS, rfl, .str _, ab_sm, fun p1 H1 s1 n1 hp1 => ?_⟩
    rw [abE_is] at hp1
    have t1 : SqT K H1 p1 (abE.map V.int) := SqT.of hp1
    refine ⟨_, rfl, _, rfl, ask_slT t1 fun p2 H2 s2 t2 => ?_⟩
    refine ⟨_, rfl, p1, _, _, _, rfl, rfl, sqT_same s2 t1, (by rfl : atI (abE.map V.int) 6 = some (.int 97)), _, _, rfl, rfl, _, rfl, p1, _, _, _, rfl, rfl, sqT_same s2 t1, (by rfl : atI (abE.map V.int) 7 = some (.int 98)), _, _, rfl, rfl, by show 2 ≤ sizeLine; decide, fun p3 n3 => ?_⟩
    have s3 := same_new (o := .tup [.int (97 + 1), .int (98 - 1)]) n3
    refine ask_cat (sqT_same s3 t2) (SqT.of upd_same) (by rw [sizeLine_eq]; decide) fun p4 H4 s4 t4 => ?_
    have t14 : SqT K H4 p1 (abE.map V.int) := sqT_same s4 (sqT_same s3 (sqT_same s2 t1))
    refine ⟨_, rfl, _, rfl, ask_slT t14 fun p5 H5 s5 t5 => ?_⟩
    refine ask_cat (sqT_same s5 t4) t5 (by rw [sizeLine_eq]; decide) fun p6 H6 s6 t6 => ?_
    rw [rowE_is] at t6
    have s26 := ((s2.trans s3).trans s4).trans (s5.trans s6)
    refine ⟨_, rfl, _, rfl, .inl ⟨p6, rowE, rfl, .inr t6, bytes_dec (by decide), by decide, fun H7 s7 => ?_⟩⟩
    rw [word_some row_word]
    refine ⟨rfl, _, rfl, ?_⟩
    refine it_false rfl ?_
    have t17 := sqT_same (s26.trans s7) t1
    refine ⟨_, rfl, _, rfl, .inl ⟨p1, abE, rfl, .inr t17, bytes_dec (by decide), by decide, fun H8 s8 => ?_⟩⟩
    rw [word_read ab_read]
    refine ⟨rfl, _, rfl, ?_⟩
    refine it_false rfl ?_
    refine ⟨_, rfl, _, rfl, ask_slT (sqT_same s8 t17) fun p9 H9 s9 t9 => ?_⟩
    rw [ab9] at t9
    refine ⟨_, rfl, .inl ⟨p9, abE.take 9, rfl, .inr t9, bytes_dec (by decide), by decide, fun H10 s10 => ?_⟩⟩
    rw [word_some ab9_word]
    refine ⟨rfl, _, rfl, ?_⟩
    refine it_false rfl ?_
    have t110 := sqT_same (s8.trans (s9.trans s10)) t17
    refine ⟨_, rfl, _, rfl, _, rfl, ask_slT t110 fun p11 H11 s11 t11 => ?_⟩
    rw [ab5] at t11
    refine ask_cat (sqT_same s11 t110) t11 (by rw [sizeLine_eq]; decide) fun p12 H12 s12 t12 => ?_
    rw [← List.map_append] at t12
    refine ⟨_, rfl, .inl ⟨p12, abE ++ abE.take 5, rfl, .inr t12, bytes_dec (by decide), by decide, fun p13 v H13 s13 hp13 tv => ?_⟩⟩
    rw [ab_log] at hp13 tv
    have s1113 := (s11.trans s12).trans s13
    refine ⟨by show 1 ≤ sizeLine; decide, fun p14 n14 => ?_⟩
    have s14 := same_new (o := .tup [.str "ab"]) n14
    refine ⟨_, rfl, p1, _, rfl, .inr (sqT_same (s1113.trans s14) t110), by show 2 ≤ sizeLine; decide, fun p15 n15 => ?_⟩
    have s15 := same_new (o := .tup [.ref p14, .int ((abE.map V.int).length : Int)]) n15
    have abl : SmAll 2 [abS] := ⟨ab_sm, trivial⟩
    have s1415 := s14.trans s15
    refine ⟨_, _, dp_told (ds := [abS]) (SqT.of (s1415 _ _ hp13)) (tv.mono (ts_same s1415)).dp, dp_told (ds := [abS]) (SqT.of upd_same) (.tup (SqT.of (s15 _ _ upd_same)) (.cons (.str _) .nil)), shaped_told abl (by decide), shaped_told abl (by decide), ?_⟩
    have e12 : (((12 : Nat) : Int)) = ((abE.map V.int).length : Int) := by rfl
    rw [e12, refl_of (shaped_told abl (by decide))]
    refine ⟨_, rfl, it_true rfl ?_⟩
    refine ⟨by show 0 ≤ sizeLine; decide, fun p16 n16 => ?_⟩
    have s16 := same_new (o := .tup []) n16
    refine ⟨_, rfl, .inl ⟨p16, [], rfl, .inr (SqT.of upd_same), bytes_nil, by decide, fun p17 v2 H17 s17 hp17 tv2 => ?_⟩⟩
    refine ⟨by show 0 ≤ sizeLine; decide, fun p18 n18 => ?_⟩
    have s18 := same_new (o := .tup []) n18
    refine ⟨by show 2 ≤ sizeLine; decide, fun p19 n19 => ?_⟩
    have s19 := same_new (o := .tup [.ref p18, .int 0]) n19
    have s1819 := s18.trans s19
    have nl : SmAll 2 [] := by
      unfold SmAll
      trivial
    refine ⟨_, _, dp_told (ds := []) (SqT.of (s1819 _ _ hp17)) (tv2.mono (ts_same s1819)).dp, dp_told (ds := []) (SqT.of upd_same) (.tup (SqT.of (s19 _ _ upd_same)) .nil), shaped_told nl (by decide), shaped_told nl (by decide), ?_⟩
    have e0 : ((([] : List Int).length : Nat) : Int) = 0 := rfl
    have := refl_of (shaped_told (i := 0) nl (by decide))
    show Q (.bl (PyData.eqv (.tuple [.tuple [], .int 0]) (.tuple [.tuple [], .int 0]))) _
    rw [this]
    refine q _ ?_
    exact (((s1.trans s26).trans ((s7.trans s8).trans (s9.trans s10))).trans ((s1113.trans s1415).trans (s16.trans s17))).trans s1819
end
end K68


set_option Elab.async false
set_option linter.all false
set_option maxRecDepth 100000
set_option maxHeartbeats 4000000
namespace K68
open PySem L2
def sz (ds : List PyData) (j : Nat) : Nat := (logOf (ds.take j)).length
theorem log_take_succ : ∀ {ds : List PyData} {j : Nat} (h : j < ds.length), logOf (ds.take (j + 1)) = logOf (ds.take j) ++ entryOf ds[j]
  | [], j, h => absurd h (by simp)
  | d :: r, 0, h => by simp [logOf]
  | d :: r, j + 1, h => by
    have ih := log_take_succ (ds := r) (j := j) (by simpa using h)
    simp only [List.take_succ_cons, logOf, List.getElem_cons_succ, List.append_assoc]
    rw [ih]
theorem log_drop : ∀ {ds : List PyData} {j : Nat}, j ≤ ds.length → logOf ds = logOf (ds.take j) ++ logOf (ds.drop j)
  | ds, 0, _ => by simp [logOf]
  | [], j + 1, h => absurd h (by simp)
  | d :: r, j + 1, h => by
    have ih := log_drop (ds := r) (j := j) (by simpa using h)
    simp only [List.take_succ_cons, List.drop_succ_cons, logOf, List.append_assoc]
    rw [← ih]
theorem sz_succ {ds : List PyData} {j : Nat} (h : j < ds.length) : sz ds (j + 1) = sz ds j + (entryOf ds[j]).length := by
  unfold sz
  rw [log_take_succ h, List.length_append]
theorem sz_lt {ds : List PyData} {j : Nat} (h : j < ds.length) : sz ds j < sz ds (j + 1) := by
  rw [sz_succ h, entry_len]
  omega
theorem sz_ge {ds : List PyData} : ∀ {j : Nat}, j ≤ ds.length → j ≤ sz ds j
  | 0, _ => Nat.zero_le _
  | j + 1, h => by
    have := sz_ge (ds := ds) (j := j) (by omega)
    have := sz_lt (ds := ds) (j := j) (by omega)
    omega
theorem count_le (z : Nat → Nat) (cut : Nat) (h0 : z 0 ≤ cut) : ∀ k, (∀ j, j < k → z j < z (j + 1)) → ∃ m, m ≤ k ∧ z m ≤ cut ∧ (m = k ∨ cut < z (m + 1)) ∧ ((List.range (k + 1)).filter (fun j => decide (z j ≤ cut))).length = m + 1
  | 0, _ => ⟨0, Nat.le_refl _, h0, .inl rfl, by
    rw [List.range_one]
    simp [h0]⟩
  | k + 1, h => by
    obtain ⟨m, hm, h1, h2, h3⟩ := count_le z cut h0 k fun j hj => h j (by omega)
    have mono : ∀ a b, a ≤ b → b ≤ k + 1 → z a ≤ z b := by
      intro a b hab
      induction b with
      | zero =>
        intro _
        have : a = 0 := by omega
        rw [this]
        exact Nat.le_refl _
      | succ b ih =>
        intro hb
        by_cases e : a = b + 1
        · rw [e]
          exact Nat.le_refl _
        · have := ih (by omega) (by omega)
          have := h b (by omega)
          omega
    rw [List.range_succ, List.filter_append, List.length_append, h3]
    by_cases c : z (k + 1) ≤ cut
    · have mk : m = k := by
        rcases h2 with e | e
        · exact e
        · by_cases q : m = k
          · exact q
          · have := mono (m + 1) (k + 1) (by omega) (Nat.le_refl _)
            omega
      refine ⟨k + 1, Nat.le_refl _, c, .inl rfl, ?_⟩
      simp [c, mk]
    · refine ⟨m, by omega, h1, .inr ?_, ?_⟩
      · rcases h2 with e | e
        · rw [e]
          omega
        · exact e
      · simp [c]
theorem readL_pre {ds : List PyData} {t l : List Int} (hf : ∀ d ∈ ds, Fits d) (e : l = logOf ds ++ t) (hl : ds.length ≤ l.length) : readL l.length l = (ds ++ (readL (l.length - ds.length) t).1, (logOf ds).length + (readL (l.length - ds.length) t).2) := by
  have h := readL_log ds t (l.length - ds.length) hf
  rw [← e] at h
  have : l.length - ds.length + ds.length = l.length := by omega
  rw [this] at h
  exact h
theorem sm_fitsAll {ds : List PyData} (h : SmAll 2 ds) : ∀ d ∈ ds, Fits d := fun d hd => sm_fits (h.mem d hd) (Nat.le_refl _)
theorem take_len {ds : List PyData} {m : Nat} (h : m ≤ ds.length) : (ds.take m).length = m := by
  rw [List.length_take]
  omega
/-- the whole row -/
theorem read_all {ds : List PyData} (h : SmAll 2 ds) : readL (logOf ds).length (logOf ds) = (ds, (logOf ds).length) := by
  have hl : ds.length ≤ (logOf ds).length := by
    have := sz_ge (ds := ds) (j := ds.length) (Nat.le_refl _)
    unfold sz at this
    rw [List.take_length] at this
    exact this
  rw [readL_pre (sm_fitsAll h) (List.append_nil _).symm hl, readL_stop (.inl (by decide))]
  simp
/-- the row, cut -/
theorem read_cut {ds : List PyData} (h : SmAll 2 ds) {cut m : Nat} (hc : cut ≤ (logOf ds).length) (hm : m ≤ ds.length) (h1 : sz ds m ≤ cut) (h2 : m = ds.length ∨ cut < sz ds (m + 1)) :
    readL ((logOf ds).take cut).length ((logOf ds).take cut) = (ds.take m, sz ds m) := by
  have hl : (ds.take m).length ≤ ((logOf ds).take cut).length := by
    have := sz_ge hm
    rw [take_len hm, List.length_take]
    omega
  have hd := log_drop hm
  have e : (logOf ds).take cut = logOf (ds.take m) ++ (logOf (ds.drop m)).take (cut - sz ds m) := by
    conv => lhs; rw [hd]
    unfold sz at h1 ⊢
    rw [List.take_append, List.take_of_length_le h1]
  rw [readL_pre (sm_fitsAll h.take) e hl]
  have st : ∀ f, readL f ((logOf (ds.drop m)).take (cut - sz ds m)) = ([], 0) := fun f => by
    by_cases c : m = ds.length
    · rw [c, List.drop_length]
      refine readL_stop (.inl ?_)
      show (([] : List Int).take _).length < 4
      simp
    · have hm' : m < ds.length := by omega
      rcases h2 with e2 | e2
      · exact absurd e2 c
      · rw [sz_succ hm'] at e2
        have e3 : logOf (ds.drop m) = entryOf ds[m] ++ logOf (ds.drop (m + 1)) := by
          rw [List.drop_eq_getElem_cons hm']
          rfl
        rw [e3, List.take_append_of_le_length (by omega)]
        exact readL_stop (cut_stops (entry_bytes (h.get hm') (by decide)) (by omega))
  rw [st]
  unfold sz
  simp
/-- the row, one entry spoilt -/
theorem read_spoilt {ds : List PyData} (h : SmAll 2 ds) {at_ : Nat} (ha : at_ < ds.length) {sp rest l : List Int} (e : l = logOf (ds.take at_) ++ sp ++ rest) :
    ∃ f, readL l.length l = (ds.take at_ ++ (readL f (sp ++ rest)).1, sz ds at_ + (readL f (sp ++ rest)).2) := by
  have hl : (ds.take at_).length ≤ l.length := by
    have := sz_ge (ds := ds) (j := at_) (by omega)
    unfold sz at this
    rw [take_len (by omega), e, List.length_append, List.length_append]
    omega
  exact ⟨_, readL_pre (sm_fitsAll h.take) (by rw [e, List.append_assoc]) hl⟩
theorem near_fault {d : PyData} {sp : List Int} (h : Sm 2 d) (n : Near (entryOf d) sp) (bs : Bytes sp) (ne : sp ≠ entryOf d) : ∃ x, fault sp = some x := by
  cases x : fault sp with
  | some y => exact ⟨y, rfl⟩
  | none =>
    have fe : fault (entryOf d) = none := wrap_fault (sm_fits h (Nat.le_refl _)).2
    have hl : (entryOf d).length ≤ 252 := by
      have a := sm_len 2 d h
      have b : bigS 2 = 71 := rfl
      rw [entry_len]
      omega
    exact absurd (near_same fe x n (entry_bytes h (by decide)) bs hl) ne
theorem spoilt_stops {d : PyData} {sp rest : List Int} (h : Sm 2 d) (n : Near (entryOf d) sp) (bs : Bytes sp) (ne : sp ≠ entryOf d) (alike : (sp.drop 2).take 2 = ((entryOf d).drop 2).take 2) (f : Nat) : readL f (sp ++ rest) = ([], 0) := by
  have hl : sp.length = (entryOf d).length := n.1
  have l8 : 8 ≤ (entryOf d).length := by
    rw [entry_len]
    omega
  refine readL_stop (.inr ?_)
  have g : ∀ k, k < 2 → sp.getD (2 + k) 0 = (entryOf d).getD (2 + k) 0 := fun k hk => by
    have := congrArg (fun z : List Int => z[k]?) alike
    simp only [List.getElem?_take, List.getElem?_drop, hk, if_true] at this
    rw [List.getD_eq_getElem?_getD, List.getD_eq_getElem?_getD, this]
  have ee : elen sp = elen (entryOf d) := by
    unfold elen
    have g0 := g 0 (by decide)
    have g1 := g 1 (by decide)
    simp only [Nat.add_zero] at g0
    rw [g0, g1]
  have e2 : (elen (entryOf d)).toNat = (entryOf d).length := by
    have := entry_elen d []
    rw [List.append_nil] at this
    exact this
  rw [elen_append (by omega), ee, e2, ← hl, List.take_left]
  obtain ⟨x, hx⟩ := near_fault h n bs ne
  exact readE_fault hx
theorem word_ne {s : List Int} (h : ∃ x, fault s = some x) : ∃ w, wordV s = .str w := by
  obtain ⟨x, hx⟩ := h
  exact ⟨wordOf x, by
    unfold wordV wordE
    rw [hx]⟩
end K68


set_option Elab.async false
set_option linter.all false
set_option maxRecDepth 100000
set_option maxHeartbeats 8000000
namespace K68
open PySem L2
def spLaw (K : PySem.W.Frag) : Sp := fun vs H Q _ => ∃ (a : Addr) (ns : List Int), vs = [.ref a] ∧ SqL K H a (ns.map V.int) ∧ ns.length ≤ 63 ∧ ∀ H', Q (.bl true) H'
/-- asked where an exception is handled: of what is no signs -/
def spBad (K : PySem.W.Frag) : Sp := fun vs H Q _ => ∃ x : V, vs = [x] ∧ NotSigns K H x ∧ ∀ H', Same H H' → Q (.str "signs") H'
/-- every entry stands in the heap -/
def EAll (H : Hp) (ds : List PyData) (es : List Addr) : Prop := es.length = ds.length ∧ ∀ (i : Nat) (h : i < ds.length) (e : Addr), es[i]? = some e → H e = some (.tup ((entryOf ds[i]).map V.int))
theorem EAll.mono {H H' : Hp} {ds : List PyData} {es : List Addr} (h : EAll H ds es) (s : TS H H') : EAll H' ds es := ⟨h.1, fun i hi e he => s _ _ (h.2 i hi e he)⟩
/-- what the law holds -/
structure St1 (H : Hp) (b L pV pE : Addr) (ds : List PyData) (xs : List V) (es : List Addr) : Prop where
  deal : Deal H b L
  hV : H pV = some (.lst xs)
  nV : pV ≠ b ∧ pV ≠ L
  tv : TvAll H ds xs
  sm : SmAll 2 ds
  l0 : 0 < ds.length
  l3 : ds.length ≤ 3
  hE : H pE = some (.lst (es.map V.ref))
  nE : pE ≠ b ∧ pE ≠ L
  ea : EAll H ds es
theorem St1.but {H H' : Hp} {b L pV pE : Addr} {ds : List PyData} {xs : List V} {es : List Addr} (h : St1 H b L pV pE ds xs es) (u : But b L H H') (d : Deal H' b L) : St1 H' b L pV pE ds xs es :=
  ⟨d, u _ _ h.nV.1 h.nV.2 h.hV, h.nV, h.tv.mono (but_ts u h.deal), h.sm, h.l0, h.l3, u _ _ h.nE.1 h.nE.2 h.hE, h.nE, h.ea.mono (but_ts u h.deal)⟩
theorem St1.same {H H' : Hp} {b L pV pE : Addr} {ds : List PyData} {xs : List V} {es : List Addr} (h : St1 H b L pV pE ds xs es) (s : Same H H') : St1 H' b L pV pE ds xs es := h.but (but_same s) (h.deal.same s)
theorem St1.put {H : Hp} {b L pV pE p : Addr} {ds : List PyData} {xs ys zs : List V} {es : List Addr} (h : St1 H b L pV pE ds xs es) (hp : H p = some (.lst ys)) (n1 : p ≠ b) (n2 : p ≠ L) (n3 : p ≠ pV) (n4 : p ≠ pE) : St1 (upd H p (.lst zs)) b L pV pE ds xs es :=
  ⟨deal_put h.deal n1 n2, by rw [upd_ne (Ne.symm n3)]; exact h.hV, h.nV, h.tv.mono (ts_put hp), h.sm, h.l0, h.l3, by rw [upd_ne (Ne.symm n4)]; exact h.hE, h.nE, h.ea.mono (ts_put hp)⟩
theorem sqT_put {K : PySem.W.Frag} {H : Hp} {a p : Addr} {xs ys : List V} {o : HO} (h : SqT K H a xs) (hp : H p = some (.lst ys)) : SqT K (upd H p o) a xs := by
  rcases h with (h | ⟨z, h⟩) | h
  · exact .inl (.inl (by
      rw [upd_ne (fun q => by rw [q, hp] at h; cases h)]
      exact h))
  · exact .inl (.inr ⟨z, by
      rw [upd_ne (fun q => by rw [q, hp] at h; cases h)]
      exact h⟩)
  · exact .inr h
theorem sqT_but {K : PySem.W.Frag} {H H' : Hp} {a b L : Addr} {xs : List V} (h : SqT K H a xs) (u : But b L H H') (d : Deal H b L) : SqT K H' a xs := by
  obtain ⟨_, ns, z, h1, h2, h3⟩ := d
  rcases h with (h | ⟨y, h⟩) | h
  · exact .inl (.inl (u _ _ (fun q => by rw [q, h1] at h; cases h) (fun q => by rw [q, h2] at h; cases h) h))
  · exact .inl (.inr ⟨y, u _ _ (fun q => by rw [q, h1] at h; cases h) (fun q => by rw [q, h2] at h; cases h) h⟩)
  · exact .inr h
theorem TvAll.take {H : Hp} : ∀ {ds : List PyData} {xs : List V} {k : Nat}, TvAll H ds xs → TvAll H (ds.take k) (xs.take k)
  | _, _, k, .nil => by
    rw [List.take_nil, List.take_nil]
    exact .nil
  | _, _, 0, .cons h r => by
    rw [List.take_zero, List.take_zero]
    exact .nil
  | _, _, k + 1, .cons h r => by
    rw [List.take_succ_cons, List.take_succ_cons]
    exact .cons h (TvAll.take r)
theorem cutV_from {xs : List V} (n : Nat) : cutV xs (some (n : Int)) none = xs.drop n := by
  unfold cutV
  rw [HT.sIx_none, HT.sIx_nat]
  by_cases h : n ≤ xs.length
  · rw [Nat.min_eq_left h, List.take_of_length_le (by rw [List.length_drop]; omega)]
  · rw [Nat.min_eq_right (by omega), List.drop_of_length_le (Nat.le_refl _), List.drop_of_length_le (by omega)]
    simp
theorem ts_but {b L : Addr} {H H' : Hp} (u : But b L H H') (d : Deal H b L) : TS H H' := but_ts u d
theorem filterMap_len {α β : Type} (p : α → Bool) (g : α → β) (l : List α) : (l.filterMap fun j => if p j = true then some (g j) else none).length = (l.filter p).length := by
  induction l with
  | nil => rfl
  | cons a r ih =>
    cases h : p a with
    | true => simp [h, ih]
    | false => simp [h, ih]
theorem log_len : ∀ {ds : List PyData}, SmAll 2 ds → (logOf ds).length ≤ ds.length * 79
  | [], _ => by simp [logOf]
  | d :: r, h => by
    have a := log_len (ds := r) h.2
    have c := sm_len 2 d h.1
    have b : bigS 2 = 71 := rfl
    simp only [logOf, List.length_append, List.length_cons]
    rw [entry_len, Nat.succ_mul]
    omega
theorem log_bytes : ∀ {ds : List PyData}, SmAll 2 ds → Bytes (logOf ds)
  | [], _ => bytes_nil
  | d :: r, h => bytes_append (entry_bytes h.1 (by decide)) (log_bytes (ds := r) h.2)
section
variable {P : Program} {w : World} {K : PySem.W.Frag} {mg : Str → Option Value} {base : Heap}
theorem ok_law {f fD fN fV fA fE fR fS fL fO C U fI : Addr} {fd fdD fdN fdV fdA fdE fdR fdS fdL fdO : FuncData} {qi : Str} (F : Fun K "law" "law" sLaw f fd) (T : TxtP K mg) (ET : PySem.OwnEx.ErrTxt K mg "InvalidEntry" "word" qi C U fI) (ex : PySem.W.exmOne K (.ref C) (.ref C) = some true)
    (GD : FnOk P w K mg base CX0 1 fD fdD ["script", "salt"] (spDraw K)) (bD : Binds K fdD ["script", "salt"] []) (mD : mg "_law_draw" = some (.ref fD)) (kD : PySem.W.keepIn K (.ref fD) = true)
    (GN : FnOk P w K mg base CX0 26 fN fdN [] spAnchor) (bN : Binds K fdN [] []) (mN : mg "_law_anchor" = some (.ref fN)) (kN : PySem.W.keepIn K (.ref fN) = true)
    (GV : FnOk P w K mg base CX0 5 fV fdV ["deal", "depth"] (spXValue 2)) (bV : Binds K fdV ["deal", "depth"] []) (mV : mg "_law_value" = some (.ref fV)) (kV : PySem.W.keepIn K (.ref fV) = true)
    (GA : FnOk P w K mg base CX0 1 fA fdA ["deal", "bound"] spAny) (bA : Binds K fdA ["deal", "bound"] []) (mA : mg "_law_any" = some (.ref fA)) (kA : PySem.W.keepIn K (.ref fA) = true)
    (GE : FnOk P w K mg base CX0 5 fE fdE ["value"] (spXEntry K)) (bE : Binds K fdE ["value"] []) (mE : mg "_law_entry" = some (.ref fE)) (kE : PySem.W.keepIn K (.ref fE) = true)
    (GR : FnOk P w K mg base CX0 24 fR fdR ["signs"] (spRefused K)) (bR : Binds K fdR ["signs"] []) (mR : mg "_law_refused" = some (.ref fR)) (kR : PySem.W.keepIn K (.ref fR) = true)
    (GS : FnOk P w K mg base CX0 3 fS fdS ["deal", "signs", "most"] (spSpoilt K)) (bS : Binds K fdS ["deal", "signs", "most"] []) (mS : mg "_law_spoilt" = some (.ref fS)) (kS : PySem.W.keepIn K (.ref fS) = true)
    (GL : FnOk P w K mg base (L2N.CX P w) 25 fL fdL ["log"] (spLog K C)) (bL : Binds K fdL ["log"] []) (bL1 : ∀ (s : Shared) (v : Value), BindsTo s fdL ⟨[], [("log", v)]⟩ [("log", v)]) (mL : mg "read_log" = some (.ref fL)) (kL : PySem.W.keepIn K (.ref fL) = true)
    (GH : L2H.FnH P w K mg base (L2.CX P w) 24 fR fdR ["signs"] (spBad K))
    (GO : FnOk P w K mg base CX0 2 fO fdO ["deal", "some"] (spOf K)) (bO : Binds K fdO ["deal", "some"] []) (mO : mg "_law_of" = some (.ref fO)) (kO : PySem.W.keepIn K (.ref fO) = true) :
    FnOk P w K mg base CX0 27 f fd ["script"] (spLaw K) := by
  refine F.ok scLaw (fun vs H Q E h => ?_) (fun cdv A outer s H vs Q E hr h => ?_)
  · obtain ⟨a, ns, rfl, _⟩ := h
    rfl
  · obtain ⟨a, ns, rfl, hS, hlen, q⟩ := h
    refine ⟨_, pss_cons (ps_set (i := 1) scLaw.nd rfl (Or.inr rfl) (pe_call GD (hr.mono (by decide)) rfl mD kD bD .nil pass0 (pa_cons (pv 0) (pa_cons pe_int pa_nil))))
      (pss_cons (ps_if (pt_not (pt_val (pe_call0 GN hr rfl mN kN bN .nil pass0))) (pss_one (ps_ret pe_bl)) pss_nil)
      (pss_cons (ps_setLc (i := 2) (own := [("turn", 14)]) (g := gName 14) (tt := tYes) rfl scLaw.nd rfl rfl rfl (pi_range1 (by rfl) T.range (pa_cons (pe_op op_add pe_int (pe_call GA (hr.mono (by decide)) rfl mA kA bA .nil pass0 (pa_cons (pv 1) (pa_cons pe_int pa_nil)))) pa_nil)) (blkOk_by (N := nLaw) (sc := defScope sLaw) (by decide +kernel))
            (fun _ _ _ _ _ => pg_name (i := 14) scLaw.nd rfl (Or.inl rfl)) (fun _ _ _ _ _ => pts_nil)
            (fun _ _ _ _ _ => pe_call GV (by exact Room.mono hr (by decide)) rfl mV kV bV .nil pass0 (pa_cons (pv 1) (pa_cons pe_int pa_nil))))
      (pss_cons (ps_setLc (i := 3) (own := [("value", 16)]) (g := gName 16) (tt := tYes) rfl scLaw.nd rfl rfl rfl (pi_list (pv 2)) (blkOk_by (N := nLaw) (sc := defScope sLaw) (by decide +kernel))
            (fun _ _ _ _ _ => pg_name (i := 16) scLaw.nd rfl (Or.inl rfl)) (fun _ _ _ _ _ => pts_nil)
            (fun _ _ _ _ _ => pe_call GE (by exact Room.mono hr (by decide)) rfl mE kE bE .nil pass0 (pa_cons (pv 16) pa_nil)))
      (pss_cons (ps_for PassesOwn.never rfl (pi_list (pv 3)) (pg_name (i := 4) scLaw.nd rfl (Or.inl rfl))
        (pss_cons (ps_set (i := 7) scLaw.nd rfl (Or.inr rfl) (pe_call GA (hr.mono (by decide)) rfl mA kA bA .nil pass0 (pa_cons (pv 1) (pa_cons (pe_callB call_len_seq (by rfl) T.len PySem.boot_len (pa_cons (pv 4) pa_nil)) pa_nil))))
        (pss_cons (ps_if (PW.pt (pw_or (pt_cmpR op_ne (pe_call GR (hr.mono (by decide)) rfl mR kR bR .nil pass0 (pa_cons (pe_slice sl_any (pv 4) po_none (po_some (pv 7))) pa_nil)) pe_str (nomark _)) (pw_or1 (pt_cmpR op_notN (pe_call GR (hr.mono (by decide)) rfl mR kR bR .nil pass0 (pa_cons (pe_callTy call_list_of (by rfl) T.list (by decide +kernel) (pa_cons (pv 4) pa_nil)) pa_nil)) pe_non (nomark _))))) (pss_one (ps_ret pe_bl)) pss_nil)
        (pss_one (ps_for PassesOwn.never rfl (pi_range1 (by rfl) T.range (pa_cons pe_int pa_nil)) (pg_name (i := 14) scLaw.nd rfl (Or.inl rfl))
          (pss_cons (ps_set (i := 11) scLaw.nd rfl (Or.inl rfl) (pe_call GS (hr.mono (by decide)) rfl mS kS bS .nil pass0 (pa_cons (pv 1) (pa_cons (pv 4) (pa_cons pe_int pa_nil)))))
          (pss_one (ps_if (PW.pt (pw_and (pt_cmpR (op_neD hr.units) (pv 11) (pv 4) (nomark _)) (pw_and1 (pt_cmpR op_isN (pe_call GR (hr.mono (by decide)) rfl mR kR bR .nil pass0 (pa_cons (pv 11) pa_nil)) pe_non (nomark _))))) (pss_one (ps_ret pe_bl)) pss_nil))))))))
      (pss_cons (ps_par (i := 5) (j := 6) rfl scLaw.nd rfl rfl (by decide) rfl rfl (pa_cons (pe_tup pa_nil) (pa_cons (pe_lst (pa_cons pe_int pa_nil)) pa_nil)) (by rfl))
      (pss_cons (ps_for PassesOwn.never rfl (pi_list (pv 3)) (pg_name (i := 4) scLaw.nd rfl (Or.inl rfl))
        (pss_cons (ps_set (i := 5) scLaw.nd rfl (Or.inl rfl) (pe_op op_catA (pv 5) (pv 4)))
        (pss_one (ps_expr (pe_bm PySem.F.plainAttrs_list PySem.F.slot_list_append PySem.F.type_list_append mt_append (pv 6) (pa_cons (pe_callB call_len_seq (by rfl) T.len PySem.boot_len (pa_cons (pv 5) pa_nil)) pa_nil))))))
      (pss_cons (ps_if (pt_cmpR (op_neD hr.units) (pe_call GL (hr.mono (by decide)) rfl mL kL bL .nil L2N.passL (pa_cons (pe_callTy call_list_of (by rfl) T.list (by decide +kernel) (pa_cons (pv 5) pa_nil)) pa_nil)) (pe_tup (pa_cons (pe_tupleOf (by rfl) T.tuple (pv 2)) (pa_cons (pe_callB call_len_seq (by rfl) T.len PySem.boot_len (pa_cons (pv 5) pa_nil)) pa_nil))) (nomark _)) (pss_one (ps_ret pe_bl)) pss_nil)
      (pss_cons (ps_set (i := 7) scLaw.nd rfl (Or.inr rfl) (pe_call GA (hr.mono (by decide)) rfl mA kA bA .nil pass0 (pa_cons (pv 1) (pa_cons (pe_op op_add (pe_callB call_len_seq (by rfl) T.len PySem.boot_len (pa_cons (pv 5) pa_nil)) pe_int) pa_nil))))
      (pss_cons (ps_set (i := 8) scLaw.nd rfl (Or.inl rfl) (pe_op op_sub (pe_callB call_len_seq (by rfl) T.len PySem.boot_len (pa_cons (pe_lc (own := [("size", 17)]) (g := gName 17) rfl scLaw.nd (pi_list (pv 6)) (blkOk_by (N := nLaw) (sc := defScope sLaw) (by decide +kernel))
            (fun _ _ _ _ _ => pg_name (i := 17) scLaw.nd rfl (Or.inl rfl)) (fun _ _ _ _ _ => pts_one (pt_cmpR op_le (pv 17) (pv 7) (nomark _)))
            (fun _ _ _ _ _ => pv 17)) pa_nil)) pe_int))
      (pss_cons (ps_if (pt_cmpR (op_neD hr.units) (pe_callS1 GL (hr.mono (by decide)) rfl mL kL bL1 (E := fun _ => E0) (fun σ pins H s e s' I c => L2N.passL pins σ H s e s' I c) (pk_cons (pe_slice sl_any (pv 5) po_none (po_some (pv 7))) pk_nil)) (pe_tup (pa_cons (pe_tupleOf (by rfl) T.tuple (pe_slice sl_any (pv 2) po_none (po_some (pv 8)))) (pa_cons (pe_ix ix_list (pv 6) (pv 8) (fun _ _ => rfl)) pa_nil))) (nomark _)) (pss_one (ps_ret pe_bl)) pss_nil)
      (pss_cons (ps_set (i := 9) scLaw.nd rfl (Or.inl rfl) (pe_call GA (hr.mono (by decide)) rfl mA kA bA .nil pass0 (pa_cons (pv 1) (pa_cons (pe_callB call_len_seq (by rfl) T.len PySem.boot_len (pa_cons (pv 3) pa_nil)) pa_nil))))
      (pss_cons (ps_set (i := 10) scLaw.nd rfl (Or.inl rfl) (pe_call GS (hr.mono (by decide)) rfl mS kS bS .nil pass0 (pa_cons (pv 1) (pa_cons (pe_ix ix_list (pv 3) (pv 9) (fun _ _ => rfl)) (pa_cons pe_int pa_nil)))))
      (pss_cons (ps_set (i := 11) scLaw.nd rfl (Or.inl rfl) (pe_op op_catA (pe_op op_catA (pe_slice sl_any (pv 5) po_none (po_some (pe_ix ix_list (pv 6) (pv 9) (fun _ _ => rfl)))) (pv 10)) (pe_slice sl_any (pv 5) (po_some (pe_ix ix_list (pv 6) (pe_op op_add (pv 9) pe_int) (fun _ _ => rfl))) po_none)))
      (pss_cons (ps_set (i := 12) scLaw.nd rfl (Or.inl rfl) (pe_call GL (hr.mono (by decide)) rfl mL kL bL .nil L2N.passL (pa_cons (pv 11) pa_nil)))
      (Evl.pss_cut (ps_if (PW.pt (pw_and (pt_cmpR (op_neD hr.units) (pv 10) (pe_ix ix_list (pv 3) (pv 9) (fun _ _ => rfl)) (nomark _)) (pw_and1 (pt_cmpR (op_neD hr.units) (pe_slice sl_any (pe_ix ix_tup (pv 12) pe_int (fun _ _ => rfl)) po_none (po_some (pv 9))) (pe_tupleOf (by rfl) T.tuple (pe_slice sl_any (pv 2) po_none (po_some (pv 9)))) (nomark _))))) (pss_one (ps_ret pe_bl)) pss_nil)
      (Evl.pss_cut (ps_if (PW.pt (pw_and (pt_cmpR (op_neD hr.units) (pv 10) (pe_ix ix_list (pv 3) (pv 9) (fun _ _ => rfl)) (nomark _)) (pw_and (pt_cmpR (op_eqD hr.units) (pe_slice sl_any (pv 10) (po_some pe_int) (po_some pe_int)) (pe_slice sl_any (pe_ix ix_list (pv 3) (pv 9) (fun _ _ => rfl)) (po_some pe_int) (po_some pe_int)) (nomark _))
          (pw_and1 (pt_cmpR (op_neD hr.units) (pv 12) (pe_tup (pa_cons (pe_tupleOf (by rfl) T.tuple (pe_slice sl_any (pv 2) po_none (po_some (pv 9)))) (pa_cons (pe_ix ix_list (pv 6) (pv 9) (fun _ _ => rfl)) pa_nil))) (nomark _)))))) (pss_one (ps_ret pe_bl)) pss_nil)
      (pss_cons (ps_set (i := 13) scLaw.nd rfl (Or.inl rfl) (pe_call GO (hr.mono (by decide)) rfl mO kO bO .nil pass0 (pa_cons (pv 1) (pa_cons (pe_lst (pa_cons pe_non (pa_cons pe_int (pa_cons pe_str (pa_cons (pe_tup (pa_cons pe_int pa_nil)) (pa_cons (pe_lst (pa_cons pe_bl pa_nil)) (pa_cons (pe_tup (pa_cons (pe_un un_neg pe_int) pa_nil)) pa_nil))))))) pa_nil))))
      (pss_cons (L2N.ps_try_as (i := 15) (Wout := fun _ _ _ _ => False) (tb := fun W => tDrop (tCallS (spLog K C) (WE W) (tCons (tVar 13) tNil))) (ts := fun a cls d => tRet (tAndV (tOp rEq (tErrFld "word" C a cls d (tVar 15)) (tC (.str "signs"))) (tOp rEq (tCallS (spBad K) (fun _ => E0) (tCons (tVar 13) tNil)) (tC (.str "signs"))))) rfl rfl scLaw.nd rfl rfl ⟨rfl, by decide, .inl ET.gC⟩ L2N.takes_no
          (fun W pn xe tk _ => pss_one (ps_expr (pe_callS GL (hr.mono (by decide)) rfl mL kL bL (fun σ => L2N.passAt tk σ) (by exact (pa_cons (pv 13) pa_nil)))))
          (fun a oe cls d pn hz hf => pss_one (ps_ret (pe_and (pe_cmpR op_eq (pe_errFld ET hz.zc hf (pv 15)) pe_str (nomark _)) (pe_one (pe_cmpR op_eq (L2H.pe_callH GH (by have h24 := hr.mono (by decide : 24 ≤ 26); exact ⟨h24.dp, h24.un⟩) (L2H.hot_suite hz hf) rfl mR kR bR (fun σ pins H s e s' I c => L2.passL pins σ H s e s' I c) (pa_cons (pv 13) pa_nil)) pe_str (nomark _)))))))
      (pss_one (ps_ret pe_bl)))))))))))))))))))), ?_⟩
    refine ⟨_, rfl, a, ns, rfl, hS, hlen, fun b L H1 nb s1 d1 => ?_⟩
    refine ⟨rfl, fun H2 s2 => ⟨_, rfl, ?_⟩⟩
    refine it_false rfl ?_
    have d2 := d1.same s2
    clear s1 d1 nb
    -- values
    refine ⟨_, rfl, b, L, 3, rfl, d2, by decide, by decide, fun m H3 m0 m1 d3 u3 => ?_⟩
    refine ⟨_, _, rfl, rfl, _, rfl, by omega, by omega, fun pV hpV => ?_⟩
    have nV := d3.ne hpV
    refine lc_it walk_range (fun i H' => Deal H' b L ∧ ∃ (ds : List PyData) (xs : List V), H' pV = some (.lst xs) ∧ TvAll H' ds xs ∧ SmAll 2 ds ∧ ds.length = i)
      ⟨d3.same (same_new hpV), [], [], upd_same, .nil, by unfold SmAll; trivial, rfl⟩ (fun _ _ _ _ => trivial) (fun i x H4 H5 hi h y => ?_) (fun H4 h => ?_)
    · obtain ⟨d4, ds, xs, hD, tvs, sms, el⟩ := h
      obtain ⟨rfl, rfl⟩ := y
      refine ⟨rfl, yes_of ?_⟩
      refine ⟨_, rfl, b, L, rfl, d4, fun d v H6 tv sm d6 u6 => ?_⟩
      have hD6 := u6 _ _ nV.1 nV.2 hD
      refine ⟨xs, hD6, ?_, deal_put d6 nV.1 nV.2, ds ++ [d], xs ++ [v], upd_same, ?_, sms.snoc sm, by rw [List.length_append, List.length_singleton, el]⟩
      · rw [tvs.len, sizeLine_eq]
        omega
      · exact ((tvs.mono (but_ts u6 d4)).snoc tv).mono (ts_put hD6)
    obtain ⟨d4, ds, xs, hV, tvs, sms, el⟩ := h
    have dl0 : 0 < ds.length := by omega
    have dl3 : ds.length ≤ 3 := by omega
    have xl := tvs.len
    clear u3 m0 m1 d2 d3 hpV
    -- entries
    refine ⟨_, rfl, pV, rfl, ⟨_, SqL.of hV⟩, fun pE hpE => ?_⟩
    have nE := d4.ne hpE
    refine lc_it walk_list (fun i H' => Same H4 H' ∧ ∃ es : List Addr, H' pE = some (.lst (es.map V.ref)) ∧ es.length = i ∧ ∀ (j : Nat) (h : j < ds.length) (e : Addr), es[j]? = some e → H' e = some (.tup ((entryOf ds[j]).map V.int)))
      ⟨same_new hpE, [], upd_same, rfl, fun j _ e he => by simp at he⟩ (fun i H' _ h => SqL.of (h.1 _ _ hV)) (fun i x H5 H6 hi h y => ?_) (fun H5 h => ?_)
    · obtain ⟨s5, es, hE, ee, he⟩ := h
      obtain ⟨rfl, hx⟩ := y
      refine ⟨rfl, yes_of ?_⟩
      obtain ⟨hid, tvi⟩ := tvs.get hx
      refine ⟨_, rfl, x, ds[i], rfl, tvi.mono (ts_same s5), sms.get hid, fun p H7 s7 np hp => ?_⟩
      have hE7 := s7 _ _ hE
      refine ⟨_, hE7, ?_, same_put (s5.trans s7) hpE, es ++ [p], ?_, ?_, ?_⟩
      · rw [List.length_map, sizeLine_eq]
        omega
      · rw [upd_same, List.map_append]
        rfl
      · rw [List.length_append, List.length_singleton, ee]
      · intro j hj e hje
        refine (ts_put hE7) _ _ ?_
        by_cases c : j < es.length
        · rw [List.getElem?_append_left c] at hje
          exact s7 _ _ (he j hj e hje)
        · have ej : j = es.length := by
            have := (List.getElem?_eq_some_iff.mp hje).1
            rw [List.length_append, List.length_singleton] at this
            omega
          subst ej
          rw [List.getElem?_append_right (Nat.le_refl _)] at hje
          simp at hje
          subst hje
          subst ee
          exact hp
    obtain ⟨s5, es, hE, ee, he⟩ := h
    have S5 : St1 H5 b L pV pE ds xs es := ⟨d4.same s5, s5 _ _ hV, nV, tvs.mono (ts_same s5), sms, dl0, dl3, hE, nE, by rw [ee, xl], he⟩
    clear he hE s5 hpE nE d4 hV nV
    -- each entry: cut, as a list, spoilt
    refine ⟨_, rfl, pE, rfl, ⟨_, SqL.of S5.hE⟩, ?_⟩
    refine for_list (fun i σ H' => St1 H' b L pV pE ds xs es ∧ ∃ r4 r7 r11 r14 : Option V, σ = [some (.ref a), some (.ref b), some (.ref pV), some (.ref pE), r4, none, none, r7, none, none, none, r11, none, none, r14, none, none, none])
      ⟨S5, none, none, none, none, rfl⟩ (fun i σ H' _ h => SqL.of h.1.hE) (fun i x σ H6 hx h => ?_) (fun σ H6 h => ?_)
    · obtain ⟨S6, r4, r7, r11, r14, rfl⟩ := h
      rw [List.getElem?_map] at hx
      cases ei : es[i]? with
      | none =>
        rw [ei] at hx
        cases hx
      | some e =>
        rw [ei] at hx
        cases hx
        have hi : i < ds.length := by
          have := (List.getElem?_eq_some_iff.mp ei).1
          rw [S6.ea.1] at this
          exact this
        have smi := S6.sm.get hi
        have hEi : ∀ {H' : Hp}, St1 H' b L pV pE ds xs es → H' e = some (.tup ((entryOf ds[i]).map V.int)) := fun {H'} S => S.ea.2 i hi e ei
        have ebs := entry_bytes smi (by decide)
        have eln : 8 ≤ (entryOf ds[i]).length ∧ (entryOf ds[i]).length ≤ 79 := by
          have a := sm_len 2 _ smi
          have b : bigS 2 = 71 := rfl
          rw [entry_len]
          omega
        have erd : readE (entryOf ds[i]) = some ds[i] := readE_wrap (sm_fits smi (Nat.le_refl _)).2 (sm_fits smi (Nat.le_refl _)).1
        have esh : ∀ k, k < (entryOf ds[i]).length → wordE ((entryOf ds[i]).take k) = some "short" := fun k hk => by
          have := cut_short (b := signsOf ds[i]) (k := k) ebs hk
          unfold wordE
          show (match fault ((wrap (signsOf ds[i])).take k) with
            | some x => some (wordOf x)
            | none => _) = _
          rw [this]
          rfl
        generalize hdi : ds[i] = d at *
        have ll : ((entryOf d).map V.int).length = (entryOf d).length := List.length_map ..
        refine ⟨_, rfl, _, rfl, e, _, rfl, .inr (SqT.of (hEi S6)), b, L, _, rfl, S6.deal, by rw [ll]; omega, by rw [ll]; omega, fun cut H7 c0 c1 d7 u7 => ?_⟩
        rw [ll] at c1
        obtain ⟨k, rfl⟩ : ∃ k : Nat, cut = (k : Int) := ⟨cut.toNat, by omega⟩
        have S7 := S6.but u7 d7
        refine ⟨_, rfl, _, rfl, _, rfl, ask_slT (SqT.of (hEi S7)) fun p8 H8 s8 t8 => ?_⟩
        rw [cutV_to, ← List.map_take] at t8
        refine ⟨_, rfl, .inl ⟨p8, _, rfl, .inr t8, fun y hy => ebs y (List.mem_of_mem_take hy), by rw [List.length_take]; omega, fun H9 s9 => ?_⟩⟩
        rw [word_some (esh k (by omega))]
        refine ⟨rfl, _, rfl, ?_⟩
        refine it_false rfl ?_
        have S9 := (S7.same s8).same s9
        refine ⟨_, rfl, e, _, rfl, .inr (SqT.of (hEi S9)), fun l nl => ?_⟩
        have S10 := S9.same (same_new (o := .lst ((entryOf d).map V.int)) nl)
        refine ⟨_, rfl, .inl ⟨l, entryOf d, rfl, .inl (SqL.of upd_same), ebs, by omega, fun H11 s11 => ?_⟩⟩
        rw [word_read erd]
        refine ⟨rfl, _, rfl, ?_⟩
        refine it_false rfl ?_
        have S11 := S10.same s11
        refine ⟨8, rfl, by decide, by decide, ?_⟩
        refine for_range (fun j σ H' => St1 H' b L pV pE ds xs es ∧ ∃ r11 r14 : Option V, σ = [some (.ref a), some (.ref b), some (.ref pV), some (.ref pE), some (.ref e), none, none, some (.int (k : Int)), none, none, none, r11, none, none, r14, none, none, none])
          ⟨S11, _, _, rfl⟩ (fun j σ H' hj h => ?_) (fun σ H' h => ?_)
        · obtain ⟨S12, q11, q14, rfl⟩ := h
          refine ⟨_, rfl, _, rfl, b, L, e, entryOf d, rfl, S12.deal, hEi S12, by omega, by omega, ebs, fun p H13 rs d13 u13 hp brs near => ?_⟩
          have S13 := S12.but u13 d13
          refine ⟨_, rfl, _, rfl, ask_neT (SqT.of hp) (SqT.of (hEi S13)) ⟨_, rfl, ?_⟩⟩
          refine ite2 (fun c => ?_) (fun c => ⟨S13, _, _, rfl⟩)
          have ne : rs ≠ entryOf d := by simpa using c
          have rl : rs.length ≤ 1000000 := by
            rw [near.1]
            omega
          obtain ⟨wd, ew⟩ := word_ne (near_fault smi near brs ne)
          refine ⟨_, rfl, _, rfl, .inl ⟨p, rs, rfl, .inr (SqT.of hp), brs, rl, fun H14 s14 => ?_⟩⟩
          rw [ew]
          refine ⟨rfl, _, rfl, ?_⟩
          refine it_false rfl ?_
          exact ⟨S13.same s14, _, _, rfl⟩
        · obtain ⟨S12, q11, q14, rfl⟩ := h
          exact ⟨S12, _, _, _, _, rfl⟩
    obtain ⟨S6, r4, r7, r11, r14, rfl⟩ := h
    clear S5
    -- the log and the sizes
    refine ⟨by show 0 ≤ sizeLine; decide, fun pl npl => ⟨by show 1 ≤ sizeLine; decide, fun pS npS => ⟨_, _, rfl, ?_⟩⟩⟩
    have S7 := (S6.same (same_new (o := .tup []) npl)).same (same_new (o := .lst [.int 0]) npS)
    have nS1 := (S6.same (same_new (o := .tup []) npl)).deal.ne npS
    have nS2 : pS ≠ pV := fun e => by
      rw [e, (S6.same (same_new (o := .tup []) npl)).hV] at npS
      cases npS
    have nS3 : pS ≠ pE := fun e => by
      rw [e, (S6.same (same_new (o := .tup []) npl)).hE] at npS
      cases npS
    have tl0 : SqT K (upd (upd H6 pl (.tup [])) pS (.lst [.int 0])) pl ((logOf (ds.take 0)).map V.int) := sqT_same (same_new npS) (SqT.of (by rw [upd_same]; simp [logOf]))
    have hS0 : upd (upd H6 pl (.tup [])) pS (.lst [.int 0]) pS = some (.lst ((List.range (0 + 1)).map fun j => V.int ((sz ds j : Nat) : Int))) := by
      rw [upd_same]
      simp [sz, logOf]
    generalize upd (upd H6 pl (.tup [])) pS (.lst [.int 0]) = H7 at S7 tl0 hS0
    refine ⟨_, rfl, pE, rfl, ⟨_, SqL.of S7.hE⟩, ?_⟩
    refine for_list (fun i σ H' => St1 H' b L pV pE ds xs es ∧ H' pS = some (.lst ((List.range (i + 1)).map fun j => V.int ((sz ds j : Nat) : Int))) ∧ ∃ (pg : Addr) (r4 : Option V), SqT K H' pg ((logOf (ds.take i)).map V.int) ∧
        σ = [some (.ref a), some (.ref b), some (.ref pV), some (.ref pE), r4, some (.ref pg), some (.ref pS), r7, none, none, none, r11, none, none, r14, none, none, none])
      ⟨S7, hS0, pl, _, tl0, rfl⟩ (fun i σ H' _ h => SqL.of h.1.hE) (fun i x σ H8 hx h => ?_) (fun σ H8 h => ?_)
    · obtain ⟨S8, hS, pg, q4, tg, rfl⟩ := h
      rw [List.getElem?_map] at hx
      cases ei : es[i]? with
      | none =>
        rw [ei] at hx
        cases hx
      | some e =>
        rw [ei] at hx
        cases hx
        have hi : i < ds.length := by
          have := (List.getElem?_eq_some_iff.mp ei).1
          rw [S8.ea.1] at this
          exact this
        have hle : (logOf (ds.take (i + 1))).length ≤ 237 := by
          have := log_len (S8.sm.take (k := i + 1))
          have h2 : (ds.take (i + 1)).length ≤ 3 := by
            rw [List.length_take]
            omega
          have : (ds.take (i + 1)).length * 79 ≤ 3 * 79 := Nat.mul_le_mul_right _ h2
          omega
        have hcat := log_take_succ hi
        refine ⟨_, rfl, _, rfl, ask_cat tg (SqT.of (S8.ea.2 i hi e ei)) ?_ fun p H9 s9 t9 => ?_⟩
        · rw [List.length_map, List.length_map, sizeLine_eq]
          have := congrArg List.length hcat
          rw [List.length_append] at this
          omega
        rw [← List.map_append, ← hcat] at t9
        have S9 := S8.same s9
        have hS9 := s9 _ _ hS
        refine ⟨_, rfl, .inl ⟨rfl, _, SqL.of hS9⟩, _, rfl, p, _, rfl, .inr t9, pS, _, _, rfl, rfl, hS9, ?_, ?_⟩
        · rw [List.length_map, List.length_range, sizeLine_eq]
          omega
        · refine ⟨S9.put hS9 nS1.1 nS1.2 nS2 nS3, ?_, p, _, sqT_put t9 hS9, rfl⟩
          rw [upd_same, List.length_map, List.range_succ (n := i + 1), List.map_append]
          rfl
    obtain ⟨S8, hS, pg, q4, tg, rfl⟩ := h
    have en : (es.map V.ref).length = ds.length := by rw [List.length_map]; exact S8.ea.1
    rw [en] at hS tg
    rw [List.take_length] at tg
    clear S6 S7 tl0 hS0
    have lbs := log_bytes S8.sm
    have lln : (logOf ds).length ≤ 237 := by
      have := log_len S8.sm
      have : ds.length * 79 ≤ 3 * 79 := Nat.mul_le_mul_right _ dl3
      omega
    have lgl : ((logOf ds).map V.int).length = (logOf ds).length := List.length_map ..
    have szl : sz ds ds.length = (logOf ds).length := by
      unfold sz
      rw [List.take_length]
    have shp := fun (k : Nat) (i : Int) => shaped_told (i := i) (S8.sm.take (k := k)) (by decide : 2 ≤ 50)
    -- the whole log
    refine ⟨_, rfl, pg, _, rfl, .inr tg, fun l nl => ?_⟩
    have S9 := S8.same (same_new (o := .lst ((logOf ds).map V.int)) nl)
    have s9 := same_new (o := .lst ((logOf ds).map V.int)) nl
    refine ⟨_, rfl, .inl ⟨l, logOf ds, rfl, .inl (SqL.of upd_same), lbs, by omega, fun p v H10 s10 hp tv => ?_⟩⟩
    rw [read_all S8.sm] at hp tv
    have S10 := S9.same s10
    refine ⟨_, rfl, .inl ⟨pV, xs, rfl, SqL.of S10.hV, fun p1 n1 => ?_⟩⟩
    have s11 := same_new (o := .tup xs) n1
    refine ⟨_, rfl, pg, _, rfl, .inr (sqT_same s11 (sqT_same s10 (sqT_same s9 tg))), by show 2 ≤ sizeLine; decide, fun p2 n2 => ?_⟩
    have s12 := same_new (o := .tup [.ref p1, .int (((logOf ds).map V.int).length : Int)]) n2
    have S12 := (S10.same s11).same s12
    have sh1 := shp ds.length ((logOf ds).length : Int)
    rw [List.take_length] at sh1
    have dpx := dp_told (K := K) (ds := ds) (i := ((logOf ds).length : Int)) (SqT.of (s12 _ _ (s11 _ _ hp))) (tv.mono (ts_same (s11.trans s12))).dp
    have dpy := dp_told (K := K) (ds := ds) (i := ((logOf ds).length : Int)) (SqT.of (by rw [← lgl]; exact upd_same (a := p2) (H := upd H10 p1 (.tup xs)) (o := .tup [.ref p1, .int (((logOf ds).map V.int).length : Int)]))) (.tup (SqT.of (s12 _ _ upd_same)) (S12.tv.dp (K := K)))
    refine ⟨_, _, dpx, dpy, sh1, sh1, ?_⟩
    rw [refl_of sh1]
    refine ⟨_, rfl, ?_⟩
    refine it_false rfl ?_
    have tg12 := sqT_same s12 (sqT_same s11 (sqT_same s10 (sqT_same s9 tg)))
    have hS12 := s12 _ _ (s11 _ _ (s10 _ _ (s9 _ _ hS)))
    clear dpx dpy sh1 hp tv n1 n2 nl hS tg S8 S9 S10 s9 s10 s11
    generalize upd (upd H10 p1 (.tup xs)) p2 (.tup [.ref p1, .int (((logOf ds).map V.int).length : Int)]) = H12 at *
    clear s12
    -- the log, cut
    refine ⟨_, rfl, _, rfl, pg, _, rfl, .inr tg12, _, _, rfl, rfl, b, L, _, rfl, S12.deal, by rw [lgl]; omega, by rw [lgl]; omega, fun cut H13 c0 c1 d13 u13 => ?_⟩
    rw [lgl] at c1
    obtain ⟨k, rfl⟩ : ∃ k : Nat, cut = (k : Int) := ⟨cut.toNat, by omega⟩
    have hk : k ≤ (logOf ds).length := by omega
    have S13 := S12.but u13 d13
    have tg13 := sqT_but tg12 u13 S12.deal
    have hS13 := u13 _ _ nS1.1 nS1.2 hS12
    obtain ⟨m, hm, hm1, hm2, hm3⟩ := count_le (sz ds) k (Nat.zero_le _) ds.length fun j hj => sz_lt hj
    have szlen : ((List.range (ds.length + 1)).map fun j => V.int ((sz ds j : Nat) : Int)).length = ds.length + 1 := by rw [List.length_map, List.length_range]
    have szat : ∀ j : Nat, j ≤ ds.length → atI ((List.range (ds.length + 1)).map fun j => V.int ((sz ds j : Nat) : Int)) (j : Int) = some (.int ((sz ds j : Nat) : Int)) := fun j hj => atI_nat (by
      rw [List.getElem?_map, List.getElem?_range (by omega)]
      rfl)
    refine ⟨_, rfl, pS, rfl, ⟨_, SqL.of hS13⟩, fun D hD => ?_⟩
    refine lc_grow walk_list (fun j => if decide (sz ds j ≤ k) = true then some (V.int ((sz ds j : Nat) : Int)) else none) hD (by rw [szlen]; omega) (fun H2 s2 => SqL.of (s2 _ _ hS13)) (fun j x H2 H3 hj s2 y Nx Ny hN hY => ?_) (fun H14 s14 ed => ?_)
    · obtain ⟨rfl, hx⟩ := y
      rw [szlen] at hj
      rw [List.getElem?_map, List.getElem?_range hj] at hx
      cases hx
      refine ⟨rfl, _, rfl, _, rfl, _, _, rfl, rfl, _, rfl, ?_⟩
      refine ite2 (fun c => ?_) (fun c => ?_)
      · have c' := of_decide_eq_true c
        exact ⟨_, rfl, hN _ _ (if_pos (decide_eq_true (by omega))) (Same.refl _)⟩
      · have c' : ¬ ((sz ds j : Nat) : Int) ≤ (k : Int) := fun z => c (decide_eq_true z)
        exact hY _ (if_neg (by rw [decide_eq_true_eq]; omega)) (Same.refl _)
    · rw [szlen] at ed
      have S14 := S13.same s14
      have tg14 := sqT_same s14 tg13
      have hS14 := s14 _ _ hS13
      refine ⟨D, _, rfl, .inl (SqL.of ed), _, _, rfl, rfl, ?_⟩
      have em : (((((List.range (ds.length + 1)).filterMap fun j => if decide (sz ds j ≤ k) = true then some (V.int ((sz ds j : Nat) : Int)) else none).length : Nat) : Int) - 1) = (m : Int) := by
        rw [filterMap_len (fun j => decide (sz ds j ≤ k)) (fun j => V.int ((sz ds j : Nat) : Int)), hm3]
        omega
      show tSeq _ _ _ (List.set _ 8 (some (V.int (((((List.range (ds.length + 1)).filterMap fun j => if decide (sz ds j ≤ k) = true then some (V.int ((sz ds j : Nat) : Int)) else none).length : Nat) : Int) - 1)))) _
      rw [em]
      refine ⟨_, rfl, _, rfl, _, rfl, ask_slT tg14 fun p15 H15 s15 t15 => ?_⟩
      rw [cutV_to, ← List.map_take] at t15
      refine ⟨_, rfl, .inl ⟨p15, _, rfl, .inr t15, fun y hy => lbs y (List.mem_of_mem_take hy), by rw [List.length_take]; omega, fun p v H16 s16 hp tv => ?_⟩⟩
      rw [read_cut S14.sm hk hm hm1 hm2] at hp tv
      have S16 := (S14.same s15).same s16
      refine ⟨_, rfl, _, rfl, _, rfl, ask_sl (.inl (SqL.of S16.hV)) fun p17 H17 s17 t17 => ?_⟩
      rw [cutV_to] at t17
      refine ask_tupOf t17 fun p18 H18 s18 t18 => ?_
      have s1618 := s17.trans s18
      have S18 := S16.same s1618
      have hS18 := s1618 _ _ (s16 _ _ (s15 _ _ hS14))
      refine ⟨_, rfl, _, rfl, pS, _, _, _, rfl, rfl, SqL.of hS18, szat m hm, by show 2 ≤ sizeLine; decide, fun p19 n19 => ?_⟩
      have s19 := same_new (o := .tup [.ref p18, .int ((sz ds m : Nat) : Int)]) n19
      have S19 := S18.same s19
      have sh1 := shp m ((sz ds m : Nat) : Int)
      refine ⟨_, _, dp_told (ds := ds.take m) (i := ((sz ds m : Nat) : Int)) (SqT.of (s19 _ _ (s1618 _ _ hp))) (tv.mono (ts_same (s1618.trans s19))).dp,
        dp_told (ds := ds.take m) (i := ((sz ds m : Nat) : Int)) (SqT.of upd_same) (.tup (sqT_same s19 t18) (S19.tv.take.dp (K := K))), sh1, sh1, ?_⟩
      rw [refl_of sh1]
      refine ⟨_, rfl, ?_⟩
      refine it_false rfl ?_
      have tg19 := sqT_same s19 (sqT_same s1618 (sqT_same s16 (sqT_same s15 tg14)))
      have hS19 := s19 _ _ hS18
      -- an entry of it spoilt
      have el19 : (es.map V.ref).length = ds.length := en
      refine ⟨_, rfl, _, rfl, pE, _, rfl, .inl (SqL.of S19.hE), b, L, _, rfl, S19.deal, by rw [el19]; omega, by rw [el19]; omega, fun at_ H20 a0 a1 d20 u20 => ?_⟩
      rw [el19] at a1
      obtain ⟨j, rfl⟩ : ∃ j : Nat, at_ = (j : Int) := ⟨at_.toNat, by omega⟩
      have hj : j < ds.length := by omega
      have S20 := S19.but u20 d20
      have tg20 := sqT_but tg19 u20 S19.deal
      have hS20 := u20 _ _ nS1.1 nS1.2 hS19
      have hje : j < es.length := by
        rw [S20.ea.1]
        exact hj
      obtain ⟨e, ej⟩ : ∃ e, es[j]? = some e := ⟨_, List.getElem?_eq_getElem hje⟩
      have atE : atI (es.map V.ref) (j : Int) = some (.ref e) := atI_nat (by rw [List.getElem?_map, ej]; rfl)
      have smj := S20.sm.get hj
      have hEj : ∀ {H' : Hp}, St1 H' b L pV pE ds xs es → H' e = some (.tup ((entryOf ds[j]).map V.int)) := fun {H'} S => S.ea.2 j hj e ej
      have ebs := entry_bytes smj (by decide)
      have eln : 8 ≤ (entryOf ds[j]).length ∧ (entryOf ds[j]).length ≤ 79 := by
        have a := sm_len 2 _ smj
        have b : bigS 2 = 71 := rfl
        rw [entry_len]
        omega
      refine ⟨_, rfl, _, rfl, _, rfl, pE, _, _, _, rfl, rfl, SqL.of S20.hE, atE, b, L, e, entryOf ds[j], rfl, S20.deal, hEj S20, by omega, by omega, ebs, fun pp H21 sp d21 u21 hsp bsp near => ?_⟩
      have S21 := S20.but u21 d21
      have tg21 := sqT_but tg20 u21 S20.deal
      have hS21 := u21 _ _ nS1.1 nS1.2 hS20
      have spl : sp.length ≤ 79 := by
        rw [near.1]
        omega
      -- the row
      refine ⟨_, rfl, _, rfl, _, rfl, pS, _, _, _, rfl, rfl, SqL.of hS21, szat j (by omega), _, rfl, ask_slT tg21 fun p22 H22 s22 t22 => ?_⟩
      have c1' : ((logOf ds).map V.int).take (sz ds j) = (logOf (ds.take j)).map V.int := by
        rw [← List.map_take, log_drop (ds := ds) (j := j) (by omega)]
        unfold sz
        rw [List.take_left]
      rw [cutV_to, c1'] at t22
      have lj : (logOf (ds.take j)).length ≤ 237 := by
        have := log_len (S21.sm.take (k := j))
        have h2 : (ds.take j).length ≤ 3 := by
          rw [List.length_take]
          omega
        have : (ds.take j).length * 79 ≤ 3 * 79 := Nat.mul_le_mul_right _ h2
        omega
      refine ⟨_, rfl, ask_cat t22 (SqT.of (s22 _ _ hsp)) (by rw [List.length_map, List.length_map, sizeLine_eq]; omega) fun p23 H23 s23 t23 => ?_⟩
      rw [← List.map_append] at t23
      have s2223 := s22.trans s23
      have e1 : ((j : Int) + 1) = ((j + 1 : Nat) : Int) := rfl
      refine ⟨_, rfl, _, rfl, _, rfl, _, _, rfl, rfl, pS, _, _, _, rfl, rfl, SqL.of (s2223 _ _ hS21), (by rw [e1]; exact szat (j + 1) (by omega)), _, rfl, ask_slT (sqT_same s2223 tg21) fun p24 H24 s24 t24 => ?_⟩
      have c2' : ((logOf ds).map V.int).drop (sz ds (j + 1)) = (logOf (ds.drop (j + 1))).map V.int := by
        rw [← List.map_drop, log_drop (ds := ds) (j := j + 1) (by omega)]
        unfold sz
        rw [List.drop_left]
      rw [cutV_from, c2'] at t24
      have lr : (logOf (ds.drop (j + 1))).length ≤ 237 := by
        have := congrArg List.length (log_drop (ds := ds) (j := j + 1) (by omega))
        rw [List.length_append] at this
        omega
      refine ask_cat (sqT_same s24 t23) t24 (by rw [List.length_map, List.length_map, List.length_append, sizeLine_eq]; omega) fun p25 H25 s25 t25 => ?_
      rw [← List.map_append] at t25
      have s2225 := (s2223.trans s24).trans s25
      have S25 := S21.same s2225
      have rbs : Bytes (logOf (ds.take j) ++ sp ++ logOf (ds.drop (j + 1))) := bytes_append (bytes_append (log_bytes S25.sm.take) bsp) (fun y hy => lbs y (by
        rw [log_drop (ds := ds) (j := j + 1) (by omega)]
        exact List.mem_append_right _ hy))
      have rlen : (logOf (ds.take j) ++ sp ++ logOf (ds.drop (j + 1))).length ≤ 1000000 := by
        rw [List.length_append, List.length_append]
        omega
      obtain ⟨f, ef⟩ := read_spoilt S25.sm hj (l := logOf (ds.take j) ++ sp ++ logOf (ds.drop (j + 1))) rfl
      refine ⟨_, rfl, _, rfl, .inl ⟨p25, _, rfl, .inr t25, rbs, rlen, fun pt v H26 s26 hp tv => ?_⟩⟩
      rw [ef] at hp tv
      have S26 := S25.same s26
      have hsp26 := s26 _ _ (s2225 _ _ hsp)
      have hS26 := s26 _ _ (s2225 _ _ hS21)
      have shv := shaped_vals (S26.sm.take (k := j)) (by decide : 2 ≤ 50)
      refine ⟨fun σ H' => St1 H' b L pV pE ds xs es ∧ H' pp = some (.tup (sp.map V.int)) ∧ H' pS = some (.lst ((List.range (ds.length + 1)).map fun j => V.int ((sz ds j : Nat) : Int))) ∧ H' pt = some (.tup [v, .int ((sz ds j + (readL f (sp ++ logOf (ds.drop (j + 1)))).2 : Nat) : Int)]) ∧ Tv H' (.tuple (ds.take j ++ (readL f (sp ++ logOf (ds.drop (j + 1)))).1)) v ∧
        σ = [some (.ref a), some (.ref b), some (.ref pV), some (.ref pE), q4, some (.ref pg), some (.ref pS), some (.int (k : Int)), some (.int (m : Int)), some (.int (j : Int)), some (.ref pp), some (.ref p25), some (.ref pt), none, r14, none, none, none], ?_, ?_⟩
      · refine ⟨_, rfl, _, rfl, _, rfl, pE, _, _, _, rfl, rfl, SqL.of S26.hE, atE, ask_neT (SqT.of hsp26) (SqT.of (hEj S26)) ⟨_, rfl, ?_⟩⟩
        refine ite2 (fun c => ?_) (fun c => ⟨S26, hsp26, hS26, hp, tv, rfl⟩)
        have tv' := tv
        cases tv' with
        | tup ha tvs2 =>
          rename_i av zs
          refine ⟨_, rfl, pt, _, 0, _, rfl, rfl, SqT.of hp, rfl, _, rfl, _, rfl, ask_slT (SqT.of ha) fun p27 H27 s27 t27 => ?_⟩
          rw [cutV_to] at t27
          refine ⟨_, rfl, _, rfl, _, rfl, ask_sl (.inl (SqL.of (s27 _ _ S26.hV))) fun p28 H28 s28 t28 => ?_⟩
          rw [cutV_to] at t28
          refine ask_tupOf t28 fun p29 H29 s29 t29 => ?_
          have s2729 := (s27.trans s28).trans s29
          have tk : (ds.take j ++ (readL f (sp ++ logOf (ds.drop (j + 1)))).1).take j = ds.take j := by
            rw [List.take_append_of_le_length (by rw [take_len (by omega)]; exact Nat.le_refl _), List.take_take, Nat.min_self]
          have tz := tvs2.take (k := j)
          rw [tk] at tz
          refine ⟨_, _, .tup (sqT_same (s28.trans s29) t27) ((tz.mono (ts_same s2729)).dp (K := K)), .tup t29 (((S26.same s2729).tv.take).dp (K := K)), shv, shv, ?_⟩
          rw [refl_of shv]
          refine ⟨_, rfl, ?_⟩
          refine it_false rfl ?_
          exact ⟨S26.same s2729, s2729 _ _ hsp26, s2729 _ _ hS26, s2729 _ _ hp, tv.mono (ts_same s2729), rfl⟩
      · rintro σ H30 ⟨S30, hsp30, hS30, hp30, tv30, rfl⟩
        refine ⟨fun σ H' => Deal H' b L ∧ σ = [some (.ref a), some (.ref b), some (.ref pV), some (.ref pE), q4, some (.ref pg), some (.ref pS), some (.int (k : Int)), some (.int (m : Int)), some (.int (j : Int)), some (.ref pp), some (.ref p25), some (.ref pt), none, r14, none, none, none], ?_, ?_⟩
        · refine ⟨_, rfl, _, rfl, _, rfl, pE, _, _, _, rfl, rfl, SqL.of S30.hE, atE, ask_neT (SqT.of hsp30) (SqT.of (hEj S30)) ⟨_, rfl, ?_⟩⟩
          refine ite2 (fun c => ?_) (fun c => ⟨S30.deal, rfl⟩)
          have ne : sp ≠ entryOf ds[j] := by simpa using c
          refine ⟨_, rfl, _, rfl, _, rfl, ask_slT (SqT.of hsp30) fun p31 H31 s31 t31 => ?_⟩
          have cc : ∀ l : List Int, cutV (l.map V.int) (some 2) (some 4) = ((l.drop 2).take 2).map V.int := fun l => by
            rw [List.map_take, List.map_drop]
            exact cutV_nat 2 4
          rw [cc] at t31
          have S31 := S30.same s31
          refine ⟨_, rfl, _, rfl, pE, _, _, _, rfl, rfl, SqL.of S31.hE, atE, _, rfl, _, rfl, ask_slT (SqT.of (hEj S31)) fun p32 H32 s32 t32 => ?_⟩
          rw [cc] at t32
          refine ask_eqT (sqT_same s32 t31) t32 ⟨_, rfl, ?_⟩
          have S32 := S31.same s32
          have s3132 := s31.trans s32
          refine ite2 (fun c2 => ?_) (fun c2 => ⟨S32.deal, rfl⟩)
          have alike : (sp.drop 2).take 2 = ((entryOf ds[j]).drop 2).take 2 := of_decide_eq_true c2
          rw [spoilt_stops smj near bsp ne alike f] at hp30 tv30
          rw [List.append_nil] at tv30
          have hp32 := s3132 _ _ hp30
          refine ⟨_, rfl, _, rfl, _, rfl, _, rfl, ask_sl (.inl (SqL.of S32.hV)) fun p33 H33 s33 t33 => ?_⟩
          rw [cutV_to] at t33
          refine ask_tupOf t33 fun p34 H34 s34 t34 => ?_
          have s3334 := s33.trans s34
          have S34 := S32.same s3334
          refine ⟨_, rfl, _, rfl, pS, _, _, _, rfl, rfl, SqL.of (s3334 _ _ (s3132 _ _ hS30)), szat j (by omega), by show 2 ≤ sizeLine; decide, fun p35 n35 => ?_⟩
          have s35 := same_new (o := .tup [.ref p34, .int ((sz ds j : Nat) : Int)]) n35
          have S35 := S34.same s35
          have sh1 := shp j ((sz ds j : Nat) : Int)
          refine ⟨_, _, dp_told (ds := ds.take j) (i := ((sz ds j : Nat) : Int)) (SqT.of (s35 _ _ (s3334 _ _ hp32))) (tv30.mono (ts_same ((s3132.trans s3334).trans s35))).dp,
            dp_told (ds := ds.take j) (i := ((sz ds j : Nat) : Int)) (SqT.of upd_same) (.tup (sqT_same s35 t34) (S35.tv.take.dp (K := K))), sh1, sh1, ?_⟩
          rw [refl_of sh1]
          refine ⟨_, rfl, ?_⟩
          refine it_false rfl ?_
          exact ⟨S35.deal, rfl⟩
        · rintro σ H40 ⟨d40, rfl⟩
          -- no signs
          refine ⟨_, rfl, by show 1 ≤ sizeLine; decide, fun t1 n1 => ⟨by show 1 ≤ sizeLine; decide, fun l2 n2 => ⟨_, rfl, by show 1 ≤ sizeLine; decide, fun t3 n3 => ⟨by show 6 ≤ sizeLine; decide, fun wl nw => ?_⟩⟩⟩⟩
          have z1 := same_new (o := .tup [.int 256]) n1
          have z2 := same_new (o := .lst [.bl true]) n2
          have z3 := same_new (o := .tup [.int (-1)]) n3
          have z4 := same_new (o := .lst [.non, .int 3, .str "log", .ref t1, .ref l2, .ref t3]) nw
          have d44 := (((d40.same z1).same z2).same z3).same z4
          have ht1 := z4 _ _ (z3 _ _ (z2 _ _ (upd_same (H := H40) (a := t1) (o := .tup [.int 256]))))
          have hl2 := z4 _ _ (z3 _ _ (upd_same (H := upd H40 t1 (.tup [.int 256])) (a := l2) (o := .lst [.bl true])))
          have ht3 := z4 _ _ (upd_same (H := upd (upd H40 t1 (.tup [.int 256])) l2 (.lst [.bl true])) (a := t3) (o := .tup [.int (-1)]))
          have nwl := ((((d40.same z1).same z2).same z3)).ne nw
          have nl2 := (d40.same z1).ne n2
          refine ⟨b, L, wl, _, rfl, d44, upd_same, nwl.1, nwl.2, by show 0 < 6; decide, by show 6 < 1000; decide, fun x H45 hx d45 u45 => ?_⟩
          have bad : NotSigns K H45 x := by
            simp only [List.mem_cons, List.not_mem_nil, or_false] at hx
            rcases hx with rfl | rfl | rfl | rfl | rfl | rfl
            · exact .inr ⟨_, is_non, rfl⟩
            · exact .inr ⟨_, is_int 3, rfl⟩
            · exact .inr ⟨_, is_str _, rfl⟩
            · exact .inl ⟨_, _, rfl, .inr (SqT.of (but_ts u45 d44 _ _ ht1)), fun y hy => by rw [List.mem_singleton.mp hy]; exact .int _, by decide, rfl⟩
            · exact .inl ⟨_, _, rfl, .inl (SqL.of (u45 _ _ nl2.1 nl2.2 hl2)), fun y hy => by rw [List.mem_singleton.mp hy]; exact .bl _, by decide, rfl⟩
            · exact .inl ⟨_, _, rfl, .inr (SqT.of (but_ts u45 d44 _ _ ht3)), fun y hy => by rw [List.mem_singleton.mp hy]; exact .int _, by decide, rfl⟩
          refine ⟨_, rfl, x, rfl, .inr ⟨bad, fun H46 dd s46 nd => ?_⟩⟩
          refine ⟨true, ex, fun _ ax nax => ?_, fun z => by cases z⟩
          refine ⟨_, rfl, rfl, rfl, dd, .str "signs", rfl, upd_same, rfl, _, rfl, it_true rfl ?_⟩
          refine ⟨_, rfl, x, rfl, bad.same (xd_same s46 nd), fun H47 s47 => ⟨rfl, ?_⟩⟩
          exact q _
end
end K68


set_option Elab.async false
set_option linter.all false
set_option maxRecDepth 100000
set_option maxHeartbeats 4000000
/-! Walks over lists and tuples where an exception is handled. -/
namespace HotX
open PySem PySem.Calls
section
variable {prog : Program} {w : World} {A : Around} {E : Value → Shared → Prop} {s : Shared}
/-- the end of a walk: StopIteration, made where x1 is handled -/
theorem stop_hot {α : Type} {x1 : Addr} {Q : α → Shared → Prop} (hot : HotAt A x1 s.heap)
    (hE : ∀ (h' : Heap) (e : Addr), (∀ b o, s.heap.get? b = some o → h'.get? b = some o) → (∃ o, h'.get? e = some o ∧ o.cls = .type "StopIteration") → E (.ref e) { s with heap := h' }) :
    wpAny (model prog w) A (do let x ← newExc (.type "StopIteration") []; raiseNew x : Sem α) Q E s := by
  obtain ⟨hh, o1, vs1, h1, d1, c1⟩ := hot
  refine wpAny_bind ?_
  simp only [newExc, newTuple]
  refine wpAny_bind (wpAny_newObj_type ?_ (by size_fits))
  refine wpAny_bind (m := firstArgMember _ _) (wpAny_of_eq (a := Value.none) (by first | rfl | (simp only [firstArgMember]; rfl)) ?_)
  refine wpAny_newObj_type ?_ (by size_fits)
  refine raiseNew_hot ⟨hh, o1, vs1, Heap.get?_push_of_some _ (Heap.get?_push_of_some _ h1), d1, c1⟩ (Nat.ne_of_lt (Heap.lt_size (Heap.get?_push_of_some _ h1))) (Heap.get?_push_size _ rfl) rfl (by first | (simp; done) | (simp; omega) | (simp only [Array.size_append]; simp; omega)) ?_
  refine hE _ _ (fun b o e => ?_) ⟨_, Heap.get?_update_self _ (Heap.get?_push_size _ rfl) rfl, rfl⟩
  rw [Heap.get?_update_other _ _ (Nat.ne_of_gt (Heap.lt_size (Heap.get?_push_of_some _ e)))]
  exact Heap.get?_push_of_some _ (Heap.get?_push_of_some _ e)
theorem list_end_hot {it l x1 : Addr} {i : Nat} {items : Array Value} {Q : Option Value → Shared → Prop} (hot : HotAt A x1 s.heap) (ne : x1 ≠ it) (hit : s.heap.IsListIter it l i) (hl : s.heap.IsList l items) (hx : items[i]? = none)
    (hQ : ∀ h', (∀ b o, b ≠ it → s.heap.get? b = some o → h'.get? b = some o) → Q none { s with heap := h' }) : wpAny (model prog w) A (pyNext (.ref it)) Q E s := by
  obtain ⟨o, ho, hc, hd⟩ := id hit
  obtain ⟨ol, hol, _, nl, hdl⟩ := hl
  unfold pyNext
  refine wpAny_bind (wpAny_attempt (wpAny_callSpecial?_slot (name := Str.ofString "__next__") hit.typeIs slot_listiter_next
    (wpAny_call_entry slot_listiter_next hit.typeIs entry_listiter_next ?_ (args_listiter_next _))))
  show wpAny _ _ (field (.ref it) 0 >>= _) _ _ s
  refine wpAny_bind (wpAny_field ho hd (x := .ref l) rfl ?_)
  show wpAny _ _ (if (Value.ref l == Value.none) = true then _ else _) _ _ s
  rw [if_neg (show ¬ ((Value.ref l == Value.none) = true) from Bool.false_ne_true)]
  show wpAny _ _ (field (.ref it) 1 >>= _) _ _ s
  refine wpAny_bind (wpAny_field ho hd (x := .int i 0) rfl ?_)
  show wpAny _ _ (seqItems? (.ref l) >>= _) _ _ s
  refine wpAny_bind (wpAny_seqItems hol hdl ?_)
  simp only [Int.toNat_natCast, hx]
  refine wpAny_bind (wpAny_rule (wpAny_bind (wpAny_setField ho hd (by simp) ?_)))
  have hot' : HotAt A x1 (s.heap.update it (Obj.mapFields (·.setIfInBounds 0 Value.none))) := by
    obtain ⟨hh, o1, vs1, h1, d1, c1⟩ := hot
    exact ⟨hh, o1, vs1, (Heap.get?_update_other _ _ (Ne.symm ne)).trans h1, d1, c1⟩
  show wpAny (model prog w) A.in1 (do let x ← newExc (.type "StopIteration") []; raiseNew x) _ _ _
  refine stop_hot (A := A.in1) ⟨hot'.1, hot'.2⟩ fun h' e k ⟨oe, he, hce⟩ => ?_
  refine wpAny_bind (wpAny_isInstance (T := "StopIteration") (b := true) ⟨oe, he, hce⟩ isSubtype_stop ?_)
  exact wpAny_pure (hQ _ fun b o' nb hb => k b o' ((Heap.get?_update_other _ _ (Ne.symm nb)).trans hb))
theorem tuple_end_hot {it t x1 : Addr} {i : Nat} {items : Array Value} {Q : Option Value → Shared → Prop} (hot : HotAt A x1 s.heap) (ne : x1 ≠ it) (hit : s.heap.IsTupleIter it t i) (ht : s.heap.IsTuple t items) (hx : items[i]? = none)
    (hQ : ∀ h', (∀ b o, b ≠ it → s.heap.get? b = some o → h'.get? b = some o) → Q none { s with heap := h' }) : wpAny (model prog w) A (pyNext (.ref it)) Q E s := by
  obtain ⟨o, ho, hc, hd⟩ := id hit
  obtain ⟨ol, hol, _, nl, hdl⟩ := ht
  unfold pyNext
  refine wpAny_bind (wpAny_attempt (wpAny_callSpecial?_slot (name := Str.ofString "__next__") hit.typeIs F.slot_tuple_iterator_next
    (wpAny_call_entry F.slot_tuple_iterator_next hit.typeIs F.entry_tuple_iterator_next ?_ (F.args_tuple_iterator_next_1 _))))
  show wpAny _ _ (field (.ref it) 0 >>= _) _ _ s
  refine wpAny_bind (wpAny_field ho hd (x := .ref t) rfl ?_)
  show wpAny _ _ (if (Value.ref t == Value.none) = true then _ else _) _ _ s
  rw [if_neg (show ¬ ((Value.ref t == Value.none) = true) from Bool.false_ne_true)]
  show wpAny _ _ (field (.ref it) 1 >>= _) _ _ s
  refine wpAny_bind (wpAny_field ho hd (x := .int i 0) rfl ?_)
  show wpAny _ _ (seqItems? (.ref t) >>= _) _ _ s
  refine wpAny_bind (wpAny_seqItems hol hdl ?_)
  simp only [Int.toNat_natCast, hx]
  refine wpAny_bind (wpAny_rule (wpAny_bind (wpAny_setField ho hd (by simp) ?_)))
  have hot' : HotAt A x1 (s.heap.update it (Obj.mapFields (·.setIfInBounds 0 Value.none))) := by
    obtain ⟨hh, o1, vs1, h1, d1, c1⟩ := hot
    exact ⟨hh, o1, vs1, (Heap.get?_update_other _ _ (Ne.symm ne)).trans h1, d1, c1⟩
  show wpAny (model prog w) A.in1 (do let x ← newExc (.type "StopIteration") []; raiseNew x) _ _ _
  refine stop_hot (A := A.in1) ⟨hot'.1, hot'.2⟩ fun h' e k ⟨oe, he, hce⟩ => ?_
  refine wpAny_bind (wpAny_isInstance (T := "StopIteration") (b := true) ⟨oe, he, hce⟩ isSubtype_stop ?_)
  exact wpAny_pure (hQ _ fun b o' nb hb => k b o' ((Heap.get?_update_other _ _ (Ne.symm nb)).trans hb))
end
end HotX
namespace L2H
open PySem PySem.Spec PyProof.Rows L2 HotX
/-- the handled error stands beside what a walk holds -/
theorem HotC.beside {X : Cx} {pins : List (Addr × Obj)} {σ : St} {H : Hp} {s : Shared} {b : Addr} (c : HotC X) (I : Inv X pins σ H s) (f : FpOk X pins H b) : ∃ x1, HotAt X.A x1 s.heap ∧ x1 ≠ b := by
  obtain ⟨p, ⟨hh, v1, e1, c1⟩, hp⟩ := c
  exact ⟨p.1, ⟨hh, p.2, v1, (I.pin p (List.mem_append_left _ hp)).1, e1, c1⟩, f.2.2.2.2.2 p (List.mem_append_left _ hp)⟩
theorem turn_listH {P : Program} {w : World} {K : PySem.W.Frag} {tg : Expr} (a it : Addr) : TurnH P w K tg (Itl K a) [it] it (fun i h => h.IsListIter it a i) where
  mem := by simp
  obj := fun i h st b hb => by
    obtain ⟨o, e, c, d⟩ := st
    rw [List.mem_singleton.mp hb]
    exact ⟨o, e, fun v z => by rw [d] at z; cases z⟩
  keep := fun i h h' st k => st.at fun o e => k it (by simp) o e
  item := by
    intro X hP hw hK hc i pins s σ H E I hf st hg
    subst hP hw hK
    obtain ⟨xs, x, hq, hx⟩ := hg
    obtain ⟨its, rv, p, hz⟩ := I.list hq
    obtain ⟨u, hu, ru⟩ := rv.get hx
    obtain ⟨f0, f1, f2, f3, f4, f5⟩ := hf it (by simp)
    refine wpAny_pyNext_list_item st p.isList (x := u) (by simpa using hu) fun h' st' sb => ?_
    obtain ⟨o, e, c, d⟩ := id st'
    exact ⟨u, rfl, go_of (s := { s with heap := h' }) e c d (by decide) ⟨x, H, I.turned (t' := s.toks) (fun b o hb e => (sb.2 b hb).trans e) f0 f1 f3 f4 f5, ru, ⟨rfl, fun ys hy => by rw [I.list_inj hy hq]; exact hx⟩, st', fun b hb => (hf b hb).1⟩⟩
  done := by
    intro X hP hw hK hc i pins s σ H E I hf st hg
    subst hP hw hK
    obtain ⟨xs, hq, hx⟩ := hg
    obtain ⟨its, rv, p, hz⟩ := I.list hq
    obtain ⟨x1, hot, ne⟩ := hc.beside I (hf it (by simp))
    obtain ⟨f0, f1, f2, f3, f4, f5⟩ := hf it (by simp)
    have hl := rv.length
    exact list_end_hot hot ne st p.isList (by simp; omega) fun h' eb => ⟨rfl, I.turned (t' := s.toks) (fun b o hb e => eb b o hb e) f0 f1 f3 f4 f5⟩
  self := fun _ _ _ _ _ st h => wpAny_pyIter_listiter st h
theorem turn_tupH {P : Program} {w : World} {K : PySem.W.Frag} {tg : Expr} (a it : Addr) : TurnH P w K tg (Itt K a) [it] it (fun i h => h.IsTupleIter it a i) where
  mem := by simp
  obj := fun i h st b hb => by
    obtain ⟨o, e, c, d⟩ := st
    rw [List.mem_singleton.mp hb]
    exact ⟨o, e, fun v z => by rw [d] at z; cases z⟩
  keep := fun i h h' st k => st.at fun o e => k it (by simp) o e
  item := by
    intro X hP hw hK hc i pins s σ H E I hf st hg
    subst hP hw hK
    obtain ⟨xs, x, hq, hx⟩ := hg
    obtain ⟨its, rv, p, hz⟩ := I.tuple hq
    obtain ⟨u, hu, ru⟩ := rv.get hx
    obtain ⟨f0, f1, f2, f3, f4, f5⟩ := hf it (by simp)
    refine wpAny_pyNext_tuple_item st p (x := u) (by simpa using hu) fun h' st' sb => ?_
    obtain ⟨o, e, c, d⟩ := id st'
    exact ⟨u, rfl, go_of (s := { s with heap := h' }) e c d (by decide) ⟨x, H, I.turned (t' := s.toks) (fun b o hb e => (sb.2 b hb).trans e) f0 f1 f3 f4 f5, ru, ⟨rfl, fun ys hy => by rw [I.tuple_inj hy hq]; exact hx⟩, st', fun b hb => (hf b hb).1⟩⟩
  done := by
    intro X hP hw hK hc i pins s σ H E I hf st hg
    subst hP hw hK
    obtain ⟨xs, hq, hx⟩ := hg
    obtain ⟨its, rv, p, hz⟩ := I.tuple hq
    obtain ⟨x1, hot, ne⟩ := hc.beside I (hf it (by simp))
    obtain ⟨f0, f1, f2, f3, f4, f5⟩ := hf it (by simp)
    have hl := rv.length
    exact tuple_end_hot hot ne st p (by simp; omega) fun h' eb => ⟨rfl, I.turned (t' := s.toks) (fun b o hb e => eb b o hb e) f0 f1 f3 f4 f5⟩
  self := fun _ _ _ _ _ st h => wpAny_pyIter_tupleiter st h
theorem pi_listH {X : Cx} {tg l : Expr} {tl : TE} (hl : PE X l tl) : PIH X tg l (iList X.K tl) := by
  refine ⟨fun pins s σ H R I h => ?_⟩
  refine thn (hl.run pins s σ H _ I h) fun v s1 ⟨x, H1, I1, r1, q1⟩ => ?_
  obtain ⟨a, e, ⟨xs, hq⟩, q⟩ := q1
  subst e
  cases r1
  obtain ⟨its, rv, p, hz⟩ := I1.list hq
  refine wpAny_pyIter_list p.isList ?_
  refine ⟨s1.heap.objs.size, [s1.heap.objs.size], _, _, H1, rfl, I1.kept (t' := s1.toks) fun b o e => Heap.get?_push_of_some _ e, turn_listH a _, ⟨_, Heap.get?_push_size _ rfl, rfl, rfl⟩, fun b hb => ?_, q⟩
  rw [List.mem_singleton.mp hb]
  exact I1.fpOk (Nat.le_refl _) (I1.hok.fresh (Nat.le_refl _))
theorem pi_tupH {X : Cx} {tg l : Expr} {tl : TE} (hl : PE X l tl) : PIH X tg l (iTup X.K tl) := by
  refine ⟨fun pins s σ H R I h => ?_⟩
  refine thn (hl.run pins s σ H _ I h) fun v s1 ⟨x, H1, I1, r1, q1⟩ => ?_
  obtain ⟨a, e, ⟨xs, hq⟩, q⟩ := q1
  subst e
  cases r1
  obtain ⟨its, rv, p, hz⟩ := I1.tuple hq
  refine wpAny_pyIter_tuple p ?_
  refine ⟨s1.heap.objs.size, [s1.heap.objs.size], _, _, H1, rfl, I1.kept (t' := s1.toks) fun b o e => Heap.get?_push_of_some _ e, turn_tupH a _, ⟨_, Heap.get?_push_size _ rfl, rfl, rfl⟩, fun b hb => ?_, q⟩
  rw [List.mem_singleton.mp hb]
  exact I1.fpOk (Nat.le_refl _) (I1.hok.fresh (Nat.le_refl _))
theorem PIH.or {X : Cx} {tg iter : Expr} {w1 w2 : TI} (h1 : PIH X tg iter w1) (h2 : PIH X tg iter w2) : PIH X tg iter (fun σ H R => w1 σ H R ∨ w2 σ H R) :=
  ⟨fun pins s σ H R I h => by
    rcases h with h | h
    · exact h1.run pins s σ H R I h
    · exact h2.run pins s σ H R I h⟩
end L2H


set_option Elab.async false
set_option linter.all false
set_option maxRecDepth 100000
set_option maxHeartbeats 4000000
/-! A list comprehension where an exception is handled. -/
namespace L2H
open PySem PySem.Spec PyProof.Rows L2 HotX
/-- a block's context that bears what X bears -/
abbrev blkP (X : Cx) (s : Shared) (H : Hp) (scope : Scope) (cenv : Env) (fp : List Addr) : Cx := { X.blk s H scope cenv fp with pn := X.pn }
section
variable {X : Cx}
theorem inv_blkP {s0 s : Shared} {H0 H : Hp} {scope : Scope} {ce : Env} {fp : List Addr} {σ : L2.St} (I : Inv (X.blk s0 H0 scope ce fp) [] σ H s)
    (h : ∀ p ∈ X.pn, s.heap.get? p.1 = some p.2 ∧ H p.1 = none ∧ p.1 ≠ ce.locals ∧ p.1 ∉ frs X.stack ∧ ∀ v, p.2.data ≠ .cell v) : Inv (blkP X s0 H0 scope ce fp) [] σ H s :=
  ⟨⟨I.ok.mod, I.ok.kind, I.ok.glob, I.ok.blt, I.ok.above, I.ok.inj, I.ok.has, I.ok.cab, I.ok.hd, I.ok.frames, I.ok.stk, I.ok.exf, I.ok.bs, I.ok.bsz, I.ok.noex, I.ok.exfs, I.ok.funs, I.ok.frf⟩, I.os, I.bare, I.base, I.loc, I.cell, I.free, I.freeC,
    fun p hp => h p (by simpa using hp), I.hok, I.len⟩
theorem hot_blkP {s0 : Shared} {H0 : Hp} {scope : Scope} {ce : Env} {fp : List Addr} (c : HotC X) : HotC (blkP X s0 H0 scope ce fp) := by
  obtain ⟨p, hot, hp⟩ := c
  exact ⟨p, hot, hp⟩
/-- the turns of a comprehension's loop, in the block's context -/
theorem loopH {J : It} {s3 s4 : Shared} {H3 : Hp} {scope : Scope} {ce : Env} {fp : List Addr} {it D : Addr} {tn : Nat → Heap → Prop} {elt tg iter : Expr} {pos : Pos} {g : TG} {te : TE} {ws : List Nat} {σ : L2.St} {Qd : Hp → Prop} {R : Result → Shared → Prop} {W : Nat → Nat → Hp → Prop} {m0 : Nat}
    (c : HotC X) (T : TurnH X.prog X.w X.K tg J fp it tn) (pg : PG (blkP X s3 H3 scope ce fp) tg g) (pe : PE (blkP X s3 H3 scope ce fp) elt te)
    (I4 : Inv (blkP X s3 H3 scope ce fp) [] (wipe σ ws) H3 s4) (st4 : tn 0 s4.heap) (nfp : ∀ b ∈ fp, H3 b = none) (npn : ∀ b ∈ fp, ∀ p ∈ X.pn, p.1 ≠ b) (w0 : W 0 m0 H3)
    (turn : ∀ i m H, W i m H → (J.stop i H ∧ Qd H) ∨ (J.go i H ∧ ∃ Nx : Hp → Prop, (∀ H', Nx H' → ∃ m', m' < m ∧ W (i + 1) m' H') ∧ ∀ x H', J.yld i H x H' → g x (wipe σ ws) H' fun σ2 H2 => wipe σ2 ws = wipe σ ws ∧
      te σ2 H2 fun y H4 => ∃ acc, H4 D = some (.lst acc) ∧ acc.length < sizeLine ∧ Nx (upd H4 D (.lst (acc ++ [y])))))
    (fin : ∀ H5 s6, Inv (blkP X s3 H3 scope ce fp) [] (wipe σ ws) H5 s6 → Qd H5 → R (.ok .next) s6) :
    codeAny (model X.prog X.w) X.A (.compLoop (.ListComp elt [⟨tg, iter, [], 0⟩] scope pos) 0 (.ref it) (.ref D) ce) R s4 := by
  have c' : HotC (blkP X s3 H3 scope ce fp) := hot_blkP c
  have okf : ∀ {σ' : L2.St} {H' : Hp} {s' : Shared}, Inv (blkP X s3 H3 scope ce fp) [] σ' H' s' → (∀ b ∈ fp, H' b = none) → ∀ b ∈ fp, FpOk (blkP X s3 H3 scope ce fp) [] H' b := fun {σ' H' s'} I' hn b hb =>
    ⟨hn b hb, (I'.ok.exf b hb).1, I'.ok.exfs b hb, .inl hb, fun x c e => (I'.ok.exf b hb).2 x c e, fun p hp => npn b hb p (by simpa using hp)⟩
  refine compLoop_any (fun n s' => ∃ i H', Inv (blkP X s3 H3 scope ce fp) [] (wipe σ ws) H' s' ∧ tn i s'.heap ∧ (∀ b ∈ fp, H' b = none) ∧ W i n H') ?_ m0 ⟨0, H3, I4, st4, nfp, w0⟩
  rintro n s5 ⟨i, H5, I5, st5, n5, w5⟩
  rcases turn i n H5 w5 with ⟨stop, qd⟩ | ⟨go, Nx, hNx, step⟩
  · refine thnF (T.done (blkP X s3 H3 scope ce fp) rfl rfl rfl c' i [] s5 _ H5 (fun _ _ => False) I5 (okf I5 n5) st5 stop) fun r s6 ⟨hr, I6⟩ => ?_
    subst hr
    exact fin H5 s6 I6 qd
  · refine thnF (T.item (blkP X s3 H3 scope ce fp) rfl rfl rfl c' i [] s5 _ H5 (fun _ _ => False) I5 (okf I5 n5) st5 go) fun r s6 ⟨u, hr, h6⟩ => ?_
    subst hr
    refine thnF h6 fun _ s7 ⟨x, H7, I7, r7, y7, st7, n7⟩ => ?_
    have I7' := I7.pinned (okf I7 n7) (T.obj _ _ st7)
    refine thnF (pg.run _ s7 _ H7 x u _ I7' r7 (step x H7 y7)) fun _ s8 ⟨σ8, H8, I8, hw8, q8⟩ => ?_
    refine thnF ((pts_nil (X := blkP X s3 H3 scope ce fp)).run _ s8 σ8 H8 (fun b H => b = true ∧ H = H8) I8 ⟨rfl, rfl⟩) fun b s9 ⟨H9, I9, eb, e9⟩ => ?_
    subst eb e9
    simp only [if_true]
    refine thnF (pe.run _ s9 σ8 H9 _ I9 q8) fun z s10 ⟨yv, H10, I10, r10, acc, hD10, hz10, nx⟩ => ?_
    refine app_ok (X := blkP X s3 H3 scope ce fp) I10 hD10 hz10 r10 fun s11 I11 => ?_
    obtain ⟨m', hm, w'⟩ := hNx _ nx
    have kept : ∀ b ∈ fp, ∀ o, s7.heap.get? b = some o → s11.heap.get? b = some o ∧ upd H10 D (.lst (acc ++ [yv])) b = none := fun b hb o e =>
      let z := I11.pin (b, o) (List.mem_append_right _ (List.mem_append_right _ (mem_pinsAt hb e)))
      ⟨z.1, z.2.1⟩
    refine ⟨m', hm, i + 1, _, (I11.unpinned (pins := [])).weak (by rw [← hw8, wipe_length]) (fun j v e => ?_), T.keep _ _ _ st7 fun b hb o e => (kept b hb o e).1, fun b hb => ?_, w'⟩
    · rw [← hw8] at e
      exact (wipe_some e).1
    · obtain ⟨o, e, _⟩ := T.obj _ _ st7 b hb
      exact (kept b hb o e).2
/-- [elt for target in iter], where an exception is handled -/
theorem pe_lcH {elt tg iter : Expr} {scope : Scope} {own : List (Str × Nat)} {pos : Pos} {wi : TI} {g : TG} {te : TE} (c : HotC X) (hN : X.N.Nodup) (hi : PIH X tg iter wi) (ok : BlkOk X.N X.env.scope scope own)
    (hg : ∀ (s : Shared) (H : Hp) (C : Addr) (cl : List (Str × Addr)) (fp : List Addr), PG (blkP X s H scope (compEnvC scope cl C X.env) fp) tg g)
    (he : ∀ (s : Shared) (H : Hp) (C : Addr) (cl : List (Str × Addr)) (fp : List Addr), PE (blkP X s H scope (compEnvC scope cl C X.env) fp) elt te) (hs : ∀ x, foldedSetIterable iter X.env x = pure x := by intro _; rfl) :
    PE X (.ListComp elt [⟨tg, iter, [], 0⟩] scope pos) (tLc wi g tYes te (own.map (·.2))) := by
  refine ⟨fun pins s σ H Q I h => ?_⟩
  rw [eval_ListComp]
  have hfree : ∀ y ∈ scope.names, y.2 = .free → ∃ c, X.env.cells.lookup y.1 = some c := fun y hy e => I.ok.has _ (ok.free y hy e)
  refine wpAny_comprehension_free (use := none) rfl hs (closure_ok hfree) ok.kind (fun y hy e => by rw [ok.uniq y hy, e])
    (thn (hi.run pins s σ H _ I h) fun xv s1 hx => thn hx fun itv s2 h2 => ?_)
  obtain ⟨it, fp, tn, J, H2, e, I2, T, st2, f2, q⟩ := h2
  subst e
  refine wpAny_newObj_type (newEnv_comp ?_) (by show 0 ≤ sizeLine; decide)
  generalize hD : s2.heap.objs.size = D
  obtain ⟨W, ⟨m0, w0⟩, turn⟩ := q D (I2.hok.fresh (Nat.le_of_eq hD))
  generalize hs3 : ({ s2 with heap := s2.heap.push { cls := .type "list", data := .seq ([] : List Value).toArray } } : Shared) = s3
  have h3 : s3.heap = s2.heap.push { cls := .type "list", data := .seq ([] : List Value).toArray } := by rw [← hs3]
  have I3 : Inv X pins σ (upd H2 D (.lst [])) s3 := by
    rw [← hs3]
    refine I2.laid (t' := s2.toks) (fun b o e => Heap.get?_push_of_some _ e) (Nat.le_of_eq hD) ⟨Nat.zero_le _, [], 0, .nil, ?_⟩
    rw [← hD]
    exact Heap.get?_push_size _ rfl
  have f3 : ∀ b ∈ fp, FpOk X pins (upd H2 D (.lst [])) b ∧ b < s3.heap.objs.size := fun b hb => by
    obtain ⟨o, e, _⟩ := T.obj _ _ st2 b hb
    have hlt := Heap.lt_size e
    refine ⟨⟨?_, (f2 b hb).2⟩, by rw [h3, Heap.size_push]; exact Nat.lt_succ_of_lt hlt⟩
    rw [upd_ne (by rw [← hD]; exact Nat.ne_of_lt hlt)]
    exact (f2 b hb).1
  have st3 : tn 0 s3.heap := T.keep _ _ _ st2 fun b _ o e => by rw [h3]; exact Heap.get?_push_of_some _ e
  have I4 := block_start I3 ok hN f3
  have pg := hg s3 (upd H2 D (.lst [])) s3.heap.objs.size (cellsFrom (s3.heap.objs.size + 1) scope.names (cloFrom X.env.cells scope.names [])) fp
  have pe := he s3 (upd H2 D (.lst [])) s3.heap.objs.size (cellsFrom (s3.heap.objs.size + 1) scope.names (cloFrom X.env.cells scope.names [])) fp
  show codeAny _ _ (.compStart (.ListComp elt [⟨tg, iter, [], 0⟩] scope pos) 0 (.ref it) (.ref D) (compEnvC scope (cellsFrom (s3.heap.objs.size + 1) scope.names (cloFrom X.env.cells scope.names [])) s3.heap.objs.size X.env)) (compPost (model X.prog X.w) X.A X.xe none _ (.ref D) s3.heap.objs.size) { s3 with heap := pushCells (s3.heap.push { cls := .type "dict", data := .dict #[] }) scope.names }
  generalize hce : compEnvC scope (cellsFrom (s3.heap.objs.size + 1) scope.names (cloFrom X.env.cells scope.names [])) s3.heap.objs.size X.env = ce at I4 pg pe ⊢
  have cL : ce.locals = s3.heap.objs.size := by subst hce; rfl
  generalize hs4 : ({ s3 with heap := pushCells (s3.heap.push { cls := .type "dict", data := .dict #[] }) scope.names } : Shared) = s4 at I4 ⊢
  have k34 : ∀ b o, s3.heap.get? b = some o → s4.heap.get? b = some o := fun b o e => by rw [← hs4]; exact pushCells_keeps _ _ _ _ (Heap.get?_push_of_some _ e)
  have IP : Inv (blkP X s3 (upd H2 D (.lst [])) scope ce fp) [] (wipe σ (own.map (·.2))) (upd H2 D (.lst [])) s4 := inv_blkP I4 fun p hp => by
    have P1 := I3.pin p (List.mem_append_left _ hp)
    refine ⟨k34 _ _ P1.1, P1.2.1, ?_, fun hm => (List.mem_cons.mp (I3.stkSub p.1 hm)).elim P1.2.2.1 P1.2.2.2.1, P1.2.2.2.2⟩
    rw [cL]
    exact Nat.ne_of_lt (Heap.lt_size P1.1)
  have st4 : tn 0 s4.heap := T.keep _ _ _ st3 fun b _ o e => k34 b o e
  have loop : codeAny (model X.prog X.w) X.A (.compLoop (.ListComp elt [⟨tg, iter, [], 0⟩] scope pos) 0 (.ref it) (.ref D) ce) (compPost (model X.prog X.w) X.A X.xe none (EP X pins σ Q) (.ref D) s3.heap.objs.size) s4 := loopH (D := D) (Qd := fun H' => Q (.ref D) H') c T pg pe IP st4 (fun b hb => (f3 b hb).1.1) (fun b hb p hp => (f3 b hb).1.2.2.2.2.2 p (List.mem_append_left _ hp)) w0
    (fun i m H w => by
      rcases turn i m H w with h | ⟨h1, Nx, h2, h3⟩
      · exact .inl h
      · refine .inr ⟨h1, Nx, h2, fun x H' y => ?_⟩
        exact h3 x H' y)
    (fun H5 s6 I6 qq => by
      have I7 : Inv X pins σ H5 s6 := I3.call' (ch := fp) I6.os I6.base I6.hok I6.bare fun b hb => ⟨(f3 b hb).1.2.2.2.1, (f3 b hb).1.2.1, (f3 b hb).1.2.2.2.2.1, (f3 b hb).1.2.2.2.2.2⟩
      have nC : H5 s3.heap.objs.size = none := by
        have z : H5 ce.locals = none := I6.free
        rw [cL] at z
        exact z
      obtain ⟨m, hn, _⟩ := I6.loc
      have hn : s6.heap.Ns ce.locals m := hn
      rw [cL] at hn
      obtain ⟨g0, g1, g2, g3, g4, g5⟩ := I3.fpOk (Nat.le_refl _) nC
      exact ⟨m, hn, fun h'' sb => ⟨.ref D, H5, I7.turned (t' := s6.toks) (fun b o hb e => (sb.2 b hb).trans e) g0 g1 g3 g4 g5, rfl, qq⟩⟩)
  exact codeAny_compStart_list loop (T.self X.A 0 _ _ _ st4 loop)
end
end L2H


set_option Elab.async false
set_option linter.all false
set_option maxRecDepth 100000
set_option maxHeartbeats 4000000
/-! all() where an exception is handled; the only parameter by its name there. -/
namespace L2H
open PySem PySem.Spec PyProof.Rows L2 HotX
theorem walks_listH {prog : Program} {w : World} {A : Around} (I ax x1 : Addr) (hne : ax ≠ I) (nx : x1 ≠ I) (items : Array Value) :
    Walks prog w A I [I, ax, x1] [I] items.size (fun i v => items[i]? = some v) (fun i h => (h.IsListIter I ax i ∧ h.IsList ax items) ∧ HotAt A x1 h) where
  sub := fun b hb => by simp at hb; simp [hb]
  frame := fun _ _ _ st hk => ⟨⟨st.1.1.at fun o e => hk I (by simp) o e, st.1.2.at fun o e => hk ax (by simp) o e⟩, by
    obtain ⟨hh, o, vs, e, d, c⟩ := st.2
    exact ⟨hh, o, vs, hk x1 (by simp) o e, d, c⟩⟩
  item := fun i s Q E hi st hQ => by
    refine wpAny_pyNext_list_item st.1.1 st.1.2 (x := items[i]) (by simp [hi]) fun h' hit' hs' => ?_
    refine hQ _ h' s.toks (by simp [hi]) ⟨⟨hit', st.1.2.extBut hs'.extBut hne⟩, ?_⟩ fun b o hb e => hs'.extBut b o (fun h => hb (by simp [h])) e
    obtain ⟨hh, o, vs, e, d, c⟩ := st.2
    exact ⟨hh, o, vs, hs'.extBut x1 o nx e, d, c⟩
  done := fun s Q E st hQ => list_end_hot st.2 nx st.1.1 st.1.2 (by simp) fun h' he' => hQ h' s.toks fun b o hb e => he' b o (fun h => hb (by simp [h])) e
  self := fun _ _ _ _ st hQ => wpAny_pyIter_listiter st.1.1 hQ
section
variable {X : Cx}
theorem cr_allH (c : HotC X) : CallR X (.builtin "all") (rAll X.K) := by
  intro pins s σ H vs us Q I r h
  obtain ⟨a, bs, rfl, hs, q⟩ := h
  obtain ⟨its, rv, hl, _⟩ := I.list hs
  rw [Vals.ref1 r]
  have hb := rv.bls
  obtain ⟨x1, hh, o1, v1, e1, d1, c1⟩ := c.at I
  refine call_all_walk (iter_any hl.isList fun s₂ e2 st hne => ?_)
  subst e2
  refine ⟨_, _, _, _, _, _, _, rfl, walks_listH (A := X.A.in1) _ a x1 hne (Nat.ne_of_lt (Heap.lt_size e1)) its.toArray, ⟨st, hh, o1, v1, Heap.get?_push_of_some _ e1, d1, c1⟩, truth_bools hb, fun h' tk hk => ?_⟩
  refine ⟨.bl _, H, I.kept fun b o eo => hk b o (fun hmem => ?_) (Heap.get?_push_of_some _ eo), ?_, q⟩
  · rcases List.mem_cons.mp hmem with e1 | hmem
    · exact absurd (e1 ▸ Heap.lt_size eo) (Nat.lt_irrefl _)
    · cases hmem
  · show Value.bool _ = Value.bool _
    rw [← L2.all_range, hb, List.size_toArray, List.length_map]
variable {CX : CXT} {k : Nat} {f : Addr} {fd : FuncData} {sp : Sp} {E : L2.St → XK} {x nm : Str} {p pos kpos : Pos} {e : Expr} {t : TA}
/-- f(name = e) where an exception is handled -/
theorem pe_callS1H (F : FnH X.prog X.w X.K X.mg X.base CX k f fd [nm] sp) (hr : RoomH k X.A) (hc : HotC X) (hg : Gl X x) (hm : X.mg x = some (.ref f)) (hk : PySem.W.keepIn X.K (.ref f) = true) (hb : ∀ (s : Shared) (v : Value), BindsTo s fd ⟨[], [(nm, v)]⟩ [(nm, v)]) (hx : ∀ σ, PassesAt CX X σ (E σ))
    (ha : PK X [⟨some nm, e, kpos⟩] t)
    (hall : (backToKw pos (keywordEach [⟨some nm, e, kpos⟩] X.env)).all (·.1.isSome) = true := by rfl)
    (hks : (backToKw pos (keywordEach [⟨some nm, e, kpos⟩] X.env)).filterMap (·.1) = [nm] := by rfl)
    (hpl : ((backTo pos (starEach [] X.env)).any (·.1) || (backToKw pos (keywordEach [⟨some nm, e, kpos⟩] X.env)).any (·.1.isNone)) = false := by rfl)
    (hdb : (x == ("__debug__" : Str)) = false := by decide) :
    PE X (.Call (.Name x p) [] [⟨some nm, e, kpos⟩] pos) (tCallS sp E t) := by
  refine ⟨fun pins s σ H Q I h => ?_⟩
  refine wpAny_Call_Name_kw (ld_glob I hg hm ?_ hdb)
  refine PySem.W.callWith_KW0 (h₀ := X.base) I.ok.mod.kin hk hall (thn (ha.run pos pins s σ H _ I h) fun ws s1 hh => ?_) hpl
  obtain ⟨vs, H1, I1, r1, q1⟩ := hh
  refine ⟨I1.kIn, ?_⟩
  rw [hks]
  have hl : vs.length = 1 := F.len _ _ _ _ q1
  have hl2 : ws.length = 1 := by rw [← r1.length]; exact hl
  obtain ⟨v', rfl⟩ : ∃ v, ws = [v] := by
    cases ws with
    | nil => simp at hl2
    | cons a b =>
      cases b with
      | nil => exact ⟨a, rfl⟩
      | cons => simp at hl2
  obtain ⟨pn, hot, hp⟩ := hc
  have P1 := I1.pin pn (List.mem_append_left _ hp)
  have hpin : PinOk X.stack H1 s1 pn := ⟨P1.1, P1.2.1, fun hm => (List.mem_cons.mp (I1.stkSub pn.1 hm)).elim P1.2.2.1 P1.2.2.2.1, P1.2.2.2.2⟩
  show wpAny _ _ (call (.ref f) [] [(nm, v')]) _ _ _
  refine wpAny_call (codeAny_mono (F.run X.A X.stack s1 H1 ⟨[], [(nm, v')]⟩ [v'] vs Q (E σ) pn hr hot hpin I1.env0 (hb s1 v') r1 q1) fun r s' hq => ?_)
  cases r with
  | error e => exact hx σ pins H1 s1 e s' I1 hq
  | ok fl =>
    cases fl with
    | ret u => exact I1.after hq
    | next => exact False.elim hq
    | brk => exact False.elim hq
    | cont => exact False.elim hq
end
end L2H


set_option Elab.async false
set_option linter.all false
set_option maxRecDepth 100000
set_option maxHeartbeats 8000000
namespace K68
open PySem L2
section
variable {P : Program} {w : World} {K : PySem.W.Frag} {mg : Str → Option Value} {base : Heap}
theorem h_whole {f : Addr} {fd : FuncData} (F : Fun K "is_whole" "is_whole" sIsWhole f fd) (T : TxtP K mg) : L2H.FnH P w K mg base (L2.CX P w) 1 f fd ["value"] (spWhole K) := by
  refine L2H.Fun.okH F scIsWhole (fun vs H Q E h => ?_) (fun cdv A outer s H vs Q E p hot hr h => ?_)
  · obtain ⟨x, n, rfl, _⟩ := h
    rfl
  · obtain ⟨x, n, rfl, ⟨hn, ty⟩, q⟩ := h
    refine ⟨_, pss_one (ps_ret (pe_and (pe_callB call_isi (by rfl) T.isinstance (by decide +kernel) (pa_cons (pv 0) (pa_cons (pe_bltn (v := .ty "int") (by rfl) T.int (by decide +kernel) rfl) pa_nil)))
      (pe_one (pe_not (pe_callB call_isi (by rfl) T.isinstance (by decide +kernel) (pa_cons (pv 0) (pa_cons (pe_bltn (v := .ty "bool") (by rfl) T.bool (by decide +kernel) rfl) pa_nil))))))), ?_⟩
    refine ⟨_, rfl, x, _, _, _, _, rfl, .ty "int", ty, kit_ty (kit_int n hn), _, rfl, ?_⟩
    refine ite2 (fun c => ?_) (fun c => ?_)
    · refine ⟨_, rfl, x, _, _, _, _, rfl, .ty "bool", ty, kit_ty (kit_bool n hn), _, rfl, ?_⟩
      have e : (!(n == "bool")) = (n == "int") := by
        exact k_one n hn c
      rw [e]
      exact q
    · have e : (n == "int") = false := by
        exact k_two n hn c
      rw [e] at q
      exact q
theorem h_number {f fW : Addr} {fd fdW : FuncData} (F : Fun K "is_number" "is_number" sIsNumber f fd) (GW : L2H.FnH P w K mg base (L2.CX P w) 1 fW fdW ["value"] (spWhole K)) (bW : Binds K fdW ["value"] []) (mW : mg "is_whole" = some (.ref fW)) (kW : PySem.W.keepIn K (.ref fW) = true) :
    L2H.FnH P w K mg base (L2.CX P w) 2 f fd ["value"] (spNumber K) := by
  refine L2H.Fun.okH F scIsNumber (fun vs H Q E h => ?_) (fun cdv A outer s H vs Q E p hot hr h => ?_)
  · obtain ⟨x, rfl, _⟩ := h
    rfl
  · obtain ⟨x, rfl, o, q⟩ := h
    obtain ⟨n, is, iff⟩ := o.is
    refine ⟨_, pss_one (ps_ret (pe_and (L2H.pe_callH GW hr (L2H.hot_cxH hot) rfl mW kW bW (fun σ pins H s e s' I c => passL pins σ H s e s' I c) (pa_cons (pv 0) pa_nil)) (pe_one (pe_cmpR op_ge (pv 0) pe_int (nomark _))))), ?_⟩
    refine ⟨_, rfl, x, n, rfl, is, _, rfl, ?_⟩
    refine ite2 (fun c => ?_) (fun c => ?_)
    · obtain ⟨i, rfl⟩ := iff.mp c
      exact ⟨_, rfl, _, _, rfl, rfl, q⟩
    · have e : isNum x = false := by
        cases x with
        | int i => exact absurd (iff.mpr ⟨i, rfl⟩) c
        | _ => rfl
      rw [e] at q
      exact q
theorem h_below {f fN : Addr} {fd fdN : FuncData} (F : Fun K "is_below" "is_below" sIsBelow f fd) (GN : L2H.FnH P w K mg base (L2.CX P w) 2 fN fdN ["value"] (spNumber K)) (bN : Binds K fdN ["value"] []) (mN : mg "is_number" = some (.ref fN)) (kN : PySem.W.keepIn K (.ref fN) = true) :
    L2H.FnH P w K mg base (L2.CX P w) 3 f fd ["value", "many"] (spBelow K) := by
  refine L2H.Fun.okH F scIsBelow (fun vs H Q E h => ?_) (fun cdv A outer s H vs Q E p hot hr h => ?_)
  · obtain ⟨x, m, rfl, _⟩ := h
    rfl
  · obtain ⟨x, m, rfl, o, q⟩ := h
    refine ⟨_, pss_one (ps_ret (pe_and (L2H.pe_callH GN hr (L2H.hot_cxH hot) rfl mN kN bN (fun σ pins H s e s' I c => passL pins σ H s e s' I c) (pa_cons (pv 0) pa_nil)) (pe_one (pe_cmpR op_lt (pv 0) (pv 1) (nomark _))))), ?_⟩
    refine ⟨_, rfl, x, rfl, o, _, rfl, ?_⟩
    refine ite2 (fun c => ?_) (fun c => ?_)
    · cases x with
      | int i =>
        refine ⟨_, rfl, _, rfl, _, _, rfl, rfl, ?_⟩
        have c' : 0 ≤ i := of_decide_eq_true c
        have e : isBelow m (.int i) = decide (i < m) := by
          show decide (0 ≤ i ∧ i < m) = _
          simp [c']
        rw [e] at q
        exact q
      | _ => exact absurd c (by simp [isNum])
    · have e : isBelow m x = false := by
        cases x with
        | int i =>
          have c' : ¬ 0 ≤ i := fun z => c (decide_eq_true z)
          show decide (0 ≤ i ∧ i < m) = false
          simp [c']
        | _ => rfl
      rw [e] at q
      exact q
theorem h_seq {f : Addr} {fd : FuncData} (F : Fun K "is_sequence" "is_sequence" sIsSequence f fd) (T : TxtP K mg) : L2H.FnH P w K mg base (L2.CX P w) 1 f fd ["value"] (spSeq K) := by
  refine L2H.Fun.okH F scIsSequence (fun vs H Q E h => ?_) (fun cdv A outer s H vs Q E p hot hr h => ?_)
  · obtain ⟨x, n, rfl, _⟩ := h
    rfl
  · obtain ⟨x, n, rfl, is, q⟩ := h
    refine ⟨_, pss_one (ps_ret (pe_callB call_isiT (by rfl) T.isinstance (by decide +kernel) (pa_cons (pv 0) (pa_cons (pe_tup (pa_cons (pe_bltn (v := .ty "list") (by rfl) T.list (by decide +kernel) rfl)
      (pa_cons (pe_bltn (v := .ty "tuple") (by rfl) T.tuple (by decide +kernel) rfl) pa_nil))) pa_nil)))), ?_⟩
    refine ⟨_, rfl, by show 2 ≤ sizeLine; decide, fun p np => ?_⟩
    have s1 := same_new (o := .tup [.ty "list", .ty "tuple"]) np
    obtain ⟨hn, ty⟩ := is.same s1
    refine ⟨x, p, _, _, [.type "list", .type "tuple"], _, rfl, upd_same, .cons (.ty _) (.cons (.ty _) .nil), ty, ?_, q _ s1⟩
    refine kitAny_cons (kit_ty (kit_list n hn)) (fun e1 => ?_) (fun e1 => by rw [e1]; rfl)
    rw [e1]
    refine kitAny_cons (kit_ty (kit_tuple n hn)) (fun e2 => ?_) (fun e2 => by rw [e2]; rfl)
    rw [e2]
    exact kitAny_nil
theorem h_signs {f fS fB : Addr} {fd fdS fdB : FuncData} (F : Fun K "are_signs" "are_signs" sAreSigns f fd) (T : TxtP K mg)
    (GS : L2H.FnH P w K mg base (L2.CX P w) 1 fS fdS ["value"] (spSeq K)) (bS : Binds K fdS ["value"] []) (mS : mg "is_sequence" = some (.ref fS)) (kS : PySem.W.keepIn K (.ref fS) = true)
    (GB : L2H.FnH P w K mg base (L2.CX P w) 3 fB fdB ["value", "many"] (spBelow K)) (bB : Binds K fdB ["value", "many"] []) (mB : mg "is_below" = some (.ref fB)) (kB : PySem.W.keepIn K (.ref fB) = true) :
    L2H.FnH P w K mg base (L2.CX P w) 5 f fd ["value"] (spSigns K) := by
  refine L2H.Fun.okH F scAreSigns (fun vs H Q E h => ?_) (fun cdv A outer s H vs Q E p hot hr h => ?_)
  · obtain ⟨x, rfl, _⟩ := h
    rfl
  · obtain ⟨x, rfl, h⟩ := h
    refine ⟨_, pss_one (ps_ret (pe_and (L2H.pe_callH GS (hr.mono (by decide)) (L2H.hot_cxH hot) rfl mS kS bS (fun σ pins H s e s' I c => passL pins σ H s e s' I c) (pa_cons (pv 0) pa_nil))
      (pe_one (pe_callB (L2H.cr_allH (L2H.hot_cxH hot)) (by rfl) T.all (by decide +kernel) (pa_cons
        (L2H.pe_lcH (own := [("sign", 1)]) (g := gName 1) (L2H.hot_cxH hot) scAreSigns.nd (L2H.PIH.or (L2H.pi_listH (pv 0)) (L2H.pi_tupH (pv 0))) (blkOk_by (N := nAreSigns) (sc := defScope sAreSigns) (by decide +kernel))
          (fun _ _ _ _ _ => pg_name (i := 1) scAreSigns.nd rfl (Or.inl rfl))
          (fun _ _ _ _ _ => L2H.pe_callH GB (by exact L2H.RoomH.mono hr (by decide)) (L2H.hot_blkP (L2H.hot_cxH hot)) rfl mB kB bB (fun σ pins H s e s' I c => passL pins σ H s e s' I c) (pa_cons (pv 1) (pa_cons pe_int pa_nil)))) pa_nil))))), ?_⟩
    rcases h with ⟨a, xs, rfl, hx, ho, hl, q⟩ | ⟨n, is, en, q⟩
    · have go : ∀ (H1 : Hp), Same H H1 → ∀ {J : It} {G : Hp → Prop} (w : Walk J xs.length G (YAt xs)) (D : Addr), H1 D = none → (∀ H2, Same H1 H2 → G H2) → _ := fun H1 s1 {J G} w D hD hG =>
        lc_grow (g := gName 1) (tt := tYes) (te := tCallS (spBelow K) (fun _ => E0) (tCons (tVar 1) (tCons (tC (V.int 256)) tNil))) (vs := [1]) (σ := [some (.ref a), none]) (Qd := fun H2 => rAll K [.ref D] H2 Q) w (fun i => (xs[i]?).map fun y => .bl (isBelow 256 y)) hD hl hG
          (fun i x H2 H3 hi s2 y Nx Ny hN _ => by
            obtain ⟨rfl, hx'⟩ := y
            refine ⟨rfl, yes_of ?_⟩
            exact ⟨_, rfl, x, 256, rfl, (ho x (List.mem_of_getElem? hx')).same (fun b o z => s2 _ _ (s1 _ _ z)), hN _ _ (by rw [hx']; rfl) (Same.refl _)⟩)
          (fun H2 s2 e => by
            rw [range_mapG] at e
            refine ⟨D, xs.map (isBelow 256), rfl, SqL.of (by rw [e, List.map_map]; rfl), ?_⟩
            rw [List.all_map]
            exact q _ (fun b o z => s2 _ _ (s1 _ _ z)))
      rcases hx with h | h
      · refine ⟨_, rfl, _, "list", rfl, is_lst h, fun H1 s1 => ⟨_, rfl, ?_⟩⟩
        refine it_true rfl ?_
        exact .inl ⟨_, rfl, a, rfl, ⟨_, sqL_same s1 h⟩, fun D hD => go H1 s1 walk_list D hD (fun H2 s2 => sqL_same s2 (sqL_same s1 h))⟩
      · refine ⟨_, rfl, _, "tuple", rfl, is_tup h, fun H1 s1 => ⟨_, rfl, ?_⟩⟩
        refine it_true rfl ?_
        exact .inr ⟨_, rfl, a, rfl, ⟨_, sqT_same s1 h⟩, fun D hD => go H1 s1 walk_tup D hD (fun H2 s2 => sqT_same s2 (sqT_same s1 h))⟩
    · refine ⟨_, rfl, x, n, rfl, is, fun H1 s1 => ⟨_, rfl, ?_⟩⟩
      rw [en]
      refine it_false rfl ?_
      exact q _ s1
/-- read_entry of what is no signs, where an exception is handled -/
def spBadE (K : PySem.W.Frag) (C : Addr) : Sp := fun vs H _ E => ∃ x : V, vs = [x] ∧ NotSigns K H x ∧ Thrown C "signs" H E
theorem h_entry {f fS C U fI : Addr} {fd fdS : FuncData} {qi : Str} (F : Fun K "read_entry" "read_entry" sReadEntry f fd) (ET : PySem.OwnEx.ErrTxt K mg "InvalidEntry" "word" qi C U fI)
    (GS : L2H.FnH P w K mg base (L2.CX P w) 5 fS fdS ["value"] (spSigns K)) (bS : Binds K fdS ["value"] []) (mS : mg "are_signs" = some (.ref fS)) (kS : PySem.W.keepIn K (.ref fS) = true) :
    L2H.FnH P w K mg base (L2.CX P w) 23 f fd ["signs"] (spBadE K C) := by
  refine L2H.Fun.okH F scReadEntry (fun vs H Q E h => ?_) (fun cdv A outer s H vs Q E p hot hr h => ?_)
  · obtain ⟨x, rfl, _⟩ := h
    rfl
  · obtain ⟨x, rfl, ho, hw⟩ := h
    refine ⟨_, pss_cons (ps_if (pt_not (pt_val (L2H.pe_callH GS (hr.mono (by decide)) (L2H.hot_cxH hot) rfl mS kS bS (fun σ pins H s e s' I c => passL pins σ H s e s' I c) (pa_cons (pv 0) pa_nil))))
      (pss_one (L2N.ps_raiseErrH (L2H.hot_cxH hot) ET hr (takes_of rfl rfl rfl rfl) (by exact (pa_cons pe_str pa_nil)) rfl)) pss_nil) pss_never, ?_⟩
    rcases ho with ⟨a, xs, rfl, h1, h2, h3, h4⟩ | ⟨n, h1, h2⟩
    · refine ⟨_, rfl, _, rfl, .inl ⟨a, xs, rfl, h1, h2, h3, fun H1 s1 => ⟨_, rfl, ?_⟩⟩⟩
      rw [h4]
      refine it_true rfl ?_
      exact ⟨_, rfl, fun d hd => hw H1 d s1 hd⟩
    · refine ⟨_, rfl, _, rfl, .inr ⟨n, h1, h2, fun H1 s1 => ⟨_, rfl, ?_⟩⟩⟩
      refine it_true rfl ?_
      exact ⟨_, rfl, fun d hd => hw H1 d s1 hd⟩
theorem h_refused {f fE C U fI : Addr} {fd fdE : FuncData} {qi : Str} (F : Fun K "_law_refused" "_law_refused" sXRefused f fd) (ET : PySem.OwnEx.ErrTxt K mg "InvalidEntry" "word" qi C U fI) (ex : PySem.W.exmOne K (.ref C) (.ref C) = some true)
    (GE : L2H.FnH P w K mg base (L2.CX P w) 23 fE fdE ["signs"] (spBadE K C)) (bE : ∀ (s : Shared) (v : Value), BindsTo s fdE ⟨[], [("signs", v)]⟩ [("signs", v)]) (mE : mg "read_entry" = some (.ref fE)) (kE : PySem.W.keepIn K (.ref fE) = true) :
    L2H.FnH P w K mg base (L2.CX P w) 24 f fd ["signs"] (spBad K) := by
  refine L2H.Fun.okH F scXRefused (fun vs H Q E h => ?_) (fun cdv A outer s H vs Q E p hot hr h => ?_)
  · obtain ⟨x, rfl, _⟩ := h
    rfl
  · obtain ⟨x, rfl, ho, q⟩ := h
    refine ⟨_, pss_cons (L2H.ps_try_asH (i := 1) (Wout := fun cls d _ H' => E cls d H') (tb := fun W => tDrop (tCallS (spBadE K C) (WE W) (tCons (tVar 0) tNil))) (ts := fun a cls d => tRet (tErrFld "word" C a cls d (tVar 1))) rfl rfl scXRefused.nd rfl rfl ⟨rfl, by decide, .inl ET.gC⟩ (takes_of rfl rfl rfl rfl)
        (fun W pn xe hpn tk _ => pss_one (ps_expr (L2H.pe_callS1H GE hr ⟨p, ⟨hot.1, hot.2⟩, hpn _ (List.mem_singleton.mpr rfl)⟩ rfl mE kE bE (fun σ => passAt tk σ) (by exact (pk_cons (pv 0) pk_nil)))))
        (fun a oe cls d pn hz hf => pss_one (ps_ret (pe_errFld ET hz hf (pv 1)))))
      (pss_one (ps_ret pe_non)), ?_⟩
    refine ⟨_, rfl, x, rfl, ho, fun H1 d s1 nd => ?_⟩
    refine ⟨true, ex, fun _ ax nax => ?_, fun z => by cases z⟩
    exact ⟨_, rfl, rfl, rfl, d, .str "signs", rfl, upd_same, q _ (xd_same s1 nd)⟩
end
end K68


set_option Elab.async false
set_option linter.all false
set_option maxRecDepth 100000
set_option maxHeartbeats 4000000
/-! The head's facts with one more question of one's own; own errors told by such a question. -/
namespace HX
open PySem PySem.Spec PyProof.Rows L2
open PySem.W (Frag nsIn findIn typeIn keepIn)
/-- as He.hookD, and ok of the same part of the heap -/
def hookX (n : Nat) (fa : List He.Fa) (fn : List He.DefD) (ok : Frag → Bool) : PySem.W.Hook where
  α := He.AlD × Bool
  obs := fun s => (He.obsDG n fa fn s.heap.get?, ok (He.frG s.heap.get? (He.asD s.heap.get? n)))
  val := fun _ => (He.valD fn, true)
  says := fun _ h => ∃ K : Frag, K.In h ∧ He.SaysD fa fn K ∧ ok K = true
  of := fun _ _ e => by
    obtain ⟨e1, e2⟩ := Prod.mk.inj e
    exact ⟨_, He.frG_in, e1, e2⟩
  keeps := fun _ _ _ ⟨K, hK, c, o⟩ k => ⟨K, PySem.W.Frag.In.keeps hK k, c, o⟩
def obX (n : Nat) (fa : List He.Fa) (fn : List He.DefD) (ok : Frag → Bool) (g : Addr → Option Obj) : He.AlD × Bool := (He.obsDG n fa fn g, ok (He.frG g (He.asD g n)))
theorem obX_eq {n : Nat} {fa : List He.Fa} {fn : List He.DefD} {ok : Frag → Bool} {g : Addr → Option Obj} {s : Shared} (h : ∀ a, g a = s.heap.get? a) : obX n fa fn ok g = (hookX n fa fn ok).obs s := by
  have e : g = s.heap.get? := funext h
  rw [e] <;> rfl
/-! ### own errors -/
def clsB (K : Frag) (cn : Str) (C : Addr) (bm : List Value) : Bool := match K.lookup C with
  | some ⟨.type T, _, .cls cd, sl⟩ => decide (T = "type") && (decide (cd.name = cn) && (decide (cd.mro = .ref C :: bm) && (cd.hasDict && (!cd.hasDel && (match sl.toList with
    | [_, _, _, _, some (.builtin n), _] => decide (n = "Exception.__new__")
    | _ => false)))))
  | _ => false
theorem clsB_ok {K : Frag} {cn : Str} {C : Addr} {bm : List Value} (h : clsB K cn C bm = true) : ∃ q N bs sn sub ab col dd k0 k1 k2 k3 k5,
    K.lookup C = some (excClassObj cn q C N bs bm true sn sub ab col dd k0 k1 k2 k3 k5 "Exception.__new__") := by
  unfold clsB at h
  split at h
  · rename_i T dd cd sl ho
    simp only [Bool.and_eq_true, decide_eq_true_eq, Bool.not_eq_true'] at h
    obtain ⟨h1, h2, h3, h4, h5, h6⟩ := h
    split at h6
    · rename_i k0 k1 k2 k3 n k5 hs
      obtain ⟨nm, bs, mro, ns, qn, hd, sn, sub, ab, col, del⟩ := cd
      dsimp only at h2 h3 h4 h5
      have e6 := of_decide_eq_true h6
      subst h1 h2 h3 h4 h5 e6
      have hsl : sl = #[k0, k1, k2, k3, some (.builtin "Exception.__new__"), k5] := by
        obtain ⟨l⟩ := sl
        simp only at hs
        rw [hs]
      subst hsl
      exact ⟨_, _, _, _, _, _, _, _, _, _, _, _, _, ho⟩
    · cases h6
  · cases h
def is? (a b : Option (Option Value)) : Bool := He.eqO a b
/-- of the class cn with the field f -/
def errB (K : Frag) (cn f : Str) : Bool :=
  let C := He.ga K cn
  He.eqO (nsIn K mainGlobals cn) (some (some (.ref C))) && (clsB K cn C [.ref (He.ga K "WhoError"), .type "Exception", .type "BaseException", .type "object"] &&
  (He.eqO (findIn K (.ref C) "__setattr__") (some (some (.builtin "object.__setattr__"))) &&
  (He.eqO (findIn K (.ref C) "__getattribute__") (some (some (.builtin "BaseException.__getattribute__"))) &&
  (He.eqO (findIn K (.ref C) "__getattr__") (some none) && (He.eqO (findIn K (.ref C) f) (some none) &&
  (He.eqO (findIn K (.ref C) "__init__") (some (some (.ref (He.ma K C "__init__")))) && (decide (typeIn K (.ref (He.ma K C "__init__")) = some (.type "function")) && keepIn K (.ref C))))))))
def bareB (K : Frag) (cn : Str) : Bool :=
  let C := He.ga K cn
  He.eqO (nsIn K mainGlobals cn) (some (some (.ref C))) && (clsB K cn C [.ref (He.ga K "WhoError"), .type "Exception", .type "BaseException", .type "object"] &&
  (PySem.W.excIn K C [.type "Exception", .type "BaseException", .type "object"] "Exception.__new__" && keepIn K (.ref C)))
def baseB (K : Frag) : Bool := He.eqO (nsIn K mainGlobals "WhoError") (some (some (.ref (He.ga K "WhoError")))) && clsB K "WhoError" (He.ga K "WhoError") [.type "Exception", .type "BaseException", .type "object"]
end HX


set_option Elab.async false
set_option linter.all false
set_option maxRecDepth 100000
set_option maxHeartbeats 8000000
/-! One own error's facts out of the head's, for any law. -/
namespace HX
open PySem L2
open PySem.W (Frag nsIn findIn typeIn keepIn subIn isClsIn hasDictIn codeIn clsIn exmOne)
/-- an own class, its name, its base at U -/
def ClsAt (K : Frag) (cn : Str) (C U : Addr) : Prop := ∃ q N bs sn sub ab col dd k0 k1 k2 k3 k5, K.lookup C = some (excClassObj cn q C N bs
  [.ref U, .type "Exception", .type "BaseException", .type "object"] true sn sub ab col dd k0 k1 k2 k3 k5 "Exception.__new__")
section
variable {K : Frag} {cn cn' : Str} {C C' U U' : Addr}
theorem ClsAt.sub (h : ClsAt K cn C U) (x : Value) : subIn K (.ref C) x = some (([.ref C, .ref U, .type "Exception", .type "BaseException", .type "object"] : List Value).contains x) := by
  obtain ⟨q, N, bs, sn, sub, ab, col, dd, k0, k1, k2, k3, k5, e⟩ := h
  show PySem.W.mroIn K C x = _
  unfold PySem.W.mroIn clsIn
  rw [e]
  rfl
theorem ClsAt.ty (h : ClsAt K cn C U) : typeIn K (.ref C) = some (.type "type") := by
  obtain ⟨q, N, bs, sn, sub, ab, col, dd, k0, k1, k2, k3, k5, e⟩ := h
  show (K.lookup C).map _ = _
  rw [e]
  rfl
theorem ClsAt.is (h : ClsAt K cn C U) : isClsIn K C = true := by
  obtain ⟨q, N, bs, sn, sub, ab, col, dd, k0, k1, k2, k3, k5, e⟩ := h
  unfold isClsIn clsIn
  rw [e]
  rfl
theorem ClsAt.hd (h : ClsAt K cn C U) : hasDictIn K C = true := by
  obtain ⟨q, N, bs, sn, sub, ab, col, dd, k0, k1, k2, k3, k5, e⟩ := h
  unfold hasDictIn clsIn
  rw [e]
  rfl
theorem exm_by {S : Addr} {cls : Value} {b : Bool} (h1 : subIn K (.ref S) (.type "BaseException") = some true) (h2 : isClsIn K S = true) (h3 : typeIn K (.ref S) = some (.type "type")) (h4 : subIn K cls (.ref S) = some b) :
    exmOne K cls (.ref S) = some b := by
  have e1 : (subIn K (.ref S) (.type "BaseException") == some true) = true := by rw [h1] <;> rfl
  have e2 : ((clsIn K S).isSome && typeIn K (.ref S) == some (.type "type")) = true := by
    have h2' : (clsIn K S).isSome = true := h2
    rw [h2', h3] <;> rfl
  show (if (subIn K (.ref S) (.type "BaseException") == some true) = true then (if ((clsIn K S).isSome && typeIn K (.ref S) == some (.type "type")) = true then subIn K cls (.ref S) else none) else none) = some b
  rw [if_pos e1, if_pos e2]
  exact h4
end
theorem init_fn {K : Frag} {x q : Str} {args : Arguments} {body : List Stmt} {sc : Scope} {f : Addr} {fd : FuncData} {fl : Str} (F : FunD K x q args body sc [] [] f fd) (hx : x = "__init__") {p1 p2 q1 q2 q3 q4 : Pos}
    (ha : args = PySem.OwnEx.inA fl p1 p2) (hb : body = PySem.OwnEx.inB fl q1 q2 q3 q4) (hs : sc = PySem.OwnEx.inS fl) : ∃ (oc : Value) (od : Option Addr) (kV doc pm : Value) (an : Option Addr) (cdv ct : Value) (osl : Array (Option Value)) (p1 p2 q1 q2 q3 q4 : Pos),
    K.lookup f = some ⟨oc, od, .func (PySem.W.fnOf "__init__" q (PySem.OwnEx.inA fl p1 p2) (PySem.OwnEx.inB fl q1 q2 q3 q4) (PySem.OwnEx.inS fl) .none kV doc pm an cdv ct), osl⟩ ∧ codeIn K cdv q = true := by
  obtain ⟨oc, od, dV, kV, doc, pm, an, cdv, ct, osl, rfl, lk, hcd, hD, _⟩ := F.ex
  subst hx ha hb hs
  rcases hD with ⟨_, rfl⟩ | ⟨ne, _⟩
  · exact ⟨oc, od, kV, doc, pm, an, cdv, ct, osl, p1, p2, q1, q2, q3, q4, lk, hcd⟩
  · exact absurd rfl ne
theorem fun_of {K : Frag} {x : Str} {st : Stmt} {f : Addr} {fd : FuncData} (F : FunD K x x (defArgs st) (defBody st) (defScope st) [] [] f fd) : Fun K x x st f fd := by
  obtain ⟨oc, od, dV, kV, doc, pm, an, cdv, ct, osl, rfl, lk, hcd, hD, _⟩ := F.ex
  rcases hD with ⟨_, rfl⟩ | ⟨ne, _⟩
  · exact ⟨⟨oc, od, kV, doc, pm, an, cdv, ct, osl, rfl, lk, hcd⟩, F.kp⟩
  · exact absurd rfl ne
theorem err_txt {K : Frag} {h : Heap} {mg : Str → Option Value} (X : K.In h) (G : h.Ns mainGlobals mg) {cn f qi : Str} (he : errB K cn f = true) (dbg : (cn == ("__debug__" : Str)) = false) (fl : PySem.OwnEx.Fld f)
    (fn : ∃ (oc : Value) (od : Option Addr) (kV doc pm : Value) (an : Option Addr) (cdv ct : Value) (osl : Array (Option Value)) (p1 p2 q1 q2 q3 q4 : Pos),
      K.lookup (He.ma K (He.ga K cn) "__init__") = some ⟨oc, od, .func (PySem.W.fnOf "__init__" qi (PySem.OwnEx.inA f p1 p2) (PySem.OwnEx.inB f q1 q2 q3 q4) (PySem.OwnEx.inS f) .none kV doc pm an cdv ct), osl⟩ ∧ codeIn K cdv qi = true) :
    PySem.OwnEx.ErrTxt K mg cn f qi (He.ga K cn) (He.ga K "WhoError") (He.ma K (He.ga K cn) "__init__") ∧ exmOne K (.ref (He.ga K cn)) (.ref (He.ga K cn)) = some true := by
  obtain ⟨z1, z⟩ := He.ba he
  obtain ⟨z2, z⟩ := He.ba z
  obtain ⟨z3, z⟩ := He.ba z
  obtain ⟨z4, z⟩ := He.ba z
  obtain ⟨z5, z⟩ := He.ba z
  obtain ⟨z6, z⟩ := He.ba z
  obtain ⟨z7, z⟩ := He.ba z
  obtain ⟨z8, z9⟩ := He.ba z
  have cls : ClsAt K cn (He.ga K cn) (He.ga K "WhoError") := clsB_ok z2
  have bs : subIn K (.ref (He.ga K cn)) (.type "BaseException") = some true := by
    rw [cls.sub]
    rfl
  refine ⟨{ gC := PySem.W.mg_of X G (He.eqO_ok z1), dbg := dbg, fl := fl, cls := ⟨_, cls⟩, sa := He.eqO_ok z3, ga := He.eqO_ok z4, gg := He.eqO_ok z5, noN := He.eqO_ok z6, iC := He.eqO_ok z7, tC := of_decide_eq_true z8,
            kC := z9, exC := bs, tyC := cls.ty, hdC := cls.hd, fn := fn }, exm_by bs cls.is cls.ty ?_⟩
  rw [cls.sub]
  simp
def defD (x : Str) (st : Stmt) : He.DefD := ⟨(x, none), x, x, defArgs st, defBody st, defScope st, [], []⟩
def initD (cn qi : Str) (cls : Stmt) : He.DefD := ⟨(cn, some "__init__"), "__init__", qi, defArgs (inClass cls 0), defBody (inClass cls 0), defScope (inClass cls 0), [], []⟩
end HX


set_option Elab.async false
set_option linter.all false
set_option maxRecDepth 100000
set_option maxHeartbeats 8000000
namespace K68
open PySem L2
open PySem.W (Frag)
def fns : List He.DefD := [HX.defD "is_whole" sIsWhole, HX.defD "is_number" sIsNumber, HX.defD "is_below" sIsBelow, HX.defD "is_sequence" sIsSequence, HX.defD "are_signs" sAreSigns, HX.defD "two_sums" sTwoSums, HX.defD "two_signs" sTwoSigns, HX.defD "read_number" sReadNumber, HX.defD "read_letters" sReadLetters, HX.defD "read_things" sReadThings, HX.defD "read_value" sReadValue, HX.defD "entry_length" sEntryLength, HX.defD "entry_fault" sEntryFault, HX.defD "read_entry" sReadEntry, HX.defD "next_entry" sNextEntry, HX.defD "read_log" sReadLog, HX.defD "_law_draw" sXDraw, HX.defD "_law_any" sXAny, HX.defD "_law_of" sXOf, HX.defD "_law_number" sXNumber, HX.defD "_law_signs" sXSigns, HX.defD "_law_sums" sXSums, HX.defD "_law_two" sXTwo, HX.defD "_law_entry" sXEntry, HX.defD "_law_value" sXValue, HX.defD "_law_refused" sXRefused, HX.defD "_law_spoilt" sXSpoilt, HX.defD "_law_anchor" sXAnchor, HX.defD "law" sLaw, HX.initD "InvalidEntry" "InvalidEntry.__init__" (top 2)]
def fas : List He.Fa := [.glo "is_whole", .glo "is_number", .glo "is_below", .glo "is_sequence", .glo "are_signs", .glo "two_sums", .glo "two_signs", .glo "read_number", .glo "read_letters", .glo "read_things", .glo "read_value", .glo "entry_length", .glo "entry_fault", .glo "read_entry", .glo "next_entry", .glo "read_log", .glo "_law_draw", .glo "_law_any", .glo "_law_of", .glo "_law_number", .glo "_law_signs", .glo "_law_sums", .glo "_law_two", .glo "_law_entry", .glo "_law_value", .glo "_law_refused", .glo "_law_spoilt", .glo "_law_anchor", .glo "law", .free "int", .free "bool", .free "list", .free "tuple", .free "str", .free "len", .free "isinstance", .free "all", .free "sum", .free "enumerate", .free "range", .free "abs", .free "ord", .int "PRIME" 65521, .int "PERCENT" 37, .str "LETTERS" lettersS, .int "DEEPEST" 10, .int "MOST_SIGNS" 4096, .glo "PLAIN", .glo "HEAD"]
def okB (K : Frag) : Bool := HX.baseB K && (HX.errB K "InvalidEntry" "word" && (He.tupB K "PLAIN" [.non, .bl false, .bl true] && He.tupB K "HEAD" [.int 87, .int 72]))
theorem init_form : ∃ p1 p2 q1 q2 q3 q4 : Pos, defArgs (inClass (top 2) 0) = PySem.OwnEx.inA "word" p1 p2 ∧ defBody (inClass (top 2) 0) = PySem.OwnEx.inB "word" q1 q2 q3 q4 ∧ defScope (inClass (top 2) 0) = PySem.OwnEx.inS "word" := ⟨_, _, _, _, _, _, rfl, rfl, rfl⟩
theorem facts {P : Program} {w : World} {K : Frag} {h : Heap} {mg : Str → Option Value} {fa : Addr} (X : K.In h) (G : h.Ns mainGlobals mg) (hfa : mg "law" = some (.ref fa)) (c : He.SaysD fas fns K) (ok : okB K = true) :
    ∃ fd : FuncData, (∀ (s : Shared) (v : Value), BindsTo s fd ⟨[v], []⟩ [("script", v)]) ∧ ∀ base : Heap, K.In base → base.Ns mainGlobals mg → FnOk P w K mg base CX0 27 fa fd ["script"] (spLaw K) := by
  obtain ⟨o1, o2⟩ := He.ba ok
  obtain ⟨o3, o4⟩ := He.ba o2
  obtain ⟨o5, o6⟩ := He.ba o4
  obtain ⟨dI, DI⟩ := c.def_ 29 (d := HX.initD "InvalidEntry" "InvalidEntry.__init__" (top 2)) rfl
  obtain ⟨p1, p2, q1, q2, q3, q4, ea, eb, es⟩ := init_form
  obtain ⟨ET, ex⟩ := HX.err_txt X G (cn := "InvalidEntry") (f := "word") (qi := "InvalidEntry.__init__") o3 (by decide) (Or.inr (Or.inl rfl)) (HX.init_fn DI rfl ea eb es)
  have T : TxtP K mg := { int := He.free_ok X G (c.fact 29 (f := .free "int") rfl), bool := He.free_ok X G (c.fact 30 (f := .free "bool") rfl), list := He.free_ok X G (c.fact 31 (f := .free "list") rfl), tuple := He.free_ok X G (c.fact 32 (f := .free "tuple") rfl), str := He.free_ok X G (c.fact 33 (f := .free "str") rfl), len := He.free_ok X G (c.fact 34 (f := .free "len") rfl), isinstance := He.free_ok X G (c.fact 35 (f := .free "isinstance") rfl), all := He.free_ok X G (c.fact 36 (f := .free "all") rfl), sum := He.free_ok X G (c.fact 37 (f := .free "sum") rfl), enumerate := He.free_ok X G (c.fact 38 (f := .free "enumerate") rfl), range := He.free_ok X G (c.fact 39 (f := .free "range") rfl), abs := He.free_ok X G (c.fact 40 (f := .free "abs") rfl), ord := He.free_ok X G (c.fact 41 (f := .free "ord") rfl) }
  have TT : TxtT K mg := { prime := He.int_ok X G (c.fact 42 (f := .int "PRIME" 65521) rfl), percent := He.int_ok X G (c.fact 43 (f := .int "PERCENT" 37) rfl), letters := He.str_ok X G (c.fact 44 (f := .str "LETTERS" lettersS) rfl), deepest := He.int_ok X G (c.fact 45 (f := .int "DEEPEST" 10) rfl), most := He.int_ok X G (c.fact 46 (f := .int "MOST_SIGNS" 4096) rfl), plain := ⟨_, He.glo_ok X G (c.fact 47 (f := .glo "PLAIN") rfl), fun H => He.tupB_ok o5 H⟩, head := ⟨_, He.glo_ok X G (c.fact 48 (f := .glo "HEAD") rfl), fun H => He.tupB_ok o6 H⟩ }
  obtain ⟨dW, DW⟩ := c.def_ 0 (d := HX.defD "is_whole" sIsWhole) rfl
  have FW : Fun K "is_whole" "is_whole" sIsWhole _ dW := HX.fun_of DW
  have mW := He.glo_ok X G (c.fact 0 (f := .glo "is_whole") rfl)
  have bW := FW.binds (ps := ["value"]) fun _ _ _ _ _ _ us hl => match us, hl with | [_], _ => rfl
  obtain ⟨dNb, DNb⟩ := c.def_ 1 (d := HX.defD "is_number" sIsNumber) rfl
  have FNb : Fun K "is_number" "is_number" sIsNumber _ dNb := HX.fun_of DNb
  have mNb := He.glo_ok X G (c.fact 1 (f := .glo "is_number") rfl)
  have bNb := FNb.binds (ps := ["value"]) fun _ _ _ _ _ _ us hl => match us, hl with | [_], _ => rfl
  obtain ⟨dBl, DBl⟩ := c.def_ 2 (d := HX.defD "is_below" sIsBelow) rfl
  have FBl : Fun K "is_below" "is_below" sIsBelow _ dBl := HX.fun_of DBl
  have mBl := He.glo_ok X G (c.fact 2 (f := .glo "is_below") rfl)
  have bBl := FBl.binds (ps := ["value", "many"]) fun _ _ _ _ _ _ us hl => match us, hl with | [_, _], _ => rfl
  obtain ⟨dSq, DSq⟩ := c.def_ 3 (d := HX.defD "is_sequence" sIsSequence) rfl
  have FSq : Fun K "is_sequence" "is_sequence" sIsSequence _ dSq := HX.fun_of DSq
  have mSq := He.glo_ok X G (c.fact 3 (f := .glo "is_sequence") rfl)
  have bSq := FSq.binds (ps := ["value"]) fun _ _ _ _ _ _ us hl => match us, hl with | [_], _ => rfl
  obtain ⟨dSg, DSg⟩ := c.def_ 4 (d := HX.defD "are_signs" sAreSigns) rfl
  have FSg : Fun K "are_signs" "are_signs" sAreSigns _ dSg := HX.fun_of DSg
  have mSg := He.glo_ok X G (c.fact 4 (f := .glo "are_signs") rfl)
  have bSg := FSg.binds (ps := ["value"]) fun _ _ _ _ _ _ us hl => match us, hl with | [_], _ => rfl
  obtain ⟨dTS, DTS⟩ := c.def_ 5 (d := HX.defD "two_sums" sTwoSums) rfl
  have FTS : Fun K "two_sums" "two_sums" sTwoSums _ dTS := HX.fun_of DTS
  have mTS := He.glo_ok X G (c.fact 5 (f := .glo "two_sums") rfl)
  have bTS := FTS.binds (ps := ["signs"]) fun _ _ _ _ _ _ us hl => match us, hl with | [_], _ => rfl
  obtain ⟨dTG, DTG⟩ := c.def_ 6 (d := HX.defD "two_signs" sTwoSigns) rfl
  have FTG : Fun K "two_signs" "two_signs" sTwoSigns _ dTG := HX.fun_of DTG
  have mTG := He.glo_ok X G (c.fact 6 (f := .glo "two_signs") rfl)
  have bTG := FTG.binds (ps := ["number"]) fun _ _ _ _ _ _ us hl => match us, hl with | [_], _ => rfl
  obtain ⟨dRN, DRN⟩ := c.def_ 7 (d := HX.defD "read_number" sReadNumber) rfl
  have FRN : Fun K "read_number" "read_number" sReadNumber _ dRN := HX.fun_of DRN
  have mRN := He.glo_ok X G (c.fact 7 (f := .glo "read_number") rfl)
  have bRN := FRN.binds (ps := ["signs", "at"]) fun _ _ _ _ _ _ us hl => match us, hl with | [_, _], _ => rfl
  obtain ⟨dRL, DRL⟩ := c.def_ 8 (d := HX.defD "read_letters" sReadLetters) rfl
  have FRL : Fun K "read_letters" "read_letters" sReadLetters _ dRL := HX.fun_of DRL
  have mRL := He.glo_ok X G (c.fact 8 (f := .glo "read_letters") rfl)
  have bRL := FRL.binds (ps := ["signs", "begin", "many"]) fun _ _ _ _ _ _ us hl => match us, hl with | [_, _, _], _ => rfl
  obtain ⟨dRT, DRT⟩ := c.def_ 9 (d := HX.defD "read_things" sReadThings) rfl
  have FRT : Fun K "read_things" "read_things" sReadThings _ dRT := HX.fun_of DRT
  have mRT := He.glo_ok X G (c.fact 9 (f := .glo "read_things") rfl)
  have bRT := FRT.binds (ps := ["signs", "begin", "many", "deep"]) fun _ _ _ _ _ _ us hl => match us, hl with | [_, _, _, _], _ => rfl
  obtain ⟨dRV, DRV⟩ := c.def_ 10 (d := HX.defD "read_value" sReadValue) rfl
  have FRV : Fun K "read_value" "read_value" sReadValue _ dRV := HX.fun_of DRV
  have mRV := He.glo_ok X G (c.fact 10 (f := .glo "read_value") rfl)
  have bRV := FRV.binds (ps := ["signs", "at", "deep"]) fun _ _ _ _ _ _ us hl => match us, hl with | [_, _, _], _ => rfl
  obtain ⟨dEL, DEL⟩ := c.def_ 11 (d := HX.defD "entry_length" sEntryLength) rfl
  have FEL : Fun K "entry_length" "entry_length" sEntryLength _ dEL := HX.fun_of DEL
  have mEL := He.glo_ok X G (c.fact 11 (f := .glo "entry_length") rfl)
  have bEL := FEL.binds (ps := ["signs"]) fun _ _ _ _ _ _ us hl => match us, hl with | [_], _ => rfl
  obtain ⟨dEF, DEF⟩ := c.def_ 12 (d := HX.defD "entry_fault" sEntryFault) rfl
  have FEF : Fun K "entry_fault" "entry_fault" sEntryFault _ dEF := HX.fun_of DEF
  have mEF := He.glo_ok X G (c.fact 12 (f := .glo "entry_fault") rfl)
  have bEF := FEF.binds (ps := ["signs"]) fun _ _ _ _ _ _ us hl => match us, hl with | [_], _ => rfl
  obtain ⟨dRE, DRE⟩ := c.def_ 13 (d := HX.defD "read_entry" sReadEntry) rfl
  have FRE : Fun K "read_entry" "read_entry" sReadEntry _ dRE := HX.fun_of DRE
  have mRE := He.glo_ok X G (c.fact 13 (f := .glo "read_entry") rfl)
  have bRE := FRE.binds (ps := ["signs"]) fun _ _ _ _ _ _ us hl => match us, hl with | [_], _ => rfl
  obtain ⟨dNX, DNX⟩ := c.def_ 14 (d := HX.defD "next_entry" sNextEntry) rfl
  have FNX : Fun K "next_entry" "next_entry" sNextEntry _ dNX := HX.fun_of DNX
  have mNX := He.glo_ok X G (c.fact 14 (f := .glo "next_entry") rfl)
  have bNX := FNX.binds (ps := ["log", "begin"]) fun _ _ _ _ _ _ us hl => match us, hl with | [_, _], _ => rfl
  obtain ⟨dLG, DLG⟩ := c.def_ 15 (d := HX.defD "read_log" sReadLog) rfl
  have FLG : Fun K "read_log" "read_log" sReadLog _ dLG := HX.fun_of DLG
  have mLG := He.glo_ok X G (c.fact 15 (f := .glo "read_log") rfl)
  have bLG := FLG.binds (ps := ["log"]) fun _ _ _ _ _ _ us hl => match us, hl with | [_], _ => rfl
  obtain ⟨dXD, DXD⟩ := c.def_ 16 (d := HX.defD "_law_draw" sXDraw) rfl
  have FXD : Fun K "_law_draw" "_law_draw" sXDraw _ dXD := HX.fun_of DXD
  have mXD := He.glo_ok X G (c.fact 16 (f := .glo "_law_draw") rfl)
  have bXD := FXD.binds (ps := ["script", "salt"]) fun _ _ _ _ _ _ us hl => match us, hl with | [_, _], _ => rfl
  obtain ⟨dXA, DXA⟩ := c.def_ 17 (d := HX.defD "_law_any" sXAny) rfl
  have FXA : Fun K "_law_any" "_law_any" sXAny _ dXA := HX.fun_of DXA
  have mXA := He.glo_ok X G (c.fact 17 (f := .glo "_law_any") rfl)
  have bXA := FXA.binds (ps := ["deal", "bound"]) fun _ _ _ _ _ _ us hl => match us, hl with | [_, _], _ => rfl
  obtain ⟨dXO, DXO⟩ := c.def_ 18 (d := HX.defD "_law_of" sXOf) rfl
  have FXO : Fun K "_law_of" "_law_of" sXOf _ dXO := HX.fun_of DXO
  have mXO := He.glo_ok X G (c.fact 18 (f := .glo "_law_of") rfl)
  have bXO := FXO.binds (ps := ["deal", "some"]) fun _ _ _ _ _ _ us hl => match us, hl with | [_, _], _ => rfl
  obtain ⟨dXN, DXN⟩ := c.def_ 19 (d := HX.defD "_law_number" sXNumber) rfl
  have FXN : Fun K "_law_number" "_law_number" sXNumber _ dXN := HX.fun_of DXN
  have mXN := He.glo_ok X G (c.fact 19 (f := .glo "_law_number") rfl)
  have bXN := FXN.binds (ps := ["number"]) fun _ _ _ _ _ _ us hl => match us, hl with | [_], _ => rfl
  obtain ⟨dXS, DXS⟩ := c.def_ 20 (d := HX.defD "_law_signs" sXSigns) rfl
  have FXS : Fun K "_law_signs" "_law_signs" sXSigns _ dXS := HX.fun_of DXS
  have mXS := He.glo_ok X G (c.fact 20 (f := .glo "_law_signs") rfl)
  have bXS := FXS.binds (ps := ["value"]) fun _ _ _ _ _ _ us hl => match us, hl with | [_], _ => rfl
  obtain ⟨dXM, DXM⟩ := c.def_ 21 (d := HX.defD "_law_sums" sXSums) rfl
  have FXM : Fun K "_law_sums" "_law_sums" sXSums _ dXM := HX.fun_of DXM
  have mXM := He.glo_ok X G (c.fact 21 (f := .glo "_law_sums") rfl)
  have bXM := FXM.binds (ps := ["signs"]) fun _ _ _ _ _ _ us hl => match us, hl with | [_], _ => rfl
  obtain ⟨dXT, DXT⟩ := c.def_ 22 (d := HX.defD "_law_two" sXTwo) rfl
  have FXT : Fun K "_law_two" "_law_two" sXTwo _ dXT := HX.fun_of DXT
  have mXT := He.glo_ok X G (c.fact 22 (f := .glo "_law_two") rfl)
  have bXT := FXT.binds (ps := ["number"]) fun _ _ _ _ _ _ us hl => match us, hl with | [_], _ => rfl
  obtain ⟨dXE, DXE⟩ := c.def_ 23 (d := HX.defD "_law_entry" sXEntry) rfl
  have FXE : Fun K "_law_entry" "_law_entry" sXEntry _ dXE := HX.fun_of DXE
  have mXE := He.glo_ok X G (c.fact 23 (f := .glo "_law_entry") rfl)
  have bXE := FXE.binds (ps := ["value"]) fun _ _ _ _ _ _ us hl => match us, hl with | [_], _ => rfl
  obtain ⟨dXV, DXV⟩ := c.def_ 24 (d := HX.defD "_law_value" sXValue) rfl
  have FXV : Fun K "_law_value" "_law_value" sXValue _ dXV := HX.fun_of DXV
  have mXV := He.glo_ok X G (c.fact 24 (f := .glo "_law_value") rfl)
  have bXV := FXV.binds (ps := ["deal", "depth"]) fun _ _ _ _ _ _ us hl => match us, hl with | [_, _], _ => rfl
  obtain ⟨dXR, DXR⟩ := c.def_ 25 (d := HX.defD "_law_refused" sXRefused) rfl
  have FXR : Fun K "_law_refused" "_law_refused" sXRefused _ dXR := HX.fun_of DXR
  have mXR := He.glo_ok X G (c.fact 25 (f := .glo "_law_refused") rfl)
  have bXR := FXR.binds (ps := ["signs"]) fun _ _ _ _ _ _ us hl => match us, hl with | [_], _ => rfl
  obtain ⟨dXP, DXP⟩ := c.def_ 26 (d := HX.defD "_law_spoilt" sXSpoilt) rfl
  have FXP : Fun K "_law_spoilt" "_law_spoilt" sXSpoilt _ dXP := HX.fun_of DXP
  have mXP := He.glo_ok X G (c.fact 26 (f := .glo "_law_spoilt") rfl)
  have bXP := FXP.binds (ps := ["deal", "signs", "most"]) fun _ _ _ _ _ _ us hl => match us, hl with | [_, _, _], _ => rfl
  obtain ⟨dXC, DXC⟩ := c.def_ 27 (d := HX.defD "_law_anchor" sXAnchor) rfl
  have FXC : Fun K "_law_anchor" "_law_anchor" sXAnchor _ dXC := HX.fun_of DXC
  have mXC := He.glo_ok X G (c.fact 27 (f := .glo "_law_anchor") rfl)
  have bXC := FXC.binds (ps := []) fun _ _ _ _ _ _ us hl => match us, hl with | [], _ => rfl
  obtain ⟨dL, DL⟩ := c.def_ 28 (d := HX.defD "law" sLaw) rfl
  have FL : Fun K "law" "law" sLaw _ dL := HX.fun_of DL
  have mL := He.glo_ok X G (c.fact 28 (f := .glo "law") rfl)
  have bRE1 : ∀ (s : Shared) (v : Value), BindsTo s dRE ⟨[], [("signs", v)]⟩ [("signs", v)] := by
    obtain ⟨oc, od, kV, doc, pm, an, cdv, ct, osl, rfl, lk, hcd⟩ := FRE.ex
    exact fun s v => .of_eq rfl
  have bLG1 : ∀ (s : Shared) (v : Value), BindsTo s dLG ⟨[], [("log", v)]⟩ [("log", v)] := by
    obtain ⟨oc, od, kV, doc, pm, an, cdv, ct, osl, rfl, lk, hcd⟩ := FLG.ex
    exact fun s v => .of_eq rfl
  have e := hfa.symm.trans mL
  cases e
  obtain ⟨oc, od, kV, doc, pm, an, cdv, ct, osl, rfl, lk, hcd⟩ := FL.ex
  refine ⟨PySem.W.fnOf "law" "law" (defArgs sLaw) (defBody sLaw) (defScope sLaw) .none kV doc pm an cdv ct, fun s v => .of_eq rfl, fun base _ _ => ?_⟩
  have GW : FnOk P w K mg base CX0 1 _ dW ["value"] (spWhole K) := ok_whole FW T
  have GNb : FnOk P w K mg base CX0 2 _ dNb ["value"] (spNumber K) := ok_number FNb GW bW mW FW.kp
  have GBl : FnOk P w K mg base CX0 3 _ dBl ["value", "many"] (spBelow K) := ok_below FBl GNb bNb mNb FNb.kp
  have GSq : FnOk P w K mg base CX0 1 _ dSq ["value"] (spSeq K) := ok_seq FSq T
  have GSg : FnOk P w K mg base CX0 5 _ dSg ["value"] (spSigns K) := ok_signs FSg T GSq bSq mSq FSq.kp GBl bBl mBl FBl.kp
  have GTS : FnOk P w K mg base CX0 1 _ dTS ["signs"] (spTwoSums K) := ok_twoSums FTS T TT.toTxtG
  have GTG : FnOk P w K mg base CX0 1 _ dTG ["number"] spTwoSigns := ok_twoSigns FTG
  have GRN : FnOk P w K mg base CX0 1 _ dRN ["signs", "at"] (spReadNum K) := ok_readNum FRN T
  have GRL : FnOk P w K mg base CX0 1 _ dRL ["signs", "begin", "many"] (spLetters K) := ok_letters FRL T TT.toTxtG2
  have GRV : FnOk P w K mg base CX0 22 _ dRV ["signs", "at", "deep"] (spReadV K 10) := ok_rv FRV FRT T TT GRN bRN mRN FRN.kp GRL bRL mRL FRL.kp bRT mRT FRT.kp bRV mRV FRV.kp 10 (Nat.le_refl _)
  have GEL : FnOk P w K mg base CX0 1 _ dEL ["signs"] (spLen K) := ok_len FEL
  have GEF : FnOk P w K mg base CX0 2 _ dEF ["signs"] (spFault K) := ok_fault FEF T TT T.list GEL bEL mEL FEL.kp GTS bTS mTS FTS.kp GTG bTG mTG FTG.kp
  have GRE := ok_entry (P := P) (w := w) (base := base) FRE T ET GSg bSg mSg FSg.kp GEF bEF mEF FEF.kp GRV bRV mRV FRV.kp
  have GNX := ok_next (P := P) (w := w) (base := base) FNX T ET ex GEL bEL mEL FEL.kp GRE bRE mRE FRE.kp
  have GLG := ok_log (P := P) (w := w) (base := base) FLG T ET GSg bSg mSg FSg.kp GNX bNX mNX FNX.kp
  have GXA : FnOk P w K mg base CX0 1 _ dXA ["deal", "bound"] spAny := ok_any FXA T
  have GXO : FnOk P w K mg base CX0 2 _ dXO ["deal", "some"] (spOf K) := ok_of FXO T GXA bXA mXA FXA.kp
  have GXD : FnOk P w K mg base CX0 1 _ dXD ["script", "salt"] (spDraw K) := ok_draw FXD T
  have GXN : FnOk P w K mg base CX0 1 _ dXN ["number"] spXNum := ok_xnum FXN
  have GXS : FnOk P w K mg base CX0 4 _ dXS ["value"] (spXSigns K 2) := ok_xs FXS T GXN bXN mXN FXN.kp bXS mXS FXS.kp 2
  have GXM : FnOk P w K mg base CX0 1 _ dXM ["signs"] (spXSums K) := ok_xsums FXM T
  have GXT : FnOk P w K mg base CX0 1 _ dXT ["number"] spTwoSigns := ok_xtwo FXT
  have GXE : FnOk P w K mg base CX0 5 _ dXE ["value"] (spXEntry K) := ok_xentry FXE T GXS bXS mXS FXS.kp GXT bXT mXT FXT.kp GXM bXM mXM FXM.kp
  have GXV : FnOk P w K mg base CX0 5 _ dXV ["deal", "depth"] (spXValue 2) := ok_xv FXV T GXA bXA mXA FXA.kp GXO bXO mXO FXO.kp bXV mXV FXV.kp 2
  have GXR : FnOk P w K mg base CX0 24 _ dXR ["signs"] (spRefused K) := ok_refused FXR ET ex GRE bRE1 mRE FRE.kp
  have GXP : FnOk P w K mg base CX0 3 _ dXP ["deal", "signs", "most"] (spSpoilt K) := ok_spoilt FXP T GXA bXA mXA FXA.kp GXO bXO mXO FXO.kp
  have GXC : FnOk P w K mg base CX0 26 _ dXC [] spAnchor := ok_anchor FXC T GXE bXE mXE FXE.kp GXR bXR mXR FXR.kp GLG bLG bLG1 mLG FLG.kp
  have HW : L2H.FnH P w K mg base (L2.CX P w) 1 _ dW ["value"] (spWhole K) := h_whole FW T
  have HN : L2H.FnH P w K mg base (L2.CX P w) 2 _ dNb ["value"] (spNumber K) := h_number FNb HW bW mW FW.kp
  have HB : L2H.FnH P w K mg base (L2.CX P w) 3 _ dBl ["value", "many"] (spBelow K) := h_below FBl HN bNb mNb FNb.kp
  have HS : L2H.FnH P w K mg base (L2.CX P w) 1 _ dSq ["value"] (spSeq K) := h_seq FSq T
  have HG : L2H.FnH P w K mg base (L2.CX P w) 5 _ dSg ["value"] (spSigns K) := h_signs FSg T HS bSq mSq FSq.kp HB bBl mBl FBl.kp
  have HE := h_entry (P := P) (w := w) (base := base) FRE ET HG bSg mSg FSg.kp
  have HXR : L2H.FnH P w K mg base (L2.CX P w) 24 _ dXR ["signs"] (spBad K) := h_refused FXR ET ex HE bRE1 mRE FRE.kp
  exact ok_law (fun_mk (st := sLaw) lk hcd FL.kp) T ET ex GXD bXD mXD FXD.kp GXC bXC mXC FXC.kp GXV bXV mXV FXV.kp GXA bXA mXA FXA.kp GXE bXE mXE FXE.kp GXR bXR mXR FXR.kp GXP bXP mXP FXP.kp GLG bLG bLG1 mLG FLG.kp HXR GXO bXO mXO FXO.kp
end K68


set_option Elab.async false
set_option linter.all false
set_option maxRecDepth 100000
set_option maxHeartbeats 0
namespace K68
open PySem L2
abbrev R : PySem.W.OpenRow := PySem.W.OpenLaw.row PySem.Challenge.rw_whoiswho_k68_whole_spoilt_and_cut_entrie
abbrev hk : PySem.W.Hook := HX.hookX 5 fas fns okB
def ob (s : PySem.W.SharedT) : He.AlD × Bool := HX.obX 5 fas fns okB (HandSHeadRun.getT s)
theorem ob_eq (s : PySem.W.SharedT) : ob s = hk.obs s.abs := HX.obX_eq (HandSHeadRun.getT_eq s)
def loose : List Str := (["WhoError", "InvalidEntry", "HEAD", "DEEPEST", "MOST_SIGNS", "PRIME", "PERCENT", "PLAIN", "LETTERS"] : List String).map PySem.Str.ofString ++ (fns.take 28).map fun d => d.name
theorem run (w : World) : HandSHeadRun.RunEq R (PySem.W.view R.prog [41]) hk ob 12000 loose w := by
  intro os
  kernel_rfl
end K68


open PySem PySem.W PySem.Calls PyProof.Rows
set_option Elab.async false
set_option maxRecDepth 100000 in
set_option maxHeartbeats 0 in
theorem PySem.Challenge.cw_whoiswho_k68_whole_spoilt_and_cut_entrie_holds : PySem.Challenge.rw_whoiswho_k68_whole_spoilt_and_cut_entrie.Holds := by
  w_on; o_law
  refine HandSHeadRun.head_any (r := OpenLaw.row PySem.Challenge.rw_whoiswho_k68_whole_spoilt_and_cut_entrie) (q := view (OpenLaw.row PySem.Challenge.rw_whoiswho_k68_whole_spoilt_and_cut_entrie).prog [41]) (H := K68.hk) (ob := K68.ob) (M := 12000) (loose := K68.loose) (d := HandSHeadRun.topDef (OpenLaw.row PySem.Challenge.rw_whoiswho_k68_whole_spoilt_and_cut_entrie).prog 41) (kwd := []) K68.ob_eq
    (by kernel_rfl) (fun s => by kernel_rfl) K68.run (by kernel_rfl) (by kernel_rfl) (by kernel_rfl) (by rfl) (by first | assumption | decide +kernel) (by decide +kernel) ⟨rfl, rfl, rfl, rfl, rfl, by decide +kernel⟩ ?hw ?hc
  case hw => w_witness2
  case hc =>
    refine L2.walk_ofE (l := PySem.Challenge.rw_whoiswho_k68_whole_spoilt_and_cut_entrie) (n := 63) (k := 27) (x := "script") (CX := L2.CX0) rfl (by decide) (by kernel_rfl) ⟨rfl, by decide, by decide⟩ ?F (fun _ _ _ _ z => z)
    intro w mg fa h Y G hmg0
    obtain ⟨K, KX, c, ok⟩ := Y
    have hmg : mg ("law" : PySem.Str) = some (.ref fa) := by
      have e : (HandSHeadRun.topDef (OpenLaw.row PySem.Challenge.rw_whoiswho_k68_whole_spoilt_and_cut_entrie).prog 41).name = ("law" : PySem.Str) := by kernel_rfl
      rw [← e]
      exact hmg0
    obtain ⟨fd, hb, hF⟩ := K68.facts (P := (PySem.Challenge.rw_whoiswho_k68_whole_spoilt_and_cut_entrie).prog) (w := w) KX G hmg c ok
    exact ⟨K, fd, K68.spLaw K, KX, hb, fun H a ns hl _ hS => ⟨a, ns, rfl, hS, hl, fun _ => rfl⟩, hF⟩


