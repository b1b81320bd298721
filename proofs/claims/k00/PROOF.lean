import PyProof.Rows.All
import Wide.All
import OpenK.AllK
import Wide.FinOn
import PyProof.EqAt
import PyProof.EqKinds
import PyProof.TupleCall
import HandS.ForExc
import HandS.TryMany
import HandS.Small
import HandS.Evl
import HandS.Defaults
import HandS.Head0
import HandS.Head1
import HandS.Head2
import HandS.HeadEnd
import HandS.HeadHook1
import HandS.HeadHook2
import PySem.Challenge.RW_whoiswho_k00_whole_errors_and_what_they
set_option Elab.async false
set_option linter.all false
set_option maxRecDepth 100000
set_option maxHeartbeats 4000000
/-! Own errors over Exception with one field, made, raised, read; several except clauses with names. -/
namespace PySem
namespace OwnEx
open PySem.W PySem.Calls PyProof.Rows PySem.HandSPX
open Builtin Builtin.ObjectAttr
/-- the rows of Exception, behind own classes -/
abbrev exRest : List Value := [.type "Exception", .type "BaseException", .type "object"]
theorem two_contains (U : Addr) (X : String) :
    List.contains ([.ref U, .type "Exception", .type "BaseException", .type "object"] : List Value) (.type X) = exRest.contains (.type X) := by
  rw [List.contains_cons]
  rfl
theorem two_passes (self : Value) (C U : Addr) : refuseLoop self "__setattr__" [.ref C, .ref U, .type "Exception", .type "BaseException", .type "object"] = pure () := by
  rw [refuseLoop_ref]
  rw [refuseLoop_ref]
  exact F.store_Exception.passes self

section
variable {prog : Program} {w : World} {A : Around} {E : Value → Shared → Prop} {R : Result → Shared → Prop}
variable {hp : Heap} {g : Array GenState} {d : Drawn} {t : Nat} {os : OsState}
/-- self.name = v, self an error that has no dict yet -/
theorem first_field {K : W.Frag} {name : Str} {tk : Tok} {v : Value} {x C U : Addr} {fv : Array Value} {cd : ClassData} (X : K.In hp)
    (hx : hp.get? x = some { cls := .ref C, data := .fields fv })
    (hcd : W.clsIn K C = some cd) (hm : cd.mro = [.ref C, .ref U, .type "Exception", .type "BaseException", .type "object"])
    (hh : cd.hasDict = true) (ha : W.findIn K (.ref C) name = some none)
    (hq : ∀ h' tk' dx, (∀ b o, b ≠ x → hp.get? b = some o → h'.get? b = some o) → hp.objs.size ≤ dx → dx ≠ x →
      h'.get? x = some { cls := .ref C, dict := some dx, data := .fields fv } →
      h'.Ns1 dx (fun y => if y = name then some v else none) → R (.ok (.ret .none)) ⟨h', g, d, tk', os⟩) :
    codeAny (model prog w) A (.call (.builtin "object.__setattr__") ⟨[.ref x, .str name tk, v], []⟩) R ⟨hp, g, d, t, os⟩ := by
  have IA : W.InstAt hp x { cls := .ref C, data := .fields fv } C none := ⟨hx, rfl, rfl, trivial⟩
  have SO := F.store_object
  have em : cd.mro.isEmpty = false := by rw [hm]; rfl
  have cob : cd.mro.contains (.type "object") = true := by
    rw [hm, List.contains_cons, two_contains]
    rfl
  have xs : x ≠ hp.objs.size := Nat.ne_of_lt (Heap.lt_size hx)
  have is : W.Looks (model prog w) hp (isInstance (.ref x) (.type "object")) true :=
    IA.type.andThen (W.looks_mroIn X (by unfold W.mroIn; rw [hcd, Option.bind_some, if_neg (by rw [em]; decide), cob]))
  refine codeAny_call_builtin SO.slot.plain SO.entry
    (@W.check_slot (model prog w) _ _ ⟨hp, g, d, t, os⟩ "object.__setattr__" "object" "__setattr__" (.ref x)
      [.str name tk, v] [] _ SO.kind SO.split is (SO.args (.ref x) (.str name tk) v) ?_)
  have lm : W.Looks (model prog w) hp (mroOf (.ref C)) cd.mro := (W.looks_clsIn X hcd).andThen .now
  have lt : W.Looks (model prog w) hp (storeTaker? none) none := .now
  have lc : W.Looks (model prog w) hp (classData C) cd := W.looks_clsIn X hcd
  rw [W.osa_eq, refuse_eq]
  refine wpAny_bind (wpAny_bind (IA.type.at (wpAny_bind (lm.at ?_))))
  rw [hm, two_passes]
  refine wpAny_pure (wpAny_bind (IA.type.at (wpAny_bind ((W.looks_findIn X ha).at (wpAny_bind (lt.at ?_))))))
  show wpAny _ _ (storeInOwnDict (.ref x) (.ref C) (.str name tk) name v false) _ _ _
  obtain ⟨nm, bs, mro, ns, qn, hd, sn, sb, ab, col, del⟩ := cd
  dsimp only at hh
  subst hh
  unfold storeInOwnDict ownDictForStores
  repeat (first
    | with_reducible refine store_in_new ?_ ?_
    | with_reducible refine wpAny_loadPart_at hx ?_
    | with_reducible refine lc.at ?_
    | wp_step)
  · exact ⟨_, #[], _, (Heap.get?_update_ne _ _ _ _ xs.symm).trans (Heap.get?_push_at rfl rfl), rfl,
      fun e he => absurd he (by simp), fun _ => rfl⟩
  · intro h' tk' hn' hs
    have hx₁ : (hp.push { cls := .type "dict", data := .dict #[] }).get? x = some { cls := .ref C, data := .fields fv } :=
      Heap.get?_push_of_some _ hx
    refine hq h' tk' hp.objs.size (fun b o hb ho => ?_) (Nat.le_refl _) xs.symm ?_ hn'
    · exact (hs.2 b (Nat.ne_of_lt (Heap.lt_size ho))).trans
        ((Heap.get?_update_ne _ _ _ _ hb).trans (Heap.get?_push_of_some _ ho))
    · exact (hs.2 x xs).trans (Heap.get?_update_self _ hx₁ rfl)
end
end OwnEx
end PySem

set_option Elab.async false
set_option linter.all false
set_option maxRecDepth 100000
set_option maxHeartbeats 4000000
/-! An own error E(U), U(Exception), with def __init__(self, f): self.f = f. -/
namespace PySem
namespace OwnEx
open PySem.W PySem.Calls PyProof.Rows PySem.HandSPX
/-- the names that fields have -/
def Fld (f : Str) : Prop := f = "at" ∨ f = "word" ∨ f = "name" ∨ f = "house"
def inA (f : Str) (p1 p2 : Pos) : Arguments :=
  { posonlyargs := [], args := [{ arg := "self", annotation := none, pos := p1 }, { arg := f, annotation := none, pos := p2 }],
    vararg := none, kwonlyargs := [], kw_defaults := [], kwarg := none, defaults := [] }
def inB (f : Str) (q1 q2 q3 q4 : Pos) : List Stmt := [.Assign [.Attribute (.Name "self" q1) f q2] (.Name f q3) q4]
def inS (f : Str) : Scope :=
  { kind := .function, names := [(PySem.Str.ofString "self", .local), (f, .local)], isGenerator := false, isCoroutine := false, more := [] }
/-- what the written part says of the class cn at C, whose base is the own class at U, and of its __init__ at fI -/
structure ErrTxt (K : Frag) (mg : Str → Option Value) (cn f qi : Str) (C U fI : Addr) : Prop where
  gC : mg cn = some (.ref C)
  dbg : (cn == ("__debug__" : Str)) = false
  fl : Fld f
  cls : ∃ nm q N bs sn sub ab col dd k0 k1 k2 k3 k5, K.lookup C = some (excClassObj nm q C N bs
    [.ref U, .type "Exception", .type "BaseException", .type "object"] true sn sub ab col dd k0 k1 k2 k3 k5 "Exception.__new__")
  sa : findIn K (.ref C) "__setattr__" = some (some (.builtin "object.__setattr__"))
  ga : findIn K (.ref C) "__getattribute__" = some (some (.builtin "BaseException.__getattribute__"))
  gg : findIn K (.ref C) "__getattr__" = some none
  noN : findIn K (.ref C) f = some none
  iC : findIn K (.ref C) "__init__" = some (some (.ref fI))
  tC : typeIn K (.ref fI) = some (.type "function")
  kC : keepIn K (.ref C) = true
  exC : subIn K (.ref C) (.type "BaseException") = some true
  tyC : typeIn K (.ref C) = some (.type "type")
  hdC : hasDictIn K C = true
  fn : ∃ (oc : Value) (od : Option Addr) (kV doc pm : Value) (an : Option Addr) (cdv ct : Value) (osl : Array (Option Value)) (p1 p2 q1 q2 q3 q4 : Pos),
    K.lookup fI = some ⟨oc, od, .func (fnOf "__init__" qi (inA f p1 p2) (inB f q1 q2 q3 q4) (inS f) .none kV doc pm an cdv ct), osl⟩ ∧ codeIn K cdv qi = true
theorem one_fits (v : Value) : [v].length ≤ sizeLine := by
  rw [sizeLine_eq]
  exact (by decide : 1 ≤ 16777216)
theorem ldE {M : Model} {s : Shared} {name : Str} {scope : Scope} {L a : Addr} {cd : Value} {m : Str → Option Value} {x : Str} {pos : Pos} {v : Value}
    {Q : Value → Shared → Prop} {A : Around} {E : Value → Shared → Prop} (hn : s.heap.Ns L m) (hv : m x = some v) (h : Q v s)
    (hk : scope.kind = .function := by rfl) (hl : (envOfC name scope L a cd).kindOf x = some .local := by rfl)
    (hd : (x == ("__debug__" : Str)) = false := by decide) :
    wpAny M A (eval (.Name x pos) (envOfC name scope L a cd)) Q E s := wpAny_Name (wpAny_loadName_local hk hl hn hv h) hd
/-- what __init__ leaves of a fresh error at x -/
structure InitLeft (h h' : Heap) (f : Str) (x C dx t1 : Addr) (v : Value) : Prop where
  keep : ∀ b o, b ≠ x → h.get? b = some o → h'.get? b = some o
  obj : h'.get? x = some { cls := .ref C, dict := some dx, data := .fields #[.ref t1, .none, .none, .none, .bool false, .none] }
  dbig : h.objs.size ≤ dx
  dne : dx ≠ x
  ns : h'.Ns1 dx (fun y => if y = f then some v else none)
/-- a made error -/
structure ErrMade (h h' : Heap) (f : Str) (e C d : Addr) (v : Value) : Prop where
  keep : ∀ b o, h.get? b = some o → h'.get? b = some o
  new : h.objs.size ≤ e
  obj : ∃ oe vs, h'.get? e = some oe ∧ oe.cls = .ref C ∧ oe.dict = some d ∧ oe.data = .fields vs ∧ vs[1]? = some .none
  dbig : h.objs.size ≤ d
  dne : d ≠ e
  ns : h'.Ns1 d (fun y => if y = f then some v else none)
section
variable {prog : Program} {w : World} {A : Around} {E : Value → Shared → Prop} {R : Result → Shared → Prop} {s : Shared}
variable {K : Frag} {mg : Str → Option Value} {cn f qi : Str} {C U fI : Addr}
theorem err_init (T : ErrTxt K mg cn f qi C U fI) {x t0 : Addr} {v : Value} (X : K.In s.heap) (hlim : s.heap.NoLimit)
    (hx : s.heap.get? x = some (excO C t0)) (hroom : A.depth < recursionLimit)
    (hq : ∀ h' tk dx, InitLeft s.heap h' f x C dx t0 v → R (.ok (.ret .none)) { s with heap := h', toks := tk }) :
    codeAny (model prog w) A (.call (.ref fI) ⟨[.ref x, v], []⟩) R s := by
  obtain ⟨oc, od, kV, doc, pm, an, cdv, ct, osl, p1, p2, q1, q2, q3, q4, ho, hcd⟩ := T.fn
  obtain ⟨nm, q, N, bs, sn, sub, ab, col, dd, k0, k1, k2, k3, k5, hC⟩ := T.cls
  have hcl : clsIn K C = some (ClassData.mk nm bs (.ref C :: [.ref U, .type "Exception", .type "BaseException", .type "object"]) N q true sn sub ab col false) := by
    unfold clsIn
    rw [hC] <;> rfl
  have noN := T.noN
  have fl := T.fl
  have sa := T.sa
  unfold Fld at fl
  clear T
  rcases fl with rfl | rfl | rfl | rfl
  all_goals
    refine Att.call_fn (binds := [("self", .ref x), (_, v)]) X hlim ho hcd hroom (BindsTo.of_eq (by first | rfl | with_unfolding_all rfl)) (by first | rfl | decide | with_unfolding_all rfl) (fun s₁ IC => ?_) rfl rfl rfl
    obtain ⟨h₁, tk₁, rfl⟩ := IC.toInCall.same
    have k : ∀ b o, s.heap.get? b = some o → h₁.get? b = some o := IC.toInCall.keep
    have hn := IC.toInCall.ns
    have X₁ : K.In h₁ := X.keeps k
    have hx₁ := k _ _ hx
    show wpAny _ _ (execs _ _) _ _ _
    refine wpAny_execs_cons (plainObj_wpAny_Assign_Attribute ?_)
    refine ldE (v := v) hn (by first | rfl | with_unfolding_all rfl | kernel_rfl) (ldE (v := .ref x) hn (by first | rfl | with_unfolding_all rfl | kernel_rfl) ?_)
    refine set_plain X₁ (ox := excO C t0) (od := none) ⟨hx₁, rfl, rfl, trivial⟩ sa ?_
    refine first_field X₁ hx₁ hcl rfl rfl noN (fun h₃ tk₃ dx k₃ dn dne hx₃ hn₃ => ?_)
    show wpAny _ _ (execs _ _) _ _ _
    have z : s.heap.objs.size < h₁.objs.size := hn.lt
    exact wpAny_execs_nil (hq h₃ tk₃ dx ⟨fun b o hb e => k₃ b o hb (k b o e), hx₃, Nat.le_of_lt (Nat.lt_of_lt_of_le z dn), dne, hn₃⟩)
theorem err_made (T : ErrTxt K mg cn f qi C U fI) {v : Value} (X : K.In s.heap) (hlim : s.heap.NoLimit) (hroom : A.depth + 1 < recursionLimit)
    (hq : ∀ h' tk e d, ErrMade s.heap h' f e C d v → R (.ok (.ret (.ref e))) { s with heap := h', toks := tk }) :
    codeAny (model prog w) A (.call (.ref C) ⟨[v], []⟩) R s := by
  obtain ⟨nm, q, N, bs, sn, sub, ab, col, dd, k0, k1, k2, k3, k5, hC⟩ := T.cls
  obtain ⟨hp, g, dr, tk, os⟩ := s
  have k : ∀ b o, hp.get? b = some o → ((hp.push (kdv_tup [v])).push (excO C hp.objs.size)).get? b = some o := fun b o e => Heap.get?_push_of_some _ (Heap.get?_push_of_some _ e)
  have hget : ((hp.push (kdv_tup [v])).push (excO C hp.objs.size)).get? (hp.objs.size + 1) = some (excO C hp.objs.size) := by heap_get
  refine call_own F.excBase_Exception (fun X => two_contains U X) (X _ _ hC) (looks_findIn X T.iC) (fun self => bind_fn X self T.tC) (one_fits v) ?_
  refine err_init (s := ⟨(hp.push (kdv_tup [v])).push (excO C hp.objs.size), g, dr, tk, os⟩) T (X.keeps k) (hlim.keeps k) hget ?_ fun h' tk' dx ⟨k', hx, dn, dne, hns⟩ => ?_
  · show A.depth + 1 < recursionLimit
    exact hroom
  · have old : ∀ b o, hp.get? b = some o → h'.get? b = some o := fun b o e => k' b o (Nat.ne_of_lt (Nat.lt_succ_of_lt (Heap.lt_size e))) (k b o e)
    have z : hp.objs.size + 1 + 1 ≤ dx := by
      first
        | (simpa only [Heap.size_push] using dn)
        | exact dn
        | (have q := dn; rw [Heap.size_push, Heap.size_push] at q; exact q)
    exact ⟨rfl, hq h' tk' (hp.objs.size + 1) dx ⟨old, Nat.le_succ _, ⟨_, _, hx, rfl, rfl, rfl, rfl⟩, Nat.le_trans (Nat.le_trans (Nat.le_succ _) (Nat.le_succ _)) z, dne, hns⟩⟩
end
end OwnEx
end PySem

set_option Elab.async false
set_option linter.all false
set_option maxRecDepth 100000
set_option maxHeartbeats 4000000
/-! Raising and reading such errors, over the layer. -/
namespace L2
open PySem PySem.Spec PyProof.Rows
theorem relO_fld {f : Str} {v : V} {v' : Value} (r : RelV v v') (y : Str) : RelO (List.lookup y [(f, v)]) (if y = f then some v' else none) := by
  by_cases hw : y = f
  · subst hw
    rw [if_pos rfl]
    have q : List.lookup y [(y, v)] = some v := by simp [List.lookup]
    rw [q]
    exact r
  · rw [if_neg hw]
    have qw : (y == f) = false := by simpa using hw
    have q2 : List.lookup y [(f, v)] = none := by simp [List.lookup, qw]
    rw [q2]
    trivial
section
variable {X : Cx} {cn f qi : Str} {C U fI : Addr}
/-- E(e) -/
def tMkErr (f : Str) (C : Addr) (ta : TA) : St → Hp → XK → Prop := fun σ H Q =>
  ta σ H fun vs H1 => ∃ v, vs = [v] ∧ ∀ d, H1 d = none → Q (.ref C) (some d) (upd H1 d (.xd [(f, v)]))
theorem pmk_err {a : Expr} {ta : TA} {p pos : Pos} {k : Nat} (T : PySem.OwnEx.ErrTxt X.K X.mg cn f qi C U fI) (hr : Room k X.A) (ha : PA X [a] ta) (hg : Gl X cn)
    (he : starEach (a :: []) X.env = (false, eval a X.env) :: starEach [] X.env := by rfl) (hpl : (backTo pos (starEach [] X.env)).any (·.1) = false := by rfl) :
    PMk X (.Call (.Name cn p) [a] [] pos) (tMkErr f C ta) := by
  intro pins s σ H Q I h
  refine wpAny_Call_Name_kw (ld_glob I hg T.gC ?_ T.dbg)
  refine PySem.W.callWith_K (h₀ := X.base) I.ok.mod.kin T.kC (thn (ha.run pos pins s σ H _ I h) fun us s1 hh => ?_) he hpl
  obtain ⟨vs, H1, I1, r1, v, ev, q1⟩ := hh
  subst ev
  refine ⟨I1.kIn, ?_⟩
  cases r1 with
  | cons rv rn =>
    rename_i v' us'
    cases rn
    show wpAny _ _ (call (.ref C) [v']) _ _ _
    have hlim := I1.nolimit
    obtain ⟨hp, g, dr, tk, os⟩ := s1
    refine wpAny_call (PySem.OwnEx.err_made T I1.kIn hlim (by have := hr.dp; omega) fun h' tk' e d M => ?_)
    show MkP X pins σ Q (.ref e) ⟨h', g, dr, tk', os⟩
    obtain ⟨oe, fv, hoe, hc, hd, hdat, h1⟩ := M.obj
    have hns := M.ns
    obtain ⟨G', g1, g2⟩ := restrict h' fun b => decide (b ≠ e)
    have gk : ∀ b, b ≠ e → G'.get? b = h'.get? b := fun b hb => g1 b (decide_eq_true hb)
    have ge : G'.get? e = none := g2 e (by simp)
    have old : ∀ b o, hp.get? b = some o → G'.get? b = some o := fun b o q => (gk b (Nat.ne_of_lt (Nat.lt_of_lt_of_le (Heap.lt_size q) M.new))).trans (M.keep b o q)
    have ob : ObjOk X.prog X.w (upd H1 d (.xd [(f, v)])) G' d (.xd [(f, v)]) := ⟨_, hns.at (fun o q => (gk d M.dne).trans q), fun y => relO_fld rv y⟩
    have J : Inv X pins σ (upd H1 d (.xd [(f, v)])) ⟨G', g, dr, tk', os⟩ := I1.laid (t' := tk') old M.dbig ob
    refine ⟨e, oe, fv, ⟨G', g, dr, tk', os⟩, _, .ref C, some d, rfl, J, fun b o q => ?_, ge, hoe, ⟨hc, hd⟩, hdat, h1, ?_, rfl, I1.bare, raises_own T.exC T.tyC, q1 d (I1.hok.fresh M.dbig)⟩
    · by_cases hb : b = e
      · have q' : G'.get? b = some o := q
        rw [hb, ge] at q'; cases q'
      · exact (gk b hb).symm.trans q
    · rw [upd_ne (Ne.symm M.dne)]
      exact I1.hok.fresh M.new
/-- raise E(e) -/
def tRaiseErr (f : Str) (C : Addr) (W : WX) (ta : TA) : TS := fun _ σ H => tMkErr f C ta σ H fun cls d H' => W cls d σ H'
theorem ps_raiseErr {a : Expr} {ta : TA} {W : WX} {p pos pos2 : Pos} {k : Nat} (hc : X.calm = true) (T : PySem.OwnEx.ErrTxt X.K X.mg cn f qi C U fI) (hr : Room k X.A) (tk : Takes X W) (ha : PA X [a] ta) (hg : Gl X cn)
    (he : starEach (a :: []) X.env = (false, eval a X.env) :: starEach [] X.env := by rfl) (hpl : (backTo pos (starEach [] X.env)).any (·.1) = false := by rfl) :
    PS X (.Raise (some (.Call (.Name cn p) [a] [] pos)) none pos2) (tRaiseErr f C W ta) := ps_raise hc tk (pmk_err T hr ha hg he hpl)
/-- E(), E an own class without __init__ -/
theorem pmk_err0 {C : Addr} {bmB : List Value} {B newId initId : String} {x : Str} {p pos : Pos} (F : ExcBaseFacts B newId initId bmB) (q : PySem.W.excIn X.K C bmB newId = true)
    (gC : X.mg x = some (.ref C)) (kC : PySem.W.keepIn X.K (.ref C) = true) (r : Raises X (.ref C)) (hg : Gl X x) (hdb : (x == ("__debug__" : Str)) = false := by decide) :
    PMk X (.Call (.Name x p) [] [] pos) (fun _ H Q => Q (.ref C) none H) := by
  intro pins s σ H Q I h
  refine wpAny_Call_Name_kw (ld_glob I hg gC ?_ hdb)
  refine PySem.W.callWith_K0 I.kIn kC ?_
  show wpAny _ _ (call (.ref C) []) _ _ _
  obtain ⟨bm, N, nm, qn, bs, hdct, sn, sub, ab, col, dd, k0, k1, k2, k3, k5, mN, hC, hN, hni, T⟩ := exc_obj I.kIn q
  refine wpAny_call_exc_subT F T hC hN hni (fun h' e hm => ?_) (by show 0 ≤ sizeLine; exact Nat.zero_le _)
  exact mk_of I hm r h (I.hok.gone hm.new)
/-- n.f, n the error that the suite holds (at a; its class cls, its dict d) -/
def tErrFld (f : Str) (C : Addr) (a : Addr) (cls : Value) (d : Option Addr) (te : TE) : TE := fun σ H Q =>
  te σ H fun x H1 => x = .ref a ∧ cls = .ref C ∧ ∃ (dd : Addr) (v : V), d = some dd ∧ H1 dd = some (.xd [(f, v)]) ∧ Q v H1
theorem pe_errFld {a : Addr} {oe : Obj} {cls : Value} {d : Option Addr} {pn : List (Addr × Obj)} {e : Expr} {te : TE} {pos : Pos} (T : PySem.OwnEx.ErrTxt X.K X.mg cn f qi C U fI)
    (hz : Zc cls d oe) (hf : ∃ vs, oe.data = .fields vs) (he : PE (X.suite a ((a, oe) :: pn)) e te)
    (hb : attributeBase e f X.env (eval e X.env) = eval e X.env := by rfl) :
    PE (X.suite a ((a, oe) :: pn)) (.Attribute e f pos) (tErrFld f C a cls d te) := by
  refine ⟨fun pins s σ H Q I h => ?_⟩
  refine attr_of hb (thn (he.run pins s σ H _ I h) fun u s1 hh => ?_)
  obtain ⟨x, H1, I1, rx, ex, ec, dd, v, ed, ea, q⟩ := hh
  subst ex
  obtain rfl : u = Value.ref a := rx
  subst ec
  subst ed
  obtain ⟨ha, _⟩ := I1.pin (a, oe) (List.mem_append_left _ List.mem_cons_self)
  obtain ⟨vs, hd⟩ := hf
  have hx : ObjOk X.prog X.w H1 s1.heap dd (.xd [(f, v)]) := I1.hok dd _ ea
  obtain ⟨mA, hns, hr⟩ := hx
  obtain ⟨od, ho, hl⟩ := lookIn_ns hns
  have l : List.lookup f [(f, v)] = some v := by simp [List.lookup]
  obtain ⟨u, hu, ru⟩ := RelO.some_of (v := v) (o := mA f) (by rw [← l]; exact hr f)
  have J : PySem.W.InstAt s1.heap a oe C (some od) := ⟨ha, hz.1, by unfold PySem.W.notCls; rw [hd] <;> rfl, by rw [hz.2]; exact ho⟩
  exact HandSPX.exc_get I1.kIn J T.ga T.gg T.exC (PySem.W.findObj_own T.hdC T.noN rfl (by rw [hl, hu])) (handed_of ru) ⟨v, H1, I1.tok _, ru, q⟩
end
end L2

set_option Elab.async false
set_option linter.all false
set_option maxRecDepth 100000
set_option maxHeartbeats 4000000
/-! try with several except clauses, each with a name or without. -/
namespace L2
open PySem PySem.Spec PyProof.Rows
/-- one clause: the class, the name's slot, if any, what the suite asks -/
abbrev Clause := Value × Option Nat × (Addr → Value → Option Addr → TS)
def clearedAt (D : Ends) : Option Nat → Ends
  | none => D
  | some i => { nx := fun σ' H' => D.nx (σ'.set i none) H', rt := D.rt, bk := fun σ' H' => D.bk (σ'.set i none) H', ct := fun σ' H' => D.ct (σ'.set i none) H' }
def namedAt (σ : St) (a : Addr) : Option Nat → St
  | none => σ
  | some i => σ.set i (some (.ref a))
def wClauses (K : PySem.W.Frag) (Wout : WX) (D : Ends) : List Clause → WX
  | [] => Wout
  | (c, i, ts) :: r => fun cls d σ H => ∃ b, PySem.W.exmOne K cls c = some b ∧
      (b = true → ∀ a, H a = none → ts a cls d (clearedAt D i) (namedAt σ a i) H) ∧ (b = false → wClauses K Wout D r cls d σ H)
inductive ClausesOk (X : Cx) : List ExceptHandler → List Clause → Prop
  | nil : ClausesOk X [] []
  | bare {x : Str} {c : Value} {ts : Addr → Value → Option Addr → TS} {b₀ : Stmt} {suite : List Stmt} {np pos' : Pos} {hds : List ExceptHandler} {l : List Clause}
      (hc : Names X x c)
      (hsu : ∀ (a : Addr) (oe : Obj) (cls : Value) (d : Option Addr) (pn : List (Addr × Obj)), Zc cls d oe → (∃ vs, oe.data = .fields vs) →
        PSs (X.suite a ((a, oe) :: pn)) (b₀ :: suite) (ts a cls d)) (r : ClausesOk X hds l) :
      ClausesOk X (.ExceptHandler (some (.Name x np)) none (b₀ :: suite) pos' :: hds) ((c, none, ts) :: l)
  | named {x n : Str} {i : Nat} {c : Value} {ts : Addr → Value → Option Addr → TS} {b₀ : Stmt} {suite : List Stmt} {np pos' : Pos} {hds : List ExceptHandler} {l : List Clause}
      (hc : Names X x c) (hN : X.N.Nodup) (hi : X.N[i]? = some n) (hln : X.env.kindOf n = some .local)
      (hsu : ∀ (a : Addr) (oe : Obj) (cls : Value) (d : Option Addr) (pn : List (Addr × Obj)), Zc cls d oe → (∃ vs, oe.data = .fields vs) →
        PSs (X.suite a ((a, oe) :: pn)) (b₀ :: suite) (ts a cls d)) (r : ClausesOk X hds l) :
      ClausesOk X (.ExceptHandler (some (.Name x np)) (some n) (b₀ :: suite) pos' :: hds) ((c, some i, ts) :: l)
section
variable {X : Cx} {body : List Stmt} {h₀ : ExceptHandler} {hds : List ExceptHandler} {l : List Clause} {pos : Pos} {tb : WX → TS} {Wout : WX}
theorem ps_try_clauses (hs : X.stack = X.env :: X.outer) (hf : X.env.frame = some X.env.locals) (tk : Takes X Wout)
    (hb : ∀ (W : WX) (pn : List (Addr × Obj)) (xe : Value → Shared → Prop), Takes (X.tr pn xe) W → PassesOwn (model X.prog X.w) X.A X.env xe →
      PSs (X.tr pn xe) body (tb W))
    (hh : ClausesOk X (h₀ :: hds) l) : PS X (.Try body (h₀ :: hds) [] [] pos) (fun D σ H => tb (wClauses X.K Wout D l) D σ H) := by
  refine ⟨fun pins s σ H D I h => ?_⟩
  have ok := I.ok
  have hfr : X.A.frames = some (X.env :: X.outer) := by rw [ok.frames, hs]
  refine wpAny_Try_except ?_
  refine wpAny_mono ((hb (wClauses X.K Wout D l) (X.pn ++ pins)
    (fun e s₁ => wpAny (model X.prog X.w) X.A (noteFrame e X.env) (fun _ s₂ =>
      wpAny (model X.prog X.w) X.A (setFlight e none) (fun _ s₃ =>
        wpAny (model X.prog X.w) X.A (handleBy e X.env (h₀ :: hds)) (SP X pins D) X.xe s₃) X.xe s₂) X.xe s₁)
    (fun u s' xx => ?_) PassesOwn.looking).run [] s σ H D (I.toTry _) h) (fun f s1 hsp => ?_) (fun e s1 he => he)
  · obtain ⟨a, B, sI, pins', σ', H', cls, d, rfl, J', nb, up, sky, na, os, ag, w⟩ := xx
    have J : Inv X pins σ' H' sI := J'.ofTry ok
    have sky' : Sky B (X.env :: X.outer) a (Zc cls d) X.env.locals s'.heap := by
      rw [← hs]
      exact sky
    show wpAny (model X.prog X.w) X.A (noteFrame (.ref a) X.env) _ _ _
    refine Sky.land Zc.steady hfr hf sky' fun h3 fl3 up3 => ?_
    have J3 : Inv X pins σ' H' { s' with heap := h3 } := J.landed nb fl3.1 (up.trans up3) os ag
    obtain ⟨oe3, vs3, he3, hz3, hd3⟩ := fl3.there
    have noFrame : ∀ {h : Heap} {o : Obj} {vs : Array Value}, h.FunFrames B (X.env :: X.outer) → h.get? a = some o → o.data = .fields vs →
        a ∉ frs (X.env :: X.outer) := fun {h o vs} ff e dd hm => by
      obtain ⟨_, o', e', hnf⟩ := ff.mem hm
      rw [e] at e'
      cases e'
      exact hnf _ dd
    have nfr := noFrame fl3.2.2.1 he3 hd3
    have nL : a ≠ X.env.locals := fun z => nfr (List.mem_filterMap.mpr ⟨X.env, List.mem_cons_self, by rw [hf, z]⟩)
    have nF : a ∉ X.fs := fun hm => by
      obtain ⟨e, he, q⟩ := List.mem_filterMap.mp hm
      exact nfr (List.mem_filterMap.mpr ⟨e, List.mem_cons_of_mem _ he, q⟩)
    have S3 := J3.suite he3 hd3 na nL nF
    have go : ∀ {hds' : List ExceptHandler} {l' : List Clause}, ClausesOk X hds' l' → wClauses X.K Wout D l' cls d σ' H' →
        wpAny (model X.prog X.w) X.A (handleBy (.ref a) X.env hds') (SP X pins D) X.xe { s' with heap := h3 } := by
      intro hds' l' hk
      induction hk with
      | nil =>
        intro w
        refine wpAny_handleBy_nil ?_
        obtain ⟨k1, k2, k3, oe, vs, T, oT, ts', he, hz, hd, h1, hr⟩ := id fl3
        unfold PySem.passOn
        refine wpAny_bind (wpAny_field he hd h1 ?_)
        rw [if_neg (show ¬ ((Value.ref T == Value.none) = true) from by simp)]
        have fin : wpAny (model X.prog X.w) X.A (setFlight (.ref a) X.env.frame)
            (fun _ s4 => wpAny (model X.prog X.w) X.A (throw (.ref a) : Sem Flow) (SP X pins D) X.xe s4) X.xe { s' with heap := h3 } := by
          rw [hf]
          refine HandSPX.setFlight_upZ fl3 fun h4 hh4 up4 => wpAny_throw (tk _ _ ?_)
          exact ⟨a, B, sI, pins, σ', H', cls, d, rfl, J, nb, (up.trans up3).trans up4, .inr (.inr (by rw [hs]; exact hh4)), na, os, ag, w⟩
        first
          | exact wpAny_bind (wpAny_pure (wpAny_bind fin))
          | exact wpAny_bind fin
      | @bare x c ts b₀ suite np pos' hds2 l2 hc hsu r ih =>
        intro w
        obtain ⟨b, hb1, hyes, hno⟩ := w
        refine wpAny_handleBy_cons (codeAny_handlers_test ?_) (by intro q; cases q)
        have LT : PySem.W.Looks (model X.prog X.w) h3 (typeOf (.ref a)) cls := fun A Q E s k q => wpAny_typeOf_ref (k _ _ he3) (by rw [hz3.1]; exact q)
        have LM := PySem.W.exm_one (M := model X.prog X.w) (J3.kIn) LT hb1
        have test : ∀ {Q : Value → Shared → Prop} {E : Value → Shared → Prop}, Q c { s' with heap := h3 } →
            wpAny (model X.prog X.w) (X.A.mark (some (.ref a))) (eval (.Name x np) X.env) Q E { s' with heap := h3 } := fun {Q E} q => by
          obtain ⟨hg, hdbg, hm | ⟨hm, hv, hnn⟩⟩ := hc
          · exact ld_glob (X := X.suite a ((a, oe3) :: (X.pn ++ pins))) S3 hg hm q hdbg
          · exact ld_blt (X := X.suite a ((a, oe3) :: (X.pn ++ pins))) S3 hg hm hv q hnn hdbg
        refine test (LM.here ?_)
        cases b with
        | true =>
          refine codeAny_handlers_suite ?_
          refine HandSPX.lands_againZ fl3 fun h4 fl4 up4 => ?_
          have J4 : Inv X pins σ' H' { s' with heap := h4 } := J.landed nb fl4.1 ((up.trans up3).trans up4) os ag
          obtain ⟨oe4, vs4, he4, hz4, hd4⟩ := fl4.there
          have S4 := J4.suite he4 hd4 na nL nF
          refine wpAny_mono ((hsu a oe4 cls d (X.pn ++ pins) hz4 ⟨_, hd4⟩).run [] _ _ H' _ S4 (hyes rfl a na)) (fun f s6 hsp => ?_) (fun _ _ z => False.elim z)
          cases f with
          | next =>
            obtain ⟨σ6, H6, S6, q6⟩ := hsp
            exact ⟨_, _, S6.unsuite ok, q6⟩
          | brk =>
            obtain ⟨σ6, H6, S6, q6⟩ := hsp
            exact ⟨_, _, S6.unsuite ok, q6⟩
          | cont =>
            obtain ⟨σ6, H6, S6, q6⟩ := hsp
            exact ⟨_, _, S6.unsuite ok, q6⟩
          | ret u =>
            obtain ⟨v6, σ6, H6, S6, r6, q6⟩ := hsp
            exact ⟨_, _, _, S6.unsuite ok, r6, q6⟩
        | false =>
          show wpAny _ X.A (handleBy (.ref a) X.env hds2) _ _ _
          exact ih (hno rfl)
      | @named x n i c ts b₀ suite np pos' hds2 l2 hc hN hi hln hsu r ih =>
        intro w
        obtain ⟨b, hb1, hyes, hno⟩ := w
        have hloc : Loc X.env.scope n := .inl hln
        refine wpAny_handleBy_cons (codeAny_handlers_test ?_) (by intro q; cases q)
        have LT : PySem.W.Looks (model X.prog X.w) h3 (typeOf (.ref a)) cls := fun A Q E s k q => wpAny_typeOf_ref (k _ _ he3) (by rw [hz3.1]; exact q)
        have LM := PySem.W.exm_one (M := model X.prog X.w) (J3.kIn) LT hb1
        have test : ∀ {Q : Value → Shared → Prop} {E : Value → Shared → Prop}, Q c { s' with heap := h3 } →
            wpAny (model X.prog X.w) (X.A.mark (some (.ref a))) (eval (.Name x np) X.env) Q E { s' with heap := h3 } := fun {Q E} q => by
          obtain ⟨hg, hdbg, hm | ⟨hm, hv, hnn⟩⟩ := hc
          · exact ld_glob (X := X.suite a ((a, oe3) :: (X.pn ++ pins))) S3 hg hm q hdbg
          · exact ld_blt (X := X.suite a ((a, oe3) :: (X.pn ++ pins))) S3 hg hm hv q hnn hdbg
        refine test (LM.here ?_)
        cases b with
        | true =>
          refine codeAny_handlers_suite_as ?_
          refine HandSPX.lands_againZ fl3 fun h4 fl4 up4 => ?_
          have J4 : Inv X pins σ' H' { s' with heap := h4 } := J.landed nb fl4.1 ((up.trans up3).trans up4) os ag
          obtain ⟨oe4, vs4, he4, hz4, hd4⟩ := fl4.there
          have S4 := J4.suite he4 hd4 na nL nF
          refine store_ok (X := X.suite a ((a, oe4) :: (X.pn ++ pins))) (v := .ref a) S4 hN hi hloc rfl (fun s5 S5 => ?_) (.inr hln)
          refine wpAny_mono ((hsu a oe4 cls d (X.pn ++ pins) hz4 ⟨_, hd4⟩).run [] s5 _ H' _ S5 (hyes rfl a na)) (fun f s6 hsp => ?_) (fun _ _ z => False.elim z)
          have end_ : ∀ {σ6 : St} {H6 : Hp} {Q : Shared → Prop}, Inv (X.suite a ((a, oe4) :: (X.pn ++ pins))) [] σ6 H6 s6 →
              (∀ s7, Inv X pins (σ6.set i none) H6 s7 → Q s7) →
              wpAny (model X.prog X.w) X.A (do bindName X.env n .none; unbindBehindTheSuite X.env n pos') (fun _ s7 => Q s7) X.xe s6 :=
            fun {σ6 H6 Q} S6 hq => gone_ok (S6.unsuite ok) hN hi hln hq
          cases f with
          | next =>
            obtain ⟨σ6, H6, S6, q6⟩ := hsp
            exact end_ S6 fun s7 J7 => ⟨_, _, J7, q6⟩
          | brk =>
            obtain ⟨σ6, H6, S6, q6⟩ := hsp
            exact end_ S6 fun s7 J7 => ⟨_, _, J7, q6⟩
          | cont =>
            obtain ⟨σ6, H6, S6, q6⟩ := hsp
            exact end_ S6 fun s7 J7 => ⟨_, _, J7, q6⟩
          | ret u =>
            obtain ⟨v6, σ6, H6, S6, r6, q6⟩ := hsp
            exact end_ S6 fun s7 J7 => ⟨_, _, _, J7, r6, q6⟩
        | false =>
          show wpAny _ X.A (handleBy (.ref a) X.env hds2) _ _ _
          exact ih (hno rfl)
    exact go hh w
  · cases f with
    | next =>
      obtain ⟨σ', H', J', q⟩ := hsp
      exact wpAny_execs_nil ⟨σ', H', J'.ofTry ok, q⟩
    | brk =>
      obtain ⟨σ', H', J', q⟩ := hsp
      exact ⟨σ', H', J'.ofTry ok, q⟩
    | cont =>
      obtain ⟨σ', H', J', q⟩ := hsp
      exact ⟨σ', H', J'.ofTry ok, q⟩
    | ret u =>
      obtain ⟨v, σ', H', J', r, q⟩ := hsp
      exact ⟨v, σ', H', J'.ofTry ok, r, q⟩
end
end L2

set_option Elab.async false
set_option linter.all false
set_option maxRecDepth 100000
set_option maxHeartbeats 4000000
/-! An own error made by a call with keywords, held as a value; its field read. -/
namespace PySem
namespace OwnEx
open PySem.W PySem.Calls PyProof.Rows PySem.HandSPX
section
variable {M : Model} {A : Around} {E : Value → Shared → Prop} {h : Heap} {g : Array GenState} {d : Drawn} {t : Nat} {os : OsState}
variable {nm q : Str} {C N : Addr} {bs bm bmB : List Value} {hdct : Bool} {sn : List Str} {sub : List Value} {ab : Bool} {col : Option Bool} {dd : Option Addr}
variable {k0 k1 k2 k3 k5 : Option Value} {B newId initId : String} {kw : List (Str × Value)}
theorem newCheck_kw (F : ExcBaseFacts B newId initId bmB) (hT : ∀ X : String, bm.contains (.type X) = bmB.contains (.type X)) {rest : List Value} {Q : Unit → Shared → Prop}
    (hC : h.get? C = some (excClassObj nm q C N bs bm hdct sn sub ab col dd k0 k1 k2 k3 k5 newId)) (hq : Q () ⟨h, g, d, t, os⟩) :
    wpAny M A (checkBuiltinCall newId ⟨.ref C :: rest, kw⟩) Q E ⟨h, g, d, t, os⟩ := by
  have inB : (Value.ref C :: bm).contains (.type B) = true := by
    rw [List.contains_cons, hT, F.hasB, Bool.or_true]
  have st := F.noStar
  simp only [checkBuiltinCall, F.newKind, F.newSplit, F.newRow]
  repeat (first
    | refine wpAny_loadPart_at hC ?_
    | (refine wpAny_isSubtype_exc hC ?_
       rw [inB])
    | refine wpAny_staticBase_exc hC ?_
    | refine wpAny_madeBy_exc hC ?_
    | simp only [bne_self_eq_false, Bool.false_eq_true, if_false]
    | wp_step)
  exact hq
theorem callCheck_kw {rest : List Value} {Q : Unit → Shared → Prop} (hC : h.get? C = some (excClassObj nm q C N bs bm hdct sn sub ab col dd k0 k1 k2 k3 k5 newId))
    (hq : Q () ⟨h, g, d, t, os⟩) : wpAny M A (checkBuiltinCall "type.__call__" ⟨.ref C :: rest, kw⟩) Q E ⟨h, g, d, t, os⟩ := by
  have ts := tc_sub
  have hT : (⟨h, g, d, t, os⟩ : Shared).TypeIs (.ref C) "type" := ⟨_, hC, rfl⟩
  simp only [checkBuiltinCall, tc_kind, tc_split]
  repeat (any_goals (first
    | assumption
    | with_reducible refine wpAny_loadPart_at hC ?_
    | with_reducible refine wpAny_onRaise ?_
    | with_reducible refine wpAny_map ?_
    | wp_step))
end
section
variable {prog : Program} {w : World} {A : Around} {E : Value → Shared → Prop} {R : Result → Shared → Prop} {h : Heap} {g : Array GenState} {d : Drawn} {t : Nat} {os : OsState}
variable {nm q : Str} {C N : Addr} {bs bm bmB : List Value} {hdct : Bool} {sn : List Str} {sub : List Value} {ab : Bool} {col : Option Bool} {dd : Option Addr}
variable {k0 k1 k2 k3 k5 : Option Value} {B newId initId : String} {kw : List (Str × Value)}
theorem new_kw (F : ExcBaseFacts B newId initId bmB) (hT : ∀ X : String, bm.contains (.type X) = bmB.contains (.type X)) {rest : List Value}
    (hC : h.get? C = some (excClassObj nm q C N bs bm hdct sn sub ab col dd k0 k1 k2 k3 k5 newId))
    (hq : R (.ok (.ret (.ref (h.objs.size + 1)))) ⟨(h.push (kdv_tup rest)).push (excO C h.objs.size), g, d, t, os⟩) (hrest : rest.length ≤ sizeLine) :
    codeAny (model prog w) A (.builtin newId ⟨.ref C :: rest, kw⟩) R ⟨h, g, d, t, os⟩ := by
  have en := F.ends
  have inB : (Value.ref C :: bm).contains (.type B) = true := by
    rw [List.contains_cons, hT, F.hasB, Bool.or_true]
  have inA : (Value.ref C :: bm).contains (.type "AttributeError") = false := by
    rw [List.contains_cons, hT, F.noAttr]
    rfl
  have inN : (Value.ref C :: bm).contains (.type "NameError") = false := by
    rw [List.contains_cons, hT, F.noName]
    rfl
  refine codeAny_builtinAt F.entry ?_
  unfold Builtin.«BaseException.__new__»
  refine wpAt_bind ?_
  show wpAt _ _ _ (stack >>= _) _ _ _
  refine wpAt_bind (wpAt_stack fun p below => wpAt_of_wpAny ?_)
  wp_walk
  refine wpAt_of_wpAny ?_
  rw [F.owner]
  repeat (first
    | with_reducible refine wpAny_madeHere_exc F.canon hC ?_
    | with_reducible refine wpAny_loadPart_at hC ?_
    | (with_reducible refine wpAny_isSubtype_exc hC ?_
       first
         | rw [inB]
         | rw [inA]
         | rw [inN])
    | wp_step)
  show R _ _
  rw [Heap.size_push]
  exact hq
theorem type_call_kw (F : ExcBaseFacts B newId initId bmB) (hT : ∀ X : String, bm.contains (.type X) = bmB.contains (.type X)) {rest : List Value} {fI : Addr} {Q : Fin → Shared → Prop}
    (hC : h.get? C = some (excClassObj nm q C N bs bm hdct sn sub ab col dd k0 k1 k2 k3 k5 newId))
    (hi : W.Looks (model prog w) h (typeLookup (.ref C) "__init__") (some (.ref fI)))
    (hb : ∀ self, W.Looks (model prog w) h (bindSpecial (.ref fI) self) (.ref fI, [self])) (hrest : rest.length ≤ sizeLine)
    (hq : codeAny (model prog w) A (.call (.ref fI) ⟨.ref (h.objs.size + 1) :: rest, kw⟩)
      (fun r s' => match r with
        | .ok (.ret v) => v = .none ∧ Q (.done (.ret (.ref (h.objs.size + 1)))) s'
        | .ok _ => False
        | .error e => E e s') ⟨(h.push (W.kdv_tup rest)).push (excO C h.objs.size), g, d, t, os⟩) :
    wpAny (model prog w) A (Builtin.«type.__call__» ⟨.ref C :: rest, kw⟩) Q E ⟨h, g, d, t, os⟩ := by
  repeat (first
    | with_reducible refine wpAny_loadPart_at hC ?_
    | with_reducible refine wpAny_madeBy_exc hC ?_
    | wp_step)
  refine codeAny_call_builtin_code (Code.quiet_builtin _ F.quiet) (newCheck_kw F hT hC ?_)
  refine new_kw F hT hC ?_ hrest
  show wpAny _ _ _ _ _ _
  have k : ∀ b o, h.get? b = some o → ((h.push (W.kdv_tup rest)).push (excO C h.objs.size)).get? b = some o :=
    fun b o e => Heap.get?_push_of_some _ (Heap.get?_push_of_some _ e)
  have hC' := k _ _ hC
  have here : ((h.push (W.kdv_tup rest)).push (excO C h.objs.size)).get? (h.objs.size + 1) = some (excO C h.objs.size) := by heap_get
  have inC : (Value.ref C :: bm).contains (.ref C) = true := by simp
  have li := hi.keeps k
  have lb := (hb (.ref (h.objs.size + 1))).keeps k
  unfold isInstance
  repeat (first
    | with_reducible refine wpAny_loadPart_at here ?_
    | (with_reducible refine wpAny_isSubtype_exc hC' ?_
       rw [inC])
    | wp_step)
  show wpAny _ _ (typeLookup (.ref C) _) _ _ _
  refine li.at ?_
  refine wpAny_holding (wpAny_bind (lb.at ?_))
  refine wpAny_bind (wpAny_call (codeAny_mono hq fun r s' z => ?_))
  rcases r with e | (v | _ | _ | _) <;> first | exact z | exact z.elim | skip
  obtain ⟨rfl, z⟩ := z
  first
    | exact wpAny_pure (wpAny_pure z)
    | (wp_walk; exact z)
theorem call_kw (F : ExcBaseFacts B newId initId bmB) (hT : ∀ X : String, bm.contains (.type X) = bmB.contains (.type X)) {rest : List Value} {fI : Addr}
    (hC : h.get? C = some (excClassObj nm q C N bs bm hdct sn sub ab col dd k0 k1 k2 k3 k5 newId))
    (hi : W.Looks (model prog w) h (typeLookup (.ref C) "__init__") (some (.ref fI)))
    (hb : ∀ self, W.Looks (model prog w) h (bindSpecial (.ref fI) self) (.ref fI, [self])) (hrest : rest.length ≤ sizeLine)
    (hq : codeAny (model prog w) (A.under (.builtin "type.__call__" ⟨.ref C :: rest, kw⟩)) (.call (.ref fI) ⟨.ref (h.objs.size + 1) :: rest, kw⟩)
      (W.InitBack (h.objs.size + 1) R) ⟨(h.push (W.kdv_tup rest)).push (excO C h.objs.size), g, d, t, os⟩) :
    codeAny (model prog w) A (.call (.ref C) ⟨rest, kw⟩) R ⟨h, g, d, t, os⟩ := by
  have tl := tc_lookup
  have tb := tc_bind (.ref C)
  have hTy : (⟨h, g, d, t, os⟩ : Shared).TypeIs (.ref C) "type" := ⟨_, hC, rfl⟩
  refine codeAny_of_tree ?_
  show wpAny _ _ (callAny (.ref C) _) _ _ _
  repeat (any_goals (first
    | assumption
    | with_reducible refine wpAny_loadPart_at hC ?_
    | wp_step))
  refine ⟨rfl, ?_⟩
  refine codeAny_call_builtin_at (Code.quiet_builtin _ (by decide +kernel)) entry_typeCall
    (callCheck_kw hC (type_call_kw F hT hC hi hb hrest ?_))
  refine codeAny_mono hq fun r s' z => ?_
  rcases r with e | (v | _ | _ | _) <;> exact z
end
section
variable {prog : Program} {w : World} {A : Around} {E : Value → Shared → Prop} {R : Result → Shared → Prop} {s : Shared}
variable {K : Frag} {mg : Str → Option Value} {cn f qi : Str} {C U fI : Addr}
theorem err_init_kw (T : ErrTxt K mg cn f qi C U fI) {x t0 : Addr} {v : Value} (X : K.In s.heap) (hlim : s.heap.NoLimit)
    (hx : s.heap.get? x = some (excO C t0)) (hroom : A.depth < recursionLimit)
    (hq : ∀ h' tk dx, InitLeft s.heap h' f x C dx t0 v → R (.ok (.ret .none)) { s with heap := h', toks := tk }) :
    codeAny (model prog w) A (.call (.ref fI) ⟨[.ref x], [(f, v)]⟩) R s := by
  obtain ⟨oc, od, kV, doc, pm, an, cdv, ct, osl, p1, p2, q1, q2, q3, q4, ho, hcd⟩ := T.fn
  obtain ⟨nm, q, N, bs, sn, sub, ab, col, dd, k0, k1, k2, k3, k5, hC⟩ := T.cls
  have hcl : clsIn K C = some (ClassData.mk nm bs (.ref C :: [.ref U, .type "Exception", .type "BaseException", .type "object"]) N q true sn sub ab col false) := by
    unfold clsIn
    rw [hC] <;> rfl
  have noN := T.noN
  have fl := T.fl
  have sa := T.sa
  unfold Fld at fl
  clear T
  rcases fl with rfl | rfl | rfl | rfl
  all_goals
    refine Att.call_fn (binds := [("self", .ref x), (_, v)]) X hlim ho hcd hroom (BindsTo.of_eq (by first | rfl | with_unfolding_all rfl | kernel_rfl)) (by first | rfl | decide | with_unfolding_all rfl) (fun s₁ IC => ?_) rfl rfl rfl
    obtain ⟨h₁, tk₁, rfl⟩ := IC.toInCall.same
    have k : ∀ b o, s.heap.get? b = some o → h₁.get? b = some o := IC.toInCall.keep
    have hn := IC.toInCall.ns
    have X₁ : K.In h₁ := X.keeps k
    have hx₁ := k _ _ hx
    show wpAny _ _ (execs _ _) _ _ _
    refine wpAny_execs_cons (plainObj_wpAny_Assign_Attribute ?_)
    refine ldE (v := v) hn (by first | rfl | with_unfolding_all rfl | kernel_rfl) (ldE (v := .ref x) hn (by first | rfl | with_unfolding_all rfl | kernel_rfl) ?_)
    refine set_plain X₁ (ox := excO C t0) (od := none) ⟨hx₁, rfl, rfl, trivial⟩ sa ?_
    refine first_field X₁ hx₁ hcl rfl rfl noN (fun h₃ tk₃ dx k₃ dn dne hx₃ hn₃ => ?_)
    show wpAny _ _ (execs _ _) _ _ _
    have z : s.heap.objs.size < h₁.objs.size := hn.lt
    exact wpAny_execs_nil (hq h₃ tk₃ dx ⟨fun b o hb e => k₃ b o hb (k b o e), hx₃, Nat.le_of_lt (Nat.lt_of_lt_of_le z dn), dne, hn₃⟩)
theorem err_made_kw (T : ErrTxt K mg cn f qi C U fI) {v : Value} (X : K.In s.heap) (hlim : s.heap.NoLimit) (hroom : A.depth + 1 < recursionLimit)
    (hq : ∀ h' tk e d, ErrMade s.heap h' f e C d v → R (.ok (.ret (.ref e))) { s with heap := h', toks := tk }) :
    codeAny (model prog w) A (.call (.ref C) ⟨[], [(f, v)]⟩) R s := by
  obtain ⟨nm, q, N, bs, sn, sub, ab, col, dd, k0, k1, k2, k3, k5, hC⟩ := T.cls
  obtain ⟨hp, g, dr, tk, os⟩ := s
  have k : ∀ b o, hp.get? b = some o → ((hp.push (kdv_tup [])).push (excO C hp.objs.size)).get? b = some o := fun b o e => Heap.get?_push_of_some _ (Heap.get?_push_of_some _ e)
  have hget : ((hp.push (kdv_tup [])).push (excO C hp.objs.size)).get? (hp.objs.size + 1) = some (excO C hp.objs.size) := by heap_get
  refine call_kw F.excBase_Exception (fun X => two_contains U X) (X _ _ hC) (looks_findIn X T.iC) (fun self => bind_fn X self T.tC) (Nat.zero_le _) ?_
  refine err_init_kw (s := ⟨(hp.push (kdv_tup [])).push (excO C hp.objs.size), g, dr, tk, os⟩) T (X.keeps k) (hlim.keeps k) hget ?_ fun h' tk' dx ⟨k', hx, dn, dne, hns⟩ => ?_
  · show A.depth + 1 < recursionLimit
    exact hroom
  · have old : ∀ b o, hp.get? b = some o → h'.get? b = some o := fun b o e => k' b o (Nat.ne_of_lt (Nat.lt_succ_of_lt (Heap.lt_size e))) (k b o e)
    have z : hp.objs.size + 1 + 1 ≤ dx := by
      first
        | (simpa only [Heap.size_push] using dn)
        | exact dn
        | (have q := dn; rw [Heap.size_push, Heap.size_push] at q; exact q)
    exact ⟨rfl, hq h' tk' (hp.objs.size + 1) dx ⟨old, Nat.le_succ _, ⟨_, _, hx, rfl, rfl, rfl, rfl⟩, Nat.le_trans (Nat.le_trans (Nat.le_succ _) (Nat.le_succ _)) z, dne, hns⟩⟩
end
end OwnEx
end PySem

set_option Elab.async false
set_option linter.all false
set_option maxRecDepth 100000
set_option maxHeartbeats 4000000
namespace L2
open PySem PySem.Spec PyProof.Rows
section
variable {X : Cx} {cn f qi : Str} {C U fI : Addr}
/-- E(f=e).f -/
def tNewErr (f : Str) (te : TA) : TE := fun σ H Q => te σ H fun vs H1 => ∃ v, vs = [v] ∧ ∀ d, H1 d = none → Q v (upd H1 d (.xd [(f, v)]))
theorem pe_newErr {e : Expr} {ta : TA} {p pos pos2 kpos : Pos} {k : Nat} (T : PySem.OwnEx.ErrTxt X.K X.mg cn f qi C U fI) (hr : Room k X.A) (ha : PK X [⟨some f, e, kpos⟩] ta) (hg : Gl X cn)
    (hall : (backToKw pos (keywordEach [⟨some f, e, kpos⟩] X.env)).all (·.1.isSome) = true := by rfl)
    (hks : (backToKw pos (keywordEach [⟨some f, e, kpos⟩] X.env)).filterMap (·.1) = [f] := by rfl)
    (hpl : ((backTo pos (starEach [] X.env)).any (·.1) || (backToKw pos (keywordEach [⟨some f, e, kpos⟩] X.env)).any (·.1.isNone)) = false := by rfl)
    (hb : attributeBase (.Call (.Name cn p) [] [⟨some f, e, kpos⟩] pos) f X.env (eval (.Call (.Name cn p) [] [⟨some f, e, kpos⟩] pos) X.env) = eval (.Call (.Name cn p) [] [⟨some f, e, kpos⟩] pos) X.env := by rfl) :
    PE X (.Attribute (.Call (.Name cn p) [] [⟨some f, e, kpos⟩] pos) f pos2) (tNewErr f ta) := by
  refine ⟨fun pins s σ H Q I h => ?_⟩
  refine attr_of hb (wpAny_Call_Name_kw (ld_glob I hg T.gC ?_ T.dbg))
  refine PySem.W.callWith_KW0 (h₀ := X.base) I.ok.mod.kin T.kC hall (thn (ha.run pos pins s σ H _ I h) fun ws s1 hh => ?_) hpl
  obtain ⟨vs, H1, I1, r1, v, ev, q1⟩ := hh
  subst ev
  refine ⟨I1.kIn, ?_⟩
  rw [hks]
  cases r1 with
  | cons rv rn =>
    rename_i v' us'
    cases rn
    show wpAny _ _ (call (.ref C) [] [(f, v')]) _ _ _
    have hlim := I1.nolimit
    obtain ⟨hp, g, dr, tk, os⟩ := s1
    refine wpAny_call (PySem.OwnEx.err_made_kw T I1.kIn hlim (by have := hr.dp; omega) fun h' tk' e d M => ?_)
    show wpAny _ _ (getAttr (.ref e) f true) _ _ _
    obtain ⟨oe, fv, hoe, hc, hd, hdat, h1⟩ := M.obj
    have hns := M.ns
    have ob : ObjOk X.prog X.w (upd H1 d (.xd [(f, v)])) h' d (.xd [(f, v)]) := ⟨_, hns, fun y => relO_fld rv y⟩
    have J : Inv X pins σ (upd H1 d (.xd [(f, v)])) ⟨h', g, dr, tk', os⟩ := I1.laid (t' := tk') M.keep M.dbig ob
    obtain ⟨od, ho, hl⟩ := lookIn_ns hns
    have JA : PySem.W.InstAt h' e oe C (some od) := ⟨hoe, hc, by unfold PySem.W.notCls; rw [hdat] <;> rfl, by rw [hd]; exact ho⟩
    have hl' := (hl f).trans (congrArg some (if_pos (rfl : f = f)))
    exact HandSPX.exc_get J.kIn JA T.ga T.gg T.exC (PySem.W.findObj_own T.hdC T.noN rfl hl') (handed_of rv) ⟨v, _, J.tok _, rv, q1 d (I1.hok.fresh M.dbig)⟩
end
end L2

set_option Elab.async false
set_option linter.all false
set_option maxRecDepth 100000
namespace K00
open PySem L2
def top (i : Nat) : Stmt := PySem.Challenge.pw_whoiswho_k00_whole_errors_and_what_they.main.body.getD i (.Pass ⟨0, 0, 0, 0⟩)
abbrev sBox : Stmt := top 40
abbrev sTake : Stmt := top 41
abbrev sPick : Stmt := top 42
abbrev sRaiseA : Stmt := top 43
abbrev sRaiseB : Stmt := top 44
abbrev sRaiseC : Stmt := top 45
abbrev sRaise : Stmt := top 46
abbrev sCaughtA : Stmt := top 47
abbrev sCaughtB : Stmt := top 48
abbrev sCaughtC : Stmt := top 49
abbrev sIsBase : Stmt := top 50
abbrev sLaw : Stmt := top 51
theorem scBox : FnScope ["script", "k", "cell"] ["script", "k"] (defScope sBox) := ⟨rfl, rfl, rfl, by decide +kernel, rfl, by decide +kernel, by decide +kernel⟩
theorem scTake : FnScope ["box", "many", "digit", "raw"] ["box", "many"] (defScope sTake) := ⟨rfl, rfl, rfl, by decide +kernel, rfl, by decide +kernel, by decide +kernel⟩
theorem scPick : FnScope ["box", "some"] ["box", "some"] (defScope sPick) := ⟨rfl, rfl, rfl, by decide +kernel, rfl, by decide +kernel, by decide +kernel⟩
theorem scRaiseA : FnScope ["number", "thing"] ["number", "thing"] (defScope sRaiseA) := ⟨rfl, rfl, rfl, by decide +kernel, rfl, by decide +kernel, by decide +kernel⟩
theorem scRaiseB : FnScope ["number", "thing"] ["number", "thing"] (defScope sRaiseB) := ⟨rfl, rfl, rfl, by decide +kernel, rfl, by decide +kernel, by decide +kernel⟩
theorem scRaiseC : FnScope ["number", "thing"] ["number", "thing"] (defScope sRaiseC) := ⟨rfl, rfl, rfl, by decide +kernel, rfl, by decide +kernel, by decide +kernel⟩
theorem scRaise : FnScope ["number", "thing"] ["number", "thing"] (defScope sRaise) := ⟨rfl, rfl, rfl, by decide +kernel, rfl, by decide +kernel, by decide +kernel⟩
theorem scCaughtA : FnScope ["number", "thing", "e"] ["number", "thing"] (defScope sCaughtA) := ⟨rfl, rfl, rfl, by decide +kernel, rfl, by decide +kernel, by decide +kernel⟩
theorem scCaughtB : FnScope ["number", "thing", "e"] ["number", "thing"] (defScope sCaughtB) := ⟨rfl, rfl, rfl, by decide +kernel, rfl, by decide +kernel, by decide +kernel⟩
theorem scCaughtC : FnScope ["number", "thing", "e"] ["number", "thing"] (defScope sCaughtC) := ⟨rfl, rfl, rfl, by decide +kernel, rfl, by decide +kernel, by decide +kernel⟩
theorem scIsBase : FnScope ["number", "thing"] ["number", "thing"] (defScope sIsBase) := ⟨rfl, rfl, rfl, by decide +kernel, rfl, by decide +kernel, by decide +kernel⟩
theorem scLaw : FnScope ["script", "box", "number", "thing", "kept"] ["script"] (defScope sLaw) := ⟨rfl, rfl, rfl, by decide +kernel, rfl, by decide +kernel, by decide +kernel⟩
end K00

set_option Elab.async false
set_option linter.all false
set_option maxRecDepth 100000
set_option maxHeartbeats 4000000
namespace K00
open PySem L2
/-- a box stands at b: a list of three integers -/
def BoxAt (H : Hp) (b : Addr) : Prop := ∃ x y z : Int, H b = some (.lst [.int x, .int y, .int z])
/-- but at b all stands as it stood -/
def ButAt (b : Addr) (H H' : Hp) : Prop := ∀ a, a ≠ b → H' a = H a
def spTake : Sp := fun vs H Q _ => ∃ (b : Addr) (m : Int), vs = [.ref b, .int m] ∧ BoxAt H b ∧ 0 < m ∧ m < 1073741824 ∧
  ∀ (d : Int) (H' : Hp), 0 ≤ d → d < m → BoxAt H' b → ButAt b H H' → Q (.int d) H'
def spBox (K : PySem.W.Frag) : Sp := fun vs H Q _ => ∃ (s : Addr) (ns : List Int) (n : Nat), vs = [.ref s, .int n] ∧ SqL K H s (ns.map V.int) ∧ ns.length ≤ 63 ∧
  ∀ (p : Addr) (H' : Hp), H p = none → Same H H' → BoxAt H' p → Q (.ref p) H'
/-- one of some things -/
def spPick (K : PySem.W.Frag) : Sp := fun vs H Q _ => ∃ (b s : Addr) (xs : List V), vs = [.ref b, .ref s] ∧ BoxAt H b ∧ SqL K H s xs ∧ b ≠ s ∧ 0 < xs.length ∧ xs.length < 1000 ∧
  ∀ (x : V) (H' : Hp), x ∈ xs → BoxAt H' b → ButAt b H H' → Q x H'
structure TxtN (mg : Str → Option Value) : Prop where
  int : mg "int" = none
  abs : mg "abs" = none
  len : mg "len" = none
section
variable {P : Program} {w : World} {K : PySem.W.Frag} {mg : Str → Option Value} {base : Heap}
theorem seqL_at {H H' : Hp} {a : Addr} {xs : List V} (h : SqL K H a xs) (e : H' a = H a) : SqL K H' a xs := by
  rcases h with (h | ⟨o, h⟩) | h
  · exact .inl (.inl (e.trans h))
  · exact .inl (.inr ⟨o, e.trans h⟩)
  · exact .inr h
theorem seqT_at {H H' : Hp} {a : Addr} {xs : List V} (h : SqT K H a xs) (e : H' a = H a) : SqT K H' a xs := by
  rcases h with (h | ⟨o, h⟩) | h
  · exact .inl (.inl (e.trans h))
  · exact .inl (.inr ⟨o, e.trans h⟩)
  · exact .inr h
theorem at0 {x y z : V} : atI [x, y, z] 0 = some x := rfl
theorem at1 {x y z : V} : atI [x, y, z] 1 = some y := rfl
theorem at2 {x y z : V} : atI [x, y, z] 2 = some z := rfl
theorem mod_lt {x m : Int} (h : 0 < m) : 0 ≤ x % m ∧ x % m < m := ⟨Int.emod_nonneg _ (by omega), Int.emod_lt_of_pos _ h⟩
theorem ok_take {f : Addr} {fd : FuncData} (F : Fun K "_law_take" "_law_take" sTake f fd) (T : TxtN mg) : FnOk P w K mg base CX0 1 f fd ["box", "many"] spTake := by
  refine F.ok scTake (fun vs H Q E h => ?_) (fun cdv A outer s H vs Q E hr h => ?_)
  · obtain ⟨b, m, rfl, _⟩ := h
    rfl
  · obtain ⟨b, m, rfl, ⟨x, y, z, hb⟩, m0, m1, k⟩ := h
    refine ⟨_, pss_cons (ps_if (pt_cmpR op_gt (pe_ix ix_list (pv 0) pe_int (fun _ _ => rfl)) pe_int (nomark _))
        (pss_cons (ps_set (i := 2) scTake.nd rfl (Or.inl rfl) (pe_op op_mod (pe_callTy call_int1 (by rfl) T.int (by decide +kernel) (pa_cons (pe_ix ix_list (pv 0) pe_int (fun _ _ => rfl)) pa_nil)) (pv 1)))
        (pss_cons (ps_asg (pe_op op_fdiv (pe_ix ix_list (pv 0) pe_int (fun _ _ => rfl)) (pv 1)) (pg_sub (pv 0) pe_int set_list))
        (pss_one (ps_ret (pv 2)))))
        pss_nil)
      (pss_cons (ps_asg (pe_op op_add (pe_ix ix_list (pv 0) pe_int (fun _ _ => rfl)) pe_int) (pg_sub (pv 0) pe_int set_list))
      (pss_cons (ps_set (i := 3) scTake.nd rfl (Or.inl rfl) (pe_op op_mod (pe_callTy call_int1 (by rfl) T.int (by decide +kernel) (pa_cons
          (pe_op op_add (pe_op op_mul (pe_op op_add (pe_ix ix_list (pv 0) pe_int (fun _ _ => rfl)) (pe_op op_mul pe_int (pe_ix ix_list (pv 0) pe_int (fun _ _ => rfl)))) pe_int) pe_int) pa_nil)) pe_int))
      (pss_cons (ps_asg (pe_op op_add (pe_op op_mod (pe_callTy call_int1 (by rfl) T.int (by decide +kernel) (pa_cons (pe_op op_add (pe_op op_mul (pv 3) pe_int) pe_int) pa_nil)) pe_int) pe_int) (pg_sub (pv 0) pe_int set_list))
      (pss_one (ps_ret (pe_op op_mod (pe_callTy call_int1 (by rfl) T.int (by decide +kernel) (pa_cons
          (pe_op op_fdiv (pe_op op_add (pe_op op_mul (pv 3) pe_int) (pe_ix ix_list (pv 0) pe_int (fun _ _ => rfl))) pe_int) pa_nil)) (pv 1))))))), ?_⟩
    refine ⟨_, rfl, b, _, _, _, rfl, rfl, SqL.of hb, at0, _, _, rfl, rfl, _, rfl, ?_⟩
    refine ite2 (fun _ => ?_) (fun _ => ?_)
    · refine ⟨_, rfl, b, _, _, _, rfl, rfl, SqL.of hb, at0, .inl ⟨_, rfl, _, rfl, _, _, rfl, rfl, m0, ?_⟩⟩
      refine ⟨_, rfl, b, _, _, _, rfl, rfl, SqL.of hb, at0, _, rfl, _, _, rfl, rfl, ⟨m0, m1⟩, ?_⟩
      refine ⟨_, rfl, b, _, _, _, rfl, rfl, hb, rfl, ?_⟩
      refine ⟨_, rfl, ?_⟩
      exact k _ _ (mod_lt m0).1 (mod_lt m0).2 ⟨_, y, z, upd_same⟩ fun a ha => upd_ne ha
    · refine ⟨_, rfl, b, _, _, _, rfl, rfl, SqL.of hb, at2, _, _, rfl, rfl, ?_⟩
      refine ⟨_, rfl, b, _, _, _, rfl, rfl, hb, rfl, ?_⟩
      have h1 : ∀ v : V, upd H b (.lst ([.int x, .int y, .int z].set 2 v)) b = some (.lst [.int x, .int y, v]) := fun v => upd_same
      refine ⟨_, rfl, b, _, _, _, rfl, rfl, SqL.of (h1 _), at1, _, rfl, b, _, _, _, rfl, rfl, SqL.of (h1 _), at2, ?_⟩
      refine ⟨_, _, rfl, rfl, .inl (by decide), _, _, rfl, rfl, _, _, rfl, rfl, .inr (by decide), _, _, rfl, rfl, .inl ⟨_, rfl, _, _, rfl, rfl, (by show (0 : Int) < 2147483563; decide), ?_⟩⟩
      refine ⟨_, rfl, _, _, rfl, rfl, .inr (by decide), _, _, rfl, rfl, .inl ⟨_, rfl, _, _, rfl, rfl, (by show (0 : Int) < 2147483629; decide), _, _, rfl, rfl, ?_⟩⟩
      refine ⟨_, rfl, b, _, _, _, rfl, rfl, h1 _, rfl, ?_⟩
      have h2 : ∀ u v : V, upd (upd H b (.lst ([.int x, .int y, .int z].set 2 v))) b (.lst ([.int x, .int y, v].set 1 u)) b = some (.lst [.int x, u, v]) := fun u v => upd_same
      refine ⟨_, rfl, _, _, rfl, rfl, .inr (by decide), _, rfl, b, _, _, _, rfl, rfl, SqL.of (h2 _ _), at1, ?_⟩
      refine ⟨_, _, rfl, rfl, _, _, rfl, rfl, ⟨by decide, by decide⟩, .inl ⟨_, rfl, _, rfl, _, _, rfl, rfl, m0, ?_⟩⟩
      exact k _ _ (mod_lt m0).1 (mod_lt m0).2 ⟨_, _, _, h2 _ _⟩ fun a ha => by rw [upd_ne ha, upd_ne ha]
theorem ok_pick {f fT : Addr} {fd fdT : FuncData} (F : Fun K "_law_pick" "_law_pick" sPick f fd) (T : TxtN mg) (FT : Fun K "_law_take" "_law_take" sTake fT fdT) (bT : Binds K fdT ["box", "many"] [])
    (mT : mg "_law_take" = some (.ref fT)) (kT : PySem.W.keepIn K (.ref fT) = true) : FnOk P w K mg base CX0 2 f fd ["box", "some"] (spPick K) := by
  have GT : FnOk P w K mg base CX0 1 fT fdT ["box", "many"] spTake := ok_take FT T
  refine F.ok scPick (fun vs H Q E h => ?_) (fun cdv A outer s H vs Q E hr h => ?_)
  · obtain ⟨b, s, xs, rfl, _⟩ := h
    rfl
  · obtain ⟨b, t, xs, rfl, hb, hs, nbs, l0, l1, k⟩ := h
    refine ⟨_, pss_one (ps_ret (pe_ix ix_list (pv 1) (pe_call GT hr rfl mT kT bT .nil pass0 (pa_cons (pv 0) (pa_cons (pe_callB call_len_seq (by rfl) T.len PySem.boot_len (pa_cons (pv 1) pa_nil)) pa_nil))) (fun _ _ => rfl))), ?_⟩
    refine ⟨_, rfl, _, rfl, _, rfl, t, xs, rfl, .inl hs, b, _, rfl, hb, by omega, by omega, fun d H' d0 d1 hb' hu => ?_⟩
    have hs' : SqL K H' t xs := seqL_at hs (hu t (Ne.symm nbs))
    obtain ⟨j, rfl⟩ : ∃ j : Nat, d = (j : Int) := ⟨d.toNat, by omega⟩
    have hj : j < xs.length := by omega
    exact ⟨t, xs, _, _, rfl, rfl, hs', atI_nat (List.getElem?_eq_getElem hj), k _ _ (List.getElem_mem hj) hb' hu⟩
theorem ok_box {f : Addr} {fd : FuncData} (F : Fun K "_law_box" "_law_box" sBox f fd) (T : TxtN mg) : FnOk P w K mg base CX0 1 f fd ["script", "k"] (spBox K) := by
  refine F.ok scBox (fun vs H Q E h => ?_) (fun cdv A outer s H vs Q E hr h => ?_)
  · obtain ⟨s, ns, n, rfl, _⟩ := h
    rfl
  · obtain ⟨t, ns, n, rfl, hs, hl, k⟩ := h
    refine ⟨_, pss_cons (ps_set (i := 2) scBox.nd rfl (Or.inl rfl) (pe_op op_add (pe_op op_mul pe_int (pv 1)) pe_int))
      (Evl.pss_cut (ps_if (pt_cmpR op_lt (pv 1) (pe_callB call_len_seq (by rfl) T.len PySem.boot_len (pa_cons (pv 0) pa_nil)) (nomark _))
          (pss_one (ps_set (i := 2) scBox.nd rfl (Or.inl rfl) (pe_callB call_abs (by rfl) T.abs (by decide +kernel) (pa_cons (pe_ix ix_list (pv 0) (pv 1) (fun _ _ => rfl)) pa_nil))))
          (pss_one (ps_if (pt_cmpR op_gt (pe_callB call_len_seq (by rfl) T.len PySem.boot_len (pa_cons (pv 0) pa_nil)) pe_int (nomark _))
            (pss_one (ps_set (i := 2) scBox.nd rfl (Or.inl rfl) (pe_op op_add (pv 2) (pe_op op_mul (pe_op op_mod (pe_callTy call_int1 (by rfl) T.int (by decide +kernel) (pa_cons
              (pe_callB call_abs (by rfl) T.abs (by decide +kernel) (pa_cons (pe_ix ix_list (pv 0) (pe_op op_mod (pe_callTy call_int1 (by rfl) T.int (by decide +kernel) (pa_cons (pv 1) pa_nil))
                (pe_callB call_len_seq (by rfl) T.len PySem.boot_len (pa_cons (pv 0) pa_nil))) (fun _ _ => rfl)) pa_nil)) pa_nil)) pe_int) pe_int))))
            pss_nil)))
      (pss_one (ps_ret (pe_lst (pa_cons (pe_ix ix_list (pe_lst (pa_cons pe_int (pa_cons (pv 2) pa_nil))) (pe_callTy call_int1 (by rfl) T.int (by decide +kernel) (pa_cons
            (pe_cmpR op_ge (pv 2) (pe_op op_pow pe_int pe_int) (nomark _)) pa_nil)) (fun _ _ => rfl))
        (pa_cons (pe_op op_add (pe_op op_mod (pe_callTy call_int1 (by rfl) T.int (by decide +kernel) (pa_cons (pe_op op_add (pe_op op_mul (pe_op op_mod
            (pe_callTy call_int1 (by rfl) T.int (by decide +kernel) (pa_cons (pv 2) pa_nil)) pe_int) pe_int) (pe_op op_mul pe_int (pv 1))) pa_nil)) pe_int) pe_int)
        (pa_cons pe_int pa_nil))))))), ?_⟩
    refine ⟨_, rfl, _, _, rfl, rfl, .inl (by decide), _, _, rfl, rfl, ?_⟩
    refine ⟨fun σ H' => ∃ c : Int, σ = [some (.ref t), some (.int n), some (.int c)] ∧ H' = H, ?_, ?_⟩
    · refine ⟨_, rfl, _, rfl, t, _, rfl, .inl hs, _, _, rfl, rfl, _, rfl, ?_⟩
      rw [List.length_map]
      refine ite2 (fun c => ?_) (fun c => ?_)
      · have hn : n < ns.length := by
          have := of_decide_eq_true c
          omega
        exact ⟨_, rfl, _, rfl, t, _, _, _, rfl, rfl, hs, atI_nat (by rw [List.getElem?_map, List.getElem?_eq_getElem hn]; rfl), _, rfl, _, rfl, rfl⟩
      · refine ⟨_, rfl, t, _, rfl, .inl hs, _, _, rfl, rfl, _, rfl, ?_⟩
        rw [List.length_map]
        refine ite2 (fun c => ?_) (fun c => ?_)
        · have hn : 0 < ns.length := by
            have := of_decide_eq_true c
            omega
          have h0 : (0 : Int) < (ns.length : Int) := by omega
          refine ⟨_, rfl, _, rfl, _, rfl, .inl ⟨_, rfl, _, rfl, t, _, rfl, .inl hs, _, _, rfl, rfl, (by rw [List.length_map]; exact h0), ?_⟩⟩
          have e : ∃ j : Nat, (n : Int) % ((ns.map V.int).length : Int) = (j : Int) ∧ j < ns.length := by
            rw [List.length_map]
            have := mod_lt (x := (n : Int)) h0
            exact ⟨((n : Int) % (ns.length : Int)).toNat, by omega, by omega⟩
          obtain ⟨j, ej, hj⟩ := e
          have ea : atI (ns.map V.int) ((n : Int) % ((ns.map V.int).length : Int)) = some (V.int ns[j]) := by
            rw [ej]
            exact atI_nat (by rw [List.getElem?_map, List.getElem?_eq_getElem hj]; rfl)
          refine ⟨t, _, _, _, rfl, rfl, hs, ea, _, rfl, .inl ⟨_, rfl, _, _, rfl, rfl, (by show (0 : Int) < 2147483629; decide), _, _, rfl, rfl, .inr (by decide), _, _, rfl, rfl, _, rfl, rfl⟩⟩
        · exact ⟨_, rfl, rfl⟩
    · rintro σ H' ⟨c, rfl, rfl⟩
      refine ⟨_, rfl, by show 2 ≤ sizeLine; decide, fun p1 n1 => ?_⟩
      refine ⟨_, rfl, _, _, rfl, rfl, ⟨by decide, by decide, by decide⟩, _, _, rfl, rfl, .inr ⟨_, rfl, ?_⟩⟩
      have hc : ∀ b : Bool, ∃ z : Int, atI [V.int 0, V.int c] (if b = true then 1 else 0) = some (.int z) := fun b => by
        cases b
        · exact ⟨0, rfl⟩
        · exact ⟨c, rfl⟩
      obtain ⟨z, hz⟩ := hc (decide (((10 : Int) ^ (18 : Int).toNat) ≤ c))
      refine ⟨p1, _, _, _, rfl, rfl, SqL.of upd_same, hz, ?_⟩
      refine ⟨_, rfl, .inl ⟨_, rfl, _, _, rfl, rfl, (by show (0 : Int) < 2147483629; decide), _, _, rfl, rfl, .inr (by decide), _, rfl, _, _, rfl, rfl, .inl (by decide), _, _, rfl, rfl, .inl ⟨_, rfl, _, _, rfl, rfl, (by show (0 : Int) < 2147483629; decide), _, _, rfl, rfl, ?_⟩⟩⟩
      refine ⟨by show 3 ≤ sizeLine; decide, fun p np => ?_⟩
      have n0 : H' p = none := by
        by_cases e : p = p1
        · rw [e]; exact n1
        · rw [upd_ne e] at np; exact np
      refine k p _ n0 (fun a o e => ?_) ⟨_, _, _, upd_same⟩
      rw [upd_ne (ne_of_none e n0), upd_ne (ne_of_none e n1)]
      exact e
end
end K00

set_option Elab.async false
set_option linter.all false
set_option maxRecDepth 100000
set_option maxHeartbeats 8000000
namespace K00
open PySem L2
def nms : List Str := ((["InvalidText", "InvalidSchema", "InvalidField", "InvalidName", "InvalidRecord", "InvalidDay", "InvalidTable", "InvalidRow", "InvalidSteps", "InvalidValue", "InvalidScript", "InvalidGrams", "InvalidRule", "InvalidVerdicts", "InvalidAnswers", "InvalidChoices", "InvalidSources", "InvalidLinks", "InvalidBars", "InvalidPeople", "InvalidNames", "InvalidDeed", "InvalidBook", "InvalidVector", "InvalidLetter", "InvalidEvents", "InvalidIndex", "InvalidSummary", "InvalidLot", "InvalidState", "Refused", "InvalidEntry", "InvalidSize", "NoRecord", "NoHouse", "InvalidComparer", "InvalidCommand"] : List String)).map PySem.Str.ofString
def flds : List Str := ((["at", "at", "at", "at", "at", "at", "at", "at", "at", "at", "at", "at", "at", "at", "at", "at", "at", "at", "at", "at", "at", "at", "at", "at", "at", "at", "at", "at", "at", "at", "at", "word", "word", "name", "house"] : List String)).map PySem.Str.ofString
def nm (n : Nat) : Str := nms.getD n "x"
def fld (n : Nat) : Str := flds.getD n "at"
def inits : List Str := ((["InvalidText.__init__", "InvalidSchema.__init__", "InvalidField.__init__", "InvalidName.__init__", "InvalidRecord.__init__", "InvalidDay.__init__", "InvalidTable.__init__", "InvalidRow.__init__", "InvalidSteps.__init__", "InvalidValue.__init__", "InvalidScript.__init__", "InvalidGrams.__init__", "InvalidRule.__init__", "InvalidVerdicts.__init__", "InvalidAnswers.__init__", "InvalidChoices.__init__", "InvalidSources.__init__", "InvalidLinks.__init__", "InvalidBars.__init__", "InvalidPeople.__init__", "InvalidNames.__init__", "InvalidDeed.__init__", "InvalidBook.__init__", "InvalidVector.__init__", "InvalidLetter.__init__", "InvalidEvents.__init__", "InvalidIndex.__init__", "InvalidSummary.__init__", "InvalidLot.__init__", "InvalidState.__init__", "Refused.__init__", "InvalidEntry.__init__", "InvalidSize.__init__", "NoRecord.__init__", "NoHouse.__init__"] : List String)).map PySem.Str.ofString
def ini (n : Nat) : Str := inits.getD n "x"
/-- what the top has written: the classes at c 0 .. c 36, their base at U -/
structure TxtE (K : PySem.W.Frag) (mg : Str → Option Value) (c fi : Nat → Addr) (U : Addr) : Prop where
  err : ∀ n, n < 35 → PySem.OwnEx.ErrTxt K mg (nm n) (fld n) (ini n) (c n) U (fi n)
  exin : ∀ n, n = 35 ∨ n = 36 → PySem.W.excIn K (c n) [.type "Exception", .type "BaseException", .type "object"] "Exception.__new__" = true
  gc : ∀ n, n < 37 → mg (nm n) = some (.ref (c n))
  kc : ∀ n, n = 35 ∨ n = 36 → PySem.W.keepIn K (.ref (c n)) = true
  sc : ∀ n, n = 35 ∨ n = 36 → PySem.W.subIn K (.ref (c n)) (.type "BaseException") = some true
  tc : ∀ n, n = 35 ∨ n = 36 → PySem.W.typeIn K (.ref (c n)) = some (.type "type")
  exm : ∀ n j, n < 37 → j < 37 → PySem.W.exmOne K (.ref (c n)) (.ref (c j)) = some (decide (n = j))
  exmU : ∀ n, n < 37 → PySem.W.exmOne K (.ref (c n)) (.ref U) = some true
  gU : mg "WhoError" = some (.ref U)
/-- the error of the number n is on its way, with th -/
def Thrown (c : Nat → Addr) (n : Nat) (th : V) (H : Hp) (E : XK) : Prop :=
  if n < 35 then ∀ d, H d = none → E (.ref (c n)) (some d) (upd H d (.xd [(fld n, th)])) else E (.ref (c n)) none H
theorem thrown_of {c : Nat → Addr} {n : Nat} {th : V} {H : Hp} {E : XK} (h : Thrown c n th H E) (hn : n < 35) : ∀ d, H d = none → E (.ref (c n)) (some d) (upd H d (.xd [(fld n, th)])) := by
  unfold Thrown at h
  rw [if_pos hn] at h
  exact h
theorem thrown_bare {c : Nat → Addr} {n : Nat} {th : V} {H : Hp} {E : XK} (h : Thrown c n th H E) (hn : ¬ n < 35) : E (.ref (c n)) none H := by
  unfold Thrown at h
  rw [if_neg hn] at h
  exact h
def spRaise (c : Nat → Addr) (lo hi : Nat) : Sp := fun vs H Q E => ∃ (n : Nat) (th : V), vs = [.int n, th] ∧ lo ≤ n ∧ n < hi ∧ Thrown c n th H E
theorem int_is {n : Nat} {j : Nat} (e : decide (V.int (n : Int) = V.int (j : Int)) = true) : n = j := by
  have := of_decide_eq_true e
  injection this with h
  exact Int.ofNat.inj h
theorem int_isnt {n : Nat} {j : Nat} (e : ¬ decide (V.int (n : Int) = V.int (j : Int)) = true) : n ≠ j := fun h => e (by rw [h]; exact decide_eq_true rfl)
section
variable {P : Program} {w : World} {K : PySem.W.Frag} {mg : Str → Option Value} {base : Heap} {c fi : Nat → Addr} {U : Addr}
theorem ok_raiseA {f : Addr} {fd : FuncData} (F : Fun K "_law_raise_a" "_law_raise_a" sRaiseA f fd) (T : TxtE K mg c fi U) : FnOk P w K mg base (L2.CX P w) 3 f fd ["number", "thing"] (spRaise c 0 13) := by
  refine F.okX scRaiseA (fun vs H Q E h => ?_) (fun cdv A outer s H vs Q E hr h => ?_)
  · obtain ⟨n, th, rfl, _⟩ := h
    rfl
  · obtain ⟨n, th, rfl, h0, h1, k⟩ := h
    refine ⟨_, (pss_one (ps_if (pt_cmpR op_eq (pv 0) pe_int (nomark _)) (pss_one (ps_raiseErr rfl (T.err 0 (by decide)) hr (takes_of rfl rfl rfl rfl) (by exact (pa_cons (pv 1) pa_nil)) rfl))
      (pss_one (ps_if (pt_cmpR op_eq (pv 0) pe_int (nomark _)) (pss_one (ps_raiseErr rfl (T.err 1 (by decide)) hr (takes_of rfl rfl rfl rfl) (by exact (pa_cons (pv 1) pa_nil)) rfl))
      (pss_one (ps_if (pt_cmpR op_eq (pv 0) pe_int (nomark _)) (pss_one (ps_raiseErr rfl (T.err 2 (by decide)) hr (takes_of rfl rfl rfl rfl) (by exact (pa_cons (pv 1) pa_nil)) rfl))
      (pss_one (ps_if (pt_cmpR op_eq (pv 0) pe_int (nomark _)) (pss_one (ps_raiseErr rfl (T.err 3 (by decide)) hr (takes_of rfl rfl rfl rfl) (by exact (pa_cons (pv 1) pa_nil)) rfl))
      (pss_one (ps_if (pt_cmpR op_eq (pv 0) pe_int (nomark _)) (pss_one (ps_raiseErr rfl (T.err 4 (by decide)) hr (takes_of rfl rfl rfl rfl) (by exact (pa_cons (pv 1) pa_nil)) rfl))
      (pss_one (ps_if (pt_cmpR op_eq (pv 0) pe_int (nomark _)) (pss_one (ps_raiseErr rfl (T.err 5 (by decide)) hr (takes_of rfl rfl rfl rfl) (by exact (pa_cons (pv 1) pa_nil)) rfl))
      (pss_one (ps_if (pt_cmpR op_eq (pv 0) pe_int (nomark _)) (pss_one (ps_raiseErr rfl (T.err 6 (by decide)) hr (takes_of rfl rfl rfl rfl) (by exact (pa_cons (pv 1) pa_nil)) rfl))
      (pss_one (ps_if (pt_cmpR op_eq (pv 0) pe_int (nomark _)) (pss_one (ps_raiseErr rfl (T.err 7 (by decide)) hr (takes_of rfl rfl rfl rfl) (by exact (pa_cons (pv 1) pa_nil)) rfl))
      (pss_one (ps_if (pt_cmpR op_eq (pv 0) pe_int (nomark _)) (pss_one (ps_raiseErr rfl (T.err 8 (by decide)) hr (takes_of rfl rfl rfl rfl) (by exact (pa_cons (pv 1) pa_nil)) rfl))
      (pss_one (ps_if (pt_cmpR op_eq (pv 0) pe_int (nomark _)) (pss_one (ps_raiseErr rfl (T.err 9 (by decide)) hr (takes_of rfl rfl rfl rfl) (by exact (pa_cons (pv 1) pa_nil)) rfl))
      (pss_one (ps_if (pt_cmpR op_eq (pv 0) pe_int (nomark _)) (pss_one (ps_raiseErr rfl (T.err 10 (by decide)) hr (takes_of rfl rfl rfl rfl) (by exact (pa_cons (pv 1) pa_nil)) rfl))
      (pss_one (ps_if (pt_cmpR op_eq (pv 0) pe_int (nomark _)) (pss_one (ps_raiseErr rfl (T.err 11 (by decide)) hr (takes_of rfl rfl rfl rfl) (by exact (pa_cons (pv 1) pa_nil)) rfl))
      (pss_one (ps_if (pt_cmpR op_eq (pv 0) pe_int (nomark _)) (pss_one (ps_raiseErr rfl (T.err 12 (by decide)) hr (takes_of rfl rfl rfl rfl) (by exact (pa_cons (pv 1) pa_nil)) rfl))
      pss_nil)))))))))))))))))))))))))), ?_⟩
    refine ⟨_, rfl, rfl, _, rfl, ?_⟩
    refine ite2 (fun e => ?_) (fun e0 => ?_)
    · obtain rfl := int_is (j := 0) e
      exact ⟨_, rfl, _, rfl, fun d hd => thrown_of k (by decide) d hd⟩
    have n0 := int_isnt (j := 0) e0
    refine ⟨_, rfl, rfl, _, rfl, ?_⟩
    refine ite2 (fun e => ?_) (fun e1 => ?_)
    · obtain rfl := int_is (j := 1) e
      exact ⟨_, rfl, _, rfl, fun d hd => thrown_of k (by decide) d hd⟩
    have n1 := int_isnt (j := 1) e1
    refine ⟨_, rfl, rfl, _, rfl, ?_⟩
    refine ite2 (fun e => ?_) (fun e2 => ?_)
    · obtain rfl := int_is (j := 2) e
      exact ⟨_, rfl, _, rfl, fun d hd => thrown_of k (by decide) d hd⟩
    have n2 := int_isnt (j := 2) e2
    refine ⟨_, rfl, rfl, _, rfl, ?_⟩
    refine ite2 (fun e => ?_) (fun e3 => ?_)
    · obtain rfl := int_is (j := 3) e
      exact ⟨_, rfl, _, rfl, fun d hd => thrown_of k (by decide) d hd⟩
    have n3 := int_isnt (j := 3) e3
    refine ⟨_, rfl, rfl, _, rfl, ?_⟩
    refine ite2 (fun e => ?_) (fun e4 => ?_)
    · obtain rfl := int_is (j := 4) e
      exact ⟨_, rfl, _, rfl, fun d hd => thrown_of k (by decide) d hd⟩
    have n4 := int_isnt (j := 4) e4
    refine ⟨_, rfl, rfl, _, rfl, ?_⟩
    refine ite2 (fun e => ?_) (fun e5 => ?_)
    · obtain rfl := int_is (j := 5) e
      exact ⟨_, rfl, _, rfl, fun d hd => thrown_of k (by decide) d hd⟩
    have n5 := int_isnt (j := 5) e5
    refine ⟨_, rfl, rfl, _, rfl, ?_⟩
    refine ite2 (fun e => ?_) (fun e6 => ?_)
    · obtain rfl := int_is (j := 6) e
      exact ⟨_, rfl, _, rfl, fun d hd => thrown_of k (by decide) d hd⟩
    have n6 := int_isnt (j := 6) e6
    refine ⟨_, rfl, rfl, _, rfl, ?_⟩
    refine ite2 (fun e => ?_) (fun e7 => ?_)
    · obtain rfl := int_is (j := 7) e
      exact ⟨_, rfl, _, rfl, fun d hd => thrown_of k (by decide) d hd⟩
    have n7 := int_isnt (j := 7) e7
    refine ⟨_, rfl, rfl, _, rfl, ?_⟩
    refine ite2 (fun e => ?_) (fun e8 => ?_)
    · obtain rfl := int_is (j := 8) e
      exact ⟨_, rfl, _, rfl, fun d hd => thrown_of k (by decide) d hd⟩
    have n8 := int_isnt (j := 8) e8
    refine ⟨_, rfl, rfl, _, rfl, ?_⟩
    refine ite2 (fun e => ?_) (fun e9 => ?_)
    · obtain rfl := int_is (j := 9) e
      exact ⟨_, rfl, _, rfl, fun d hd => thrown_of k (by decide) d hd⟩
    have n9 := int_isnt (j := 9) e9
    refine ⟨_, rfl, rfl, _, rfl, ?_⟩
    refine ite2 (fun e => ?_) (fun e10 => ?_)
    · obtain rfl := int_is (j := 10) e
      exact ⟨_, rfl, _, rfl, fun d hd => thrown_of k (by decide) d hd⟩
    have n10 := int_isnt (j := 10) e10
    refine ⟨_, rfl, rfl, _, rfl, ?_⟩
    refine ite2 (fun e => ?_) (fun e11 => ?_)
    · obtain rfl := int_is (j := 11) e
      exact ⟨_, rfl, _, rfl, fun d hd => thrown_of k (by decide) d hd⟩
    have n11 := int_isnt (j := 11) e11
    refine ⟨_, rfl, rfl, _, rfl, ?_⟩
    refine ite2 (fun e => ?_) (fun e12 => ?_)
    · obtain rfl := int_is (j := 12) e
      exact ⟨_, rfl, _, rfl, fun d hd => thrown_of k (by decide) d hd⟩
    have n12 := int_isnt (j := 12) e12
    exact absurd h1 (by omega)
theorem ok_raiseB {f : Addr} {fd : FuncData} (F : Fun K "_law_raise_b" "_law_raise_b" sRaiseB f fd) (T : TxtE K mg c fi U) : FnOk P w K mg base (L2.CX P w) 3 f fd ["number", "thing"] (spRaise c 13 26) := by
  refine F.okX scRaiseB (fun vs H Q E h => ?_) (fun cdv A outer s H vs Q E hr h => ?_)
  · obtain ⟨n, th, rfl, _⟩ := h
    rfl
  · obtain ⟨n, th, rfl, h0, h1, k⟩ := h
    refine ⟨_, (pss_one (ps_if (pt_cmpR op_eq (pv 0) pe_int (nomark _)) (pss_one (ps_raiseErr rfl (T.err 13 (by decide)) hr (takes_of rfl rfl rfl rfl) (by exact (pa_cons (pv 1) pa_nil)) rfl))
      (pss_one (ps_if (pt_cmpR op_eq (pv 0) pe_int (nomark _)) (pss_one (ps_raiseErr rfl (T.err 14 (by decide)) hr (takes_of rfl rfl rfl rfl) (by exact (pa_cons (pv 1) pa_nil)) rfl))
      (pss_one (ps_if (pt_cmpR op_eq (pv 0) pe_int (nomark _)) (pss_one (ps_raiseErr rfl (T.err 15 (by decide)) hr (takes_of rfl rfl rfl rfl) (by exact (pa_cons (pv 1) pa_nil)) rfl))
      (pss_one (ps_if (pt_cmpR op_eq (pv 0) pe_int (nomark _)) (pss_one (ps_raiseErr rfl (T.err 16 (by decide)) hr (takes_of rfl rfl rfl rfl) (by exact (pa_cons (pv 1) pa_nil)) rfl))
      (pss_one (ps_if (pt_cmpR op_eq (pv 0) pe_int (nomark _)) (pss_one (ps_raiseErr rfl (T.err 17 (by decide)) hr (takes_of rfl rfl rfl rfl) (by exact (pa_cons (pv 1) pa_nil)) rfl))
      (pss_one (ps_if (pt_cmpR op_eq (pv 0) pe_int (nomark _)) (pss_one (ps_raiseErr rfl (T.err 18 (by decide)) hr (takes_of rfl rfl rfl rfl) (by exact (pa_cons (pv 1) pa_nil)) rfl))
      (pss_one (ps_if (pt_cmpR op_eq (pv 0) pe_int (nomark _)) (pss_one (ps_raiseErr rfl (T.err 19 (by decide)) hr (takes_of rfl rfl rfl rfl) (by exact (pa_cons (pv 1) pa_nil)) rfl))
      (pss_one (ps_if (pt_cmpR op_eq (pv 0) pe_int (nomark _)) (pss_one (ps_raiseErr rfl (T.err 20 (by decide)) hr (takes_of rfl rfl rfl rfl) (by exact (pa_cons (pv 1) pa_nil)) rfl))
      (pss_one (ps_if (pt_cmpR op_eq (pv 0) pe_int (nomark _)) (pss_one (ps_raiseErr rfl (T.err 21 (by decide)) hr (takes_of rfl rfl rfl rfl) (by exact (pa_cons (pv 1) pa_nil)) rfl))
      (pss_one (ps_if (pt_cmpR op_eq (pv 0) pe_int (nomark _)) (pss_one (ps_raiseErr rfl (T.err 22 (by decide)) hr (takes_of rfl rfl rfl rfl) (by exact (pa_cons (pv 1) pa_nil)) rfl))
      (pss_one (ps_if (pt_cmpR op_eq (pv 0) pe_int (nomark _)) (pss_one (ps_raiseErr rfl (T.err 23 (by decide)) hr (takes_of rfl rfl rfl rfl) (by exact (pa_cons (pv 1) pa_nil)) rfl))
      (pss_one (ps_if (pt_cmpR op_eq (pv 0) pe_int (nomark _)) (pss_one (ps_raiseErr rfl (T.err 24 (by decide)) hr (takes_of rfl rfl rfl rfl) (by exact (pa_cons (pv 1) pa_nil)) rfl))
      (pss_one (ps_if (pt_cmpR op_eq (pv 0) pe_int (nomark _)) (pss_one (ps_raiseErr rfl (T.err 25 (by decide)) hr (takes_of rfl rfl rfl rfl) (by exact (pa_cons (pv 1) pa_nil)) rfl))
      pss_nil)))))))))))))))))))))))))), ?_⟩
    refine ⟨_, rfl, rfl, _, rfl, ?_⟩
    refine ite2 (fun e => ?_) (fun e13 => ?_)
    · obtain rfl := int_is (j := 13) e
      exact ⟨_, rfl, _, rfl, fun d hd => thrown_of k (by decide) d hd⟩
    have n13 := int_isnt (j := 13) e13
    refine ⟨_, rfl, rfl, _, rfl, ?_⟩
    refine ite2 (fun e => ?_) (fun e14 => ?_)
    · obtain rfl := int_is (j := 14) e
      exact ⟨_, rfl, _, rfl, fun d hd => thrown_of k (by decide) d hd⟩
    have n14 := int_isnt (j := 14) e14
    refine ⟨_, rfl, rfl, _, rfl, ?_⟩
    refine ite2 (fun e => ?_) (fun e15 => ?_)
    · obtain rfl := int_is (j := 15) e
      exact ⟨_, rfl, _, rfl, fun d hd => thrown_of k (by decide) d hd⟩
    have n15 := int_isnt (j := 15) e15
    refine ⟨_, rfl, rfl, _, rfl, ?_⟩
    refine ite2 (fun e => ?_) (fun e16 => ?_)
    · obtain rfl := int_is (j := 16) e
      exact ⟨_, rfl, _, rfl, fun d hd => thrown_of k (by decide) d hd⟩
    have n16 := int_isnt (j := 16) e16
    refine ⟨_, rfl, rfl, _, rfl, ?_⟩
    refine ite2 (fun e => ?_) (fun e17 => ?_)
    · obtain rfl := int_is (j := 17) e
      exact ⟨_, rfl, _, rfl, fun d hd => thrown_of k (by decide) d hd⟩
    have n17 := int_isnt (j := 17) e17
    refine ⟨_, rfl, rfl, _, rfl, ?_⟩
    refine ite2 (fun e => ?_) (fun e18 => ?_)
    · obtain rfl := int_is (j := 18) e
      exact ⟨_, rfl, _, rfl, fun d hd => thrown_of k (by decide) d hd⟩
    have n18 := int_isnt (j := 18) e18
    refine ⟨_, rfl, rfl, _, rfl, ?_⟩
    refine ite2 (fun e => ?_) (fun e19 => ?_)
    · obtain rfl := int_is (j := 19) e
      exact ⟨_, rfl, _, rfl, fun d hd => thrown_of k (by decide) d hd⟩
    have n19 := int_isnt (j := 19) e19
    refine ⟨_, rfl, rfl, _, rfl, ?_⟩
    refine ite2 (fun e => ?_) (fun e20 => ?_)
    · obtain rfl := int_is (j := 20) e
      exact ⟨_, rfl, _, rfl, fun d hd => thrown_of k (by decide) d hd⟩
    have n20 := int_isnt (j := 20) e20
    refine ⟨_, rfl, rfl, _, rfl, ?_⟩
    refine ite2 (fun e => ?_) (fun e21 => ?_)
    · obtain rfl := int_is (j := 21) e
      exact ⟨_, rfl, _, rfl, fun d hd => thrown_of k (by decide) d hd⟩
    have n21 := int_isnt (j := 21) e21
    refine ⟨_, rfl, rfl, _, rfl, ?_⟩
    refine ite2 (fun e => ?_) (fun e22 => ?_)
    · obtain rfl := int_is (j := 22) e
      exact ⟨_, rfl, _, rfl, fun d hd => thrown_of k (by decide) d hd⟩
    have n22 := int_isnt (j := 22) e22
    refine ⟨_, rfl, rfl, _, rfl, ?_⟩
    refine ite2 (fun e => ?_) (fun e23 => ?_)
    · obtain rfl := int_is (j := 23) e
      exact ⟨_, rfl, _, rfl, fun d hd => thrown_of k (by decide) d hd⟩
    have n23 := int_isnt (j := 23) e23
    refine ⟨_, rfl, rfl, _, rfl, ?_⟩
    refine ite2 (fun e => ?_) (fun e24 => ?_)
    · obtain rfl := int_is (j := 24) e
      exact ⟨_, rfl, _, rfl, fun d hd => thrown_of k (by decide) d hd⟩
    have n24 := int_isnt (j := 24) e24
    refine ⟨_, rfl, rfl, _, rfl, ?_⟩
    refine ite2 (fun e => ?_) (fun e25 => ?_)
    · obtain rfl := int_is (j := 25) e
      exact ⟨_, rfl, _, rfl, fun d hd => thrown_of k (by decide) d hd⟩
    have n25 := int_isnt (j := 25) e25
    exact absurd h1 (by omega)
theorem ok_raiseC {f : Addr} {fd : FuncData} (F : Fun K "_law_raise_c" "_law_raise_c" sRaiseC f fd) (T : TxtE K mg c fi U) : FnOk P w K mg base (L2.CX P w) 3 f fd ["number", "thing"] (spRaise c 26 37) := by
  refine F.okX scRaiseC (fun vs H Q E h => ?_) (fun cdv A outer s H vs Q E hr h => ?_)
  · obtain ⟨n, th, rfl, _⟩ := h
    rfl
  · obtain ⟨n, th, rfl, h0, h1, k⟩ := h
    refine ⟨_, (pss_one (ps_if (pt_cmpR op_eq (pv 0) pe_int (nomark _)) (pss_one (ps_raiseErr rfl (T.err 26 (by decide)) hr (takes_of rfl rfl rfl rfl) (by exact (pa_cons (pv 1) pa_nil)) rfl))
      (pss_one (ps_if (pt_cmpR op_eq (pv 0) pe_int (nomark _)) (pss_one (ps_raiseErr rfl (T.err 27 (by decide)) hr (takes_of rfl rfl rfl rfl) (by exact (pa_cons (pv 1) pa_nil)) rfl))
      (pss_one (ps_if (pt_cmpR op_eq (pv 0) pe_int (nomark _)) (pss_one (ps_raiseErr rfl (T.err 28 (by decide)) hr (takes_of rfl rfl rfl rfl) (by exact (pa_cons (pv 1) pa_nil)) rfl))
      (pss_one (ps_if (pt_cmpR op_eq (pv 0) pe_int (nomark _)) (pss_one (ps_raiseErr rfl (T.err 29 (by decide)) hr (takes_of rfl rfl rfl rfl) (by exact (pa_cons (pv 1) pa_nil)) rfl))
      (pss_one (ps_if (pt_cmpR op_eq (pv 0) pe_int (nomark _)) (pss_one (ps_raiseErr rfl (T.err 30 (by decide)) hr (takes_of rfl rfl rfl rfl) (by exact (pa_cons (pv 1) pa_nil)) rfl))
      (pss_one (ps_if (pt_cmpR op_eq (pv 0) pe_int (nomark _)) (pss_one (ps_raiseErr rfl (T.err 31 (by decide)) hr (takes_of rfl rfl rfl rfl) (by exact (pa_cons (pv 1) pa_nil)) rfl))
      (pss_one (ps_if (pt_cmpR op_eq (pv 0) pe_int (nomark _)) (pss_one (ps_raiseErr rfl (T.err 32 (by decide)) hr (takes_of rfl rfl rfl rfl) (by exact (pa_cons (pv 1) pa_nil)) rfl))
      (pss_one (ps_if (pt_cmpR op_eq (pv 0) pe_int (nomark _)) (pss_one (ps_raiseErr rfl (T.err 33 (by decide)) hr (takes_of rfl rfl rfl rfl) (by exact (pa_cons (pv 1) pa_nil)) rfl))
      (pss_one (ps_if (pt_cmpR op_eq (pv 0) pe_int (nomark _)) (pss_one (ps_raiseErr rfl (T.err 34 (by decide)) hr (takes_of rfl rfl rfl rfl) (by exact (pa_cons (pv 1) pa_nil)) rfl))
      (pss_one (ps_if (pt_cmpR op_eq (pv 0) pe_int (nomark _)) (pss_one (ps_raise rfl (takes_of rfl rfl rfl rfl) (pmk_err0 PySem.F.excBase_Exception (T.exin 35 (by decide)) (T.gc 35 (by decide)) (T.kc 35 (by decide)) (raises_own (T.sc 35 (by decide)) (T.tc 35 (by decide))) rfl)))
      (pss_one (ps_if (pt_cmpR op_eq (pv 0) pe_int (nomark _)) (pss_one (ps_raise rfl (takes_of rfl rfl rfl rfl) (pmk_err0 PySem.F.excBase_Exception (T.exin 36 (by decide)) (T.gc 36 (by decide)) (T.kc 36 (by decide)) (raises_own (T.sc 36 (by decide)) (T.tc 36 (by decide))) rfl)))
      pss_nil)))))))))))))))))))))), ?_⟩
    refine ⟨_, rfl, rfl, _, rfl, ?_⟩
    refine ite2 (fun e => ?_) (fun e26 => ?_)
    · obtain rfl := int_is (j := 26) e
      exact ⟨_, rfl, _, rfl, fun d hd => thrown_of k (by decide) d hd⟩
    have n26 := int_isnt (j := 26) e26
    refine ⟨_, rfl, rfl, _, rfl, ?_⟩
    refine ite2 (fun e => ?_) (fun e27 => ?_)
    · obtain rfl := int_is (j := 27) e
      exact ⟨_, rfl, _, rfl, fun d hd => thrown_of k (by decide) d hd⟩
    have n27 := int_isnt (j := 27) e27
    refine ⟨_, rfl, rfl, _, rfl, ?_⟩
    refine ite2 (fun e => ?_) (fun e28 => ?_)
    · obtain rfl := int_is (j := 28) e
      exact ⟨_, rfl, _, rfl, fun d hd => thrown_of k (by decide) d hd⟩
    have n28 := int_isnt (j := 28) e28
    refine ⟨_, rfl, rfl, _, rfl, ?_⟩
    refine ite2 (fun e => ?_) (fun e29 => ?_)
    · obtain rfl := int_is (j := 29) e
      exact ⟨_, rfl, _, rfl, fun d hd => thrown_of k (by decide) d hd⟩
    have n29 := int_isnt (j := 29) e29
    refine ⟨_, rfl, rfl, _, rfl, ?_⟩
    refine ite2 (fun e => ?_) (fun e30 => ?_)
    · obtain rfl := int_is (j := 30) e
      exact ⟨_, rfl, _, rfl, fun d hd => thrown_of k (by decide) d hd⟩
    have n30 := int_isnt (j := 30) e30
    refine ⟨_, rfl, rfl, _, rfl, ?_⟩
    refine ite2 (fun e => ?_) (fun e31 => ?_)
    · obtain rfl := int_is (j := 31) e
      exact ⟨_, rfl, _, rfl, fun d hd => thrown_of k (by decide) d hd⟩
    have n31 := int_isnt (j := 31) e31
    refine ⟨_, rfl, rfl, _, rfl, ?_⟩
    refine ite2 (fun e => ?_) (fun e32 => ?_)
    · obtain rfl := int_is (j := 32) e
      exact ⟨_, rfl, _, rfl, fun d hd => thrown_of k (by decide) d hd⟩
    have n32 := int_isnt (j := 32) e32
    refine ⟨_, rfl, rfl, _, rfl, ?_⟩
    refine ite2 (fun e => ?_) (fun e33 => ?_)
    · obtain rfl := int_is (j := 33) e
      exact ⟨_, rfl, _, rfl, fun d hd => thrown_of k (by decide) d hd⟩
    have n33 := int_isnt (j := 33) e33
    refine ⟨_, rfl, rfl, _, rfl, ?_⟩
    refine ite2 (fun e => ?_) (fun e34 => ?_)
    · obtain rfl := int_is (j := 34) e
      exact ⟨_, rfl, _, rfl, fun d hd => thrown_of k (by decide) d hd⟩
    have n34 := int_isnt (j := 34) e34
    refine ⟨_, rfl, rfl, _, rfl, ?_⟩
    refine ite2 (fun e => ?_) (fun e35 => ?_)
    · obtain rfl := int_is (j := 35) e
      exact thrown_bare k (by decide)
    have n35 := int_isnt (j := 35) e35
    refine ⟨_, rfl, rfl, _, rfl, ?_⟩
    refine ite2 (fun e => ?_) (fun e36 => ?_)
    · obtain rfl := int_is (j := 36) e
      exact thrown_bare k (by decide)
    have n36 := int_isnt (j := 36) e36
    exact absurd h1 (by omega)
end
end K00

set_option Elab.async false
set_option linter.all false
set_option maxRecDepth 100000
set_option maxHeartbeats 8000000
namespace K00
open PySem L2
def slotOf (n : Nat) : Option Nat := cond (Nat.blt n 35) (some 2) none
def suiteT (c : Nat → Addr) (n : Nat) : Addr → Value → Option Addr → TS := fun a cls d =>
  tRet (tTup (tCons (tC (.int n)) (tCons (cond (Nat.blt n 35) (tErrFld (fld n) (c n) a cls d (tVar 2)) (tVar 1)) tNil)))
def clauseOf (c : Nat → Addr) (n : Nat) : Clause := (.ref (c n), slotOf n, suiteT c n)
def clauses (c : Nat → Addr) (js : List Nat) : List Clause := js.map (clauseOf c)
/-- a caught error tells its number and its thing -/
def Told (n : Nat) (th : V) (H : Hp) (Q : VK) : Prop := ∀ (p : Addr) (H' : Hp), Same H H' → H p = none → H' p = some (.tup [.int n, th]) → Q (.ref p) H'
def spCaught (c : Nat → Addr) (hi : Nat) : Sp := fun vs H Q E => ∃ (n : Nat) (th : V), vs = [.int n, th] ∧ n < 37 ∧ (n < hi → Told n th H Q) ∧ (¬ n < hi → Thrown c n th H E)
def spBase : Sp := fun vs H Q E => ∃ (n : Nat) (th : V), vs = [.int n, th] ∧ n < 37 ∧ ∀ H' : Hp, Same H H' → Q (.bl true) H'
section
variable {P : Program} {w : World} {K : PySem.W.Frag} {mg : Str → Option Value} {base : Heap} {c fi : Nat → Addr} {U : Addr}
theorem clauses_hit (T : TxtE K mg c fi U) {Wout : WX} {D : Ends} {d : Option Addr} {σ : St} {H : Hp} {n : Nat} (hn : n < 37)
    (h : ∀ a, H a = none → suiteT c n a (.ref (c n)) d (clearedAt D (slotOf n)) (namedAt σ a (slotOf n)) H) :
    ∀ js : List Nat, n ∈ js → (∀ j ∈ js, j < 37) → wClauses K Wout D (clauses c js) (.ref (c n)) d σ H
  | [], hm, _ => absurd hm (by simp)
  | j :: js, hm, hj => by
    refine ⟨_, T.exm n j hn (hj j (List.mem_cons_self ..)), fun e a ha => ?_, fun e => ?_⟩
    · obtain rfl := of_decide_eq_true e
      exact h a ha
    · have ne := of_decide_eq_false e
      rcases List.mem_cons.mp hm with q | q
      · exact absurd q ne
      · exact clauses_hit T hn h js q fun i hi => hj i (List.mem_cons_of_mem _ hi)
theorem clauses_miss (T : TxtE K mg c fi U) {Wout : WX} {D : Ends} {d : Option Addr} {σ : St} {H : Hp} {n : Nat} (hn : n < 37) (h : Wout (.ref (c n)) d σ H) :
    ∀ js : List Nat, n ∉ js → (∀ j ∈ js, j < 37) → wClauses K Wout D (clauses c js) (.ref (c n)) d σ H
  | [], _, _ => h
  | j :: js, hm, hj => by
    refine ⟨_, T.exm n j hn (hj j (List.mem_cons_self ..)), fun e a ha => ?_, fun e => ?_⟩
    · obtain rfl := of_decide_eq_true e
      exact absurd (List.mem_cons_self ..) hm
    · exact clauses_miss T hn h js (fun q => hm (List.mem_cons_of_mem _ q)) fun i hi => hj i (List.mem_cons_of_mem _ hi)
/-- what is thrown, where a clause of these catches it -/
theorem thrown_hit (T : TxtE K mg c fi U) {Wout : WX} {D : Ends} {H : Hp} {n : Nat} {th : V} {js : List Nat} {v : Option V} (hn : n < 37) (hm : n ∈ js) (hj : ∀ j ∈ js, j < 37) (k : Told n th H D.rt) :
    Thrown c n th H (fun cls d H' => wClauses K Wout D (clauses c js) cls d [some (.int n), some th, v] H') := by
  unfold Thrown
  by_cases h : n < 35
  · have hb : Nat.blt n 35 = true := by
      show Nat.ble (n + 1) 35 = true
      exact Nat.ble_eq_true_of_le h
    rw [if_pos h]
    intro d hd
    refine clauses_hit T hn (fun a ha => ?_) js hm hj
    unfold suiteT slotOf
    rw [hb]
    refine ⟨_, rfl, rfl, rfl, d, th, rfl, upd_same, by show 2 ≤ sizeLine; decide, fun p np => ?_⟩
    have npd : p ≠ d := fun e => by
      rw [e, upd_same] at np
      cases np
    rw [upd_ne npd] at np
    refine k p _ (fun b o e => ?_) np upd_same
    rw [upd_ne (ne_of_none e np), upd_ne (ne_of_none e hd)]
    exact e
  · have hb : Nat.blt n 35 = false := by
      cases e : Nat.blt n 35 with
      | false => rfl
      | true => exact absurd (Nat.le_of_ble_eq_true e) h
    rw [if_neg h]
    refine clauses_hit T hn (fun a ha => ?_) js hm hj
    unfold suiteT slotOf
    rw [hb]
    refine ⟨_, rfl, by show 2 ≤ sizeLine; decide, fun p np => ?_⟩
    refine k p _ (fun b o e => ?_) np upd_same
    rw [upd_ne (ne_of_none e np)]
    exact e
theorem thrown_miss (T : TxtE K mg c fi U) {E : XK} {D : Ends} {H : Hp} {n : Nat} {th : V} {js : List Nat} {σ : St} (hn : n < 37) (hm : n ∉ js) (hj : ∀ j ∈ js, j < 37) (k : Thrown c n th H E) :
    Thrown c n th H (fun cls d H' => wClauses K (fun cls d _ H' => E cls d H') D (clauses c js) cls d σ H') := by
  unfold Thrown at k ⊢
  by_cases h : n < 35
  · rw [if_pos h] at k ⊢
    intro d hd
    exact clauses_miss T hn (k d hd) js hm hj
  · rw [if_neg h] at k ⊢
    exact clauses_miss T hn k js hm hj
theorem ok_raise {f fA fB fC : Addr} {fd fdA fdB fdC : FuncData} (F : Fun K "_law_raise" "_law_raise" sRaise f fd) (T : TxtE K mg c fi U)
    (FA : Fun K "_law_raise_a" "_law_raise_a" sRaiseA fA fdA) (bA : Binds K fdA ["number", "thing"] []) (mA : mg "_law_raise_a" = some (.ref fA)) (kA : PySem.W.keepIn K (.ref fA) = true)
    (FB : Fun K "_law_raise_b" "_law_raise_b" sRaiseB fB fdB) (bB : Binds K fdB ["number", "thing"] []) (mB : mg "_law_raise_b" = some (.ref fB)) (kB : PySem.W.keepIn K (.ref fB) = true)
    (FC : Fun K "_law_raise_c" "_law_raise_c" sRaiseC fC fdC) (bC : Binds K fdC ["number", "thing"] []) (mC : mg "_law_raise_c" = some (.ref fC)) (kC : PySem.W.keepIn K (.ref fC) = true) :
    FnOk P w K mg base (L2.CX P w) 4 f fd ["number", "thing"] (spRaise c 0 37) := by
  have GA : FnOk P w K mg base (L2.CX P w) 3 fA fdA ["number", "thing"] (spRaise c 0 13) := ok_raiseA FA T
  have GB : FnOk P w K mg base (L2.CX P w) 3 fB fdB ["number", "thing"] (spRaise c 13 26) := ok_raiseB FB T
  have GC : FnOk P w K mg base (L2.CX P w) 3 fC fdC ["number", "thing"] (spRaise c 26 37) := ok_raiseC FC T
  refine F.okX scRaise (fun vs H Q E h => ?_) (fun cdv A outer s H vs Q E hr h => ?_)
  · obtain ⟨n, th, rfl, _⟩ := h
    rfl
  · obtain ⟨n, th, rfl, h0, h1, k⟩ := h
    refine ⟨_, (pss_one (ps_if (pt_cmpR op_lt (pv 0) pe_int (nomark _))
        (pss_one (ps_expr (pe_call GA hr rfl mA kA bA .nil (passes_call (takes_of rfl rfl rfl rfl) (fun _ _ _ _ z => z)) (pa_cons (pv 0) (pa_cons (pv 1) pa_nil)))))
      (pss_one (ps_if (pt_cmpR op_lt (pv 0) pe_int (nomark _))
        (pss_one (ps_expr (pe_call GB hr rfl mB kB bB .nil (passes_call (takes_of rfl rfl rfl rfl) (fun _ _ _ _ z => z)) (pa_cons (pv 0) (pa_cons (pv 1) pa_nil)))))
        (pss_one (ps_expr (pe_call GC hr rfl mC kC bC .nil (passes_call (takes_of rfl rfl rfl rfl) (fun _ _ _ _ z => z)) (pa_cons (pv 0) (pa_cons (pv 1) pa_nil))))))))), ?_⟩
    refine ⟨_, rfl, _, _, rfl, rfl, _, rfl, ?_⟩
    refine ite2 (fun e => ?_) (fun e => ?_)
    · have e' := of_decide_eq_true e
      exact ⟨_, rfl, _, rfl, n, th, rfl, h0, by omega, k⟩
    · have e' : ¬ ((n : Int) < 13) := fun z => e (decide_eq_true z)
      refine ⟨_, rfl, _, _, rfl, rfl, _, rfl, ?_⟩
      refine ite2 (fun e2 => ?_) (fun e2 => ?_)
      · have e3 := of_decide_eq_true e2
        exact ⟨_, rfl, _, rfl, n, th, rfl, by omega, by omega, k⟩
      · have e3 : ¬ ((n : Int) < 26) := fun z => e2 (decide_eq_true z)
        exact ⟨_, rfl, _, rfl, n, th, rfl, by omega, by omega, k⟩
theorem ok_caught_a {f fR : Addr} {fd fdR : FuncData} (F : Fun K "_law_caught_a" "_law_caught_a" sCaughtA f fd) (T : TxtE K mg c fi U) (GR : FnOk P w K mg base (L2.CX P w) 4 fR fdR ["number", "thing"] (spRaise c 0 37))
    (bR : Binds K fdR ["number", "thing"] []) (mR : mg "_law_raise" = some (.ref fR)) (kR : PySem.W.keepIn K (.ref fR) = true) : FnOk P w K mg base (L2.CX P w) 5 f fd ["number", "thing"] (spCaught c 13) := by
  refine F.okX scCaughtA (fun vs H Q E h => ?_) (fun cdv A outer s H vs Q E hr h => ?_)
  · obtain ⟨n, th, rfl, _⟩ := h
    rfl
  · obtain ⟨n, th, rfl, h1, k1, k2⟩ := h
    refine ⟨_, pss_cons (ps_try_clauses (Wout := fun cls d _ H' => E cls d H') (l := clauses c [0, 1, 2, 3, 4, 5, 6, 7, 8, 9, 10, 11, 12]) (tb := fun W => tDrop (tCallS (spRaise c 0 37) (WE W) (tCons (tVar 0) (tCons (tVar 1) tNil)))) rfl rfl (takes_of rfl rfl rfl rfl)
      (fun W pn xe tk _ => pss_one (ps_expr (pe_callS GR hr rfl mR kR bR (fun σ => passAt tk σ) (by exact (pa_cons (pv 0) (pa_cons (pv 1) pa_nil))))))
      (ClausesOk.named ⟨rfl, by decide, .inl (T.gc 0 (by decide))⟩ scCaughtA.nd rfl rfl (fun a oe cls d pn hz hf => pss_one (ps_ret (pe_tup (pa_cons pe_int (pa_cons (pe_errFld (T.err 0 (by decide)) hz hf (pv 2)) pa_nil)))))
      (ClausesOk.named ⟨rfl, by decide, .inl (T.gc 1 (by decide))⟩ scCaughtA.nd rfl rfl (fun a oe cls d pn hz hf => pss_one (ps_ret (pe_tup (pa_cons pe_int (pa_cons (pe_errFld (T.err 1 (by decide)) hz hf (pv 2)) pa_nil)))))
      (ClausesOk.named ⟨rfl, by decide, .inl (T.gc 2 (by decide))⟩ scCaughtA.nd rfl rfl (fun a oe cls d pn hz hf => pss_one (ps_ret (pe_tup (pa_cons pe_int (pa_cons (pe_errFld (T.err 2 (by decide)) hz hf (pv 2)) pa_nil)))))
      (ClausesOk.named ⟨rfl, by decide, .inl (T.gc 3 (by decide))⟩ scCaughtA.nd rfl rfl (fun a oe cls d pn hz hf => pss_one (ps_ret (pe_tup (pa_cons pe_int (pa_cons (pe_errFld (T.err 3 (by decide)) hz hf (pv 2)) pa_nil)))))
      (ClausesOk.named ⟨rfl, by decide, .inl (T.gc 4 (by decide))⟩ scCaughtA.nd rfl rfl (fun a oe cls d pn hz hf => pss_one (ps_ret (pe_tup (pa_cons pe_int (pa_cons (pe_errFld (T.err 4 (by decide)) hz hf (pv 2)) pa_nil)))))
      (ClausesOk.named ⟨rfl, by decide, .inl (T.gc 5 (by decide))⟩ scCaughtA.nd rfl rfl (fun a oe cls d pn hz hf => pss_one (ps_ret (pe_tup (pa_cons pe_int (pa_cons (pe_errFld (T.err 5 (by decide)) hz hf (pv 2)) pa_nil)))))
      (ClausesOk.named ⟨rfl, by decide, .inl (T.gc 6 (by decide))⟩ scCaughtA.nd rfl rfl (fun a oe cls d pn hz hf => pss_one (ps_ret (pe_tup (pa_cons pe_int (pa_cons (pe_errFld (T.err 6 (by decide)) hz hf (pv 2)) pa_nil)))))
      (ClausesOk.named ⟨rfl, by decide, .inl (T.gc 7 (by decide))⟩ scCaughtA.nd rfl rfl (fun a oe cls d pn hz hf => pss_one (ps_ret (pe_tup (pa_cons pe_int (pa_cons (pe_errFld (T.err 7 (by decide)) hz hf (pv 2)) pa_nil)))))
      (ClausesOk.named ⟨rfl, by decide, .inl (T.gc 8 (by decide))⟩ scCaughtA.nd rfl rfl (fun a oe cls d pn hz hf => pss_one (ps_ret (pe_tup (pa_cons pe_int (pa_cons (pe_errFld (T.err 8 (by decide)) hz hf (pv 2)) pa_nil)))))
      (ClausesOk.named ⟨rfl, by decide, .inl (T.gc 9 (by decide))⟩ scCaughtA.nd rfl rfl (fun a oe cls d pn hz hf => pss_one (ps_ret (pe_tup (pa_cons pe_int (pa_cons (pe_errFld (T.err 9 (by decide)) hz hf (pv 2)) pa_nil)))))
      (ClausesOk.named ⟨rfl, by decide, .inl (T.gc 10 (by decide))⟩ scCaughtA.nd rfl rfl (fun a oe cls d pn hz hf => pss_one (ps_ret (pe_tup (pa_cons pe_int (pa_cons (pe_errFld (T.err 10 (by decide)) hz hf (pv 2)) pa_nil)))))
      (ClausesOk.named ⟨rfl, by decide, .inl (T.gc 11 (by decide))⟩ scCaughtA.nd rfl rfl (fun a oe cls d pn hz hf => pss_one (ps_ret (pe_tup (pa_cons pe_int (pa_cons (pe_errFld (T.err 11 (by decide)) hz hf (pv 2)) pa_nil)))))
      (ClausesOk.named ⟨rfl, by decide, .inl (T.gc 12 (by decide))⟩ scCaughtA.nd rfl rfl (fun a oe cls d pn hz hf => pss_one (ps_ret (pe_tup (pa_cons pe_int (pa_cons (pe_errFld (T.err 12 (by decide)) hz hf (pv 2)) pa_nil)))))
      ClausesOk.nil)))))))))))))) (pss_one (ps_ret pe_non)), ?_⟩
    refine ⟨_, rfl, _, rfl, n, th, rfl, Nat.zero_le _, h1, ?_⟩
    by_cases hn : n < 13
    · exact thrown_hit T h1 (by simp; omega) (by decide) (k1 hn)
    · exact thrown_miss T h1 (by simp; omega) (by decide) (k2 hn)
theorem ok_caught_b {f fR : Addr} {fd fdR : FuncData} (F : Fun K "_law_caught_b" "_law_caught_b" sCaughtB f fd) (T : TxtE K mg c fi U) (GR : FnOk P w K mg base (L2.CX P w) 5 fR fdR ["number", "thing"] (spCaught c 13))
    (bR : Binds K fdR ["number", "thing"] []) (mR : mg "_law_caught_a" = some (.ref fR)) (kR : PySem.W.keepIn K (.ref fR) = true) : FnOk P w K mg base (L2.CX P w) 6 f fd ["number", "thing"] (spCaught c 26) := by
  refine F.okX scCaughtB (fun vs H Q E h => ?_) (fun cdv A outer s H vs Q E hr h => ?_)
  · obtain ⟨n, th, rfl, _⟩ := h
    rfl
  · obtain ⟨n, th, rfl, h1, k1, k2⟩ := h
    refine ⟨_, pss_cons (ps_try_clauses (Wout := fun cls d _ H' => E cls d H') (l := clauses c [13, 14, 15, 16, 17, 18, 19, 20, 21, 22, 23, 24, 25]) (tb := fun W => tRet (tCallS (spCaught c 13) (WE W) (tCons (tVar 0) (tCons (tVar 1) tNil)))) rfl rfl (takes_of rfl rfl rfl rfl)
      (fun W pn xe tk _ => pss_one (ps_ret (pe_callS GR hr rfl mR kR bR (fun σ => passAt tk σ) (by exact (pa_cons (pv 0) (pa_cons (pv 1) pa_nil))))))
      (ClausesOk.named ⟨rfl, by decide, .inl (T.gc 13 (by decide))⟩ scCaughtB.nd rfl rfl (fun a oe cls d pn hz hf => pss_one (ps_ret (pe_tup (pa_cons pe_int (pa_cons (pe_errFld (T.err 13 (by decide)) hz hf (pv 2)) pa_nil)))))
      (ClausesOk.named ⟨rfl, by decide, .inl (T.gc 14 (by decide))⟩ scCaughtB.nd rfl rfl (fun a oe cls d pn hz hf => pss_one (ps_ret (pe_tup (pa_cons pe_int (pa_cons (pe_errFld (T.err 14 (by decide)) hz hf (pv 2)) pa_nil)))))
      (ClausesOk.named ⟨rfl, by decide, .inl (T.gc 15 (by decide))⟩ scCaughtB.nd rfl rfl (fun a oe cls d pn hz hf => pss_one (ps_ret (pe_tup (pa_cons pe_int (pa_cons (pe_errFld (T.err 15 (by decide)) hz hf (pv 2)) pa_nil)))))
      (ClausesOk.named ⟨rfl, by decide, .inl (T.gc 16 (by decide))⟩ scCaughtB.nd rfl rfl (fun a oe cls d pn hz hf => pss_one (ps_ret (pe_tup (pa_cons pe_int (pa_cons (pe_errFld (T.err 16 (by decide)) hz hf (pv 2)) pa_nil)))))
      (ClausesOk.named ⟨rfl, by decide, .inl (T.gc 17 (by decide))⟩ scCaughtB.nd rfl rfl (fun a oe cls d pn hz hf => pss_one (ps_ret (pe_tup (pa_cons pe_int (pa_cons (pe_errFld (T.err 17 (by decide)) hz hf (pv 2)) pa_nil)))))
      (ClausesOk.named ⟨rfl, by decide, .inl (T.gc 18 (by decide))⟩ scCaughtB.nd rfl rfl (fun a oe cls d pn hz hf => pss_one (ps_ret (pe_tup (pa_cons pe_int (pa_cons (pe_errFld (T.err 18 (by decide)) hz hf (pv 2)) pa_nil)))))
      (ClausesOk.named ⟨rfl, by decide, .inl (T.gc 19 (by decide))⟩ scCaughtB.nd rfl rfl (fun a oe cls d pn hz hf => pss_one (ps_ret (pe_tup (pa_cons pe_int (pa_cons (pe_errFld (T.err 19 (by decide)) hz hf (pv 2)) pa_nil)))))
      (ClausesOk.named ⟨rfl, by decide, .inl (T.gc 20 (by decide))⟩ scCaughtB.nd rfl rfl (fun a oe cls d pn hz hf => pss_one (ps_ret (pe_tup (pa_cons pe_int (pa_cons (pe_errFld (T.err 20 (by decide)) hz hf (pv 2)) pa_nil)))))
      (ClausesOk.named ⟨rfl, by decide, .inl (T.gc 21 (by decide))⟩ scCaughtB.nd rfl rfl (fun a oe cls d pn hz hf => pss_one (ps_ret (pe_tup (pa_cons pe_int (pa_cons (pe_errFld (T.err 21 (by decide)) hz hf (pv 2)) pa_nil)))))
      (ClausesOk.named ⟨rfl, by decide, .inl (T.gc 22 (by decide))⟩ scCaughtB.nd rfl rfl (fun a oe cls d pn hz hf => pss_one (ps_ret (pe_tup (pa_cons pe_int (pa_cons (pe_errFld (T.err 22 (by decide)) hz hf (pv 2)) pa_nil)))))
      (ClausesOk.named ⟨rfl, by decide, .inl (T.gc 23 (by decide))⟩ scCaughtB.nd rfl rfl (fun a oe cls d pn hz hf => pss_one (ps_ret (pe_tup (pa_cons pe_int (pa_cons (pe_errFld (T.err 23 (by decide)) hz hf (pv 2)) pa_nil)))))
      (ClausesOk.named ⟨rfl, by decide, .inl (T.gc 24 (by decide))⟩ scCaughtB.nd rfl rfl (fun a oe cls d pn hz hf => pss_one (ps_ret (pe_tup (pa_cons pe_int (pa_cons (pe_errFld (T.err 24 (by decide)) hz hf (pv 2)) pa_nil)))))
      (ClausesOk.named ⟨rfl, by decide, .inl (T.gc 25 (by decide))⟩ scCaughtB.nd rfl rfl (fun a oe cls d pn hz hf => pss_one (ps_ret (pe_tup (pa_cons pe_int (pa_cons (pe_errFld (T.err 25 (by decide)) hz hf (pv 2)) pa_nil)))))
      ClausesOk.nil)))))))))))))) (pss_one (ps_ret pe_non)), ?_⟩
    refine ⟨_, rfl, _, rfl, n, th, rfl, h1, fun hn => k1 (by omega), fun hm => ?_⟩
    by_cases hn : n < 26
    · exact thrown_hit T h1 (by simp; omega) (by decide) (k1 hn)
    · exact thrown_miss T h1 (by simp; omega) (by decide) (k2 hn)
theorem ok_caught_c {f fR : Addr} {fd fdR : FuncData} (F : Fun K "_law_caught_c" "_law_caught_c" sCaughtC f fd) (T : TxtE K mg c fi U) (GR : FnOk P w K mg base (L2.CX P w) 6 fR fdR ["number", "thing"] (spCaught c 26))
    (bR : Binds K fdR ["number", "thing"] []) (mR : mg "_law_caught_b" = some (.ref fR)) (kR : PySem.W.keepIn K (.ref fR) = true) : FnOk P w K mg base (L2.CX P w) 7 f fd ["number", "thing"] (spCaught c 37) := by
  refine F.okX scCaughtC (fun vs H Q E h => ?_) (fun cdv A outer s H vs Q E hr h => ?_)
  · obtain ⟨n, th, rfl, _⟩ := h
    rfl
  · obtain ⟨n, th, rfl, h1, k1, k2⟩ := h
    refine ⟨_, pss_cons (ps_try_clauses (Wout := fun cls d _ H' => E cls d H') (l := clauses c [26, 27, 28, 29, 30, 31, 32, 33, 34, 35, 36]) (tb := fun W => tRet (tCallS (spCaught c 26) (WE W) (tCons (tVar 0) (tCons (tVar 1) tNil)))) rfl rfl (takes_of rfl rfl rfl rfl)
      (fun W pn xe tk _ => pss_one (ps_ret (pe_callS GR hr rfl mR kR bR (fun σ => passAt tk σ) (by exact (pa_cons (pv 0) (pa_cons (pv 1) pa_nil))))))
      (ClausesOk.named ⟨rfl, by decide, .inl (T.gc 26 (by decide))⟩ scCaughtC.nd rfl rfl (fun a oe cls d pn hz hf => pss_one (ps_ret (pe_tup (pa_cons pe_int (pa_cons (pe_errFld (T.err 26 (by decide)) hz hf (pv 2)) pa_nil)))))
      (ClausesOk.named ⟨rfl, by decide, .inl (T.gc 27 (by decide))⟩ scCaughtC.nd rfl rfl (fun a oe cls d pn hz hf => pss_one (ps_ret (pe_tup (pa_cons pe_int (pa_cons (pe_errFld (T.err 27 (by decide)) hz hf (pv 2)) pa_nil)))))
      (ClausesOk.named ⟨rfl, by decide, .inl (T.gc 28 (by decide))⟩ scCaughtC.nd rfl rfl (fun a oe cls d pn hz hf => pss_one (ps_ret (pe_tup (pa_cons pe_int (pa_cons (pe_errFld (T.err 28 (by decide)) hz hf (pv 2)) pa_nil)))))
      (ClausesOk.named ⟨rfl, by decide, .inl (T.gc 29 (by decide))⟩ scCaughtC.nd rfl rfl (fun a oe cls d pn hz hf => pss_one (ps_ret (pe_tup (pa_cons pe_int (pa_cons (pe_errFld (T.err 29 (by decide)) hz hf (pv 2)) pa_nil)))))
      (ClausesOk.named ⟨rfl, by decide, .inl (T.gc 30 (by decide))⟩ scCaughtC.nd rfl rfl (fun a oe cls d pn hz hf => pss_one (ps_ret (pe_tup (pa_cons pe_int (pa_cons (pe_errFld (T.err 30 (by decide)) hz hf (pv 2)) pa_nil)))))
      (ClausesOk.named ⟨rfl, by decide, .inl (T.gc 31 (by decide))⟩ scCaughtC.nd rfl rfl (fun a oe cls d pn hz hf => pss_one (ps_ret (pe_tup (pa_cons pe_int (pa_cons (pe_errFld (T.err 31 (by decide)) hz hf (pv 2)) pa_nil)))))
      (ClausesOk.named ⟨rfl, by decide, .inl (T.gc 32 (by decide))⟩ scCaughtC.nd rfl rfl (fun a oe cls d pn hz hf => pss_one (ps_ret (pe_tup (pa_cons pe_int (pa_cons (pe_errFld (T.err 32 (by decide)) hz hf (pv 2)) pa_nil)))))
      (ClausesOk.named ⟨rfl, by decide, .inl (T.gc 33 (by decide))⟩ scCaughtC.nd rfl rfl (fun a oe cls d pn hz hf => pss_one (ps_ret (pe_tup (pa_cons pe_int (pa_cons (pe_errFld (T.err 33 (by decide)) hz hf (pv 2)) pa_nil)))))
      (ClausesOk.named ⟨rfl, by decide, .inl (T.gc 34 (by decide))⟩ scCaughtC.nd rfl rfl (fun a oe cls d pn hz hf => pss_one (ps_ret (pe_tup (pa_cons pe_int (pa_cons (pe_errFld (T.err 34 (by decide)) hz hf (pv 2)) pa_nil)))))
      (ClausesOk.bare ⟨rfl, by decide, .inl (T.gc 35 (by decide))⟩ (fun a oe cls d pn hz hf => pss_one (ps_ret (pe_tup (pa_cons pe_int (pa_cons (pv 1) pa_nil)))))
      (ClausesOk.bare ⟨rfl, by decide, .inl (T.gc 36 (by decide))⟩ (fun a oe cls d pn hz hf => pss_one (ps_ret (pe_tup (pa_cons pe_int (pa_cons (pv 1) pa_nil)))))
      ClausesOk.nil)))))))))))) (pss_one (ps_ret pe_non)), ?_⟩
    refine ⟨_, rfl, _, rfl, n, th, rfl, h1, fun hn => k1 (by omega), fun hm => ?_⟩
    by_cases hn : n < 37
    · exact thrown_hit T h1 (by simp; omega) (by decide) (k1 hn)
    · exact thrown_miss T h1 (by simp; omega) (by decide) (k2 hn)
theorem ok_base {f fR : Addr} {fd fdR : FuncData} (F : Fun K "_law_is_base" "_law_is_base" sIsBase f fd) (T : TxtE K mg c fi U) (GR : FnOk P w K mg base (L2.CX P w) 4 fR fdR ["number", "thing"] (spRaise c 0 37))
    (bR : Binds K fdR ["number", "thing"] []) (mR : mg "_law_raise" = some (.ref fR)) (kR : PySem.W.keepIn K (.ref fR) = true) : FnOk P w K mg base (L2.CX P w) 5 f fd ["number", "thing"] spBase := by
  refine F.okX scIsBase (fun vs H Q E h => ?_) (fun cdv A outer s H vs Q E hr h => ?_)
  · obtain ⟨n, th, rfl, _⟩ := h
    rfl
  · obtain ⟨n, th, rfl, h1, k⟩ := h
    refine ⟨_, pss_cons (ps_try_clauses (Wout := fun cls d _ H' => E cls d H') (l := [(.ref U, none, fun _ _ _ => tRet (tC (.bl true)))]) (tb := fun W => tDrop (tCallS (spRaise c 0 37) (WE W) (tCons (tVar 0) (tCons (tVar 1) tNil)))) rfl rfl (takes_of rfl rfl rfl rfl)
      (fun W pn xe tk _ => pss_one (ps_expr (pe_callS GR hr rfl mR kR bR (fun σ => passAt tk σ) (by exact (pa_cons (pv 0) (pa_cons (pv 1) pa_nil))))))
      (ClausesOk.bare ⟨rfl, by decide, .inl T.gU⟩ (fun a oe cls d pn hz hf => pss_one (ps_ret pe_bl)) ClausesOk.nil)) (pss_one (ps_ret pe_bl)), ?_⟩
    refine ⟨_, rfl, _, rfl, n, th, rfl, Nat.zero_le _, h1, ?_⟩
    unfold Thrown
    by_cases h : n < 35
    · rw [if_pos h]
      intro d hd
      exact ⟨true, T.exmU n h1, fun _ a ha => k _ (fun b o e => by rw [upd_ne (ne_of_none e hd)]; exact e), fun q => Bool.noConfusion q⟩
    · rw [if_neg h]
      exact ⟨true, T.exmU n h1, fun _ a ha => k _ (Same.refl _), fun q => Bool.noConfusion q⟩
end
end K00

set_option Elab.async false
set_option linter.all false
set_option maxRecDepth 100000
set_option maxHeartbeats 8000000
namespace K00
open PySem L2
def spLaw (K : PySem.W.Frag) : Sp := fun vs H Q _ => ∃ (a : Addr) (ns : List Int), vs = [.ref a] ∧ SqL K H a (ns.map V.int) ∧ ns.length ≤ 63 ∧ ∀ H', Q (.bl true) H'
theorem same_upd {H : Hp} {p : Addr} {o : HO} (n : H p = none) : Same H (upd H p o) := fun b u e => by
  rw [upd_ne (ne_of_none e n)]
  exact e
/-- the data that a thing may be -/
def datas : List PyData := [.int 0, .int (-1), .none, .str "words", .tuple [.int 1, .int 2], .list [.int 3], .bool true, .int 7]
theorem datas_ok : ∀ d ∈ datas, ∀ n : Nat, n < 37 → SeqAt.shaped (.tuple [.int n, d]) = true ∧ PyData.eqv (.tuple [.int n, d]) (.tuple [.int n, d]) = true := by
  decide +kernel
abbrev things (t l : Addr) : List V := [.int 0, .int (-1), .non, .str "words", .ref t, .ref l, .bl true, .int 7]
theorem thing_dp {K : PySem.W.Frag} {H : Hp} {t l : Addr} {x : V} (h : x ∈ things t l) (ht : H t = some (.tup [.int 1, .int 2])) (hl : H l = some (.lst [.int 3])) : ∃ d ∈ datas, Dp K H x d := by
  unfold things at h
  simp only [List.mem_cons, List.not_mem_nil, or_false] at h
  unfold datas
  rcases h with rfl | rfl | rfl | rfl | rfl | rfl | rfl | rfl
  · exact ⟨_, .head _, .int 0⟩
  · exact ⟨_, .tail _ (.head _), .int (-1)⟩
  · exact ⟨_, .tail _ (.tail _ (.head _)), .non⟩
  · exact ⟨_, .tail _ (.tail _ (.tail _ (.head _))), .str _⟩
  · exact ⟨_, .tail _ (.tail _ (.tail _ (.tail _ (.head _)))), .tup (.inl (.inl ht)) (.cons (.int 1) (.cons (.int 2) .nil))⟩
  · exact ⟨_, .tail _ (.tail _ (.tail _ (.tail _ (.tail _ (.head _))))), .lst (.inl (.inl hl)) (.cons (.int 3) .nil)⟩
  · exact ⟨_, .tail _ (.tail _ (.tail _ (.tail _ (.tail _ (.tail _ (.head _)))))), .bl true⟩
  · exact ⟨_, .tail _ (.tail _ (.tail _ (.tail _ (.tail _ (.tail _ (.tail _ (.head _))))))), .int 7⟩
theorem dp_pair {K : PySem.W.Frag} {H : Hp} {p : Addr} {n : Nat} {x : V} {d : PyData} (hp : H p = some (.tup [.int n, x])) (hx : Dp K H x d) : Dp K H (.ref p) (.tuple [.int n, d]) :=
  .tup (.inl (.inl hp)) (.cons (.int _) (.cons hx .nil))
def keptD : PyData := .tuple [.int (-1), .str "x", .tuple [.int 0, .int 1], .int 2]
theorem kept_ok : SeqAt.shaped keptD = true ∧ PyData.eqv keptD keptD = true := by decide +kernel
theorem dp_kept {K : PySem.W.Frag} {H : Hp} {p t : Addr} (hp : H p = some (.tup [.int (-1), .str "x", .ref t, .int 2])) (ht : H t = some (.tup [.int 0, .int 1])) : Dp K H (.ref p) keptD :=
  .tup (.inl (.inl hp)) (.cons (.int _) (.cons (.str _) (.cons (.tup (.inl (.inl ht)) (.cons (.int 0) (.cons (.int 1) .nil))) (.cons (.int 2) .nil))))
structure TxtL (K : PySem.W.Frag) (mg : Str → Option Value) : Prop extends TxtN mg where
  range : mg "range" = none
section
variable {P : Program} {w : World} {K : PySem.W.Frag} {mg : Str → Option Value} {base : Heap} {c fi : Nat → Addr} {U : Addr}
theorem ok_law {f fB fP fC fI : Addr} {fd fdB fdP fdC fdI : FuncData} (F : Fun K "law" "law" sLaw f fd) (T : TxtE K mg c fi U) (N : TxtL K mg)
    (GB : FnOk P w K mg base CX0 1 fB fdB ["script", "k"] (spBox K)) (bB : Binds K fdB ["script", "k"] []) (mB : mg "_law_box" = some (.ref fB)) (kB : PySem.W.keepIn K (.ref fB) = true)
    (GP : FnOk P w K mg base CX0 2 fP fdP ["box", "some"] (spPick K)) (bP : Binds K fdP ["box", "some"] []) (mP : mg "_law_pick" = some (.ref fP)) (kP : PySem.W.keepIn K (.ref fP) = true)
    (GC : FnOk P w K mg base (L2.CX P w) 7 fC fdC ["number", "thing"] (spCaught c 37)) (bC : Binds K fdC ["number", "thing"] []) (mC : mg "_law_caught_c" = some (.ref fC)) (kC : PySem.W.keepIn K (.ref fC) = true)
    (GI : FnOk P w K mg base (L2.CX P w) 5 fI fdI ["number", "thing"] spBase) (bI : Binds K fdI ["number", "thing"] []) (mI : mg "_law_is_base" = some (.ref fI)) (kI : PySem.W.keepIn K (.ref fI) = true) :
    FnOk P w K mg base CX0 8 f fd ["script"] (spLaw K) := by
  refine F.ok scLaw (fun vs H Q E h => ?_) (fun cdv A outer s H vs Q E hr h => ?_)
  · obtain ⟨a, ns, rfl, _⟩ := h
    rfl
  · obtain ⟨a, ns, rfl, hS, hlen, k⟩ := h
    refine ⟨_, pss_cons (ps_set (i := 1) scLaw.nd rfl (Or.inl rfl) (pe_call GB (hr.mono (by decide)) rfl mB kB bB .nil pass0 (pa_cons (pv 0) (pa_cons pe_int pa_nil))))
      (pss_cons (ps_for PassesOwn.never rfl (pi_range1 rfl N.range (pa_cons pe_int pa_nil)) (pg_name (i := 2) scLaw.nd rfl (Or.inl rfl))
        (pss_cons (ps_set (i := 3) scLaw.nd rfl (Or.inl rfl) (pe_call GP (hr.mono (by decide)) rfl mP kP bP .nil pass0 (pa_cons (pv 1) (pa_cons
            (pe_lst (pa_cons pe_int (pa_cons (pe_un un_neg pe_int) (pa_cons pe_non (pa_cons pe_str (pa_cons (pe_tup (pa_cons pe_int (pa_cons pe_int pa_nil)))
              (pa_cons (pe_lst (pa_cons pe_int pa_nil)) (pa_cons pe_bl (pa_cons pe_int pa_nil))))))))) pa_nil))))
        (pss_one (ps_if (PW.pt (pw_or (pt_cmpR (op_neD hr.units) (pe_call GC (hr.mono (by decide)) rfl mC kC bC .nil passL (pa_cons (pv 2) (pa_cons (pv 3) pa_nil))) (pe_tup (pa_cons (pv 2) (pa_cons (pv 3) pa_nil))) (nomark _))
            (pw_or1 (pt_not (pt_val (pe_call GI (hr.mono (by decide)) rfl mI kI bI .nil passL (pa_cons (pv 2) (pa_cons (pv 3) pa_nil))))))))
          (pss_one (ps_ret pe_bl)) pss_nil))))
      (pss_cons (ps_set (i := 4) scLaw.nd rfl (Or.inl rfl) (pe_tup (pa_cons (pe_newErr (T.err 0 (by decide)) hr (pk_cons (pe_un un_neg pe_int) pk_nil) rfl)
          (pa_cons (pe_newErr (T.err 31 (by decide)) hr (pk_cons pe_str pk_nil) rfl) (pa_cons (pe_newErr (T.err 33 (by decide)) hr (pk_cons (pe_tup (pa_cons pe_int (pa_cons pe_int pa_nil))) pk_nil) rfl)
          (pa_cons (pe_newErr (T.err 34 (by decide)) hr (pk_cons pe_int pk_nil) rfl) pa_nil))))))
      (pss_one (ps_ret (pe_cmpR (op_eqD hr.units) (pv 4) (pe_tup (pa_cons (pe_un un_neg pe_int) (pa_cons pe_str (pa_cons (pe_tup (pa_cons pe_int (pa_cons pe_int pa_nil))) (pa_cons pe_int pa_nil))))) (nomark _)))))), ?_⟩
    refine ⟨_, rfl, a, ns, 0, rfl, hS, hlen, fun b H1 nb s1 hb => ?_⟩
    refine ⟨37, rfl, by decide, by decide, for_range (n := 37) (fun i σ H' => ∃ v2 v3 : Option V, σ = [some (.ref a), some (.ref b), v2, v3, none] ∧ BoxAt H' b) ⟨none, none, rfl, hb⟩ ?_ ?_⟩
    · rintro i σ H' hi ⟨v2, v3, rfl, x, y, z, eb⟩
      show gName 2 (V.int (0 + (i : Int))) _ _ _
      rw [Int.zero_add]
      -- the list of things
      refine ⟨_, rfl, _, rfl, by show 2 ≤ sizeLine; decide, fun t nt => ?_⟩
      refine ⟨by show 1 ≤ sizeLine; decide, fun l nl => ?_⟩
      refine ⟨by show 8 ≤ sizeLine; decide, fun L nL => ?_⟩
      have sT : Same H' (upd H' t (.tup [.int 1, .int 2])) := same_upd nt
      have sL : Same (upd H' t (.tup [.int 1, .int 2])) (upd (upd H' t (.tup [.int 1, .int 2])) l (.lst [.int 3])) := same_upd nl
      have sLL := same_upd (o := .lst (things t l)) nL
      have et : upd (upd (upd H' t (.tup [.int 1, .int 2])) l (.lst [.int 3])) L (.lst (things t l)) t = some (.tup [.int 1, .int 2]) := sLL _ _ (sL _ _ upd_same)
      have el : upd (upd (upd H' t (.tup [.int 1, .int 2])) l (.lst [.int 3])) L (.lst (things t l)) l = some (.lst [.int 3]) := sLL _ _ upd_same
      have eb1 : upd (upd (upd H' t (.tup [.int 1, .int 2])) l (.lst [.int 3])) L (.lst (things t l)) b = some (.lst [.int x, .int y, .int z]) := sLL _ _ (sL _ _ (sT _ _ eb))
      have nbL : b ≠ L := ne_of_none (sL _ _ (sT _ _ eb)) nL
      have nbt : t ≠ b := (ne_of_none eb nt).symm
      have nbl : l ≠ b := (ne_of_none (sT _ _ eb) nl).symm
      refine ⟨b, L, things t l, rfl, ⟨x, y, z, eb1⟩, SqL.of upd_same, nbL, by show 0 < 8; decide, by show 8 < 1000; decide, fun th H2 hth hb2 hu => ?_⟩
      have et2 : H2 t = some (.tup [.int 1, .int 2]) := (hu t nbt).trans et
      have el2 : H2 l = some (.lst [.int 3]) := (hu l nbl).trans el
      -- the word of the clauses
      refine ⟨_, rfl, _, rfl, i, th, rfl, hi, fun _ p H3 s3 np hp => ?_, fun q => absurd hi q⟩
      refine ⟨_, rfl, _, rfl, by show 2 ≤ sizeLine; decide, fun q nq => ?_⟩
      have sq := same_upd (o := .tup [.int (i : Int), th]) nq
      obtain ⟨d, hd, dx⟩ := thing_dp (K := K) hth (sq _ _ (s3 _ _ et2)) (sq _ _ (s3 _ _ el2))
      obtain ⟨o1, o2⟩ := datas_ok d hd i hi
      refine ⟨_, _, dp_pair (sq _ _ hp) dx, dp_pair upd_same dx, o1, o1, _, rfl, ?_⟩
      rw [o2]
      refine ⟨_, rfl, _, rfl, i, th, rfl, hi, fun H4 s4 => ?_⟩
      refine ⟨_, rfl, ?_⟩
      obtain ⟨x2, y2, z2, eb2⟩ := hb2
      exact ⟨_, _, rfl, x2, y2, z2, s4 _ _ (sq _ _ (s3 _ _ eb2))⟩
    · rintro σ H' ⟨v2, v3, rfl, _⟩
      refine ⟨_, rfl, _, rfl, fun d1 n1 => ?_⟩
      refine ⟨_, rfl, fun d2 n2 => ?_⟩
      refine ⟨by show 2 ≤ sizeLine; decide, fun t nt => ?_⟩
      refine ⟨_, rfl, fun d3 n3 => ?_⟩
      refine ⟨_, rfl, fun d4 n4 => ?_⟩
      refine ⟨by show 4 ≤ sizeLine; decide, fun p np => ?_⟩
      refine ⟨_, rfl, _, rfl, by show 2 ≤ sizeLine; decide, fun t' nt' => ?_⟩
      refine ⟨by show 4 ≤ sizeLine; decide, fun p' np' => ?_⟩
      have a3 := same_upd (o := .xd [(fld 33, V.ref t)]) n3
      have a4 := same_upd (o := .xd [(fld 34, V.int 2)]) n4
      have ap := same_upd (o := .tup [V.int (-1), V.str "x", V.ref t, V.int 2]) np
      have at' := same_upd (o := .tup [V.int 0, V.int 1]) nt'
      have ap' := same_upd (o := .tup [V.int (-1), V.str "x", V.ref t', V.int 2]) np'
      refine ⟨keptD, keptD, dp_kept (ap' _ _ (at' _ _ upd_same)) (ap' _ _ (at' _ _ (ap _ _ (a4 _ _ (a3 _ _ upd_same))))), dp_kept upd_same (ap' _ _ upd_same), kept_ok.1, kept_ok.1, ?_⟩
      rw [kept_ok.2]
      exact k _
end
end K00

set_option Elab.async false
set_option linter.all false
set_option maxRecDepth 100000
set_option maxHeartbeats 4000000
/-! The head's facts with one more question of one's own; own errors told by such a question. -/
namespace HX
open PySem PySem.Spec PyProof.Rows L2
open PySem.W (Frag nsIn findIn typeIn keepIn)
/-- as He.hookD, and ok of the same part of the heap -/
def hookX (n : Nat) (fa : List He.Fa) (fn : List He.DefD) (ok : Frag → Bool) : PySem.W.Hook where
  α := He.AlD × Bool
  obs := fun s => (He.obsDG n fa fn s.heap.get?, ok (He.frG s.heap.get? (He.asD s.heap.get? n)))
  val := fun _ => (He.valD fn, true)
  says := fun _ h => ∃ K : Frag, K.In h ∧ He.SaysD fa fn K ∧ ok K = true
  of := fun _ _ e => by
    obtain ⟨e1, e2⟩ := Prod.mk.inj e
    exact ⟨_, He.frG_in, e1, e2⟩
  keeps := fun _ _ _ ⟨K, hK, c, o⟩ k => ⟨K, PySem.W.Frag.In.keeps hK k, c, o⟩
def obX (n : Nat) (fa : List He.Fa) (fn : List He.DefD) (ok : Frag → Bool) (g : Addr → Option Obj) : He.AlD × Bool := (He.obsDG n fa fn g, ok (He.frG g (He.asD g n)))
theorem obX_eq {n : Nat} {fa : List He.Fa} {fn : List He.DefD} {ok : Frag → Bool} {g : Addr → Option Obj} {s : Shared} (h : ∀ a, g a = s.heap.get? a) : obX n fa fn ok g = (hookX n fa fn ok).obs s := by
  have e : g = s.heap.get? := funext h
  rw [e] <;> rfl
/-! ### own errors -/
def clsB (K : Frag) (cn : Str) (C : Addr) (bm : List Value) : Bool := match K.lookup C with
  | some ⟨.type T, _, .cls cd, sl⟩ => decide (T = "type") && (decide (cd.name = cn) && (decide (cd.mro = .ref C :: bm) && (cd.hasDict && (!cd.hasDel && (match sl.toList with
    | [_, _, _, _, some (.builtin n), _] => decide (n = "Exception.__new__")
    | _ => false)))))
  | _ => false
theorem clsB_ok {K : Frag} {cn : Str} {C : Addr} {bm : List Value} (h : clsB K cn C bm = true) : ∃ q N bs sn sub ab col dd k0 k1 k2 k3 k5,
    K.lookup C = some (excClassObj cn q C N bs bm true sn sub ab col dd k0 k1 k2 k3 k5 "Exception.__new__") := by
  unfold clsB at h
  split at h
  · rename_i T dd cd sl ho
    simp only [Bool.and_eq_true, decide_eq_true_eq, Bool.not_eq_true'] at h
    obtain ⟨h1, h2, h3, h4, h5, h6⟩ := h
    split at h6
    · rename_i k0 k1 k2 k3 n k5 hs
      obtain ⟨nm, bs, mro, ns, qn, hd, sn, sub, ab, col, del⟩ := cd
      dsimp only at h2 h3 h4 h5
      have e6 := of_decide_eq_true h6
      subst h1 h2 h3 h4 h5 e6
      have hsl : sl = #[k0, k1, k2, k3, some (.builtin "Exception.__new__"), k5] := by
        obtain ⟨l⟩ := sl
        simp only at hs
        rw [hs]
      subst hsl
      exact ⟨_, _, _, _, _, _, _, _, _, _, _, _, _, ho⟩
    · cases h6
  · cases h
def is? (a b : Option (Option Value)) : Bool := He.eqO a b
/-- of the class cn with the field f -/
def errB (K : Frag) (cn f : Str) : Bool :=
  let C := He.ga K cn
  He.eqO (nsIn K mainGlobals cn) (some (some (.ref C))) && (clsB K cn C [.ref (He.ga K "WhoError"), .type "Exception", .type "BaseException", .type "object"] &&
  (He.eqO (findIn K (.ref C) "__setattr__") (some (some (.builtin "object.__setattr__"))) &&
  (He.eqO (findIn K (.ref C) "__getattribute__") (some (some (.builtin "BaseException.__getattribute__"))) &&
  (He.eqO (findIn K (.ref C) "__getattr__") (some none) && (He.eqO (findIn K (.ref C) f) (some none) &&
  (He.eqO (findIn K (.ref C) "__init__") (some (some (.ref (He.ma K C "__init__")))) && (decide (typeIn K (.ref (He.ma K C "__init__")) = some (.type "function")) && keepIn K (.ref C))))))))
def bareB (K : Frag) (cn : Str) : Bool :=
  let C := He.ga K cn
  He.eqO (nsIn K mainGlobals cn) (some (some (.ref C))) && (clsB K cn C [.ref (He.ga K "WhoError"), .type "Exception", .type "BaseException", .type "object"] &&
  (PySem.W.excIn K C [.type "Exception", .type "BaseException", .type "object"] "Exception.__new__" && keepIn K (.ref C)))
def baseB (K : Frag) : Bool := He.eqO (nsIn K mainGlobals "WhoError") (some (some (.ref (He.ga K "WhoError")))) && clsB K "WhoError" (He.ga K "WhoError") [.type "Exception", .type "BaseException", .type "object"]
end HX

set_option Elab.async false
set_option linter.all false
set_option maxRecDepth 100000
set_option maxHeartbeats 8000000
namespace K00
open PySem L2
open PySem.W (Frag nsIn findIn typeIn keepIn subIn isClsIn hasDictIn codeIn clsIn exmOne)
/-- an own class, its name, its base at U -/
def ClsAt (K : Frag) (cn : Str) (C U : Addr) : Prop := ∃ q N bs sn sub ab col dd k0 k1 k2 k3 k5, K.lookup C = some (excClassObj cn q C N bs
  [.ref U, .type "Exception", .type "BaseException", .type "object"] true sn sub ab col dd k0 k1 k2 k3 k5 "Exception.__new__")
def BaseAt (K : Frag) (U : Addr) : Prop := nsIn K mainGlobals "WhoError" = some (some (.ref U)) ∧ ∃ q N bs sn sub ab col dd k0 k1 k2 k3 k5, K.lookup U = some (excClassObj "WhoError" q U N bs
  [.type "Exception", .type "BaseException", .type "object"] true sn sub ab col dd k0 k1 k2 k3 k5 "Exception.__new__")
structure Raw (K : Frag) (cn f qi : Str) (C U fI : Addr) : Prop where
  ns : nsIn K mainGlobals cn = some (some (.ref C))
  nU : nsIn K mainGlobals "WhoError" = some (some (.ref U))
  cls : ClsAt K cn C U
  sa : findIn K (.ref C) "__setattr__" = some (some (.builtin "object.__setattr__"))
  ga : findIn K (.ref C) "__getattribute__" = some (some (.builtin "BaseException.__getattribute__"))
  gg : findIn K (.ref C) "__getattr__" = some none
  noN : findIn K (.ref C) f = some none
  iC : findIn K (.ref C) "__init__" = some (some (.ref fI))
  tC : typeIn K (.ref fI) = some (.type "function")
  kC : keepIn K (.ref C) = true
  fn : ∃ (oc : Value) (od : Option Addr) (kV doc pm : Value) (an : Option Addr) (cdv ct : Value) (osl : Array (Option Value)) (p1 p2 q1 q2 q3 q4 : Pos),
    K.lookup fI = some ⟨oc, od, .func (PySem.W.fnOf "__init__" qi (PySem.OwnEx.inA f p1 p2) (PySem.OwnEx.inB f q1 q2 q3 q4) (PySem.OwnEx.inS f) .none kV doc pm an cdv ct), osl⟩ ∧ codeIn K cdv qi = true
structure Raw0 (K : Frag) (cn : Str) (C U : Addr) : Prop where
  ns : nsIn K mainGlobals cn = some (some (.ref C))
  nU : nsIn K mainGlobals "WhoError" = some (some (.ref U))
  cls : ClsAt K cn C U
  ex : PySem.W.excIn K C [.type "Exception", .type "BaseException", .type "object"] "Exception.__new__" = true
  kC : keepIn K (.ref C) = true
section
variable {K : Frag} {cn cn' : Str} {C C' U U' : Addr}
theorem ClsAt.sub (h : ClsAt K cn C U) (x : Value) : subIn K (.ref C) x = some (([.ref C, .ref U, .type "Exception", .type "BaseException", .type "object"] : List Value).contains x) := by
  obtain ⟨q, N, bs, sn, sub, ab, col, dd, k0, k1, k2, k3, k5, e⟩ := h
  show PySem.W.mroIn K C x = _
  unfold PySem.W.mroIn clsIn
  rw [e]
  rfl
theorem ClsAt.ty (h : ClsAt K cn C U) : typeIn K (.ref C) = some (.type "type") := by
  obtain ⟨q, N, bs, sn, sub, ab, col, dd, k0, k1, k2, k3, k5, e⟩ := h
  show (K.lookup C).map _ = _
  rw [e]
  rfl
theorem ClsAt.is (h : ClsAt K cn C U) : isClsIn K C = true := by
  obtain ⟨q, N, bs, sn, sub, ab, col, dd, k0, k1, k2, k3, k5, e⟩ := h
  unfold isClsIn clsIn
  rw [e]
  rfl
theorem ClsAt.hd (h : ClsAt K cn C U) : hasDictIn K C = true := by
  obtain ⟨q, N, bs, sn, sub, ab, col, dd, k0, k1, k2, k3, k5, e⟩ := h
  unfold hasDictIn clsIn
  rw [e]
  rfl
theorem BaseAt.sub (h : BaseAt K U) (x : Value) : subIn K (.ref U) x = some (([.ref U, .type "Exception", .type "BaseException", .type "object"] : List Value).contains x) := by
  obtain ⟨_, q, N, bs, sn, sub, ab, col, dd, k0, k1, k2, k3, k5, e⟩ := h
  show PySem.W.mroIn K U x = _
  unfold PySem.W.mroIn clsIn
  rw [e]
  rfl
theorem BaseAt.ty (h : BaseAt K U) : typeIn K (.ref U) = some (.type "type") := by
  obtain ⟨_, q, N, bs, sn, sub, ab, col, dd, k0, k1, k2, k3, k5, e⟩ := h
  show (K.lookup U).map _ = _
  rw [e]
  rfl
theorem BaseAt.is (h : BaseAt K U) : isClsIn K U = true := by
  obtain ⟨_, q, N, bs, sn, sub, ab, col, dd, k0, k1, k2, k3, k5, e⟩ := h
  unfold isClsIn clsIn
  rw [e]
  rfl
theorem ClsAt.named (h : ClsAt K cn C U) (h' : ClsAt K cn' C U') : cn = cn' := by
  obtain ⟨q, N, bs, sn, sub, ab, col, dd, k0, k1, k2, k3, k5, e⟩ := h
  obtain ⟨q', N', bs', sn', sub', ab', col', dd', k0', k1', k2', k3', k5', e'⟩ := h'
  have z := Option.some.inj (e.symm.trans e')
  injection z with _ _ z3
  injection z3 with z4
  injection z4
theorem ClsAt.notBase (h : ClsAt K cn C U) (h' : BaseAt K C) : cn = "WhoError" := by
  obtain ⟨q, N, bs, sn, sub, ab, col, dd, k0, k1, k2, k3, k5, e⟩ := h
  obtain ⟨_, q', N', bs', sn', sub', ab', col', dd', k0', k1', k2', k3', k5', e'⟩ := h'
  have z := Option.some.inj (e.symm.trans e')
  injection z with _ _ z3
  injection z3 with z4
  injection z4
theorem exm_by {S : Addr} {cls : Value} {b : Bool} (h1 : subIn K (.ref S) (.type "BaseException") = some true) (h2 : isClsIn K S = true) (h3 : typeIn K (.ref S) = some (.type "type")) (h4 : subIn K cls (.ref S) = some b) :
    exmOne K cls (.ref S) = some b := by
  have e1 : (subIn K (.ref S) (.type "BaseException") == some true) = true := by rw [h1] <;> rfl
  have e2 : ((clsIn K S).isSome && typeIn K (.ref S) == some (.type "type")) = true := by
    have h2' : (clsIn K S).isSome = true := h2
    rw [h2', h3] <;> rfl
  show (if (subIn K (.ref S) (.type "BaseException") == some true) = true then (if ((clsIn K S).isSome && typeIn K (.ref S) == some (.type "type")) = true then subIn K cls (.ref S) else none) else none) = some b
  rw [if_pos e1, if_pos e2]
  exact h4
end
theorem flds_ok : ∀ n, n < 37 → PySem.OwnEx.Fld (fld n) := by
  have : ∀ n, n < 37 → fld n = "at" ∨ fld n = "word" ∨ fld n = "name" ∨ fld n = "house" := by decide +kernel
  exact this
theorem nms_dbg : ∀ n, n < 37 → (nm n == ("__debug__" : Str)) = false := by decide +kernel
theorem nms_inj : ∀ n j, n < 37 → j < 37 → nm n = nm j → n = j := by
  have : ∀ n, n < 37 → ∀ j, j < 37 → nm n = nm j → n = j := by decide +kernel
  exact fun n j h1 h2 => this n h1 j h2
theorem nms_base : ∀ n, n < 37 → nm n ≠ "WhoError" := by decide +kernel
theorem txtE {K : Frag} {h : Heap} {mg : Str → Option Value} (X : K.In h) (G : h.Ns mainGlobals mg) {U : Addr} (hU : BaseAt K U)
    (R : ∀ n, n < 35 → ∃ C U fI, Raw K (nm n) (fld n) (ini n) C U fI) (R0 : ∀ n, n = 35 ∨ n = 36 → ∃ C U, Raw0 K (nm n) C U) : ∃ c fi : Nat → Addr, TxtE K mg c fi U := by
  have uU : ∀ {V : Addr}, nsIn K mainGlobals "WhoError" = some (some (.ref V)) → V = U := fun {V} e => by
    have z := e.symm.trans hU.1
    injection z with z
    injection z with z
    injection z
  have all : ∀ n, ∃ C fI, (n < 35 → Raw K (nm n) (fld n) (ini n) C U fI) ∧ (n = 35 ∨ n = 36 → Raw0 K (nm n) C U) := fun n => by
    by_cases h1 : n < 35
    · obtain ⟨C, V, fI, r⟩ := R n h1
      cases uU r.nU
      exact ⟨C, fI, fun _ => r, fun q => by omega⟩
    · by_cases h2 : n = 35 ∨ n = 36
      · obtain ⟨C, V, r⟩ := R0 n h2
        cases uU r.nU
        exact ⟨C, 0, fun q => absurd q h1, fun _ => r⟩
      · exact ⟨0, 0, fun q => absurd q h1, fun q => absurd q h2⟩
  let c : Nat → Addr := fun n => (all n).choose
  let fi : Nat → Addr := fun n => (all n).choose_spec.choose
  have ch : ∀ n, (n < 35 → Raw K (nm n) (fld n) (ini n) (c n) U (fi n)) ∧ (n = 35 ∨ n = 36 → Raw0 K (nm n) (c n) U) := fun n => (all n).choose_spec.choose_spec
  have cls : ∀ n, n < 37 → ClsAt K (nm n) (c n) U := fun n hn => by
    by_cases h1 : n < 35
    · exact ((ch n).1 h1).cls
    · exact ((ch n).2 (by omega)).cls
  have ns : ∀ n, n < 37 → nsIn K mainGlobals (nm n) = some (some (.ref (c n))) := fun n hn => by
    by_cases h1 : n < 35
    · exact ((ch n).1 h1).ns
    · exact ((ch n).2 (by omega)).ns
  have bs : ∀ {n}, n < 37 → subIn K (.ref (c n)) (.type "BaseException") = some true := fun {n} hn => by
    rw [(cls n hn).sub]
    rfl
  have neU : ∀ {n}, n < 37 → c n ≠ U := fun {n} hn e => by
    have z := cls n hn
    rw [e] at z
    exact nms_base n hn (z.notBase hU)
  refine ⟨c, fi, ?_⟩
  exact {
    err := fun n hn => by
      have r := (ch n).1 hn
      exact { gC := PySem.W.mg_of X G r.ns, dbg := nms_dbg n (by omega), fl := flds_ok n (by omega), cls := ⟨_, r.cls⟩, sa := r.sa, ga := r.ga, gg := r.gg, noN := r.noN, iC := r.iC, tC := r.tC,
              kC := r.kC, exC := bs (by omega), tyC := r.cls.ty, hdC := r.cls.hd, fn := r.fn }
    exin := fun n hn => ((ch n).2 hn).ex
    gc := fun n hn => PySem.W.mg_of X G (ns n hn)
    kc := fun n hn => ((ch n).2 hn).kC
    sc := fun n hn => bs (by omega)
    tc := fun n hn => (cls n (by omega)).ty
    exm := fun n j hn hj => by
      refine exm_by (bs hj) (cls j hj).is (cls j hj).ty ?_
      rw [(cls n hn).sub]
      by_cases e : n = j
      · subst e
        rw [decide_eq_true rfl]
        simp
      · have ne : c j ≠ c n := fun z => e (nms_inj n j hn hj (by
          have k := cls j hj
          rw [z] at k
          exact (cls n hn).named k))
        have nu := neU hj
        rw [decide_eq_false e]
        simp [ne, nu]
    exmU := fun n hn => by
      refine exm_by (by rw [hU.sub]; rfl) hU.is hU.ty ?_
      rw [(cls n hn).sub]
      simp
    gU := PySem.W.mg_of X G hU.1 }
/-! ### the head's facts -/
def initS (n : Nat) : Stmt := inClass (top (2 + n)) 0
def initD (n : Nat) : He.DefD := ⟨(nm n, some "__init__"), "__init__", ini n, defArgs (initS n), defBody (initS n), defScope (initS n), [], []⟩
def defD (x : Str) (st : Stmt) : He.DefD := ⟨(x, none), x, x, defArgs st, defBody st, defScope st, [], []⟩
def fns : List He.DefD := [defD "_law_box" sBox, defD "_law_take" sTake, defD "_law_pick" sPick, defD "_law_raise_a" sRaiseA, defD "_law_raise_b" sRaiseB, defD "_law_raise_c" sRaiseC, defD "_law_raise" sRaise, defD "_law_caught_a" sCaughtA, defD "_law_caught_b" sCaughtB, defD "_law_caught_c" sCaughtC, defD "_law_is_base" sIsBase, defD "law" sLaw] ++ (List.range 35).map initD
def fas : List He.Fa := [.glo "_law_box", .glo "_law_take", .glo "_law_pick", .glo "_law_raise_a", .glo "_law_raise_b", .glo "_law_raise_c", .glo "_law_raise", .glo "_law_caught_a", .glo "_law_caught_b", .glo "_law_caught_c", .glo "_law_is_base", .glo "law", .free "int", .free "abs", .free "len", .free "range"]
def okB (K : Frag) : Bool := HX.baseB K && ((List.range 35).all (fun n => HX.errB K (nm n) (fld n)) && (HX.bareB K (nm 35) && HX.bareB K (nm 36)))
theorem init_form : ∀ n, n < 35 → ∃ p1 p2 q1 q2 q3 q4 : Pos, defArgs (initS n) = PySem.OwnEx.inA (fld n) p1 p2 ∧ defBody (initS n) = PySem.OwnEx.inB (fld n) q1 q2 q3 q4 ∧ defScope (initS n) = PySem.OwnEx.inS (fld n) := fun n hn => match n, hn with
  | 0, _ => ⟨_, _, _, _, _, _, rfl, rfl, rfl⟩
  | 1, _ => ⟨_, _, _, _, _, _, rfl, rfl, rfl⟩
  | 2, _ => ⟨_, _, _, _, _, _, rfl, rfl, rfl⟩
  | 3, _ => ⟨_, _, _, _, _, _, rfl, rfl, rfl⟩
  | 4, _ => ⟨_, _, _, _, _, _, rfl, rfl, rfl⟩
  | 5, _ => ⟨_, _, _, _, _, _, rfl, rfl, rfl⟩
  | 6, _ => ⟨_, _, _, _, _, _, rfl, rfl, rfl⟩
  | 7, _ => ⟨_, _, _, _, _, _, rfl, rfl, rfl⟩
  | 8, _ => ⟨_, _, _, _, _, _, rfl, rfl, rfl⟩
  | 9, _ => ⟨_, _, _, _, _, _, rfl, rfl, rfl⟩
  | 10, _ => ⟨_, _, _, _, _, _, rfl, rfl, rfl⟩
  | 11, _ => ⟨_, _, _, _, _, _, rfl, rfl, rfl⟩
  | 12, _ => ⟨_, _, _, _, _, _, rfl, rfl, rfl⟩
  | 13, _ => ⟨_, _, _, _, _, _, rfl, rfl, rfl⟩
  | 14, _ => ⟨_, _, _, _, _, _, rfl, rfl, rfl⟩
  | 15, _ => ⟨_, _, _, _, _, _, rfl, rfl, rfl⟩
  | 16, _ => ⟨_, _, _, _, _, _, rfl, rfl, rfl⟩
  | 17, _ => ⟨_, _, _, _, _, _, rfl, rfl, rfl⟩
  | 18, _ => ⟨_, _, _, _, _, _, rfl, rfl, rfl⟩
  | 19, _ => ⟨_, _, _, _, _, _, rfl, rfl, rfl⟩
  | 20, _ => ⟨_, _, _, _, _, _, rfl, rfl, rfl⟩
  | 21, _ => ⟨_, _, _, _, _, _, rfl, rfl, rfl⟩
  | 22, _ => ⟨_, _, _, _, _, _, rfl, rfl, rfl⟩
  | 23, _ => ⟨_, _, _, _, _, _, rfl, rfl, rfl⟩
  | 24, _ => ⟨_, _, _, _, _, _, rfl, rfl, rfl⟩
  | 25, _ => ⟨_, _, _, _, _, _, rfl, rfl, rfl⟩
  | 26, _ => ⟨_, _, _, _, _, _, rfl, rfl, rfl⟩
  | 27, _ => ⟨_, _, _, _, _, _, rfl, rfl, rfl⟩
  | 28, _ => ⟨_, _, _, _, _, _, rfl, rfl, rfl⟩
  | 29, _ => ⟨_, _, _, _, _, _, rfl, rfl, rfl⟩
  | 30, _ => ⟨_, _, _, _, _, _, rfl, rfl, rfl⟩
  | 31, _ => ⟨_, _, _, _, _, _, rfl, rfl, rfl⟩
  | 32, _ => ⟨_, _, _, _, _, _, rfl, rfl, rfl⟩
  | 33, _ => ⟨_, _, _, _, _, _, rfl, rfl, rfl⟩
  | 34, _ => ⟨_, _, _, _, _, _, rfl, rfl, rfl⟩
  | n + 35, hn => absurd hn (by omega)
theorem init_fn {K : Frag} {x q : Str} {args : Arguments} {body : List Stmt} {sc : Scope} {f : Addr} {fd : FuncData} {fl : Str} (F : FunD K x q args body sc [] [] f fd) (hx : x = "__init__") {p1 p2 q1 q2 q3 q4 : Pos}
    (ha : args = PySem.OwnEx.inA fl p1 p2) (hb : body = PySem.OwnEx.inB fl q1 q2 q3 q4) (hs : sc = PySem.OwnEx.inS fl) : ∃ (oc : Value) (od : Option Addr) (kV doc pm : Value) (an : Option Addr) (cdv ct : Value) (osl : Array (Option Value)) (p1 p2 q1 q2 q3 q4 : Pos),
    K.lookup f = some ⟨oc, od, .func (PySem.W.fnOf "__init__" q (PySem.OwnEx.inA fl p1 p2) (PySem.OwnEx.inB fl q1 q2 q3 q4) (PySem.OwnEx.inS fl) .none kV doc pm an cdv ct), osl⟩ ∧ codeIn K cdv q = true := by
  obtain ⟨oc, od, dV, kV, doc, pm, an, cdv, ct, osl, rfl, lk, hcd, hD, _⟩ := F.ex
  subst hx ha hb hs
  rcases hD with ⟨_, rfl⟩ | ⟨ne, _⟩
  · exact ⟨oc, od, kV, doc, pm, an, cdv, ct, osl, p1, p2, q1, q2, q3, q4, lk, hcd⟩
  · exact absurd rfl ne
theorem fun_of {K : Frag} {x : Str} {st : Stmt} {f : Addr} {fd : FuncData} (F : FunD K x x (defArgs st) (defBody st) (defScope st) [] [] f fd) : Fun K x x st f fd := by
  obtain ⟨oc, od, dV, kV, doc, pm, an, cdv, ct, osl, rfl, lk, hcd, hD, _⟩ := F.ex
  rcases hD with ⟨_, rfl⟩ | ⟨ne, _⟩
  · exact ⟨⟨oc, od, kV, doc, pm, an, cdv, ct, osl, rfl, lk, hcd⟩, F.kp⟩
  · exact absurd rfl ne
theorem facts {P : Program} {w : World} {K : Frag} {h : Heap} {mg : Str → Option Value} {fa : Addr} (X : K.In h) (G : h.Ns mainGlobals mg) (hfa : mg "law" = some (.ref fa)) (c : He.SaysD fas fns K) (ok : okB K = true) :
    ∃ fd : FuncData, (∀ (s : Shared) (v : Value), BindsTo s fd ⟨[v], []⟩ [("script", v)]) ∧ ∀ base : Heap, K.In base → base.Ns mainGlobals mg → FnOk P w K mg base CX0 8 fa fd ["script"] (spLaw K) := by
  obtain ⟨o1, o2⟩ := He.ba ok
  obtain ⟨o3, o4⟩ := He.ba o2
  obtain ⟨o5, o6⟩ := He.ba o4
  have hU : BaseAt K (He.ga K "WhoError") := by
    obtain ⟨u1, u2⟩ := He.ba o1
    exact ⟨He.eqO_ok u1, HX.clsB_ok u2⟩
  have R : ∀ n, n < 35 → ∃ C U fI, Raw K (nm n) (fld n) (ini n) C U fI := fun n hn => by
    have z := List.all_eq_true.mp o3 n (List.mem_range.mpr hn)
    obtain ⟨z1, z⟩ := He.ba z
    obtain ⟨z2, z⟩ := He.ba z
    obtain ⟨z3, z⟩ := He.ba z
    obtain ⟨z4, z⟩ := He.ba z
    obtain ⟨z5, z⟩ := He.ba z
    obtain ⟨z6, z⟩ := He.ba z
    obtain ⟨z7, z⟩ := He.ba z
    obtain ⟨z8, z9⟩ := He.ba z
    have hd : fns[12 + n]? = some (initD n) := by
      unfold fns
      rw [List.getElem?_append_right (by show 12 ≤ 12 + n; omega)]
      show ((List.range 35).map initD)[12 + n - 12]? = _
      rw [Nat.add_sub_cancel_left, List.getElem?_map, List.getElem?_range hn]
      rfl
    obtain ⟨fd, FD⟩ := c.def_ (12 + n) hd
    obtain ⟨p1, p2, q1, q2, q3, q4, ea, eb, es⟩ := init_form n hn
    exact ⟨He.ga K (nm n), He.ga K "WhoError", He.ma K (He.ga K (nm n)) "__init__", { ns := He.eqO_ok z1, nU := hU.1, cls := HX.clsB_ok z2, sa := He.eqO_ok z3, ga := He.eqO_ok z4, gg := He.eqO_ok z5, noN := He.eqO_ok z6, iC := He.eqO_ok z7, tC := of_decide_eq_true z8, kC := z9, fn := init_fn FD rfl ea eb es }⟩
  have R0 : ∀ n, n = 35 ∨ n = 36 → ∃ C U, Raw0 K (nm n) C U := fun n hn => by
    have z : HX.bareB K (nm n) = true := by
      rcases hn with rfl | rfl
      · exact o5
      · exact o6
    obtain ⟨z1, z⟩ := He.ba z
    obtain ⟨z2, z⟩ := He.ba z
    obtain ⟨z3, z4⟩ := He.ba z
    exact ⟨He.ga K (nm n), He.ga K "WhoError", ⟨He.eqO_ok z1, hU.1, HX.clsB_ok z2, z3, z4⟩⟩
  obtain ⟨c0, fi, T⟩ := txtE X G hU R R0
  have N : TxtL K mg := { int := He.free_ok X G (c.fact 12 (f := .free "int") rfl), abs := He.free_ok X G (c.fact 13 (f := .free "abs") rfl), len := He.free_ok X G (c.fact 14 (f := .free "len") rfl), range := He.free_ok X G (c.fact 15 (f := .free "range") rfl) }
  obtain ⟨dB, DB⟩ := c.def_ 0 (d := defD "_law_box" sBox) rfl
  have FB : Fun K "_law_box" "_law_box" sBox _ dB := fun_of DB
  have mB := He.glo_ok X G (c.fact 0 (f := .glo "_law_box") rfl)
  have bB := FB.binds (ps := ["script", "k"]) fun _ _ _ _ _ _ us hl => match us, hl with | [_, _], _ => rfl
  obtain ⟨dT, DT⟩ := c.def_ 1 (d := defD "_law_take" sTake) rfl
  have FT : Fun K "_law_take" "_law_take" sTake _ dT := fun_of DT
  have mT := He.glo_ok X G (c.fact 1 (f := .glo "_law_take") rfl)
  have bT := FT.binds (ps := ["box", "many"]) fun _ _ _ _ _ _ us hl => match us, hl with | [_, _], _ => rfl
  obtain ⟨dP, DP⟩ := c.def_ 2 (d := defD "_law_pick" sPick) rfl
  have FP : Fun K "_law_pick" "_law_pick" sPick _ dP := fun_of DP
  have mP := He.glo_ok X G (c.fact 2 (f := .glo "_law_pick") rfl)
  have bP := FP.binds (ps := ["box", "some"]) fun _ _ _ _ _ _ us hl => match us, hl with | [_, _], _ => rfl
  obtain ⟨dRA, DRA⟩ := c.def_ 3 (d := defD "_law_raise_a" sRaiseA) rfl
  have FRA : Fun K "_law_raise_a" "_law_raise_a" sRaiseA _ dRA := fun_of DRA
  have mRA := He.glo_ok X G (c.fact 3 (f := .glo "_law_raise_a") rfl)
  have bRA := FRA.binds (ps := ["number", "thing"]) fun _ _ _ _ _ _ us hl => match us, hl with | [_, _], _ => rfl
  obtain ⟨dRB, DRB⟩ := c.def_ 4 (d := defD "_law_raise_b" sRaiseB) rfl
  have FRB : Fun K "_law_raise_b" "_law_raise_b" sRaiseB _ dRB := fun_of DRB
  have mRB := He.glo_ok X G (c.fact 4 (f := .glo "_law_raise_b") rfl)
  have bRB := FRB.binds (ps := ["number", "thing"]) fun _ _ _ _ _ _ us hl => match us, hl with | [_, _], _ => rfl
  obtain ⟨dRC, DRC⟩ := c.def_ 5 (d := defD "_law_raise_c" sRaiseC) rfl
  have FRC : Fun K "_law_raise_c" "_law_raise_c" sRaiseC _ dRC := fun_of DRC
  have mRC := He.glo_ok X G (c.fact 5 (f := .glo "_law_raise_c") rfl)
  have bRC := FRC.binds (ps := ["number", "thing"]) fun _ _ _ _ _ _ us hl => match us, hl with | [_, _], _ => rfl
  obtain ⟨dR, DR⟩ := c.def_ 6 (d := defD "_law_raise" sRaise) rfl
  have FR : Fun K "_law_raise" "_law_raise" sRaise _ dR := fun_of DR
  have mR := He.glo_ok X G (c.fact 6 (f := .glo "_law_raise") rfl)
  have bR := FR.binds (ps := ["number", "thing"]) fun _ _ _ _ _ _ us hl => match us, hl with | [_, _], _ => rfl
  obtain ⟨dCA, DCA⟩ := c.def_ 7 (d := defD "_law_caught_a" sCaughtA) rfl
  have FCA : Fun K "_law_caught_a" "_law_caught_a" sCaughtA _ dCA := fun_of DCA
  have mCA := He.glo_ok X G (c.fact 7 (f := .glo "_law_caught_a") rfl)
  have bCA := FCA.binds (ps := ["number", "thing"]) fun _ _ _ _ _ _ us hl => match us, hl with | [_, _], _ => rfl
  obtain ⟨dCB, DCB⟩ := c.def_ 8 (d := defD "_law_caught_b" sCaughtB) rfl
  have FCB : Fun K "_law_caught_b" "_law_caught_b" sCaughtB _ dCB := fun_of DCB
  have mCB := He.glo_ok X G (c.fact 8 (f := .glo "_law_caught_b") rfl)
  have bCB := FCB.binds (ps := ["number", "thing"]) fun _ _ _ _ _ _ us hl => match us, hl with | [_, _], _ => rfl
  obtain ⟨dCC, DCC⟩ := c.def_ 9 (d := defD "_law_caught_c" sCaughtC) rfl
  have FCC : Fun K "_law_caught_c" "_law_caught_c" sCaughtC _ dCC := fun_of DCC
  have mCC := He.glo_ok X G (c.fact 9 (f := .glo "_law_caught_c") rfl)
  have bCC := FCC.binds (ps := ["number", "thing"]) fun _ _ _ _ _ _ us hl => match us, hl with | [_, _], _ => rfl
  obtain ⟨dIB, DIB⟩ := c.def_ 10 (d := defD "_law_is_base" sIsBase) rfl
  have FIB : Fun K "_law_is_base" "_law_is_base" sIsBase _ dIB := fun_of DIB
  have mIB := He.glo_ok X G (c.fact 10 (f := .glo "_law_is_base") rfl)
  have bIB := FIB.binds (ps := ["number", "thing"]) fun _ _ _ _ _ _ us hl => match us, hl with | [_, _], _ => rfl
  obtain ⟨dL, DL⟩ := c.def_ 11 (d := defD "law" sLaw) rfl
  have FL : Fun K "law" "law" sLaw _ dL := fun_of DL
  have mL := He.glo_ok X G (c.fact 11 (f := .glo "law") rfl)
  have e := hfa.symm.trans mL
  cases e
  obtain ⟨oc, od, kV, doc, pm, an, cdv, ct, osl, rfl, lk, hcd⟩ := FL.ex
  refine ⟨PySem.W.fnOf "law" "law" (defArgs sLaw) (defBody sLaw) (defScope sLaw) .none kV doc pm an cdv ct, fun s v => .of_eq rfl, fun base _ _ => ?_⟩
  have GR : FnOk P w K mg base (L2.CX P w) 4 _ dR ["number", "thing"] (spRaise c0 0 37) := ok_raise FR T FRA bRA mRA FRA.kp FRB bRB mRB FRB.kp FRC bRC mRC FRC.kp
  have GA : FnOk P w K mg base (L2.CX P w) 5 _ dCA ["number", "thing"] (spCaught c0 13) := ok_caught_a FCA T GR bR mR FR.kp
  have GB : FnOk P w K mg base (L2.CX P w) 6 _ dCB ["number", "thing"] (spCaught c0 26) := ok_caught_b FCB T GA bCA mCA FCA.kp
  have GC : FnOk P w K mg base (L2.CX P w) 7 _ dCC ["number", "thing"] (spCaught c0 37) := ok_caught_c FCC T GB bCB mCB FCB.kp
  have GI : FnOk P w K mg base (L2.CX P w) 5 _ dIB ["number", "thing"] spBase := ok_base FIB T GR bR mR FR.kp
  exact ok_law (fun_mk (st := sLaw) lk hcd FL.kp) T N (ok_box FB N.toTxtN) bB mB FB.kp (ok_pick FP N.toTxtN FT bT mT FT.kp) bP mP FP.kp GC bCC mCC FCC.kp GI bIB mIB FIB.kp
end K00

set_option Elab.async false
set_option linter.all false
set_option maxRecDepth 100000
set_option maxHeartbeats 0
namespace K00
open PySem L2
abbrev R : PySem.W.OpenRow := PySem.W.OpenLaw.row PySem.Challenge.rw_whoiswho_k00_whole_errors_and_what_they
abbrev hk : PySem.W.Hook := HX.hookX 5 fas fns okB
def ob (s : PySem.W.SharedT) : He.AlD × Bool := HX.obX 5 fas fns okB (HandSHeadRun.getT s)
theorem ob_eq (s : PySem.W.SharedT) : ob s = hk.obs s.abs := HX.obX_eq (HandSHeadRun.getT_eq s)
def loose : List Str := (["WhoError"] : List String).map PySem.Str.ofString ++ (nms ++ (fns.take 11).map fun d => d.name)
theorem run (w : World) : HandSHeadRun.RunEq R (PySem.W.view R.prog [51]) hk ob 12000 loose w := by
  intro os
  kernel_rfl
end K00

open PySem PySem.W PySem.Calls PyProof.Rows
set_option Elab.async false
set_option maxRecDepth 100000 in
set_option maxHeartbeats 0 in
theorem PySem.Challenge.cw_whoiswho_k00_whole_errors_and_what_they_holds : PySem.Challenge.rw_whoiswho_k00_whole_errors_and_what_they.Holds := by
  w_on; o_law
  refine HandSHeadRun.head_any (r := OpenLaw.row PySem.Challenge.rw_whoiswho_k00_whole_errors_and_what_they) (q := view (OpenLaw.row PySem.Challenge.rw_whoiswho_k00_whole_errors_and_what_they).prog [51]) (H := K00.hk) (ob := K00.ob) (M := 12000) (loose := K00.loose) (d := HandSHeadRun.topDef (OpenLaw.row PySem.Challenge.rw_whoiswho_k00_whole_errors_and_what_they).prog 51) (kwd := []) K00.ob_eq
    (by kernel_rfl) (fun s => by kernel_rfl) K00.run (by kernel_rfl) (by kernel_rfl) (by kernel_rfl) (by rfl) (by first | assumption | decide +kernel) (by decide +kernel) ⟨rfl, rfl, rfl, rfl, rfl, by decide +kernel⟩ ?hw ?hc
  case hw => w_witness2
  case hc =>
    refine L2.walk_ofE (l := PySem.Challenge.rw_whoiswho_k00_whole_errors_and_what_they) (n := 63) (k := 8) (x := "script") (CX := L2.CX0) rfl (by decide) (by kernel_rfl) ⟨rfl, by decide, by decide⟩ ?F (fun _ _ _ _ z => z)
    intro w mg fa h Y G hmg0
    obtain ⟨K, KX, c, ok⟩ := Y
    have hmg : mg ("law" : PySem.Str) = some (.ref fa) := by
      have e : (HandSHeadRun.topDef (OpenLaw.row PySem.Challenge.rw_whoiswho_k00_whole_errors_and_what_they).prog 51).name = ("law" : PySem.Str) := by kernel_rfl
      rw [← e]
      exact hmg0
    obtain ⟨fd, hb, hF⟩ := K00.facts (P := (PySem.Challenge.rw_whoiswho_k00_whole_errors_and_what_they).prog) (w := w) KX G hmg c ok
    exact ⟨K, fd, K00.spLaw K, KX, hb, fun H a ns hl _ hS => ⟨a, ns, rfl, hS, hl, fun _ => rfl⟩, hF⟩
#print axioms PySem.Challenge.cw_whoiswho_k00_whole_errors_and_what_they_holds
