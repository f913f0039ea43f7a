import PyProof.Rows.All
import Wide.All
import OpenK.AllK
import Wide.FinOn
import HandS.ForMost
import HandS.IsInst
import HandS.Walk
import HandS.Defaults
import HandS.RaiseMore
import HandS.Wide
import HandS.Exc
import HandS.ExcOwn
import HandS.ExcInit
import HandS.ExcSuper
import KE.KExcSuper
import HandS.ExcValue
import HandS.ExcIs
import HandS.ExcField
import HandS.GenList
import HandS.WordsExc
import HandS.HotCalls
import HandS.Comp
import HandS.Deep
import HandS.GenBody
import HandS.GenYield
import PyProof.GenComp
import PyProof.ForAny
import HandS.Strs
import HandS.SetBool
import HandS.Iter
import HandS.Property
import HandS.MakeKw
import HandS.MakeKwOnly
import PyProof.FactsSeq
import HandS.Style
import PyProof.LongRange
import KE.DataCmp
import HandS.SuiteRaise
import HandS.Replace
import HandS.GenOver
import HandS.More
import HandS.Conv
import HandS.DictComp
import HandS.SortInts
import PySem.Challenge.RW_squeezelists_k11_errors_of_reaches_and_o
set_option Elab.async false
set_option linter.all false
set_option maxRecDepth 100000
set_option maxHeartbeats 2000000
/-! The layer for the laws: a def of the law run at the outermost call (where no repr is under way), repr of data, calls by keywords alone. -/
namespace Sq
open PySem PySem.Spec PyProof.Rows L2
/-! ### the law's own def, at one given surrounding -/
theorem fnAt {CX : CXT} {P : Program} {w : World} {K : PySem.W.Frag} {mg : Str → Option Value} {base : Heap} {k : Nat} {f : Addr} {nmF qualF : Str} {prm : Arguments} {bd : List Stmt} {scp : Scope}
    {dflt kwd docv pmv cdv ctv ocv : Value} {anv odv : Option Addr} {slv : Array (Option Value)} {names prs : List Str} {sp : Sp} {A : Around}
    (stands : K.lookup f = some ⟨ocv, odv, .func (PySem.W.fnOf nmF qualF prm bd scp dflt kwd docv pmv anv cdv ctv), slv⟩)
    (code : PySem.W.codeIn K cdv qualF = true) (sc : FnScope names prs scp)
    (count : ∀ vs H Q E, sp vs H Q E → vs.length = prs.length)
    (inner : ∀ (outer : List Env) (s : Shared) (H : Hp) (vs : List V) (Q : VK) (E : XK), Room k (A.deeper (envOfC qualF scp s.heap.objs.size f cdv)) → sp vs H Q E →
      ∃ t, PSs (cxOf CX P w K mg base names qualF scp f cdv A outer s H E) bd t ∧ t { nx := fun _ H' => Q .non H', rt := Q } (start names vs) H)
    {outer : List Env} {s : Shared} {H : Hp} {ag : Args} {us : List Value} {vs : List V} {Q : VK} {E : XK}
    (room : Room (k + 1) A) (entry : Env0 P w K mg base A outer s H)
    (bound : BindsTo s (PySem.W.fnOf nmF qualF prm bd scp dflt kwd docv pmv anv cdv ctv) ag (prs.zip us)) (rel : Vals vs us) (wish : sp vs H Q E) :
    codeAny (model P w) A (.call (.ref f) ag) (CR CX outer P w H s Q E) s := by
  have written : K.In s.heap := entry.mod.kin.keeps (fun b o e => (entry.bs b o e).1)
  have roomy : s.heap.NoLimit := entry.mod.nolimit.keeps (fun b o e => (entry.bs b o e).1)
  refine codeAny_call_function room.depth (written _ _ stands) rfl sc.co sc.gen rfl (PySem.W.codeRec_of written code) (bound _ _ _ _ ?_)
  refine wpAny_newFunctionEnv_cells sc.kind ?kinds ?body
  case kinds =>
    rintro ⟨n, v⟩ hn
    have inP := (List.of_mem_zip hn).1
    cases sc.par n inP with
    | inl q => exact Or.inl q
    | inr q => exact Or.inr ⟨q, PySem.W.cellsFrom_some _ _ _ (Or.inl q)⟩
  case body =>
    intro env eqn s1 fresh
    subst eqn
    refine ⟨roomy.keeps fresh.toInCall.keep, codeAny_func ?_⟩
    obtain ⟨t, steps, holds⟩ := inner outer s H vs Q E (room.deeper _) wish
    have inv := inv_start (CX := CX) (mg := mg) (base := base) (E := E) sc room.hd entry (count _ _ _ _ wish) rel fresh
    refine wpAny_mono (steps.run [] s1 (start names vs) H _ inv holds) ?_ (fun _ _ q => q)
    intro flow s' got
    cases flow with
    | ret u =>
      obtain ⟨v, σ', H', J, rv, q⟩ := got
      exact ⟨v, H', J.os, J.bare, J.base, J.hok, rv, q⟩
    | next =>
      obtain ⟨σ', H', J, q⟩ := got
      exact ⟨V.non, H', J.os, J.bare, J.base, J.hok, rfl, q⟩
    | brk => exact got.elim fun _ h => h.elim fun _ h => False.elim h.2
    | cont => exact got.elim fun _ h => h.elim fun _ h => False.elim h.2
/-- what the top's def promises at the outermost call alone -/
def Top (P : Program) (w : World) (K : PySem.W.Frag) (mg : Str → Option Value) (base : Heap) (k : Nat) (f : Addr) (fd : FuncData) (x : Str) (sp : Sp) : Prop :=
  ∀ (s : Shared) (H : Hp) (ag : Args) (u : Value) (v : V) (Q : VK), Env0 P w K mg base callerA [] s H → BindsTo s fd ag [(x, u)] → RelV v u → sp [v] H Q (fun _ _ _ => False) →
    codeAny (model P w) callerA (.call (.ref f) ag) (CR CX0 [] P w H s Q (fun _ _ _ => False)) s
theorem atTop {P : Program} {w : World} {K : PySem.W.Frag} {mg : Str → Option Value} {base : Heap} {k : Nat} {f : Addr} {fd : FuncData} {x y qual : Str} {st : Stmt} {names : List Str} {sp : Sp}
    (F : Fun K y qual st f fd) (sc : FnScope names [x] (defScope st)) (room : Room (k + 1) callerA) (count : ∀ vs H Q E, sp vs H Q E → vs.length = 1)
    (inner : ∀ (cdv : Value) (outer : List Env) (s : Shared) (H : Hp) (vs : List V) (Q : VK) (E : XK), Room k (callerA.deeper (envOfC qual (defScope st) s.heap.objs.size f cdv)) → sp vs H Q E →
      ∃ t, PSs (cxOf CX0 P w K mg base names qual (defScope st) f cdv callerA outer s H E).nox (defBody st) t ∧ t { nx := fun _ H' => Q .non H', rt := Q } (start names vs) H) :
    Top P w K mg base k f fd x sp := by
  intro s H ag u v Q e0 hb hv hs
  obtain ⟨oc, od, kV, doc, pm, an, cdv, ct, osl, rfl, lk, hcd⟩ := F.ex
  refine fnAt (us := [u]) (vs := [v]) lk hcd sc count (fun outer s' H' vs' Q' E' room' wish => ?_) room e0 hb (.cons hv .nil) hs
  obtain ⟨t, h, q⟩ := inner cdv outer s' H' vs' Q' E' room' wish
  exact ⟨t, h.nox, q⟩
/-- from the def's promise at the outermost call to the row's claim about that call -/
theorem lawAt {P : Program} {w : World} {K : PySem.W.Frag} {mg mb : Str → Option Value} {k : Nat} {fa a : Addr} {fd : FuncData} {x : Str} {sp : Sp} {s₁ : Shared} {cells : List Value} {nums : List Int}
    (inK : K.In s₁.heap) (nsM : s₁.heap.Ns mainGlobals mg) (nsB : s₁.heap.Ns builtinsNs mb) (boot : ∀ y : Str, y ≠ "__name__" → mb y = bootBuiltins y) (lim : s₁.heap.NoLimit) (gens : s₁.gens = #[])
    (script : s₁.heap.get? a = some { cls := .type "list", data := .seq cells.toArray }) (are : IntsAre cells nums) (few : nums.length ≤ sizeLine)
    (main : ∀ base : Heap, K.In base → base.Ns mainGlobals mg → Top P w K mg base k fa fd x sp) (binds : ∀ (s : Shared) (u : Value), BindsTo s fd ⟨[u], []⟩ [(x, u)])
    (told : ∀ H : Hp, Only H → SqL K H a (nums.map V.int) → sp [.ref a] H (fun v _ => v = .bl true) fun _ _ _ => False) :
    codeAny (model P w) callerA (.call (.ref fa) ⟨[.ref a], []⟩) (fun r s' => r = .ok (.ret (.bool true)) ∧ OldK s₁.heap s'.heap ∧ s'.os = s₁.os ∧ AllBare s'.gens) s₁ := by
  have rel := vals_ints are
  have same := are.length
  suffices goal : ∀ H : Hp, Only H → SqL K H a (nums.map V.int) → HOk P w H s₁.heap → (∀ b o, H b = some o → b = a ∧ K.lookup a = none) →
      codeAny (model P w) callerA (.call (.ref fa) ⟨[.ref a], []⟩) (fun r s' => r = .ok (.ret (.bool true)) ∧ OldK s₁.heap s'.heap ∧ s'.os = s₁.os ∧ AllBare s'.gens) s₁ by
    cases look : K.lookup a with
    | some o =>
      have here := inK a o look
      rw [script] at here
      cases here
      exact goal (fun _ => none) (fun _ => Or.inl rfl) (Or.inr ⟨_, cells.toArray, _, look, rfl, rfl, rfl, (by rw [List.size_toArray, same]; exact few), (by simpa using rel)⟩) (fun b u z => by cases (show (none : Option HO) = some u from z)) (fun b o z => by cases (show (none : Option HO) = some o from z))
    | none =>
      let Ha : Hp := fun b => if b = a then some (.frz { cls := .type "list", data := .seq cells.toArray } (.lst (nums.map V.int))) else none
      have at_a : Ha a = some (.frz { cls := .type "list", data := .seq cells.toArray } (.lst (nums.map V.int))) := if_pos rfl
      have off : ∀ b o, Ha b = some o → b = a := fun b o z => by
        by_cases hb : b = a
        · exact hb
        · rw [show Ha b = none from if_neg hb] at z
          cases z
      refine goal Ha (fun b => ?_) (Or.inl (Or.inr ⟨_, at_a⟩)) (fun b u z => ?_) (fun b o z => ⟨off b o z, look⟩)
      · by_cases hb : b = a
        · exact Or.inr ⟨_, _, if_pos hb⟩
        · exact Or.inl (if_neg hb)
      · obtain rfl := off b u z
        rw [at_a] at z
        cases z
        exact ⟨script, by rw [List.length_map]; exact few, cells, _, rel, script⟩
  intro H only seq hok apart
  have free : ∀ {b : Addr} {o : Obj}, s₁.heap.get? b = some o → (∀ u, H b = some u → False) → (hidT s₁.heap H).get? b = some o := fun {b o} e n =>
    hidT_get e (by
      cases q : H b with
      | none => rfl
      | some u => exact (n u q).elim)
  have nsH : ∀ {b : Addr} {m : Str → Option Value}, s₁.heap.Ns b m → (hidT s₁.heap H).Ns b m := by
    rintro b m ⟨o, es, ep, e, d, r⟩
    refine ⟨o, es, ep, free e fun u z => ?_, d, r⟩
    obtain ⟨rfl, _⟩ := apart b u z
    rw [script] at e
    cases e
    cases (show Data.seq cells.toArray _ = Data.dict es ep from d)
  have kH : K.In (hidT s₁.heap H) := fun b o e => free (inK b o e) fun u z => by
    obtain ⟨rfl, n⟩ := apart b u z
    rw [n] at e
    cases e
  have mod : Mod K mg (hidT s₁.heap H) := ⟨kH, nsH nsM, ⟨mb, nsH nsB, boot⟩, let ⟨mc, h1, h2⟩ := lim; ⟨mc, nsH h1, h2⟩⟩
  have entry : Env0 P w K mg (hidT s₁.heap H) callerA [] s₁ H :=
    ⟨rfl, mod, fun b o e => of_hidT e, Nat.le_of_eq (hidT_size _ _), trivial, fun b hb => absurd (show b ∈ ([] : List Addr) from hb) (by simp), hok, .of_eq gens⟩
  refine codeAny_mono (main _ kH (nsH nsM) s₁ H ⟨[.ref a], []⟩ (.ref a) (.ref a) _ entry (binds s₁ (.ref a)) rfl (told H only seq)) ?_
  intro r s' got
  match r, got with
  | .ok (.ret u), got =>
    obtain ⟨v, H', os, bare, un, hok', rv, q⟩ := got
    obtain rfl : v = .bl true := q
    obtain rfl : u = Value.bool true := rv
    refine ⟨rfl, OldK.of_keep fun b o e => ?_, os, bare⟩
    rcases only b with z | ⟨ob, xs, z⟩
    · exact un.keep b o e z (by intro y; exact absurd (show b ∈ ([] : List Addr) from y) (by simp)) (by simp)
    · obtain ⟨e1, _⟩ := hok b _ z
      obtain ⟨e2, _⟩ := hok' b _ (un.frzs b ob _ z)
      rw [e] at e1
      cases e1
      exact e2
/-- the goal that k_head leaves, from the law's promise at the outermost call -/
theorem walkAt {l : PySem.W.OpenLaw} {n k : Nat} {q : Program} {loose : List Str} {XP : (Str → Option Value) → Heap → Prop} {YP : World → Heap → Prop} {d : DefRec} {K : Params → PySem.W.Frag} {sp : World → Sp} {x : Str}
    (most : l.most = some n) (line : n ≤ sizeLine) (plain : d.params.defaults = []) (inK : ∀ (w : World) (h : Heap), YP w h → (K w.params).In h)
    (F : ∀ (w : World) (mg : Str → Option Value) (fa : Addr) (h : Heap), (K w.params).In h → h.Ns mainGlobals mg → mg d.name = some (.ref fa) →
      ∃ fd : FuncData, (∀ (s : Shared) (u : Value), BindsTo s fd ⟨[u], []⟩ [(x, u)]) ∧ ∀ base : Heap, (K w.params).In base → base.Ns mainGlobals mg → Top l.prog w (K w.params) mg base k fa fd x (sp w))
    (told : ∀ (w : World) (H : Hp) (a : Addr) (ns : List Int), ns.length ≤ n → Only H → SqL (K w.params) H a (ns.map V.int) → sp w [.ref a] H (fun v _ => v = .bl true) fun _ _ _ => False) :
    PySem.W.WalkO q loose XP YP l.row.toRowW d [] (fun f vs => PySem.call f vs) := by
  refine Att.attach_call most plain ?_
  intro w s₀ s₁ mg mb fa o pm cd doc a vs ns G Y ho hd hcd hmg hobj hints hlen hg
  obtain ⟨fd, hb, hF⟩ := F w mg fa _ (inK w _ Y) G.T.g hmg
  exact lawAt (inK w _ Y) G.T.g G.T.b G.T.builtins G.T.nolimit hg hobj hints (Nat.le_trans hlen line) hF hb fun H hO hS => told w H a ns hlen hO hS
/-! ### repr of data, where no repr is under way -/
def rReprD (K : PySem.W.Frag) : List V → Hp → VK → Prop := fun xs H Q => ∃ a d, xs = [.ref a] ∧ Dp K H (.ref a) d ∧ d.showable = true ∧ d.hasDict = false ∧ d.depth ≤ 40 ∧ d.shown.length ≤ sizeLine ∧ Q (.str d.shown) H
theorem call_reprD {X : Cx} (hg : X.A.guards = some []) (hu : X.A.units + 64 < cLine) : CallR X (.builtin "repr") (rReprD X.K) := by
  intro pins s σ H xs us Q I r h
  obtain ⟨a, d, rfl, hd, sh, nd, dep, sz, q⟩ := h
  obtain ⟨u, rfl, rv⟩ := vals1 r
  obtain rfl : u = Value.ref a := rv
  obtain ⟨as, rd⟩ := Dp.reads I d _ _ hd (show RelV (.ref a) (.ref a) from rfl)
  refine repr_of_reads' rd sh (by rw [nd]; exact fun z => nomatch z) hg (by omega) (fun b o e => e) (fun h' u tk keep => ?_) sz
  exact ⟨.str _, H, I.kept keep, ⟨_, rfl⟩, q⟩
/-! ### f(k = v, ..): keywords alone -/
end Sq
namespace Sq
open PySem PySem.Spec PyProof.Rows L2
/-- what a caller wants of a def of the text: it stands at its name and keeps its promise -/
structure Df (P : Program) (w : World) (K : PySem.W.Frag) (mg : Str → Option Value) (base : Heap) (k : Nat) (x : Str) (ps : List Str) (sp : Sp) : Prop where
  ex : ∃ f fd, FnOk P w K mg base CX0 k f fd ps sp ∧ mg x = some (.ref f) ∧ PySem.W.keepIn K (.ref f) = true ∧ Binds K fd ps []
section
variable {X : Cx} {k : Nat} {ps : List Str} {sp : Sp} {x : Str} {p pos : Pos} {e : Expr} {es : List Expr} {t : TA}
theorem pe_callD (D : Df X.prog X.w X.K X.mg X.base k x ps sp) (hr : Room k X.A) (hg : Gl X x) (ha : PA X (e :: es) t) (hdb : (x == ("__debug__" : Str)) = false := by decide)
    (he : starEach (e :: es) X.env = (false, eval e X.env) :: starEach es X.env := by rfl) (hpl : (backTo pos (starEach es X.env)).any (·.1) = false := by rfl) :
    PE X (.Call (.Name x p) (e :: es) [] pos) (tCall sp [] E0 t) := by
  obtain ⟨f, fd, F, g, kp, b⟩ := D.ex
  exact pe_call F hr hg g kp b .nil pass0 ha hdb he hpl
end
section
variable {P : Program} {w : World} {K : PySem.W.Frag} {mg : Str → Option Value} {base : Heap}
/-- a def without defaults, from its place in the text and its promise -/
theorem Df.mk' {k : Nat} {x : Str} {st : Stmt} {ps : List Str} {sp : Sp} {f : Addr} {fd : FuncData} (F : Fun K x x st f fd) (G : FnOk P w K mg base CX0 k f fd ps sp) (g : mg x = some (.ref f)) (b : Binds K fd ps []) : Df P w K mg base k x ps sp :=
  ⟨⟨f, fd, G, g, F.kp, b⟩⟩
end
end Sq
namespace Sq
open PySem PySem.Spec PyProof.Rows L2
theorem vals_nil {ds : List Value} (h : Vals [] ds) : ds = [] := by
  cases h
  rfl
end Sq
namespace Sq
open PySem PySem.Spec PyProof.Rows L2
/-- a test whose ways are told apart from what follows -/
theorem tell {c : TT} {σ : L2.St} {H : Hp} {Q : Bool → Hp → Prop} (T F : Hp → Prop) (h : ∀ Q' : Bool → Hp → Prop, (∀ H2, T H2 → Q' true H2) → (∀ H2, F H2 → Q' false H2) → c σ H Q') (hT : ∀ H2, T H2 → Q true H2) (hF : ∀ H2, F H2 → Q false H2) : c σ H Q := h Q hT hF
end Sq
set_option Elab.async false
set_option linter.all false
set_option maxRecDepth 100000
set_option maxHeartbeats 2000000
/-! Own errors whose __init__ says super().__init__(..) and stores its argument as value. -/
namespace SqX
open PySem PySem.W PySem.Calls PyProof.Rows PySem.HandSPX
def xA (p1 p2 : Pos) : Arguments := { posonlyargs := [], args := [{ arg := "self", annotation := none, pos := p1 }, { arg := "value", annotation := none, pos := p2 }], vararg := none, kwonlyargs := [], kw_defaults := [], kwarg := none, defaults := [] }
def xB (msg : Str) (j : Nat) (q0 q1 q2 q3 q4 q5 r1 r2 r3 r4 : Pos) : List Stmt :=
  [.Expr (.Call (.Attribute (.Call (.Name "super" q0) [] [] q1) "__init__" q2) [.Constant (.str msg) j q3] [] q4) q5, .Assign [.Attribute (.Name "self" r1) "value" r2] (.Name "value" r3) r4]
def xS : Scope := { kind := .function, names := [(PySem.Str.ofString "self", .local), (PySem.Str.ofString "value", .local), (PySem.Str.ofString "__class__", .free), (PySem.Str.ofString "super", .globalImplicit)], isGenerator := false, isCoroutine := false, more := [] }
/-- what the written part says of such a class at C, of its __init__ at fI -/
structure Er (K : Frag) (prog : Program) (C fI : Addr) (q : Str) : Prop where
  cls : ∃ nm qn N bs bm sn sub ab col dd k0 k1 k2 k3 k5, K.lookup C = some (excClassObj nm qn C N bs bm true sn sub ab col dd k0 k1 k2 k3 k5 "ValueError.__new__") ∧ refsVE bm = true
  sa : findIn K (.ref C) "__setattr__" = some (some (.builtin "object.__setattr__"))
  noV : findIn K (.ref C) "value" = some none
  iC : findIn K (.ref C) "__init__" = some (some (.ref fI))
  tC : typeIn K (.ref fI) = some (.type "function")
  kC : keepIn K (.ref C) = true
  exC : subIn K (.ref C) (.type "BaseException") = some true
  veC : subIn K (.ref C) (.type "ValueError") = some true
  tyC : typeIn K (.ref C) = some (.type "type")
  mC : mroIn K C (.ref C) = some true
  suC : ks_superIn K C C "__init__" = some (some (.builtin "ValueError.__init__"))
  third : nsIn K cStatics "thirdparty.any" = some none
  super : nsIn K mainGlobals "super" = some none
  top : (prog.main.scope.names.lookup ("super" : Str)).isSome = false
  fn : ∃ (oc : Value) (od : Option Addr) (doc pm : Value) (an : Option Addr) (ct : Value) (osl : Array (Option Value)) (cda cc : Addr) (msg : Str) (j : Nat) (p1 p2 q0 q1 q2 q3 q4 q5 r1 r2 r3 r4 : Pos) (ccl : Value) (cdd : Option Addr) (vs : Array Value) (ccs : Array (Option Value)) (file : Str) (tf : Tok) (cl : Value) (cld : Option Addr) (csl : Array (Option Value)),
    K.lookup fI = some ⟨oc, od, .func (ksFn "__init__" q (xA p1 p2) (xB msg j q0 q1 q2 q3 q4 q5 r1 r2 r3 r4) xS .none .none doc pm an (.ref cda) ct cc), osl⟩ ∧ codeIn K (.ref cda) q = true ∧
    K.lookup cda = some ⟨ccl, cdd, .fields vs, ccs⟩ ∧ vs[2]? = some (.str file tf) ∧ ((prog.main.file : Str) == file) = true ∧ K.lookup cc = some ⟨cl, cld, .cell (some (.ref C)), csl⟩ ∧ (q2.endLine == q4.line) = true
/-- what __init__ leaves of a fresh exception at x -/
structure Inited (h h' : Heap) (x C dx t1 : Addr) (v : Value) : Prop where
  keep : ∀ b o, b ≠ x → h.get? b = some o → h'.get? b = some o
  obj : h'.get? x = some { cls := .ref C, dict := some dx, data := .fields #[.ref t1, .none, .none, .none, .bool false, .none] }
  dbig : h.objs.size ≤ dx
  dne : dx ≠ x
  ns : h'.Ns1 dx (fun y => if y = "value" then some v else none)
theorem one_size (v : Value) : [v].length ≤ sizeLine := by
  rw [sizeLine_eq]
  exact (by decide : 1 ≤ 16777216)
theorem call_is {o e : Expr} {name : Str} {apos pos : Pos} {env : Env} (hline : (apos.endLine == pos.line) = true) (he : starEach [e] env = [(false, eval e env)]) :
    eval (.Call (.Attribute o name apos) [e] [] pos) env = (do
      let ov ← attributeBase o name env (eval o env)
      standAt apos.atName
      let (f, first) ← holding [ov] (getMethod ov name (do return (← importBound o env).getD true))
      callWith pos f first (backTo pos (starEach [e] env)) []) := by
  rw [arm_eval_Call]
  have hf : methodCallForm 1 (backTo pos (starEach [e] env)) (backToKw pos (keywordEach [] env)) = true := by
    rw [he]
    rfl
  have hp : methodCallPos true o env apos pos = pure pos := by
    unfold methodCallPos
    simp [hline]
  refine congrArg _ (funext fun ov => congrArg _ (funext fun _ => ?_))
  show methodCall o name apos pos env ov 1 (backTo pos (starEach [e] env)) (backToKw pos (keywordEach [] env)) = _
  unfold methodCall
  rw [hf, hp]
  rfl
/-- the bound ValueError.__init__ called: the args are laid anew -/
theorem call_mw {prog : Program} {w : World} {A : Around} {E : Value → Shared → Prop} {h : Heap} {g : Array GenState} {d : Drawn} {t : Nat} {os : OsState}
    {nm qn : Str} {C N : Addr} {bs bm : List Value} {hdct : Bool} {sn : List Str} {sub : List Value} {ab : Bool} {col : Option Bool} {dd : Option Addr} {k0 k1 k2 k3 k5 : Option Value} {u e t0 : Addr} {rest : List Value} {Q : Value → Shared → Prop}
    (atC : h.get? C = some (excClassObj nm qn C N bs bm hdct sn sub ab col dd k0 k1 k2 k3 k5 "ValueError.__new__")) (atE : h.get? e = some (excO C t0)) (atU : h.get? u = some (kxs_mw "ValueError.__init__" e)) (line : rest.length ≤ sizeLine)
    (fin : ∀ h' t1, (∀ b o, b ≠ e → h.get? b = some o → h'.get? b = some o) → h'.get? e = some (excO C t1) → Q .none ⟨h', g, d, t, os⟩) :
    wpAny (model prog w) A (call (.ref u) rest) Q E ⟨h, g, d, t, os⟩ := by
  refine wpAny_call (codeAny_of_tree ?_)
  show wpAny _ A.in1 (callAny (.ref u) ⟨rest, []⟩) _ _ _
  simp only [callAny]
  refine wpAny_bind (wpAny_load atU ?_)
  simp only [kxs_mw, show (Value.type "method-wrapper" == Value.type "method" || Value.type "method-wrapper" == Value.type "builtin_function_or_method" || Value.type "method-wrapper" == Value.type "method-wrapper") = true by decide, if_true]
  refine W.KFB.if_so (by decide) ?_
  refine wpAny_bind (ESX.check_bound F.excBase_ValueError atC atE rfl ?_)
  refine wpAny_bind (wpAny_pure (wpAny_pure ?_))
  refine ⟨Code.quiet_builtin _ (by decide +kernel), codeAny_builtin F.excBase_ValueError.initEntry ?_⟩
  rw [Around.under_plainId F.excBase_ValueError.init.plain _]
  wp_walk
  refine fin _ h.objs.size (fun b o nb hb => ?_) ?_
  · exact (Heap.get?_update_other _ _ (Ne.symm nb)).trans (Heap.get?_push_of_some _ hb)
  · exact (Heap.get?_update_self _ (Heap.get?_push_of_some _ atE) rfl).trans rfl
section
variable {prog : Program} {w : World} {A : Around} {E : Value → Shared → Prop} {R : Result → Shared → Prop} {s : Shared} {K : Frag} {mg : Str → Option Value} {base : Heap} {C fI : Addr} {q : Str}
theorem init (T : Er K prog C fI q) {x t0 : Addr} {v : Value} {args : Args} (X : K.In s.heap) (hg : s.heap.Ns mainGlobals mg) (hlim : s.heap.NoLimit) {mb : Str → Option Value} (hb : s.heap.Ns builtinsNs mb) (boot : ∀ y : Str, y ≠ "__name__" → mb y = bootBuiltins y)
    (hx : s.heap.get? x = some (excO C t0)) (hnx : K.lookup x = none) (hroom : A.depth < recursionLimit)
    (hargs : ∀ fd : FuncData, (∃ p1 p2 bd doc pm an cda ct cc, fd = ksFn "__init__" q (xA p1 p2) bd xS .none .none doc pm an (.ref cda) ct cc) → BindsTo s fd args [("self", .ref x), ("value", v)])
    (hq : ∀ h' tk dx t1, Inited s.heap h' x C dx t1 v → R (.ok (.ret .none)) { s with heap := h', toks := tk }) :
    codeAny (model prog w) A (.call (.ref fI) args) R s := by
  obtain ⟨oc, od, doc, pm, an, ct, osl, cda, cc, msg, j, p1, p2, q0, q1, q2, q3, q4, q5, r1, r2, r3, r4, ccl, cdd, vs, ccs, file, tf, cl, cld, csl, ho, hcd, hcode, hvs, hfile, hcell, hline⟩ := T.fn
  obtain ⟨nm, qn, N, bs, bm, sn, sub, ab, col, dd, k0, k1, k2, k3, k5, hC, hbm⟩ := T.cls
  have hcl : clsIn K C = some { name := nm, bases := bs, mro := .ref C :: bm, ns := N, qualname := qn, hasDict := true, slotNames := sn, subclasses := sub, abstract := ab, collection := col, hasDel := false } := by unfold clsIn; rw [hC] <;> rfl
  refine ks_codeAny_call_defAt (fd := ksFn "__init__" q (xA p1 p2) (xB msg j q0 q1 q2 q3 q4 q5 r1 r2 r3 r4) xS .none .none doc pm an (.ref cda) ct cc) (binds := [("self", .ref x), ("value", v)]) hroom (X _ _ ho) rfl hlim (codeRec_of X hcd) rfl
    (hargs _ ⟨_, _, _, _, _, _, _, _, _, rfl⟩) (show ∀ x ∈ xS.names, x.2 ≠ .cell by decide) (fun y hy => ?loc) (fun h₁ hns k => ?_)
  case loc =>
    rcases List.mem_cons.mp hy with rfl | hy
    · exact (show xS.names.lookup ("self" : Str) = some .local by decide)
    · obtain rfl := List.mem_singleton.mp hy
      exact (show xS.names.lookup ("value" : Str) = some .local by decide)
  have X₁ : K.In h₁ := X.keeps k
  have hx₁ := k _ _ hx
  obtain ⟨hh, g, d, t, os⟩ := s
  show _root_.PySem.wpAt _ _ _ (execs (xB msg j q0 q1 q2 q3 q4 q5 r1 r2 r3 r4) _) _ _ _
  refine ks_wpAt_execs_cons (ks_wpAt_Expr_any (ks_wpAt_MethodCall ?_ (call_is hline rfl)))
  obtain ⟨oD, hD1, hD2⟩ : ∃ oD, h₁.get? C = some oD ∧ ∃ cdD, oD.data = .cls cdD := ⟨_, X₁ _ _ hC, _, rfl⟩
  obtain ⟨cdD, hD2⟩ := hD2
  have I₁ : InstAt h₁ x (excO C t0) C none := ⟨hx₁, rfl, rfl, trivial⟩
  refine ks_wpAt_super_base (f := fI) (cc := cda) rfl rfl rfl rfl (X₁ _ _ ho) rfl rfl rfl (X₁ _ _ hcode) rfl hvs hfile T.top ?_
  refine ks_loadName_global rfl rfl (loadGlobal_builtin (hg.keeps k) (mg_none_of X hg T.super) (hb.keeps k) ((boot _ (by decide +kernel)).trans (by decide +kernel)) ⟨rfl, ?_⟩)
  refine wpAny_loadName_free rfl rfl rfl ⟨_, X₁ _ _ hcell, rfl⟩ ?_
  refine wpAny_loadName_local (v := .ref x) rfl rfl hns rfl ?_
  refine ks_wpAny_isType_cls hD1 hD2 ⟨rfl, ?_⟩
  refine ks_wpAny_call_super hD1 hD2 I₁.at_ I₁.cls (fun c e => by cases e) (looks_mroIn X₁ T.mC) (fun h₂ e₂ k₂ => ?_)
  have X₂ : K.In h₂ := X₁.keeps k₂
  have hx₂ := k₂ _ _ hx₁
  have I₂ : InstAt h₂ x (excO C t0) C none := ⟨hx₂, rfl, rfl, trivial⟩
  have al := T.suC
  unfold ks_superIn at al
  rw [hcl] at al
  refine kxs_getMethod kxs_ValueError e₂ (looks_opaque X₂ T.third) (l₀ := .ref C :: bm) ((looks_clsIn X₂ hcl).andThen .now) rfl X₂ al (I₂.type.andThen (looks_subIn X₂ T.veC)) (ks_ne X₂ I₂ hcl) (by decide) ?_
  have k₃ : ∀ b o, h₂.get? b = some o → (h₂.push (kxs_mw "ValueError.__init__" x)).get? b = some o := fun b o e => Heap.get?_push_of_some _ e
  have hu : (h₂.push (kxs_mw "ValueError.__init__" x)).get? h₂.objs.size = some (kxs_mw "ValueError.__init__" x) := Heap.get?_push_at rfl rfl
  refine kxs_callWith (i := "ValueError.__init__") (x := x) rfl (evalArgs_plain ?_)
  refine Calls.spliced_cons ?_
  show wpAny _ _ (eval (.Constant (.str msg) j q3) _) _ _ _
  refine Calls.Constant_str ?_
  refine Calls.spliced_nil ⟨hu, ?_⟩
  refine call_mw (k₃ _ _ (X₂ _ _ hC)) (k₃ _ _ hx₂) hu (one_size _) (fun h₄ t1 k₄ hx₄ => ?_)
  have kk : ∀ b o, b ≠ x → hh.get? b = some o → h₄.get? b = some o := fun b o nb e => k₄ b o nb (k₃ _ _ (k₂ _ _ (k _ _ e)))
  have X₄ : K.In h₄ := fun a o e => kk a o (fun z => by rw [z, hnx] at e; cases e) (X a o e)
  have nx : hh.objs.size ≠ x := fun z => by
    have := Heap.lt_size hx
    rw [← z] at this
    exact absurd this (Nat.lt_irrefl _)
  have ns₄ : h₄.Ns hh.objs.size (fun y => List.lookup y [(("self" : Str), Value.ref x), ("value", v)].reverse) :=
    hns.at fun o e => k₄ _ _ nx (k₃ _ _ (k₂ _ _ e))
  -- self.value = value
  refine ks_wpAt_execs_cons (wpAt_of_wpAny (plainObj_wpAny_Assign_Attribute ?_))
  refine wpAny_Name (wpAny_loadName_local (v := v) rfl rfl ns₄ rfl ?_) (by decide)
  refine wpAny_Name (wpAny_loadName_local (v := .ref x) rfl rfl ns₄ rfl ?_) (by decide)
  refine set_plain X₄ (ox := excO C t1) (od := none) ⟨hx₄, rfl, rfl, trivial⟩ T.sa ?_
  refine exc_osa X₄ hx₄ hcl (show refsVE (.ref C :: bm) = true from hbm) rfl T.noV (fun h₅ tk₅ dx k₅ dn dne hx₅ hn₅ => ?_)
  have big : hh.objs.size ≤ dx := by
    have l1 : hh.objs.size < h₁.objs.size := hns.lt
    have l2 : h₁.objs.size < h₂.objs.size := Heap.lt_size e₂
    have nu : h₂.objs.size ≠ x := Nat.ne_of_gt (Heap.lt_size hx₂)
    have l4 : h₂.objs.size < h₄.objs.size := Heap.lt_size (k₄ _ _ nu hu)
    have l5 : h₄.objs.size ≤ dx := dn
    exact Nat.le_trans (Nat.le_of_lt (Nat.lt_trans l1 (Nat.lt_trans l2 l4))) l5
  refine wpAt_of_wpAny (wpAny_execs_nil ?_)
  exact hq h₅ tk₅ dx t1 ⟨fun b o nb e => k₅ b o nb (kk b o nb e), hx₅, big, dne, hn₅⟩
end
end SqX
set_option Elab.async false
set_option linter.all false
set_option maxRecDepth 100000
set_option maxHeartbeats 2000000
namespace SqX
open PySem PySem.W PySem.Calls PyProof.Rows PySem.HandSPX
/-- a new error at e, its dict at d -/
structure New (h h' : Heap) (e C d t1 : Addr) (v : Value) : Prop where
  keep : ∀ b o, h.get? b = some o → h'.get? b = some o
  big : h.objs.size ≤ e
  obj : h'.get? e = some { cls := .ref C, dict := some d, data := .fields #[.ref t1, .none, .none, .none, .bool false, .none] }
  dbig : h.objs.size ≤ d
  dne : d ≠ e
  ns : h'.Ns1 d (fun y => if y = "value" then some v else none)
section
variable {prog : Program} {w : World} {A : Around} {E : Value → Shared → Prop} {R : Result → Shared → Prop} {K : Frag} {mg mb : Str → Option Value} {C fI : Addr} {q : Str}
theorem bind2 {s : Shared} {q : Str} {x v : Value} : ∀ fd : FuncData, (∃ p1 p2 bd doc pm an cda ct cc, fd = ksFn "__init__" q (xA p1 p2) bd xS .none .none doc pm an (.ref cda) ct cc) → BindsTo s fd ⟨[x, v], []⟩ [("self", x), ("value", v)] := by
  rintro fd ⟨p1, p2, bd, doc, pm, an, cda, ct, cc, rfl⟩
  exact BindsTo.of_eq (by first | rfl | with_unfolding_all rfl)
theorem made {s : Shared} (T : Er K prog C fI q) {v : Value} (X : K.In s.heap) (hg : s.heap.Ns mainGlobals mg) (hlim : s.heap.NoLimit) (hb : s.heap.Ns builtinsNs mb) (boot : ∀ y : Str, y ≠ "__name__" → mb y = bootBuiltins y)
    (hroom : A.depth + 1 < recursionLimit)
    (fin : ∀ h' tk e d t1, New s.heap h' e C d t1 v → R (.ok (.ret (.ref e))) { s with heap := h', toks := tk }) :
    codeAny (model prog w) A (.call (.ref C) ⟨[v], []⟩) R s := by
  obtain ⟨nm, qn, N, bs, bm, sn, sub, ab, col, dd, k0, k1, k2, k3, k5, hC, hbm⟩ := T.cls
  obtain ⟨hp, g, dr, tk, os⟩ := s
  have k : ∀ b o, hp.get? b = some o → ((hp.push (kdv_tup [v])).push (excO C hp.objs.size)).get? b = some o := fun b o e => Heap.get?_push_of_some _ (Heap.get?_push_of_some _ e)
  have atE : ((hp.push (kdv_tup [v])).push (excO C hp.objs.size)).get? (hp.objs.size + 1) = some (excO C hp.objs.size) := by heap_get
  have off : K.lookup (hp.objs.size + 1) = none := by
    cases e : K.lookup (hp.objs.size + 1) with
    | none => rfl
    | some o => exact absurd (Nat.lt_of_succ_lt (Heap.lt_size (X _ _ e))) (Nat.lt_irrefl _)
  refine call_own F.excBase_ValueError (fun Y => refsVE_contains Y bm hbm) (X _ _ hC) (looks_findIn X T.iC) (fun self => bind_fn X self T.tC) (one_size v) ?_
  refine init (s := ⟨(hp.push (kdv_tup [v])).push (excO C hp.objs.size), g, dr, tk, os⟩) T (X.keeps k) (hg.keeps k) (hlim.keeps k) (hb.keeps k) boot atE off (show A.depth + 1 < recursionLimit from hroom) bind2 ?_
  rintro h' tk' dx t1 ⟨kp, ob, dn, dne, ns⟩
  have old : ∀ b o, hp.get? b = some o → h'.get? b = some o := fun b o e => kp b o (Nat.ne_of_lt (Nat.lt_succ_of_lt (Heap.lt_size e))) (k b o e)
  have z : hp.objs.size + 1 + 1 ≤ dx := by
    first
      | (simpa only [Heap.size_push] using dn)
      | exact dn
      | (have y := dn; rw [Heap.size_push, Heap.size_push] at y; exact y)
  exact ⟨rfl, fin h' tk' (hp.objs.size + 1) dx t1 ⟨old, Nat.le_succ _, ob, Nat.le_trans (Nat.le_trans (Nat.le_succ _) (Nat.le_succ _)) z, dne, ns⟩⟩
end
end SqX
set_option Elab.async false
set_option linter.all false
set_option maxRecDepth 100000
set_option maxHeartbeats 4000000
/-! The same by keyword. -/
set_option Elab.async false
set_option linter.all false
set_option maxRecDepth 100000
set_option maxHeartbeats 2000000
/-! Own errors as values of the layer: made by position and by name, isinstance of them, their value. -/
namespace Sq
open PySem PySem.Spec PyProof.Rows L2
/-- an error of the class at C stands at a, its dict at d; it holds v -/
def ErrAt (H : Hp) (a d C : Addr) (v : V) : Prop := H a = some (exo a C (some d)) ∧ H d = some (exd d [(("value" : Str), v)])
theorem ErrAt.same {H H' : Hp} {a d C : Addr} {v : V} (s : Same H H') (e : ErrAt H a d C v) : ErrAt H' a d C v := ⟨s _ _ e.1, s _ _ e.2⟩
end Sq
set_option Elab.async false
set_option linter.all false
set_option maxRecDepth 100000
set_option maxHeartbeats 2000000
namespace SqX
open PySem PySem.W PySem.Spec PySem.Calls
section
variable {prog : Program} {w : World} {A : Around} {E : Value → Shared → Prop} {s : Shared} {K : Frag} {x D : Addr} {ox : Obj} {od : Option Obj}
/-- err.__class__, whatever the error's own dict holds -/
theorem classOf (T : L2.ExcC K D) (X : K.In s.heap) (I : InstAt s.heap x ox D od) {Q : Option Value → Shared → Prop} (fin : Q (some (.ref D)) { s with toks := s.toks + 1 }) :
    wpAny (model prog w) A (getAttr? (.ref x) "__class__") Q E s := by
  have found : findObj K D od "__class__" = some (.bind (.builtin "getset_descriptor.__get__") (.builtin "object.__class__")) := by
    obtain ⟨cd, hc, _⟩ := any_some T.hd
    unfold findObj
    rw [hc, Option.bind_some, T.ha, Option.bind_some]
    simp [T.hn, T.ht]
  obtain ⟨hp, g, d, t, os⟩ := s
  have ty := I.type (M := model prog w)
  have hookA := looks_findIn (M := model prog w) X T.hg
  have hookB := looks_findIn (M := model prog w) X T.hk
  have look := looks_find (M := model prog w) X I found
  have isB : Looks (model prog w) hp (isInstance (.ref x) (.type "BaseException")) true := ty.andThen (looks_subIn X T.hs)
  have differ : (Value.builtin "BaseException.__getattribute__" == Value.builtin "object.__getattribute__") = false := by decide +kernel
  have off : (onTheHeap (Value.ref D) && Value.builtin "BaseException.__getattribute__" == Value.builtin "object.__getattribute__") = false := by
    rw [differ]
    rfl
  unfold getAttr? getAttrBy? getAttrBy
  refine wpAny_bind (wpAny_mkText (wpAny_bind (wpAny_attempt (wpAny_holding (wpAny_bind (ty.at (wpAny_bind (hookA.at ?_))))))))
  show wpAny _ _ (if (onTheHeap (Value.ref D) && Value.builtin "BaseException.__getattribute__" == Value.builtin "object.__getattribute__") = true then _ else _) _ _ _
  rw [off, if_neg Bool.false_ne_true]
  unfold getAttrByItsOwn hookBefore
  refine wpAny_bind ?_
  rw [if_pos (show onTheHeap (Value.ref D) = true from rfl)]
  refine hookB.at ?_
  refine wpAny_bind (wpAny_attempt (wpAny_holding ?_))
  unfold callGetattribute
  rw [show (false && onTheHeap (Value.builtin "BaseException.__getattribute__")) = false from rfl, if_neg Bool.false_ne_true]
  unfold boundAndCalled
  rw [PySem.F.excAttr_ValueError.ga.bind (.ref x)]
  refine wpAny_bind (wpAny_pure ?_)
  show wpAny _ _ (call (.builtin "BaseException.__getattribute__") [.ref x, .str "__class__" t]) _ _ _
  refine wpAny_call (codeAny_call_builtin PySem.F.excAttr_ValueError.ga.plain PySem.F.entry_bexc_ga ?_)
  refine @check_slot (model prog w) _ _ ⟨hp, g, d, t + 1, os⟩ "BaseException.__getattribute__" "BaseException" "__getattribute__" (.ref x) [.str "__class__" t] [] _ (by decide +kernel) (by decide +kernel) isB (PySem.F.args_bexc_ga (.ref x) (.str "__class__" t)) ?_
  unfold Builtin.«object.__getattribute__»
  refine wpAny_bind (wpAny_of_eq (a := ((Value.ref x : Value), [Value.str "__class__" t])) (by first | rfl | (simp only [slotArgs]; rfl)) ?_)
  refine wpAny_bind (wpAny_pure (wpAny_bind (ty.at (wpAny_bind (look.at ?_)))))
  show wpAny _ _ (holding [Value.builtin "object.__class__"] (call (.builtin "getset_descriptor.__get__") [.builtin "object.__class__", .ref x, .ref D]) >>= ret) _ _ _
  refine wpAny_bind (wpAny_holding (wpAny_call (class_get (s := ⟨hp, g, d, t + 1, os⟩) (ox := ox) (od := od) X I T.hm ?_)))
  refine wpAny_pure ?_
  show wpAny _ _ (handedOut (.ref D)) _ _ _
  rw [handedOut_of (v := .ref D) rfl]
  first
    | exact wpAny_pure (wpAny_pure fin)
    | exact wpAny_pure fin
    | exact wpAny_pure (wpAny_bind (wpAny_pure (wpAny_pure fin)))
theorem kit (T : L2.ExcC K D) : KitX K (.ref x) (.ref D) (fun h => InstAt h x ox D od) where
  ty := fun _ _ _ I => I.type
  it := fun _ _ X _ => by
    obtain ⟨cdD, found, _⟩ := any_some T.hd
    unfold clsIn at found
    split at found
    · rename_i c' d' cd' sl' there
      intro A' Q' E' s' keep q
      unfold isType loadHead
      exact wpAny_bind (wpAny_loadPart (keep _ _ (X _ _ there)) (wpAny_pure q))
    · cases found
  ne := fun h tp dd its n sl X tup => by
    obtain ⟨cdD, found, _⟩ := any_some T.hd
    refine Bool.eq_false_iff.mpr fun q => ?_
    obtain rfl : D = tp := Value.ref.inj (beq_iff_eq.mp q)
    unfold clsIn at found
    split at found
    · rename_i c' d' cd' sl' there
      cases (X _ _ there).symm.trans tup
    · cases found
  ca := fun X I fin => classOf T X I fin
end
end SqX
namespace Sq
open PySem PySem.Spec PyProof.Rows L2
theorem kit_own {K : PySem.W.Frag} {C D : Addr} {b : Bool} (h1 : PySem.W.isClsIn K D = true) (h2 : PySem.W.typeIn K (.ref D) = some (.type "type")) (h3 : PySem.W.subIn K (.ref C) (.ref D) = some b) (h4 : C = D → b = true) : PySem.W.kitOne K (.ref C) (.ref D) = some b := by
  unfold PySem.W.kitOne
  by_cases e : C = D
  · subst e
    rw [if_pos (by simp), h4 rfl]
  · rw [if_neg (by simpa using e)]
    show (if ((PySem.W.clsIn K D).isSome && PySem.W.typeIn K (.ref D) == some (.type "type")) = true then PySem.W.subIn K (.ref C) (.ref D) else none) = some b
    have h1' : (PySem.W.clsIn K D).isSome = true := h1
    rw [h1', h2, if_pos (by rfl)]
    exact h3
theorem kit_base {K : PySem.W.Frag} {C : Addr} {T : String} {b : Bool} (h1 : PySem.W.kitMeta T = true) (h3 : PySem.W.subIn K (.ref C) (.type T) = some b) : PySem.W.kitOne K (.ref C) (.type T) = some b := by
  unfold PySem.W.kitOne
  rw [if_neg (by simp)]
  show (if PySem.W.kitMeta T = true then PySem.W.subIn K (.ref C) (.type T) else none) = some b
  rw [if_pos h1]
  exact h3
end Sq
set_option Elab.async false
set_option linter.all false
set_option maxRecDepth 100000
set_option maxHeartbeats 2000000
/-! Own errors raised; a caught one kept behind its suite. -/
namespace Sq
open PySem PySem.Spec PyProof.Rows L2
/-- an error that was raised: its class and its dict are known -/
def exq (a C : Addr) (d : Option Addr) : HO := .ext fun h => ∃ (oe : Obj) (vs : Array Value), h.get? a = some oe ∧ Zc (.ref C) d oe ∧ oe.data = .fields vs
end Sq
set_option Elab.async false
set_option linter.all false
set_option maxRecDepth 100000
set_option maxHeartbeats 4000000
/-! try: .. except X as n: suite, where the caught error is still known behind it. -/
namespace Sq
open PySem PySem.Spec PyProof.Rows L2
/-! ### what is asked of a caught error -/
/-- an error of the class at C was caught at a, its dict at d; it holds v -/
def CaughtAt (H : Hp) (a d C : Addr) (v : V) : Prop := H a = some (exq a C (some d)) ∧ H d = some (exd d [(("value" : Str), v)])
theorem CaughtAt.same {H H' : Hp} {a d C : Addr} {v : V} (s : Same H H') (e : CaughtAt H a d C v) : CaughtAt H' a d C v := ⟨s _ _ e.1, s _ _ e.2⟩
end Sq
set_option Elab.async false
set_option linter.all false
set_option maxRecDepth 100000
set_option maxHeartbeats 2000000
/-! A walk that is left at its first item: for x in g(..): break. -/
set_option Elab.async false
set_option linter.all false
set_option maxRecDepth 100000
set_option maxHeartbeats 2000000
/-! Calls that may raise. -/
namespace Sq
open PySem PySem.Spec PyProof.Rows L2
structure Dx (P : Program) (w : World) (K : PySem.W.Frag) (mg : Str → Option Value) (base : Heap) (k : Nat) (x : Str) (ps : List Str) (sp : Sp) : Prop where
  ex : ∃ f fd, FnOk P w K mg base (L2.CX P w) k f fd ps sp ∧ mg x = some (.ref f) ∧ PySem.W.keepIn K (.ref f) = true ∧ Binds K fd ps []
theorem Dx.mk' {P : Program} {w : World} {K : PySem.W.Frag} {mg : Str → Option Value} {base : Heap} {k : Nat} {x : Str} {st : Stmt} {ps : List Str} {sp : Sp} {f : Addr} {fd : FuncData} (F : Fun K x x st f fd) (G : FnOk P w K mg base (L2.CX P w) k f fd ps sp) (g : mg x = some (.ref f)) (b : Binds K fd ps []) : Dx P w K mg base k x ps sp :=
  ⟨⟨f, fd, G, g, F.kp, b⟩⟩
/-- the same for a walk that is left at its first item -/
def EF (K : PySem.W.Frag) (W : WX) : L2.St → XK := fun σ cls d H => W cls d σ H ∧ PySem.W.subIn K cls (.type "StopIteration") = some false
/-- what is wanted of an error of the class at C that holds v -/
def Wish (E : XK) (C : Addr) (v : V) (H : Hp) : Prop := ∀ d, H d = none → E (.ref C) (some d) (upd H d (exd d [(("value" : Str), v)]))
end Sq
set_option Elab.async false
set_option linter.all false
set_option maxRecDepth 100000
set_option maxHeartbeats 4000000
/-! A def called within an except suite: walks over lists, pairs unpacked, comprehensions, the handled error asked. -/
namespace Sq
open PySem PySem.Spec PyProof.Rows L2 HotX L2H
section
variable {prog : Program} {w : World} {A : Around} {E : Value → Shared → Prop} {s : Shared}
/-- the walk over a list ends while an error is handled -/
theorem list_end_hot {it l x1 : Addr} {i : Nat} {items : Array Value} {Q : Option Value → Shared → Prop} (hot : HotAt A x1 s.heap)
    (hit : s.heap.IsListIter it l i) (lenσ : s.heap.IsList l items) (gotX : items[i]? = none)
    (hQ : ∀ h', Heap.ExtBut it s.heap h' → Q none { s with heap := h' }) : wpAny (model prog w) A (pyNext (.ref it)) Q E s := by
  obtain ⟨o, ho, mood, hd⟩ := id hit
  obtain ⟨ol, hol, _, nl, hdl⟩ := lenσ
  obtain ⟨hh, o1, vsB, h1, d1, c1⟩ := hot
  by_cases n1 : x1 = it
  · exfalso
    subst n1
    rw [ho] at h1
    cases h1
    rw [hd] at d1
    cases d1
    cases c1
  have k1 : (s.heap.update it (Obj.mapFields (·.setIfInBounds 0 Value.none))).get? x1 = some o1 := (Heap.get?_update_other _ _ (Ne.symm n1)).trans h1
  unfold pyNext
  refine wpAny_bind (wpAny_attempt (wpAny_callSpecial?_slot (name := Str.ofString "__next__") hit.typeIs slot_listiter_next
    (wpAny_call_entry slot_listiter_next hit.typeIs entry_listiter_next ?_ (args_listiter_next _))))
  show wpAny _ _ (field (.ref it) 0 >>= _) _ _ s
  refine wpAny_bind (wpAny_field ho hd (x := .ref l) rfl ?_)
  show wpAny _ _ (if (Value.ref l == Value.none) = true then _ else _) _ _ s
  rw [if_neg (show ¬ ((Value.ref l == Value.none) = true) from Bool.false_ne_true)]
  show wpAny _ _ (field (.ref it) 1 >>= _) _ _ s
  refine wpAny_bind (wpAny_field ho hd (x := .int i 0) rfl ?_)
  show wpAny _ _ (seqItems? (.ref l) >>= _) _ _ s
  refine wpAny_bind (wpAny_seqItems hol hdl ?_)
  simp only [Int.toNat_natCast, gotX]
  refine wpAny_bind (wpAny_rule (wpAny_bind (wpAny_setField ho hd (by simp) ?_)))
  show wpAny _ _ (newExc (.type "StopIteration") [] >>= _) _ _ _
  refine wpAny_bind ?_
  simp only [newExc, newTuple]
  refine wpAny_bind (wpAny_newObj_type ?_ (by size_fits))
  refine wpAny_bind (m := firstArgMember _ _) (wpAny_of_eq (a := Value.none) (by first | rfl | (simp only [firstArgMember]; rfl)) ?_)
  refine wpAny_newObj_type ?_ (by size_fits)
  refine raiseNew_hot ⟨hh, o1, vsB, Heap.get?_push_of_some _ (Heap.get?_push_of_some _ k1), d1, c1⟩ (Nat.ne_of_lt (Heap.lt_size (Heap.get?_push_of_some _ k1))) (Heap.get?_push_size _ rfl) rfl (by first | (simp; done) | (simp; omega) | (simp only [Array.size_append]; simp; omega)) ?_
  refine wpAny_bind (wpAny_isInstance (T := "StopIteration") (b := true) ⟨_, Heap.get?_update_self _ (Heap.get?_push_size _ rfl) rfl, rfl⟩ isSubtype_stop ?_)
  refine wpAny_pure (hQ _ fun b o nb e => ?_)
  have e2 : (s.heap.update it (Obj.mapFields (·.setIfInBounds 0 Value.none))).get? b = some o := (Heap.get?_update_other _ _ (Ne.symm nb)).trans e
  rw [Heap.get?_update_other _ _ (Nat.ne_of_gt (Heap.lt_size (Heap.get?_push_of_some _ e2)))]
  exact Heap.get?_push_of_some _ (Heap.get?_push_of_some _ e2)
/-- the same of a pair -/
theorem tup_end_hot {it t x1 : Addr} {i : Nat} {items : Array Value} {Q : Option Value → Shared → Prop} (hot : HotAt A x1 s.heap)
    (hit : IsTupIter s.heap it t i) (testsA : IsTup s.heap t items) (gotX : items[i]? = none)
    (hQ : ∀ h', Heap.ExtBut it s.heap h' → Q none { s with heap := h' }) : wpAny (model prog w) A (pyNext (.ref it)) Q E s := by
  obtain ⟨o, ho, mood, hd⟩ := id hit
  obtain ⟨ol, hol, _, nl, hdl⟩ := testsA
  obtain ⟨hh, o1, vsB, h1, d1, c1⟩ := hot
  by_cases n1 : x1 = it
  · exfalso
    subst n1
    rw [ho] at h1
    cases h1
    rw [hd] at d1
    cases d1
    cases c1
  have k1 : (s.heap.update it (Obj.mapFields (·.setIfInBounds 0 Value.none))).get? x1 = some o1 := (Heap.get?_update_other _ _ (Ne.symm n1)).trans h1
  unfold pyNext
  refine wpAny_bind (wpAny_attempt (wpAny_callSpecial?_slot (name := Str.ofString "__next__") hit.typeIs slot_tupleiter_next
    (wpAny_call_entry slot_tupleiter_next hit.typeIs entry_tupleiter_next ?_ (args_tupleiter_next _))))
  show wpAny _ _ (field (.ref it) 0 >>= _) _ _ s
  refine wpAny_bind (wpAny_field ho hd (x := .ref t) rfl ?_)
  show wpAny _ _ (if (Value.ref t == Value.none) = true then _ else _) _ _ s
  rw [if_neg (show ¬ ((Value.ref t == Value.none) = true) from Bool.false_ne_true)]
  show wpAny _ _ (field (.ref it) 1 >>= _) _ _ s
  refine wpAny_bind (wpAny_field ho hd (x := .int i 0) rfl ?_)
  show wpAny _ _ (seqItems? (.ref t) >>= _) _ _ s
  refine wpAny_bind (wpAny_seqItems hol hdl ?_)
  simp only [Int.toNat_natCast, gotX]
  refine wpAny_bind (wpAny_rule (wpAny_bind (wpAny_setField ho hd (by simp) ?_)))
  show wpAny _ _ (newExc (.type "StopIteration") [] >>= _) _ _ _
  refine wpAny_bind ?_
  simp only [newExc, newTuple]
  refine wpAny_bind (wpAny_newObj_type ?_ (by size_fits))
  refine wpAny_bind (m := firstArgMember _ _) (wpAny_of_eq (a := Value.none) (by first | rfl | (simp only [firstArgMember]; rfl)) ?_)
  refine wpAny_newObj_type ?_ (by size_fits)
  refine raiseNew_hot ⟨hh, o1, vsB, Heap.get?_push_of_some _ (Heap.get?_push_of_some _ k1), d1, c1⟩ (Nat.ne_of_lt (Heap.lt_size (Heap.get?_push_of_some _ k1))) (Heap.get?_push_size _ rfl) rfl (by first | (simp; done) | (simp; omega) | (simp only [Array.size_append]; simp; omega)) ?_
  refine wpAny_bind (wpAny_isInstance (T := "StopIteration") (b := true) ⟨_, Heap.get?_update_self _ (Heap.get?_push_size _ rfl) rfl, rfl⟩ isSubtype_stop ?_)
  refine wpAny_pure (hQ _ fun b o nb e => ?_)
  have e2 : (s.heap.update it (Obj.mapFields (·.setIfInBounds 0 Value.none))).get? b = some o := (Heap.get?_update_other _ _ (Ne.symm nb)).trans e
  rw [Heap.get?_update_other _ _ (Nat.ne_of_gt (Heap.lt_size (Heap.get?_push_of_some _ e2)))]
  exact Heap.get?_push_of_some _ (Heap.get?_push_of_some _ e2)
theorem unpack_hot {t x1 : Addr} {items : Array Value} {Q : List Value → Shared → Prop} (hot : HotAt A x1 s.heap) (testsA : IsTup s.heap t items)
    (hQ : ∀ h', Heap.ExtBut s.heap.objs.size s.heap h' → Q items.toList { s with heap := h' }) : wpAny (model prog w) A (unpackItems (.ref t) items.size none) Q E s := by
  have hlt : t ≠ s.heap.objs.size := by obtain ⟨o, ho, _⟩ := testsA; exact Nat.ne_of_lt (Heap.lt_size ho)
  unfold unpackItems
  refine wpAny_bind ?_
  · unfold notIterableAtAll
    refine wpAny_bind (wpAny_specialOf testsA.typeIs slot_tuple_iter.lookup ?_)
    refine wpAny_pure ?_
    simp only [Bool.false_eq_true, if_false]
    refine wpAny_bind (wpAny_holding (iter_tuple testsA ?_))
    refine wpAny_bind (wpAny_holding (draw_tuple hlt items.size 0 _ _ ⟨_, Heap.get?_push_size _ rfl, rfl, rfl⟩ (testsA.push _) (by omega) fun h₁ hit₁ hs₁ => ?_))
    have hall : List.take items.size (List.drop 0 items.toList) = items.toList := by
      rw [List.drop_zero]; exact List.take_of_length_le (by simp)
    rw [hall]
    rw [if_neg (by simp)]
    have ht₁ : IsTup h₁ t items := (testsA.push _).extBut hs₁.extBut hlt
    have hot₁ : HotAt A x1 h₁ := by
      obtain ⟨hh, o1, vsB, h1, d1, c1⟩ := hot
      exact ⟨hh, o1, vsB, hs₁.extBut x1 o1 (Nat.ne_of_lt (Heap.lt_size h1)) (Heap.get?_push_of_some _ h1), d1, c1⟩
    refine wpAny_bind (wpAny_holding (tup_end_hot hot₁ hit₁ ht₁ (by simp) fun h₂ he₂ => ?_))
    simp only [Option.isSome_none, Bool.false_eq_true, if_false]
    refine wpAny_pure (hQ h₂ fun b o hb e => he₂ b o hb (hs₁.extBut b o hb (Heap.get?_push_of_some _ e)))
theorem assign_tup_hot {env : Env} {elts : List Expr} {k} {pos : Pos} {t x1 : Addr} {items : Array Value} {Q : Unit → Shared → Prop} (hot : HotAt A x1 s.heap) (testsA : IsTup s.heap t items)
    (nsC : (assignEach elts env).length = items.size) (hstar : (assignEach elts env).findIdx? (·.1) = none)
    (h : ∀ h', Heap.ExtBut s.heap.objs.size s.heap h' → wpAny (model prog w) A (assignInOrder ((assignEach elts env).map (·.2)) items.toList) Q E { s with heap := h' }) :
    wpAny (model prog w) A (assign (.Tuple elts k pos) env (.ref t)) Q E s := by
  rw [assign_Tuple]
  refine wpAny_bind (wpAny_standAt ?_)
  unfold unpack
  rw [nsC, hstar]
  exact wpAny_bind (wpAny_holding (unpack_hot hot testsA h))
end
/-! ### hot contexts -/
/-- wherever the context's invariant holds an error is handled whose context is None -/
def HotW (X : Cx) : Prop := ∀ (pins : List (Addr × Obj)) (σ : L2.St) (H : Hp) (s : Shared), Inv X pins σ H s → ∃ x1, HotAt X.A x1 s.heap
theorem HotC.w {X : Cx} (c : HotC X) : HotW X := fun _ _ _ _ I => c.at I
theorem hot_pgTup {X : Cx} {es : List Expr} {k : Nat} {t : TGs} {n : Nat} {pos : Pos} (mood : HotW X) (h : PGs X es t)
    (nsC : (assignEach es X.env).length = n := by rfl) (hst : (assignEach es X.env).findIdx? (·.1) = none := by rfl) : PG X (.Tuple es k pos) (gTup X.K n t) := by
  refine ⟨fun pins s σ H v u Q I r hw => ?_⟩
  obtain ⟨a, xs, eqB, hq, lenσ, hw⟩ := hw
  subst eqB
  cases r
  obtain ⟨its, rv, testsA, hz⟩ := I.tuple hq
  obtain ⟨x1, hot⟩ := mood _ _ _ _ I
  refine assign_tup_hot hot testsA (by simp [nsC, ← lenσ, rv.length]) hst fun h' gotX => ?_
  have I1 : Inv X pins σ H { s with heap := h' } := I.kept (t' := s.toks) fun b o e => gotX b o (Nat.ne_of_lt (Heap.lt_size e)) e
  exact h.run pins _ σ H xs _ Q I1 (by simpa using rv) hw
structure TurnW (P : Program) (w : World) (K : PySem.W.Frag) (tg : Expr) (J : It) (fp : List Addr) (it : Addr) (tn : Nat → Heap → Prop) : Prop where
  mem : it ∈ fp
  obj : ∀ i h, tn i h → ∀ b ∈ fp, ∃ o, h.get? b = some o ∧ ∀ v, o.data ≠ .cell v
  keep : ∀ i h h', tn i h → (∀ b ∈ fp, ∀ o, h.get? b = some o → h'.get? b = some o) → tn i h'
  item : ∀ (X : Cx), X.prog = P → X.w = w → X.K = K → HotW X → ∀ (i : Nat) (pins : List (Addr × Obj)) (s : Shared) (σ : L2.St) (H : Hp) (E : Value → Shared → Prop), Inv X pins σ H s → (∀ b ∈ fp, FpOk X pins H b) → tn i s.heap → J.go i H →
    wpAny (model P w) X.A (pyNext (.ref it)) (fun r sA => ∃ u, r = some u ∧
      wpAny (model P w) X.A (letOwnedTupleGo tg (.ref it) u) (fun _ sB => ∃ x H', Inv X pins σ H' sB ∧ RelV x u ∧ J.yld i H x H' ∧ tn (i + 1) sB.heap ∧ ∀ b ∈ fp, H' b = none) E sA) E s
  done : ∀ (X : Cx), X.prog = P → X.w = w → X.K = K → HotW X → ∀ (i : Nat) (pins : List (Addr × Obj)) (s : Shared) (σ : L2.St) (H : Hp) (E : Value → Shared → Prop), Inv X pins σ H s → (∀ b ∈ fp, FpOk X pins H b) → tn i s.heap → J.stop i H →
    wpAny (model P w) X.A (pyNext (.ref it)) (fun r sA => r = none ∧ Inv X pins σ H sA) E s
  self : ∀ (A : Around) (i : Nat) (s : Shared) (Q : Value → Shared → Prop) (E : Value → Shared → Prop), tn i s.heap → Q (.ref it) s → wpAny (model P w) A (pyIter (.ref it)) Q E s
theorem turn_listW {P : Program} {w : World} {K : PySem.W.Frag} {tg : Expr} (a it : Addr) : TurnW P w K tg (Itl K a) [it] it (fun i h => h.IsListIter it a i) where
  mem := by simp
  obj := fun i h st b hb => by
    have e : b = it := by simpa using hb
    subst e
    obtain ⟨o, e, c, d⟩ := st
    exact ⟨o, e, fun v z => by rw [d] at z; cases z⟩
  keep := fun i h h' st k => st.at fun o e => k it (by simp) o e
  item := by
    intro X hP hw hK mood i pins s σ H E I hf st targetA
    subst hP hw hK
    obtain ⟨xs, x, hq, gotX⟩ := targetA
    obtain ⟨its, rv, p, hz⟩ := I.list hq
    obtain ⟨u, hu, ru⟩ := rv.get gotX
    obtain ⟨f0, f1, f2, roam3, f4, f5⟩ := hf it (by simp)
    refine wpAny_pyNext_list_item st p.isList (x := u) (by simpa using hu) fun h' st' sb => ?_
    have I1 : Inv X pins σ H { s with heap := h' } := I.turned (t' := s.toks) (fun b o hb e => (sb.2 b hb).trans e) f0 f1 roam3 f4 f5
    obtain ⟨o, e, c, d⟩ := id st'
    exact ⟨u, rfl, go_of (s := { s with heap := h' }) e c d (by decide) ⟨x, H, I1, ru, ⟨rfl, fun ys hy => by rw [I.list_inj hy hq]; exact gotX⟩, st', fun b hb => (hf b hb).1⟩⟩
  done := by
    intro X hP hw hK mood i pins s σ H E I hf st targetA
    subst hP hw hK
    obtain ⟨xs, hq, gotX⟩ := targetA
    obtain ⟨its, rv, p, hz⟩ := I.list hq
    obtain ⟨f0, f1, f2, roam3, f4, f5⟩ := hf it (by simp)
    have lenσ := rv.length
    obtain ⟨x1, hot⟩ := mood _ _ _ _ I
    exact list_end_hot hot st p.isList (by simp; omega) fun h' eb => ⟨rfl, I.turned (t' := s.toks) (fun b o hb e => eb b o hb e) f0 f1 roam3 f4 f5⟩
  self := fun _ _ _ _ _ st h => wpAny_pyIter_listiter st h
def PIEW (X : Cx) (pins : List (Addr × Obj)) (σ : L2.St) (tg : Expr) (R : It → Hp → Prop) (itV : Value) (sB : Shared) : Prop :=
  ∃ (it : Addr) (fp : List Addr) (tn : Nat → Heap → Prop) (J : It) (H' : Hp), itV = .ref it ∧ Inv X pins σ H' sB ∧ TurnW X.prog X.w X.K tg J fp it tn ∧ tn 0 sB.heap ∧ (∀ b ∈ fp, FpOk X pins H' b) ∧ R J H'
structure PIW (X : Cx) (tg iter : Expr) (wi : TI) : Prop where
  run : ∀ (pins : List (Addr × Obj)) (s : Shared) (σ : L2.St) (H : Hp) (R : It → Hp → Prop), Inv X pins σ H s → wi σ H R →
    wpAny (model X.prog X.w) X.A (eval iter X.env) (fun v sA => wpAny (model X.prog X.w) X.A (pyIter v) (PIEW X pins σ tg R) X.xe sA) X.xe s
theorem hot_list {X : Cx} {tg l : Expr} {tl : TE} (lenσ : PE X l tl) : PIW X tg l (iList X.K tl) := by
  refine ⟨fun pins s σ H R I h => ?_⟩
  refine thn (lenσ.run pins s σ H _ I h) fun v sA ⟨x, H1, I1, r1, q1⟩ => ?_
  obtain ⟨a, e, ⟨xs, hq⟩, q⟩ := q1
  subst e
  cases r1
  obtain ⟨its, rv, p, hz⟩ := I1.list hq
  refine wpAny_pyIter_list p.isList ?_
  refine ⟨sA.heap.objs.size, [sA.heap.objs.size], _, _, H1, rfl, I1.kept (t' := sA.toks) fun b o e => Heap.get?_push_of_some _ e, turn_listW a _, ⟨_, Heap.get?_push_size _ rfl, rfl, rfl⟩, fun b hb => ?_, q⟩
  have e : b = sA.heap.objs.size := by simpa using hb
  subst e
  exact I1.fpOk (Nat.le_refl _) (I1.hok.fresh (Nat.le_refl _))
section
variable {X : Cx}
theorem lc_coreH {pins : List (Addr × Obj)} {s : Shared} {σ : L2.St} {H : Hp} {Q : VK} {elt tg iter : Expr} {ifs : List Expr} {scope : Scope} {own : List (Str × Nat)} {pos pos' : Pos} {wi : TI} {g : TG} {tt : TT} {te : TE} {use : Option (Value → Sem Unit)} {Qf : Value → Shared → Prop}
    (mood : HotC X) (nodupN : X.N.Nodup) (I : Inv X pins σ H s) (sourceA : PIW X tg iter wi) (ok : BlkOk X.N X.env.scope scope own)
    (targetA : ∀ (s : Shared) (H : Hp) (C : Addr) (cl : List (Str × Addr)) (fp : List Addr), HotW (X.blk s H scope (compEnvC scope cl C X.env) fp) → PG (X.blk s H scope (compEnvC scope cl C X.env) fp) tg g) (testsA : ∀ (s : Shared) (H : Hp) (C : Addr) (cl : List (Str × Addr)) (fp : List Addr), PTs (X.blk s H scope (compEnvC scope cl C X.env) fp) ifs tt)
    (elemA : ∀ (s : Shared) (H : Hp) (C : Addr) (cl : List (Str × Addr)) (fp : List Addr), PE (X.blk s H scope (compEnvC scope cl C X.env) fp) elt te) (plainA : ∀ x, foldedSetIterable iter X.env x = pure x)
    (h : tLc wi g tt te (own.map (·.2)) σ H Q)
    (back : ∀ D C s' m H', Inv X pins σ H' s' → Q (.ref D) H' → s'.heap.Ns C m → FpOk X pins H' C → compPost (model X.prog X.w) X.A X.xe use Qf (.ref D) C (.ok .next) s') :
    wpAny (model X.prog X.w) X.A (comprehension (.ListComp elt [⟨tg, iter, ifs, 0⟩] scope pos) scope X.env pos' (newList []) false (eval iter X.env) use) Qf X.xe s := by
  have captured : ∀ y ∈ scope.names, y.2 = .free → ∃ c, X.env.cells.lookup y.1 = some c := fun y hy e => by
    rcases ok.free y hy e with k | k
    · exact I.ok.has _ (.inl k)
    · exact I.ok.has _ (.inr k)
  refine wpAny_comprehension_free (use := use) rfl plainA (closure_ok captured) ok.kind (fun y hy e => by rw [ok.uniq y hy, e])
    (thn (sourceA.run pins s σ H _ I h) fun srcV sA gotX => thn gotX fun itV sB h2 => ?_)
  obtain ⟨it, fp, tn, J, HB, e, I2, T, st2, f2, q⟩ := h2
  subst e
  refine wpAny_newObj_type (newEnv_comp ?_) (by show 0 ≤ sizeLine; decide)
  generalize atD : sB.heap.objs.size = D
  have freshD : HB D = none := I2.hok.fresh (Nat.le_of_eq atD)
  obtain ⟨W, ⟨mes0, inv0⟩, walk0⟩ := q D freshD
  -- the new list
  generalize laid3 : ({ sB with heap := sB.heap.push { cls := .type "list", data := .seq ([] : List Value).toArray } } : Shared) = sC
  have J3 : Inv X pins σ (upd HB D (.lst [])) sC := by
    rw [← laid3]
    refine I2.laid (t' := sB.toks) (fun b o e => Heap.get?_push_of_some _ e) (Nat.le_of_eq atD) ⟨Nat.zero_le _, [], 0, .nil, ?_⟩
    rw [← atD]
    exact Heap.get?_push_size _ rfl
  have heap3 : sC.heap = sB.heap.push { cls := .type "list", data := .seq ([] : List Value).toArray } := by rw [← laid3]
  have below : ∀ b ∈ fp, b < sB.heap.objs.size := fun b hb => by
    obtain ⟨o, e, _⟩ := T.obj _ _ st2 b hb
    exact Heap.lt_size e
  have roam3 : ∀ b ∈ fp, FpOk X pins (upd HB D (.lst [])) b ∧ b < sC.heap.objs.size := fun b hb => by
    have hlt := below b hb
    refine ⟨⟨?_, (f2 b hb).2⟩, by rw [heap3, Heap.size_push]; exact Nat.lt_succ_of_lt hlt⟩
    rw [upd_ne (by rw [← atD]; exact Nat.ne_of_lt hlt)]
    exact (f2 b hb).1
  have turn3 : tn 0 sC.heap := T.keep _ _ _ st2 fun b _ o e => by rw [heap3]; exact Heap.get?_push_of_some _ e
  have J4 := block_start J3 ok nodupN roam3
  have tgt := targetA sC (upd HB D (.lst [])) sC.heap.objs.size (cellsFrom (sC.heap.objs.size + 1) scope.names (cloFrom X.env.cells scope.names [])) fp
  have tst := testsA sC (upd HB D (.lst [])) sC.heap.objs.size (cellsFrom (sC.heap.objs.size + 1) scope.names (cloFrom X.env.cells scope.names [])) fp
  have elm := elemA sC (upd HB D (.lst [])) sC.heap.objs.size (cellsFrom (sC.heap.objs.size + 1) scope.names (cloFrom X.env.cells scope.names [])) fp
  show codeAny _ _ (.compStart (.ListComp elt [⟨tg, iter, ifs, 0⟩] scope pos) 0 (.ref it) (.ref D) (compEnvC scope (cellsFrom (sC.heap.objs.size + 1) scope.names (cloFrom X.env.cells scope.names [])) sC.heap.objs.size X.env)) (compPost (model X.prog X.w) X.A X.xe use Qf (.ref D) sC.heap.objs.size) { sC with heap := pushCells (sC.heap.push { cls := .type "dict", data := .dict #[] }) scope.names }
  have untr : ∀ b ∈ fp, (upd HB D (.lst [])) b = none := fun b hb => (roam3 b hb).1.1
  generalize blkE : compEnvC scope (cellsFrom (sC.heap.objs.size + 1) scope.names (cloFrom X.env.cells scope.names [])) sC.heap.objs.size X.env = ce at J4 tgt tst elm ⊢
  have locE : ce.locals = sC.heap.objs.size := by subst blkE; rfl
  generalize heapE : upd HB D (.lst []) = HC at J3 J4 tgt tst elm inv0 untr roam3
  -- the error is handled in the block, too
  have hotB : HotW (X.blk sC HC scope ce fp) := by
    obtain ⟨p, ⟨hh, v1, eqB, c1⟩, hp⟩ := id mood
    have P1 := J3.pin p (List.mem_append_left _ hp)
    intro pinsB σB HB sB IB
    refine ⟨p.1, hh, p.2, v1, IB.base.keep p.1 p.2 P1.1 P1.2.1 (fun lessM => (List.mem_cons.mp (J3.stkSub p.1 lessM)).elim P1.2.2.1 P1.2.2.2.1) (fun lessM => ?_), eqB, c1⟩
    exact (roam3 p.1 lessM).1.2.2.2.2.2 p (List.mem_append_left _ hp) rfl
  have tgt := tgt hotB
  generalize laid4 : ({ sC with heap := pushCells (sC.heap.push { cls := .type "dict", data := .dict #[] }) scope.names } : Shared) = sD at J4 ⊢
  have turn4 : tn 0 sD.heap := T.keep _ _ _ turn3 fun b _ o e => by rw [← laid4]; exact pushCells_keeps _ _ _ _ (Heap.get?_push_of_some _ e)
  have stat : ∀ {σ' : L2.St} {H' : Hp} {s' : Shared}, Inv (X.blk sC HC scope ce fp) [] σ' H' s' → (∀ b ∈ fp, H' b = none) → ∀ b ∈ fp, FpOk (X.blk sC HC scope ce fp) [] H' b := fun {σ' H' s'} I' nsC b hb =>
    ⟨nsC b hb, (I'.ok.exf b hb).1, I'.ok.exfs b hb, .inl hb, fun x c e => (I'.ok.exf b hb).2 x c e, fun p hp => absurd (show p ∈ ([] : List (Addr × Obj)) ++ [] from hp) (by simp)⟩
  have outer0 : codeAny (model X.prog X.w) X.A (.compLoop (.ListComp elt [⟨tg, iter, ifs, 0⟩] scope pos) 0 (.ref it) (.ref D) ce) (compPost (model X.prog X.w) X.A X.xe use Qf (.ref D) sC.heap.objs.size) sD := by
    refine compLoop_any (fun n s' => ∃ i H', Inv (X.blk sC HC scope ce fp) [] (wipe σ (own.map (·.2))) H' s' ∧ tn i s'.heap ∧ (∀ b ∈ fp, H' b = none) ∧ W i n H') ?_ mes0 ⟨0, HC, J4, turn4, untr, inv0⟩
    rintro n sE ⟨i, HE, J5, turn5, un5, inv5⟩
    rcases walk0 i n HE inv5 with ⟨atEnd, done0⟩ | ⟨more, NxA, reach, step⟩
    · have ended := T.done (X.blk sC HC scope ce fp) rfl rfl rfl hotB i [] sE _ HE (fun _ _ => False) J5 (stat J5 un5) turn5 atEnd
      refine thnF ended fun r sF ⟨hr, J6⟩ => ?_
      subst hr
      -- back in the def's context
      have J7 : Inv X pins σ HE sF := J3.call' (ch := fp) J6.os J6.base J6.hok J6.bare fun b hb => ⟨(roam3 b hb).1.2.2.2.1, (roam3 b hb).1.2.1, (roam3 b hb).1.2.2.2.2.1, (roam3 b hb).1.2.2.2.2.2⟩
      have freeC : HE sC.heap.objs.size = none := by
        have z : HE ce.locals = none := J6.free
        rw [locE] at z
        exact z
      obtain ⟨m, nsC, _⟩ := J6.loc
      have nsC : sF.heap.Ns ce.locals m := nsC
      rw [locE] at nsC
      exact back D sC.heap.objs.size sF m HE J7 done0 nsC (J3.fpOk (Nat.le_refl _) freeC)
    · have given := T.item (X.blk sC HC scope ce fp) rfl rfl rfl hotB i [] sE _ HE (fun _ _ => False) J5 (stat J5 un5) turn5 more
      refine thnF given fun r sF ⟨u, hr, got6⟩ => ?_
      subst hr
      refine thnF got6 fun _ sG ⟨x, HG, J7, rel7, yld7, turn7, un7⟩ => ?_
      have J7p := J7.pinned (stat J7 un7) (T.obj _ _ turn7)
      refine thnF (tgt.run _ sG _ HG x u _ J7p rel7 (step x HG yld7)) fun _ sH ⟨τ, HH, J8, wip8, go8⟩ => ?_
      refine thnF (tst.run _ sH τ HH _ J8 go8) fun b sI ⟨HI, J9, go9⟩ => ?_
      -- the turn's end
      have close : ∀ {s' : Shared} {H' : Hp}, Inv (X.blk sC HC scope ce fp) ([] ++ pinsAt fp sG.heap) τ H' s' → NxA H' → ∃ m, m < n ∧ ∃ i H', Inv (X.blk sC HC scope ce fp) [] (wipe σ (own.map (·.2))) H' s' ∧ tn i s'.heap ∧ (∀ b ∈ fp, H' b = none) ∧ W i m H' := fun {s' H'} I' nextW => by
        obtain ⟨m', lessM, invM⟩ := reach H' nextW
        have kept : ∀ b ∈ fp, ∀ o, sG.heap.get? b = some o → s'.heap.get? b = some o ∧ H' b = none := fun b hb o e =>
          let z := I'.pin (b, o) (List.mem_append_right _ (List.mem_append_right _ (mem_pinsAt hb e)))
          ⟨z.1, z.2.1⟩
        have lenσ : (wipe σ (own.map (·.2))).length = τ.length := by rw [← wip8, wipe_length]
        refine ⟨m', lessM, i + 1, H', (I'.unpinned (pins := [])).weak lenσ (fun j v e => ?_), T.keep _ _ _ turn7 fun b hb o e => (kept b hb o e).1, fun b hb => ?_, invM⟩
        · rw [← wip8] at e
          exact (wipe_some e).1
        · obtain ⟨o, e, _⟩ := T.obj _ _ turn7 b hb
          exact (kept b hb o e).2
      cases b with
      | false =>
        simp only [Bool.false_eq_true, if_false] at go9 ⊢
        exact close J9 go9
      | true =>
        simp only [if_true] at go9 ⊢
        refine thnF (elm.run _ sI τ HI _ J9 go9) fun z sJ ⟨yv, HJ, J10, rel10, acc, acc10, room10, nextW⟩ => ?_
        exact app_ok (X := X.blk sC HC scope ce fp) J10 acc10 room10 rel10 fun sK J11 => close J11 nextW
  exact codeAny_compStart_list outer0 (T.self X.A 0 _ _ _ turn4 outer0)
/-- name = [..] on one line, the name a local, an error being handled -/
theorem hot_setLc {i : Nat} {y : Str} {py : Pos} {elt tg iter : Expr} {ifs : List Expr} {scope : Scope} {own : List (Str × Nat)} {pos spos : Pos} {wi : TI} {g : TG} {tt : TT} {te : TE} (mood : HotC X) (nodupN : X.N.Nodup) (hy : X.N[i]? = some y) (hyl : X.env.scope.names.lookup y = some .local)
    (hsw : swapsWith (.ListComp elt [⟨tg, iter, ifs, 0⟩] scope pos) (some (.Name y py)) spos.line X.env = pure true) (sourceA : PIW X tg iter wi) (ok : BlkOk X.N X.env.scope scope own)
    (targetA : ∀ (s : Shared) (H : Hp) (C : Addr) (cl : List (Str × Addr)) (fp : List Addr), HotW (X.blk s H scope (compEnvC scope cl C X.env) fp) → PG (X.blk s H scope (compEnvC scope cl C X.env) fp) tg g) (testsA : ∀ (s : Shared) (H : Hp) (C : Addr) (cl : List (Str × Addr)) (fp : List Addr), PTs (X.blk s H scope (compEnvC scope cl C X.env) fp) ifs tt)
    (elemA : ∀ (s : Shared) (H : Hp) (C : Addr) (cl : List (Str × Addr)) (fp : List Addr), PE (X.blk s H scope (compEnvC scope cl C X.env) fp) elt te) (plainA : ∀ x, foldedSetIterable iter X.env x = pure x := by intro _; rfl) :
    PS X (.Assign [.Name y py] (.ListComp elt [⟨tg, iter, ifs, 0⟩] scope pos) spos) (tAsg (tLc wi g tt te (own.map (·.2))) (gName i)) := by
  refine ⟨fun pins s σ H D I h => ?_⟩
  rw [exec_Assign_Name_used _ _ _ _ hsw]
  refine wpAny_bind (wpAny_standAt (wpAny_bind ?_))
  show wpAny _ X.A (do let _ ← comprehension (.ListComp elt [⟨tg, iter, ifs, 0⟩] scope pos) scope X.env (firstIterPos [⟨tg, iter, ifs, 0⟩] pos) (newList []) false (eval iter X.env) (some (assign (.Name y py) X.env))) _ _ s
  have h : tLc wi g tt te (own.map (·.2)) σ H (fun x H1 => gName i x σ H1 D.nx) := h
  refine wpAny_bind (thn (lc_coreH (Qf := fun _ s' => SP X pins D .next s') mood nodupN I sourceA ok targetA testsA elemA plainA h fun L C s' m H' I' q nsC f => ?_) fun _ s' hq => wpAny_pure (wpAny_pure hq))
  show wpAny _ _ (assign (.Name y py) X.env (.ref L)) _ _ _
  refine wpAny_assign_Name (store_ok2 (v := V.ref L) I' nodupN hy (.inl hyl) rfl (fun sB I2 ⟨a, sb, ha⟩ => ?_) (.inr hyl))
  obtain ⟨f0, f1, f2, roam3, f4, f5⟩ := f
  have haC : C ≠ a := by
    rcases ha with z | z
    · rw [z]; exact f1
    · exact fun e => f4 y a z e.symm
  refine ⟨m, nsC.sameBut sb haC, fun heap3 sb3 => ?_⟩
  exact ⟨_, H', I2.turned (t' := sB.toks) (fun b o hb e => (sb3.2 b hb).trans e) f0 f1 roam3 f4 f5, q⟩
end
end Sq
set_option Elab.async false
set_option linter.all false
set_option maxRecDepth 100000
set_option maxHeartbeats 4000000
/-! A def of the law called within an except suite with the caught error. -/
namespace Sq
open PySem PySem.Spec PyProof.Rows L2 HotX L2H
/-- what a def promises there: e the handled error, its class, its dict -/
abbrev SpZ := Addr → Value → Option Addr → Sp
structure FnHZ (P : Program) (w : World) (K : PySem.W.Frag) (mg : Str → Option Value) (base : Heap) (CX : CXT) (k : Nat) (f : Addr) (fd : FuncData) (ps : List Str) (sp : SpZ) : Prop where
  len : ∀ a c d vs H Q E, sp a c d vs H Q E → vs.length = ps.length
  run : ∀ (A : Around) (outer : List Env) (s : Shared) (H : Hp) (args : Args) (us : List Value) (vs : List V) (Q : VK) (E : XK) (p : Addr × Obj) (cls : Value) (d : Option Addr), RoomH k A → Hot1 A p → L2N.Zn cls d p.2 → PinOk outer H s p → Env0 P w K mg base A outer s H → BindsTo s fd args (ps.zip us) → Vals vs us → sp p.1 cls d vs H Q E →
    codeAny (model P w) A (.call (.ref f) args) (CR CX outer P w H s Q E) s
theorem fn_ofHZ {CX : CXT} {P : Program} {w : World} {K : PySem.W.Frag} {mg : Str → Option Value} {base : Heap} {k : Nat} {f : Addr} {x qual : Str} {st : Stmt} {fd : FuncData} {N ps : List Str} {sp : SpZ}
    (F : Fun K x qual st f fd) (S : FnScope N ps (defScope st)) (len : ∀ a c d vs H Q E, sp a c d vs H Q E → vs.length = ps.length)
    (hbody : ∀ (cdv : Value) (A : Around) (outer : List Env) (s : Shared) (H : Hp) (vs : List V) (Q : VK) (E : XK) (p : Addr × Obj) (cls : Value) (d : Option Addr), Hot1 A p → L2N.Zn cls d p.2 → RoomH k (A.deeper (envOfC qual (defScope st) s.heap.objs.size f cdv)) → sp p.1 cls d vs H Q E →
      ∃ t, PSs (cxH CX P w K mg base N qual (defScope st) f cdv A outer s H E p) (defBody st) t ∧ t { nx := fun _ H' => Q .non H', rt := Q } (L2.start N vs) H) :
    FnHZ P w K mg base CX (k + 1) f fd ps sp := by
  obtain ⟨oc, od, kV, doc, pm, an, cdv, ct, osl, rfl, lk, hcd⟩ := F.ex
  refine ⟨len, fun A outer s H args us vs Q E p cls d hr hot hz hpin e0 hb r hsp => ?_⟩
  have hl := len _ _ _ _ _ _ _ hsp
  have KX : K.In s.heap := e0.mod.kin.keeps fun b o e => (e0.bs b o e).1
  have lim : s.heap.NoLimit := e0.mod.nolimit.keeps fun b o e => (e0.bs b o e).1
  have hkind : ∀ y ∈ ps.zip us, (defScope st).names.lookup y.1 = some .local ∨ ((defScope st).names.lookup y.1 = some .cell ∧ ((cellsFrom (s.heap.objs.size + 1) (defScope st).names []).lookup y.1).isSome = true) := fun ⟨n, v⟩ hy => by
    rcases S.par n (List.of_mem_zip hy).1 with q | q
    · exact .inl q
    · exact .inr ⟨q, PySem.W.cellsFrom_some _ _ _ (.inl q)⟩
  refine codeAny_call_function hr.depth (KX _ _ lk) rfl S.co S.gen rfl (PySem.W.codeRec_of KX hcd) (hb _ _ _ _ ?_)
  refine wpAny_newFunctionEnv_cells S.kind hkind fun env he s1 x => ?_
  subst he
  refine ⟨lim.keeps x.toInCall.keep, codeAny_func ?_⟩
  obtain ⟨t, ht, hq⟩ := hbody cdv A outer s H vs Q E p cls d hot hz (hr.deeper _) hsp
  have I : Inv (cxH CX P w K mg base N qual (defScope st) f cdv A outer s H E p) [] (L2.start N vs) H s1 := inv_startH S hpin e0 hl r x
  refine wpAny_mono (ht.run [] s1 (L2.start N vs) H _ I hq) (fun fl s' hs => ?_) fun e s' hs => hs
  have fin : ∀ {σ' : L2.St} {H' : Hp} {v : V} {u : Value}, Inv (cxH CX P w K mg base N qual (defScope st) f cdv A outer s H E p) [] σ' H' s' → RelV v u → Q v H' → CE outer P w H s Q u s' :=
    fun {σ' H' v u} J rv q => ⟨v, H', J.os, J.bare, J.base, J.hok, rv, q⟩
  cases fl with
  | ret u =>
    obtain ⟨v, σ', H', J, rv, q⟩ := hs
    exact fin J rv q
  | next =>
    obtain ⟨σ', H', J, q⟩ := hs
    exact fin (v := V.non) (u := Value.none) J rfl q
  | brk =>
    obtain ⟨_, _, _, q⟩ := hs
    exact False.elim q
  | cont =>
    obtain ⟨_, _, _, q⟩ := hs
    exact False.elim q
/-- it stands at its name -/
structure Dz (P : Program) (w : World) (K : PySem.W.Frag) (mg : Str → Option Value) (base : Heap) (k : Nat) (x : Str) (ps : List Str) (sp : SpZ) : Prop where
  ex : ∃ f fd, FnHZ P w K mg base CX0 k f fd ps sp ∧ mg x = some (.ref f) ∧ PySem.W.keepIn K (.ref f) = true ∧ Binds K fd ps []
section
variable {X : Cx} {k : Nat} {ps : List Str} {sp : SpZ} {x : Str} {q pos : Pos} {e : Expr} {es : List Expr} {t : TA} {a : Addr} {oe : Obj} {cls : Value} {d : Option Addr} {pn : List (Addr × Obj)}
/-- the call, in the suite of the clause that caught the error at a -/
theorem pe_callHZ (D : Dz X.prog X.w X.K X.mg X.base k x ps sp) (hz : L2N.Zn cls d oe) (hf : ∃ vs, oe.data = .fields vs) (hr : Room k X.A) (hg : Gl X x) (ha : PA (X.suite a ((a, oe) :: pn)) (e :: es) t)
    (hdb : (x == ("__debug__" : Str)) = false := by decide) (he : starEach (e :: es) X.env = (false, eval e X.env) :: starEach es X.env := by rfl) (hpl : (backTo pos (starEach es X.env)).any (·.1) = false := by rfl) :
    PE (X.suite a ((a, oe) :: pn)) (.Call (.Name x q) (e :: es) [] pos) (tCallS (sp a cls d) (fun _ => E0) t) := by
  obtain ⟨f, fd, F, hm, hk, hb⟩ := D.ex
  obtain ⟨vs0, hd0⟩ := hf
  refine ⟨fun pins s σ H Q I h => ?_⟩
  refine wpAny_Call_Name_kw (ld_glob (X := X.suite a ((a, oe) :: pn)) I hg hm ?_ hdb)
  refine PySem.W.callWith_K (h₀ := X.base) I.ok.mod.kin hk (thn (ha.run pos pins s σ H _ I h) fun us s1 ⟨vs, H1, I1, r, q⟩ => ⟨I1.kIn, ?_⟩) he hpl
  have hl : us.length = ps.length := by rw [← r.length]; exact F.len _ _ _ _ _ _ _ q
  have b := hb s1 us I1.kIn (by rw [List.append_nil]; exact hl)
  rw [List.append_nil] at b
  have P1 := I1.pin (a, oe) (List.mem_append_left _ List.mem_cons_self)
  have hpin : PinOk X.stack H1 s1 (a, oe) := ⟨P1.1, P1.2.1, fun hm => (List.mem_cons.mp (I1.stkSub a hm)).elim P1.2.2.1 P1.2.2.2.1, P1.2.2.2.2⟩
  have hot : Hot1 (X.suite a ((a, oe) :: pn)).A (a, oe) := ⟨rfl, vs0, hd0, hz.2.2 vs0 hd0⟩
  have hrH : RoomH k (X.suite a ((a, oe) :: pn)).A := ⟨hr.dp, hr.un⟩
  refine wpAny_call (codeAny_mono (F.run (X.suite a ((a, oe) :: pn)).A X.stack s1 H1 ⟨us, []⟩ us vs Q (fun _ _ _ => False) (a, oe) cls d hrH hot hz hpin I1.env0 b r q) fun r s' hq => ?_)
  cases r with
  | error u => exact hq.elim
  | ok fl =>
    cases fl with
    | ret u => exact I1.after hq
    | next => exact False.elim hq
    | brk => exact False.elim hq
    | cont => exact False.elim hq
end
/-! ### what is asked of the handled error -/
section
variable {X : Cx} {p : Addr × Obj} {C d : Addr}
theorem pin_obj {pins : List (Addr × Obj)} {σ : L2.St} {H : Hp} {s : Shared} {v : V} (I : Inv X pins σ H s) (hp : p ∈ X.pn) (hz : L2N.Zn (.ref C) (some d) p.2) (hf : ∃ vs, p.2.data = .fields vs) (e : H d = some (exd d [(("value" : Str), v)])) :
    ∃ od u, PySem.W.InstAt s.heap p.1 p.2 C (some od) ∧ PySem.W.lookIn "value" od = some (some u) ∧ RelV v u := by
  obtain ⟨vs, hd⟩ := hf
  have ho := (I.pin p (List.mem_append_left _ hp)).1
  obtain ⟨mA, hns, hr⟩ := exd_at I.hok e
  obtain ⟨od, hod, hl⟩ := lookIn_ns hns
  have l : List.lookup ("value" : Str) [(("value" : Str), v)] = some v := by simp [List.lookup]
  obtain ⟨u, hu, ru⟩ := RelO.some_of (v := v) (o := mA "value") (by rw [← l]; exact hr "value")
  exact ⟨od, u, ⟨ho, hz.1, by unfold PySem.W.notCls; rw [hd] <;> rfl, by rw [hz.2.1]; exact hod⟩, by rw [hl, hu], ru⟩
def rIsiP (K : PySem.W.Frag) (a C d : Addr) : List V → Hp → VK → Prop := fun xs H Q => ∃ (v c : V) (u : Value) (b : Bool), xs = [.ref a, c] ∧ ClsV c u ∧ H d = some (exd d [(("value" : Str), v)]) ∧ ExcC K C ∧ PySem.W.kitOne K (.ref C) u = some b ∧ Q (.bl b) H
theorem call_isiP (hp : p ∈ X.pn) (hz : L2N.Zn (.ref C) (some d) p.2) (hf : ∃ vs, p.2.data = .fields vs) : CallR X (.builtin "isinstance") (rIsiP X.K p.1 C d) := by
  intro pins s σ H xs us Q I r h
  obtain ⟨v, c, u, b, rfl, k, at_, T, e, q⟩ := h
  obtain ⟨u1, u2, rfl, r1, r2⟩ := vals2 r
  obtain rfl := k.eq r2
  obtain rfl : u1 = Value.ref p.1 := r1
  obtain ⟨od, uv, J, _, _⟩ := pin_obj I hp hz hf at_
  exact PySem.W.kia_one (SqX.kit (ox := p.2) (od := some od) T) I.kIn J e (fun z => nomatch z) fun tk => ⟨.bl b, H, I.tok tk, rfl, q⟩
def tPv (K : PySem.W.Frag) (a C d : Addr) (te : TE) : TE := fun σ H Q => te σ H fun x H1 => ∃ (v : V), x = .ref a ∧ H1 d = some (exd d [(("value" : Str), v)]) ∧ XfC K C ∧ PySem.W.findIn K (.ref C) "value" = some none ∧ Q v H1
theorem pe_pv {e : Expr} {te : TE} {pos : Pos} (hp : p ∈ X.pn) (hz : L2N.Zn (.ref C) (some d) p.2) (hf : ∃ vs, p.2.data = .fields vs) (he : PE X e te) (hb : attributeBase e "value" X.env (eval e X.env) = eval e X.env := by rfl) : PE X (.Attribute e "value" pos) (tPv X.K p.1 C d te) := by
  refine ⟨fun pins s σ H Q I h => ?_⟩
  refine attr_of hb (thn (he.run pins s σ H _ I h) fun u s1 hh => ?_)
  obtain ⟨x, H1, I1, rx, v, ex, at_, T, hno, q⟩ := hh
  subst ex
  obtain rfl : u = Value.ref p.1 := rx
  obtain ⟨od, uv, J, l, ru⟩ := pin_obj I1 hp hz hf at_
  exact HandSPX.exc_get I1.kIn J T.ga T.gg T.exC (PySem.W.findObj_own T.hdC hno rfl l) (handed_of ru) ⟨v, H1, I1.tok _, ru, q⟩
end
end Sq
set_option Elab.async false
set_option linter.all false
set_option maxRecDepth 100000
set_option maxHeartbeats 4000000
/-! Calls that may raise, where the error's context is known to be None. -/
namespace Sq
open PySem PySem.Spec PyProof.Rows L2
theorem okN {P : Program} {w : World} {K : PySem.W.Frag} {mg : Str → Option Value} {base : Heap} {x qual : Str} {st : Stmt} {f : Addr} {fd : FuncData} {N ps : List Str} {k : Nat} {sp : Sp} (F : Fun K x qual st f fd) (S : FnScope N ps (defScope st)) (len : ∀ vs H Q E, sp vs H Q E → vs.length = ps.length)
    (walk : ∀ (cdv : Value) (A : Around) (outer : List Env) (s : Shared) (H : Hp) (vs : List V) (Q : VK) (E : XK), Room k (A.deeper (envOfC qual (defScope st) s.heap.objs.size f cdv)) → sp vs H Q E →
      ∃ t, PSs (cxOf (L2N.CX P w) P w K mg base N qual (defScope st) f cdv A outer s H E) (defBody st) t ∧ t { nx := fun _ H' => Q .non H', rt := Q } (L2.start N vs) H) : FnOk P w K mg base (L2N.CX P w) (k + 1) f fd ps sp := by
  obtain ⟨oc, od, kV, doc, pm, an, cdv, ct, osl, rfl, lk, hcd⟩ := F.ex
  exact fn_of lk hcd S len fun A outer s H vs Q E hr h => walk cdv A outer s H vs Q E hr h
/-- a def with defaults that may raise -/
theorem okDN {P : Program} {w : World} {K : PySem.W.Frag} {mg : Str → Option Value} {base : Heap} {x qual : Str} {prm : Arguments} {bd : List Stmt} {scp : Scope} {dvs : List V} {kws : List (Str × V)} {f : Addr} {fd : FuncData} {names ps : List Str} {k : Nat} {sp : Sp}
    (F : FunD K x qual prm bd scp dvs kws f fd) (sc : FnScope names ps scp) (count : ∀ vs H Q E, sp vs H Q E → vs.length = ps.length)
    (inner : ∀ (cdv : Value) (A : Around) (outer : List Env) (s : Shared) (H : Hp) (vs : List V) (Q : VK) (E : XK), Room k (A.deeper (envOfC qual scp s.heap.objs.size f cdv)) → sp vs H Q E →
      ∃ t, PSs (cxOf (L2N.CX P w) P w K mg base names qual scp f cdv A outer s H E) bd t ∧ t { nx := fun _ H' => Q .non H', rt := Q } (start names vs) H) : FnOk P w K mg base (L2N.CX P w) (k + 1) f fd ps sp :=
  F.ok sc count fun cdv A outer s H vs Q E hr h => inner cdv A outer s H vs Q E hr h
structure Dn (P : Program) (w : World) (K : PySem.W.Frag) (mg : Str → Option Value) (base : Heap) (k : Nat) (x : Str) (ps : List Str) (sp : Sp) : Prop where
  ex : ∃ f fd, FnOk P w K mg base (L2N.CX P w) k f fd ps sp ∧ mg x = some (.ref f) ∧ PySem.W.keepIn K (.ref f) = true ∧ Binds K fd ps []
theorem Dn.mk' {P : Program} {w : World} {K : PySem.W.Frag} {mg : Str → Option Value} {base : Heap} {k : Nat} {x : Str} {st : Stmt} {ps : List Str} {sp : Sp} {f : Addr} {fd : FuncData} (F : Fun K x x st f fd) (G : FnOk P w K mg base (L2N.CX P w) k f fd ps sp) (g : mg x = some (.ref f)) (b : Binds K fd ps []) : Dn P w K mg base k x ps sp :=
  ⟨⟨f, fd, G, g, F.kp, b⟩⟩
theorem Dz.mk' {P : Program} {w : World} {K : PySem.W.Frag} {mg : Str → Option Value} {base : Heap} {k : Nat} {x : Str} {st : Stmt} {ps : List Str} {sp : SpZ} {f : Addr} {fd : FuncData} (F : Fun K x x st f fd) (G : FnHZ P w K mg base CX0 k f fd ps sp) (g : mg x = some (.ref f)) (b : Binds K fd ps []) : Dz P w K mg base k x ps sp :=
  ⟨⟨f, fd, G, g, F.kp, b⟩⟩
section
variable {P : Program} {w : World} {K : PySem.W.Frag} {mg : Str → Option Value} {base : Heap} {N : List Str} {qual : Str} {scope : Scope} {f : Addr} {cd : Value} {A : Around} {outer : List Env} {s : Shared} {H : Hp} {E : XK}
theorem takesN : L2N.Takes (cxOf (L2N.CX P w) P w K mg base N qual scope f cd A outer s H E) (fun cls d _ H' => E cls d H') := L2N.takes_of rfl rfl rfl rfl
theorem ownsN : PassesOwn (model P w) (cxOf (L2N.CX P w) P w K mg base N qual scope f cd A outer s H E).A (cxOf (L2N.CX P w) P w K mg base N qual scope f cd A outer s H E).env (cxOf (L2N.CX P w) P w K mg base N qual scope f cd A outer s H E).xe := passes_of rfl
end
theorem takesN0 {X : Cx} : L2N.Takes X (fun _ _ _ _ => False) := fun _ _ x => by
  obtain ⟨_, _, _, _, _, _, _, _, _, _, _, _, _, _, _, _, z⟩ := x
  exact z.elim
section
variable {X : Cx} {k : Nat} {ps ks : List Str} {sp : Sp} {x : Str} {p pos : Pos} {e : Expr} {es : List Expr} {t tk : TA} {W : WX}
theorem pe_callN (D : Dn X.prog X.w X.K X.mg X.base k x ps sp) (takes : L2N.Takes X W) (hr : Room k X.A) (hg : Gl X x) (ha : PA X (e :: es) t) (hdb : (x == ("__debug__" : Str)) = false := by decide)
    (he : starEach (e :: es) X.env = (false, eval e X.env) :: starEach es X.env := by rfl) (hpl : (backTo pos (starEach es X.env)).any (·.1) = false := by rfl) :
    PE X (.Call (.Name x p) (e :: es) [] pos) (tCallS sp (WE W) t) := by
  obtain ⟨f, fd, F, g, kp, b⟩ := D.ex
  exact pe_callS F hr hg g kp b (L2N.passAt takes) ha hdb he hpl
/-- raise X(e): what is made, its context None -/
theorem pmk_erN {C fI : Addr} {q : Str} {te : TE} (T : SqX.Er X.K X.prog C fI q) (gC : X.mg x = some (.ref C)) (hr : Room k X.A) (hg : Gl X x) (he : PE X e te)
    (hs : starEach [e] X.env = (false, eval e X.env) :: starEach [] X.env := by rfl) (hdb : (x == ("__debug__" : Str)) = false := by decide) :
    L2N.PMk X (.Call (.Name x p) [e] [] pos) (fun σ H Q => te σ H fun v H1 => ∀ d, H1 d = none → Q (.ref C) (some d) (upd H1 d (exd d [(("value" : Str), v)]))) := by
  intro pins s σ H Q I h
  refine wpAny_Call_Name_kw (ld_glob I hg gC ?_ hdb)
  refine PySem.W.callWith_K (h₀ := X.base) I.ok.mod.kin T.kC ?_ hs (by rfl)
  rw [hs]
  show wpAny _ _ (spliced ((false, eval e X.env) :: backTo pos (starEach [] X.env))) _ _ s
  refine Calls.spliced_cons (thn (he.run pins s σ H _ I h) fun u s1 hh => ?_)
  obtain ⟨v, H1, I1, r1, q1⟩ := hh
  refine Calls.spliced_nil ⟨I1.kIn, ?_⟩
  show wpAny _ _ (call (.ref C) [u]) _ _ _
  obtain ⟨mb, hb, boot⟩ := I1.ok.mod.blt
  refine wpAny_call (SqX.made T I1.kIn (I1.ok.mod.glob.keeps I1.bk) I1.nolimit (hb.keeps I1.bk) boot (by have := hr.dp; omega) fun h' tk a d t1 M => ?_)
  have na : H1 a = none := I1.hok.fresh M.big
  have nd : H1 d = none := I1.hok.fresh M.dbig
  obtain ⟨G, g1, g2⟩ := restrict h' fun b => decide (b ≠ a)
  have gk : ∀ b, b ≠ a → G.get? b = h'.get? b := fun b hb => g1 b (decide_eq_true hb)
  have ga : G.get? a = none := g2 a (by simp)
  have old : ∀ b o, s1.heap.get? b = some o → G.get? b = some o := fun b o z => (gk b (Nat.ne_of_lt (Nat.lt_of_lt_of_le (Heap.lt_size z) M.big))).trans (M.keep b o z)
  have nsG : G.Ns1 d (fun y => if y = "value" then some u else none) := M.ns.at fun o z => (gk d M.dne).trans z
  have rel : ∀ f, RelO (List.lookup f [(("value" : Str), v)]) (if f = "value" then some u else none) := relO_put (fs := []) (mA := fun _ => none) r1 fun g => True.intro
  have J : Inv X pins σ (upd H1 d (exd d [(("value" : Str), v)])) { s1 with heap := G, toks := tk } := I1.laid (t' := tk) old M.dbig (exd_ok nsG rel)
  refine ⟨a, _, _, { s1 with heap := G, toks := tk }, _, .ref C, some d, rfl, J, fun b o z => ?_, ga, M.obj, ⟨rfl, rfl, fun vs e => by cases e; rfl⟩, rfl, rfl, by rw [upd_ne (Ne.symm M.dne)]; exact na, rfl, I1.bare, raises_own T.exC T.tyC, q1 d nd⟩
  by_cases hb : b = a
  · rw [hb, ga] at z
    cases z
  · rw [← gk b hb]
    exact z
end
end Sq
set_option Elab.async false
set_option linter.all false
set_option maxRecDepth 100000
set_option maxHeartbeats 2000000
/-! Data read off the layer's heap. -/
namespace Sq
open PySem PySem.Spec PyProof.Rows L2
theorem same_new {H : Hp} {p : Addr} {o : HO} (h : H p = none) : Same H (upd H p o) := fun b x e => by
  rw [upd_ne (ne_of_none e h)]
  exact e
theorem map_at {ks : List Int} {i : Nat} {x : V} (h : (ks.map V.int)[i]? = some x) : ∃ k, ks[i]? = some k ∧ V.int k = x := by
  rw [List.getElem?_map] at h
  exact Option.map_eq_some_iff.mp h
section
variable {K : PySem.W.Frag}
theorem dp_ints {H : Hp} : ∀ (ds : List Int), DpAll K H (ds.map V.int) (ds.map PyData.int)
  | [] => .nil
  | d :: ds => .cons (.int d) (dp_ints ds)
theorem lays_ints : ∀ (ds : List Int), PyData.canLayAll0 (ds.map PyData.int) = true
  | [] => rfl
  | d :: ds => by
    show (PyData.canLay0 (.int d) && PyData.canLayAll0 (ds.map PyData.int)) = true
    rw [lays_ints ds]
    rfl
theorem deep_ints : ∀ (ds : List Int), PyData.depthAll (ds.map PyData.int) ≤ 1
  | [] => Nat.zero_le _
  | _ :: ds => Nat.max_le.mpr ⟨Nat.zero_le _, deep_ints ds⟩
theorem shaped_ints (ds : List Int) : SeqAt.shaped (.list (ds.map PyData.int)) = true :=
  Bool.and_eq_true_iff.mpr ⟨lays_ints ds, decide_eq_true (Nat.le_trans (Nat.add_le_add_right (deep_ints ds) 1) (by decide))⟩
end
/-! ### data of ints and short lists -/
mutual
def il : PyData → Bool
  | .int _ => true
  | .list xs => decide (xs.length ≤ 1000) && ilAll xs
  | _ => false
def ilAll : List PyData → Bool
  | [] => true
  | x :: xs => il x && ilAll xs
end
theorem depth_at : ∀ {ds : List PyData} {i : Nat} {d : PyData}, ds[i]? = some d → d.depth ≤ PyData.depthAll ds
  | x :: xs, 0, d, e => by
    cases e
    exact Nat.le_max_left _ _
  | x :: xs, i + 1, d, e => Nat.le_trans (depth_at (ds := xs) e) (Nat.le_max_right _ _)
theorem dp_at {K : PySem.W.Frag} {H : Hp} : ∀ {xs : List V} {ds : List PyData} {i : Nat} {d : PyData}, DpAll K H xs ds → ds[i]? = some d → ∃ x, xs[i]? = some x ∧ Dp K H x d
  | _, _, 0, d, .cons h _, e => by
    cases e
    exact ⟨_, rfl, h⟩
  | _, _, i + 1, d, .cons _ t, e => dp_at (i := i) t e
theorem dp_len {K : PySem.W.Frag} {H : Hp} : ∀ {xs : List V} {ds : List PyData}, DpAll K H xs ds → xs.length = ds.length
  | _, _, .nil => rfl
  | _, _, .cons _ t => congrArg Nat.succ (dp_len t)
mutual
theorem Dp.same {K : PySem.W.Frag} {H H' : Hp} (s : Same H H') : ∀ {d : PyData} {x : V}, Dp K H x d → Dp K H' x d
  | .none, _, .non => .non
  | .bool b, _, .bl _ => .bl b
  | .int i, _, .int _ => .int i
  | .str x, _, .str _ => .str x
  | .list ds, _, .lst h a => .lst (s.seq h) (DpAll.same s a)
  | .tuple ds, _, .tup h a => .tup (by
      rcases h with (h | ⟨o, h⟩) | h
      · exact .inl (.inl (s _ _ h))
      · exact .inl (.inr ⟨o, s _ _ h⟩)
      · exact .inr h) (DpAll.same s a)
theorem DpAll.same {K : PySem.W.Frag} {H H' : Hp} (s : Same H H') : ∀ {ds : List PyData} {xs : List V}, DpAll K H xs ds → DpAll K H' xs ds
  | [], _, .nil => .nil
  | _ :: _, _, .cons h t => .cons (Dp.same s h) (DpAll.same s t)
end
theorem ty_seq {K : PySem.W.Frag} {H : Hp} {a : Addr} {xs : List V} (h : SqL K H a xs) : TyX K H (.ref a) (.type "list") := by
  rcases h with (h | ⟨o, h⟩) | ⟨o, vs, m, h, hc, _⟩
  · exact .base (.lst h)
  · exact .base (.frz h)
  · exact .kList h hc
/-! ### the text of a list of ints -/
theorem shaped_il {d : PyData} (h : d.canLay0 = true) (h2 : d.depth ≤ 64) : SeqAt.shaped d = true := Bool.and_eq_true_iff.mpr ⟨h, decide_eq_true h2⟩
end Sq
namespace Sq
open PySem PySem.Spec PyProof.Rows L2
/-! ### repr of any value whose data is known -/
structure Shown (K : PySem.W.Frag) (H : Hp) (x : V) (d : PyData) : Prop where
  dp : Dp K H x d
  sh : d.showable = true
  nd : d.hasDict = false
  dep : d.depth ≤ 40
  fit : d.shown.length ≤ sizeLine
theorem Shown.same {K : PySem.W.Frag} {H H' : Hp} {x : V} {d : PyData} (S : Shown K H x d) (s : Same H H') : Shown K H' x d := ⟨Dp.same s S.dp, S.sh, S.nd, S.dep, S.fit⟩
def rReprV (K : PySem.W.Frag) : List V → Hp → VK → Prop := fun xs H Q => ∃ x d, xs = [x] ∧ Shown K H x d ∧ Q (.str d.shown) H
theorem call_reprV {X : Cx} (hg : X.A.guards = some []) (hu : X.A.units + 64 < cLine) : CallR X (.builtin "repr") (rReprV X.K) := by
  intro pins s σ H xs us Q I r h
  obtain ⟨x, d, rfl, S, q⟩ := h
  obtain ⟨u, rfl, rv⟩ := vals1 r
  obtain ⟨dp, sh, nd, dep, fit⟩ := S
  cases dp with
  | non =>
    obtain rfl : u = Value.none := rv
    exact PySem.P.repr_of_none ⟨.str _, H, I.tok _, ⟨_, rfl⟩, q⟩
  | bl b =>
    obtain rfl : u = Value.bool b := rv
    exact PySem.P.repr_of_bool ⟨.str _, H, I.tok _, ⟨_, rfl⟩, q⟩
  | int i =>
    obtain ⟨t, rfl⟩ := rv
    exact PySem.P.repr_of_int (of_decide_eq_true sh) ⟨.str _, H, I.tok _, ⟨_, rfl⟩, q⟩
  | str y =>
    obtain ⟨t, rfl⟩ := rv
    exact PySem.P.repr_of_str ⟨.str _, H, I.tok _, ⟨_, rfl⟩, q⟩ fit
  | lst hs ha => exact call_reprD hg hu pins s σ H _ _ Q I r ⟨_, _, rfl, .lst hs ha, sh, nd, dep, fit, q⟩
  | tup hs ha => exact call_reprD hg hu pins s σ H _ _ Q I r ⟨_, _, rfl, .tup hs ha, sh, nd, dep, fit, q⟩
theorem fits40 {d : PyData} (h : d.leavesShort 40 = true) (hw : d.weight ≤ 100000) : d.shown.length ≤ sizeLine := by
  have e := PyData.shown_le 40 (by decide) d h
  rw [sizeLine_eq]
  omega
/-! ### powers of greater numbers -/
end Sq
set_option Elab.async false
set_option linter.all false
/-! Squeezing and reaches in plain Lean. -/
namespace Sq
def rw1 (k R : Int) : Int := if k > R + 1 then R else (R + 3 - k) * k - 2
def rch (ks : List Int) (v : Int) : Int := ks.foldr rw1 v
theorem rw1_pos {k R : Int} (hk : 2 ≤ k) (hR : 1 ≤ R) : 1 ≤ rw1 k R := by
  unfold rw1
  split
  · exact hR
  · have h : 2 * 2 ≤ (R + 3 - k) * k := Int.mul_le_mul (by omega) hk (by omega) (by omega)
    omega
theorem rch_pos : ∀ (ks : List Int) (v : Int), (∀ k ∈ ks, 2 ≤ k) → 1 ≤ v → 1 ≤ rch ks v
  | [], v, _, hv => hv
  | k :: ks, v, h, hv => rw1_pos (h k (List.mem_cons_self ..)) (rch_pos ks v (fun x hx => h x (List.mem_cons_of_mem _ hx)) hv)
end Sq
set_option Elab.async false
set_option linter.all false
set_option maxRecDepth 100000
set_option maxHeartbeats 2000000
/-! What the laws share: the built-in names, the error classes, low numbers, data that can be shown, keeping heaps. -/
namespace Sq
open PySem PySem.Spec PyProof.Rows L2
structure Bi (mg : Str → Option Value) : Prop where
  n_len : mg "len" = none
  n_min : mg "min" = none
  n_max : mg "max" = none
  n_abs : mg "abs" = none
  n_range : mg "range" = none
  n_isinstance : mg "isinstance" = none
  n_repr : mg "repr" = none
  n_enumerate : mg "enumerate" = none
  n_reversed : mg "reversed" = none
  n_sorted : mg "sorted" = none
  n_bool : mg "bool" = none
  n_int : mg "int" = none
  n_str : mg "str" = none
  n_list : mg "list" = none
  n_tuple : mg "tuple" = none
  n_set : mg "set" = none
  n_sum : mg "sum" = none
  n_zip : mg "zip" = none
  n_all : mg "all" = none
  n_any : mg "any" = none
  n_ValueError : mg "ValueError" = none
  n_divmod : mg "divmod" = none
structure Errs (P : Program) (K : PySem.W.Frag) (mg : Str → Option Value) (c fI : Nat → Addr) (qn : Nat → Str) (cB : Addr) : Prop where
  er : ∀ n, n < 5 → True ∧ SqX.Er K P (c n) (fI n) (qn n)
  g0 : mg "InvalidList" = some (.ref (c 0))
  g1 : mg "InvalidNumber" = some (.ref (c 1))
  g2 : mg "InvalidCharacter" = some (.ref (c 2))
  g3 : mg "NothingToUndo" = some (.ref (c 3))
  g4 : mg "Unreadable" = some (.ref (c 4))
  g5 : mg "SqueezeError" = some (.ref cB)
  is : ∀ n m, n < 5 → m < 5 → PySem.W.kitOne K (.ref (c n)) (.ref (c m)) = some (decide (n = m))
  isB : ∀ n, n < 5 → PySem.W.kitOne K (.ref (c n)) (.ref cB) = some true
  isV : ∀ n, n < 5 → PySem.W.kitOne K (.ref (c n)) (.type "ValueError") = some true
  ex : ∀ n, n < 5 → ExcC K (c n)
  xf : ∀ n, n < 5 → XfC K (c n)
/-- what else is known of the error classes -/
structure Errs2 (K : PySem.W.Frag) (c : Nat → Addr) (cB : Addr) : Prop where
  ma : ∀ n, n < 5 → PySem.W.exmOne K (.ref (c n)) (.ref cB) = some true
  st : ∀ n, n < 5 → PySem.W.subIn K (.ref (c n)) (.type "StopIteration") = some false
  nv : ∀ n, n < 5 → PySem.W.findIn K (.ref (c n)) "value" = some none
def nmE (n : Nat) : Str := ["InvalidList", "InvalidNumber", "InvalidCharacter", "NothingToUndo", "Unreadable"].getD n "InvalidList"
/-- the first number less than 2 -/
def lowAt : List Int → Option Nat
  | [] => none
  | k :: ks => if k < 2 then some 0 else (lowAt ks).map (· + 1)
theorem lowAt_none : ∀ {ks : List Int}, lowAt ks = none → ∀ k ∈ ks, 2 ≤ k
  | k :: ks, h, x, hx => by
    unfold lowAt at h
    by_cases c : k < 2
    · rw [if_pos c] at h
      cases h
    · rw [if_neg c] at h
      rcases List.mem_cons.mp hx with e | e
      · omega
      · cases q : lowAt ks with
        | none => exact lowAt_none q x e
        | some j => rw [q] at h; cases h
theorem lowAt_take : ∀ (ks : List Int) (i : Nat), (∀ k ∈ ks.take i, 2 ≤ k) → (∀ k, ks[i]? = some k → k < 2 → lowAt ks = some i) ∧ (ks.length ≤ i → lowAt ks = none)
  | [], i, _ => ⟨fun k e => by simp at e, fun _ => rfl⟩
  | k :: ks, 0, _ => ⟨fun x e c => by
      cases e
      show (if k < 2 then some 0 else (lowAt ks).map (· + 1)) = some 0
      rw [if_pos c], fun z => by simp at z⟩
  | k :: ks, i + 1, h => by
    have hk := h k (by simp)
    obtain ⟨a, b⟩ := lowAt_take ks i fun x hx => h x (by simp [hx])
    refine ⟨fun x e c => ?_, fun z => ?_⟩
    · show (if k < 2 then some 0 else (lowAt ks).map (· + 1)) = some (i + 1)
      rw [if_neg (by omega), a x e c]
      rfl
    · show (if k < 2 then some 0 else (lowAt ks).map (· + 1)) = none
      rw [if_neg (by omega), b (by simpa using z)]
      rfl
/-! ### data that can be shown -/
structure Gd (n : Nat) (d : PyData) : Prop where
  sh : d.showable = true
  nd : d.hasDict = false
  dep : d.depth ≤ 4
  lf : d.leavesShort 40 = true
  wt : d.weight ≤ n
structure GdA (n : Nat) (ds : List PyData) : Prop where
  sh : PyData.showableAll ds = true
  nd : PyData.hasDictAll ds = false
  dep : PyData.depthAll ds ≤ 3
  lf : PyData.leavesShortAll 40 ds = true
  wt : PyData.weightAll ds ≤ n
theorem gd_int {i : Int} (h : i.natAbs < 10 ^ 31) : Gd 121 (.int i) := by
  have lg : i.natAbs.log2 < 120 := PySem.Flt.log2_lt_of (by decide) (Nat.lt_of_lt_of_le h (by decide))
  refine ⟨decide_eq_true (Nat.lt_trans lg (by decide)), rfl, Nat.zero_le _, ?_, ?_⟩
  · have e := int_text_length_le10 (k := 31) (by decide) h
    refine decide_eq_true ?_
    show (Str.ofString (toString i)).length ≤ 40
    rw [PySem.ofString_length]
    omega
  · show (if i == 0 then 0 else i.natAbs.log2 + 1) ≤ 121
    split <;> omega
theorem GdA.nil : GdA 0 [] := ⟨rfl, rfl, Nat.zero_le _, rfl, Nat.le_refl _⟩
theorem GdA.cons {n m : Nat} {d : PyData} {ds : List PyData} (h : Gd n d) (dp : d.depth ≤ 3) (t : GdA m ds) : GdA (n + 1 + m) (d :: ds) := by
  refine ⟨?_, ?_, Nat.max_le.mpr ⟨dp, t.dep⟩, ?_, ?_⟩
  · show (d.showable && PyData.showableAll ds) = true
    rw [h.sh, t.sh]; rfl
  · show (d.hasDict || PyData.hasDictAll ds) = false
    rw [h.nd, t.nd]; rfl
  · show (d.leavesShort 40 && PyData.leavesShortAll 40 ds) = true
    rw [h.lf, t.lf]; rfl
  · have a := h.wt
    have b := t.wt
    show d.weight + 1 + PyData.weightAll ds ≤ n + 1 + m
    omega
theorem GdA.list {n : Nat} {ds : List PyData} (t : GdA n ds) : Gd n (.list ds) := ⟨t.sh, t.nd, Nat.add_le_add_right t.dep 1, t.lf, t.wt⟩
theorem gda_ints : ∀ (ks : List Int), (∀ k ∈ ks, k.natAbs < 10 ^ 31) → GdA (122 * ks.length) (ks.map PyData.int) ∧ PyData.depthAll (ks.map PyData.int) ≤ 0
  | [], _ => ⟨GdA.nil, Nat.le_refl _⟩
  | k :: ks, h => by
    obtain ⟨a, b⟩ := gda_ints ks fun x hx => h x (List.mem_cons_of_mem _ hx)
    refine ⟨?_, Nat.max_le.mpr ⟨Nat.zero_le _, b⟩⟩
    have c := GdA.cons (gd_int (h k (List.mem_cons_self ..))) (Nat.zero_le _) a
    rw [List.length_cons, Nat.mul_add, Nat.mul_one, Nat.add_comm (122 * ks.length)]
    exact c
theorem Gd.shown {n : Nat} {K : PySem.W.Frag} {H : Hp} {x : V} {d : PyData} (h : Gd n d) (l : n ≤ 100000) (dp : Dp K H x d) : Shown K H x d :=
  ⟨dp, h.sh, h.nd, Nat.le_trans h.dep (by decide), fits40 h.lf (Nat.le_trans h.wt l)⟩
/-! ### the low numbers -/
theorem lowAt_some : ∀ {ks : List Int} {j : Nat}, lowAt ks = some j → j < ks.length ∧ ks.getD j 2 < 2 ∧ ∀ m, m < j → 2 ≤ ks.getD m 2
  | k :: ks, j, h => by
    have h' : (if k < 2 then some 0 else (lowAt ks).map (· + 1)) = some j := h
    by_cases c : k < 2
    · rw [if_pos c] at h'
      cases h'
      exact ⟨Nat.succ_pos _, c, fun m hm => absurd hm (Nat.not_lt_zero _)⟩
    · rw [if_neg c] at h'
      cases q : lowAt ks with
      | none => rw [q] at h'; cases h'
      | some i =>
        rw [q] at h'
        cases h'
        obtain ⟨a, b, d⟩ := lowAt_some q
        refine ⟨Nat.succ_lt_succ a, b, fun m hm => ?_⟩
        cases m with
        | zero => show 2 ≤ k; omega
        | succ m => exact d m (Nat.lt_of_succ_lt_succ hm)
def lowIx (ks : List Int) (i : Nat) : List Int := ((List.range i).filter fun j => decide (ks.getD j 2 < 2)).map fun j : Nat => (j : Int)
theorem lowIx_succ (ks : List Int) (i : Nat) : lowIx ks (i + 1) = if ks.getD i 2 < 2 then lowIx ks i ++ [(i : Int)] else lowIx ks i := by
  unfold lowIx
  rw [List.range_succ, List.filter_append, List.map_append]
  by_cases h : ks.getD i 2 < 2
  · have e : [i].filter (fun j => decide (ks.getD j 2 < 2)) = [i] := by
      rw [List.filter_cons, decide_eq_true h]
      rfl
    rw [if_pos h, e]
    rfl
  · have e : [i].filter (fun j => decide (ks.getD j 2 < 2)) = [] := by
      rw [List.filter_cons, decide_eq_false h]
      rfl
    rw [if_neg h, e]
    exact List.append_nil _
theorem lowIx_len (ks : List Int) (i : Nat) : (lowIx ks i).length ≤ i := by
  unfold lowIx
  rw [List.length_map]
  have := List.length_filter_le (fun j => decide (ks.getD j 2 < 2)) (List.range i)
  rwa [List.length_range] at this
theorem lowIx_none {ks : List Int} : ∀ {i : Nat}, (∀ m, m < i → 2 ≤ ks.getD m 2) → lowIx ks i = []
  | 0, _ => rfl
  | i + 1, h => by
    rw [lowIx_succ, if_neg (by have := h i (by omega); omega)]
    exact lowIx_none fun m hm => h m (by omega)
theorem lowIx_head {ks : List Int} {j : Nat} (a : ks.getD j 2 < 2) (b : ∀ m, m < j → 2 ≤ ks.getD m 2) : ∀ {i : Nat}, j < i → ∃ r, lowIx ks i = (j : Int) :: r
  | i + 1, h => by
    rw [lowIx_succ]
    by_cases e : j = i
    · subst e
      rw [if_pos a, lowIx_none b]
      exact ⟨[], rfl⟩
    · obtain ⟨r, hr⟩ := lowIx_head a b (i := i) (by omega)
      rw [hr]
      split
      · exact ⟨_, rfl⟩
      · exact ⟨_, rfl⟩
theorem low_none {ks : List Int} (h : lowAt ks = none) : lowIx ks ks.length = [] := lowIx_none fun m hm => by
  have : ∀ {ks : List Int} {m : Nat}, lowAt ks = none → 2 ≤ ks.getD m 2 := fun {ks} => by
    induction ks with
    | nil => intro m _; cases m <;> exact Int.le_refl _
    | cons k ks ih =>
      intro m h
      have h' : (if k < 2 then some 0 else (lowAt ks).map (· + 1)) = none := h
      by_cases c : k < 2
      · rw [if_pos c] at h'; cases h'
      · rw [if_neg c] at h'
        have h2 : lowAt ks = none := by
          cases q : lowAt ks with
          | none => rfl
          | some i => rw [q] at h'; cases h'
        cases m with
        | zero => show 2 ≤ k; omega
        | succ m => exact ih h2
  exact this h
theorem low_some {ks : List Int} {j : Nat} (h : lowAt ks = some j) : ∃ r, lowIx ks ks.length = (j : Int) :: r := by
  obtain ⟨a, b, c⟩ := lowAt_some h
  exact lowIx_head b c a
/-- the heap without one cell -/
def wo (H : Hp) (D : Addr) : Hp := fun b => if b = D then none else H b
theorem wo_upd {H : Hp} {D : Addr} {o : HO} : wo (upd H D o) D = wo H D := by
  funext b
  unfold wo
  by_cases h : b = D
  · rw [if_pos h, if_pos h]
  · rw [if_neg h, if_neg h, upd_ne h]
theorem wo_ne {H : Hp} {D b : Addr} (h : b ≠ D) : wo H D b = H b := by
  unfold wo
  rw [if_neg h]
theorem wo_same {H : Hp} {D : Addr} : Same (wo H D) H := fun b o e => by
  unfold wo at e
  by_cases h : b = D
  · rw [if_pos h] at e; cases e
  · rw [if_neg h] at e; exact e
theorem same_wo {G H : Hp} {D : Addr} (s : Same G H) (h : G D = none) : Same G (wo H D) := fun b o e => by
  rw [wo_ne (fun z => by subst z; rw [h] at e; cases e)]
  exact s b o e
theorem wo_self {H : Hp} {D : Addr} : wo H D D = none := by
  unfold wo
  rw [if_pos rfl]
theorem dp_snoc {K : PySem.W.Frag} {H : Hp} {v : V} {d : PyData} (h : Dp K H v d) : ∀ {xs : List V} {ds : List PyData}, DpAll K H xs ds → DpAll K H (xs ++ [v]) (ds ++ [d])
  | _, _, .nil => .cons h .nil
  | _, _, .cons a t => .cons a (dp_snoc h t)
end Sq
set_option Elab.async false
set_option linter.all false
set_option maxHeartbeats 1000000
/-! Two lists part at the run between their greatest origins of 1. -/
namespace Sq
def pro (ks : List Int) : Int := ks.foldl (· * ·) 1
theorem pro_from : ∀ (ks : List Int) (n : Int), ks.foldl (· * ·) n = n * pro ks
  | [], n => (Int.mul_one n).symm
  | k :: ks, n => by
    show ks.foldl (· * ·) (n * k) = n * (ks.foldl (· * ·) (1 * k))
    rw [pro_from ks (n * k), pro_from ks (1 * k), Int.one_mul, Int.mul_assoc]
theorem pro_cons (k : Int) (ks : List Int) : pro (k :: ks) = k * pro ks := by
  show ks.foldl (· * ·) (1 * k) = _
  rw [pro_from, Int.one_mul]
theorem pro_pos : ∀ {ks : List Int}, (∀ k ∈ ks, 2 ≤ k) → 1 ≤ pro ks
  | [], _ => by decide
  | k :: ks, h => by
    rw [pro_cons]
    have a := h k (List.mem_cons_self ..)
    have b := pro_pos (ks := ks) fun x hx => h x (List.mem_cons_of_mem _ hx)
    have := Int.mul_le_mul a b (by decide) (by omega)
    omega
end Sq
set_option Elab.async false
set_option linter.all false
set_option maxHeartbeats 1000000
/-! What parting_run returns. -/
namespace Sq
open PySem PySem.Spec PyProof.Rows L2
def prodF (n : Int) (ks : List Int) : Int := ks.foldl (· * ·) n
end Sq
set_option Elab.async false
set_option linter.all false
/-! A statement told apart from what follows. -/
namespace Sq
open PySem PySem.Spec PyProof.Rows L2
theorem tellNx {t u : TS} {D : Ends} {r : VK} {b c : L2.St → Hp → Prop} {σ : L2.St} {H : Hp} (T : L2.St → Hp → Prop) (h : ∀ N : L2.St → Hp → Prop, (∀ σ2 H2, T σ2 H2 → N σ2 H2) → t { D with nx := N } σ H) (hT : ∀ σ2 H2, T σ2 H2 → u D σ2 H2) : Ends.nx { nx := tSeq t u D, rt := r, bk := b, ct := c } σ H := h (u D) hT
end Sq
set_option Elab.async false
set_option linter.all false
/-! The best replacements, in plain Lean. -/
namespace Sq
def low (R : Int) : Int := (R + 3) / 2
def high (R : Int) : Int := (R + 4) / 2
def bests (R : Int) : List Int := if low R = high R then [low R] else [low R, high R]
def grow (R : Int) : Int := rw1 (low R) R
def up : Nat → Int → Int
  | 0, v => v
  | n + 1, v => grow (up n v)
theorem low_ge {R : Int} (h : 1 ≤ R) : 2 ≤ low R := by unfold low; omega
theorem low_le {R : Int} (h : 1 ≤ R) : low R ≤ R + 1 := by unfold low; omega
theorem high_le {R : Int} (h : 1 ≤ R) : high R ≤ R + 2 := by unfold high; omega
theorem rw1_low {k R : Int} (hk : k ≤ R + 2) : rw1 k R = (R + 3 - k) * k - 2 := by
  unfold rw1
  split
  · have e : k = R + 2 := by omega
    subst e
    rw [show R + 3 - (R + 2) = 1 by omega, Int.one_mul]
    omega
  · rfl
/-- how far a replacement stands from the middle decides -/
theorem sq_gap (R k : Int) : 4 * ((R + 3 - k) * k) = (R + 3) * (R + 3) - (2 * k - (R + 3)) * (2 * k - (R + 3)) := by
  simp only [Int.sub_mul, Int.mul_sub, Int.add_mul, Int.mul_add]
  have h1 := Int.mul_comm k R
  have h2 : 2 * k * (2 * k) = 4 * (k * k) := by
    rw [Int.mul_assoc, ← Int.mul_assoc k 2 k, Int.mul_comm k 2, Int.mul_assoc 2 k k]
    omega
  have h3 : 2 * k * R = 2 * (k * R) := Int.mul_assoc ..
  have h4 : R * (2 * k) = 2 * (k * R) := by rw [Int.mul_comm R, Int.mul_assoc]
  rw [h2, h3, h4, h1]
  omega
theorem one_sq {d : Int} (h : d = 0 ∨ d = 1 ∨ d = -1) : d * d ≤ 1 := by rcases h with h | h | h <;> subst h <;> decide
theorem two_sq {d : Int} (h : 2 ≤ d ∨ d ≤ -2) : 4 ≤ d * d := by
  rcases h with h | h
  · exact Int.mul_le_mul h h (by omega) (by omega)
  · have := Int.mul_le_mul (a := 2) (b := 2) (c := -d) (d := -d) (by omega) (by omega) (by omega) (by omega)
    rw [Int.neg_mul_neg] at this
    exact this
theorem rw1_le_grow {k R : Int} (hk : 2 ≤ k) (hR : 1 ≤ R) : rw1 k R ≤ grow R ∧ (rw1 k R = grow R ↔ k ∈ bests R) := by
  have l1 := low_ge hR
  have l2 := low_le hR
  have g : grow R = (R + 3 - low R) * low R - 2 := rw1_low (by omega)
  have e1 := sq_gap R (low R)
  by_cases c : k ≤ R + 2
  · have e := sq_gap R k
    rw [g, rw1_low c]
    by_cases ev : R % 2 = 0
    · -- the middle lies between two
      have d1 : 2 * low R - (R + 3) = -1 := by unfold low; omega
      have ne : low R ≠ high R := by unfold low high; omega
      have mem : k ∈ bests R ↔ (k = low R ∨ k = high R) := by
        unfold bests
        rw [if_neg ne]
        simp
      rw [d1] at e1
      by_cases m : k = low R ∨ k = high R
      · have d2 : 2 * k - (R + 3) = -1 ∨ 2 * k - (R + 3) = 1 := by unfold low high at m; omega
        have e2 : (2 * k - (R + 3)) * (2 * k - (R + 3)) = 1 := by rcases d2 with d2 | d2 <;> rw [d2] <;> rfl
        rw [e2] at e
        exact ⟨by omega, fun _ => mem.mpr m, fun _ => by omega⟩
      · have d2 : 2 ≤ 2 * k - (R + 3) ∨ 2 * k - (R + 3) ≤ -2 := by unfold low high at m; omega
        have e2 := two_sq d2
        exact ⟨by omega, fun z => by omega, fun z => absurd (mem.mp z) m⟩
    · have d1 : 2 * low R - (R + 3) = 0 := by unfold low; omega
      have eq : low R = high R := by unfold low high; omega
      have mem : k ∈ bests R ↔ k = low R := by
        unfold bests
        rw [if_pos eq]
        simp
      rw [d1] at e1
      by_cases m : k = low R
      · subst m
        exact ⟨by omega, fun _ => mem.mpr rfl, fun _ => by omega⟩
      · have d2 : 2 ≤ 2 * k - (R + 3) ∨ 2 * k - (R + 3) ≤ -2 := by unfold low at m; omega
        have e2 := two_sq d2
        exact ⟨by omega, fun z => by omega, fun z => absurd (mem.mp z) m⟩
  · have e2 : rw1 k R = R := by
      unfold rw1
      rw [if_pos (by omega)]
    have e3 : R < grow R := by
      rw [g]
      have e4 : (R + 3 - 2) * 2 ≤ (R + 3 - low R) * low R := by
        have a := sq_gap R 2
        have b : (2 * low R - (R + 3)) * (2 * low R - (R + 3)) ≤ 1 := one_sq (by unfold low; omega)
        by_cases h1 : R = 1
        · subst h1
          decide
        · by_cases h2 : R = 2
          · subst h2; decide
          · have c2 : 1 ≤ (2 * 2 - (R + 3)) * (2 * 2 - (R + 3)) := by
              have := two_sq (d := 2 * 2 - (R + 3)) (by omega)
              omega
            omega
      omega
    refine ⟨by omega, fun z => by omega, fun z => ?_⟩
    exfalso
    have := high_le hR
    unfold bests at z
    split at z
    · have := List.mem_singleton.mp z
      omega
    · simp at z
      omega
theorem grow_gt {R : Int} (hR : 1 ≤ R) : R < grow R := by
  have a := (rw1_le_grow (k := 2) (R := R) (by omega) hR).1
  rw [rw1_low (by omega)] at a
  by_cases h : R = 1
  · subst h; decide
  · omega
theorem grow_pos {R : Int} (hR : 1 ≤ R) : 1 ≤ grow R := by have := grow_gt hR; omega
theorem rw1_lt {k R S : Int} (hk : 2 ≤ k) (hR : 1 ≤ R) (h : R < S) : rw1 k R < grow S := by
  have hS : 1 ≤ S := by omega
  by_cases c : k ≤ R + 1
  · have a := (rw1_le_grow (k := k) hk hS).1
    rw [rw1_low (by omega)] at a
    rw [rw1_low (by omega)]
    have : (R + 3 - k) * k < (S + 3 - k) * k := Int.mul_lt_mul_of_pos_right (by omega) (by omega)
    omega
  · have e2 : rw1 k R = R := by
      unfold rw1
      rw [if_pos (by omega)]
    have := grow_gt hS
    omega
theorem grow_lt {R S : Int} (hR : 1 ≤ R) (h : R < S) : grow R < grow S := rw1_lt (low_ge hR) hR h
theorem up_pos {v : Int} (hv : 1 ≤ v) : ∀ n, 1 ≤ up n v
  | 0 => hv
  | n + 1 => grow_pos (up_pos hv n)
/-- the choices of each place -/
def chs : Nat → Int → List (List Int)
  | 0, _ => []
  | n + 1, v => bests (up n v) :: chs n v
end Sq
set_option Elab.async false
set_option linter.all false
/-! One of each choice, by its place. -/
namespace Sq
def lens : List (List Int) → Int
  | [] => 1
  | c :: cs => (c.length : Int) * lens cs
def pick : List (List Int) → Int → List Int
  | [], _ => []
  | c :: cs, p => c.getD ((p / lens cs) % (c.length : Int)).toNat 0 :: pick cs p
def Full (cs : List (List Int)) : Prop := ∀ c ∈ cs, 0 < c.length
theorem Full.tl {c : List Int} {cs : List (List Int)} (h : Full (c :: cs)) : Full cs := fun x hx => h x (List.mem_cons_of_mem _ hx)
theorem Full.hd {c : List Int} {cs : List (List Int)} (h : Full (c :: cs)) : 0 < c.length := h c (List.mem_cons_self ..)
theorem lens_pos : ∀ {cs : List (List Int)}, Full cs → 0 < lens cs
  | [], _ => by decide
  | c :: cs, h => Int.mul_pos (by have := h.hd; omega) (lens_pos h.tl)
theorem pick_len : ∀ (cs : List (List Int)) (p : Int), (pick cs p).length = cs.length
  | [], _ => rfl
  | _ :: cs, p => congrArg Nat.succ (pick_len cs p)
theorem bests_len (R : Int) : (bests R).length = if R % 2 = 0 then 2 else 1 := by
  unfold bests
  by_cases h : R % 2 = 0
  · rw [if_pos h, if_neg (show ¬ low R = high R by unfold low high; omega)]
    rfl
  · rw [if_neg h, if_pos (show low R = high R by unfold low high; omega)]
    rfl
theorem chs_len : ∀ (n : Nat) (v : Int), (chs n v).length = n
  | 0, _ => rfl
  | n + 1, v => congrArg Nat.succ (chs_len n v)
theorem chs_mem : ∀ {n : Nat} {v : Int} {c : List Int}, c ∈ chs n v → ∃ i, i < n ∧ c = bests (up i v)
  | n + 1, v, c, h => by
    rcases List.mem_cons.mp h with e | h
    · exact ⟨n, by omega, e⟩
    · obtain ⟨i, hi, e⟩ := chs_mem h
      exact ⟨i, by omega, e⟩
theorem chs_full (n : Nat) (v : Int) : Full (chs n v) := fun c h => by
  obtain ⟨i, _, rfl⟩ := chs_mem h
  rw [bests_len]
  split <;> omega
/-- the even reaches -/
def evens (n : Nat) (v : Int) : Nat := match n with
  | 0 => 0
  | n + 1 => evens n v + if up n v % 2 = 0 then 1 else 0
theorem lens_chs : ∀ (n : Nat) (v : Int), lens (chs n v) = (2 : Int) ^ evens n v
  | 0, _ => rfl
  | n + 1, v => by
    show ((bests (up n v)).length : Int) * lens (chs n v) = (2 : Int) ^ (evens n v + if up n v % 2 = 0 then 1 else 0)
    rw [lens_chs n v, bests_len]
    by_cases h : up n v % 2 = 0
    · rw [if_pos h, if_pos h, Int.pow_succ]
      omega
    · rw [if_neg h, if_neg h]
      show (1 : Int) * _ = _
      rw [Int.one_mul]
      rfl
theorem evens_le (n : Nat) (v : Int) : evens n v ≤ n := by
  induction n with
  | zero => exact Nat.le_refl _
  | succ n ih =>
    show evens n v + (if up n v % 2 = 0 then 1 else 0) ≤ n + 1
    split <;> omega
theorem lens_le {n : Nat} (h : n ≤ 8) (v : Int) : lens (chs n v) ≤ 256 := by
  rw [lens_chs]
  have : (2 : Nat) ^ evens n v ≤ 2 ^ 8 := Nat.pow_le_pow_right (by decide) (Nat.le_trans (evens_le n v) h)
  have e : ((2 ^ evens n v : Nat) : Int) = (2 : Int) ^ evens n v := by push_cast; rfl
  omega
end Sq
set_option Elab.async false
set_option linter.all false
set_option maxRecDepth 100000
set_option maxHeartbeats 1000000
/-! `for` in a generator's body, with yields in its suite. -/
namespace PySem
open Sem (wp)
section
variable {M : Model} {A : Around} {R : GenEnd} {Y : Protocol} {n : Nat} {s₀ : Shared} {c : Code} {fs : List Frame} {s : Shared} {env : Env}
  {K : Flow → Sem Fin} {H : Value → Sem Fin} {gd : Bool → Bool} {lv : List Value → List Value}
theorem segFor {target iter : Expr} {body orelse : List Stmt} {pos : Pos}
    (h : wpAny M (A.over c fs) (eval iter env) (fun x s₁ => wpAny M (A.over c fs) (pyIter x) (fun it s₂ =>
        ∀ p, Seg M A R Y n s₀ (.forLoop target it body orelse env) (M.den (.forLoop target it body orelse env))
      (.ret (fun r => ((match r with | .ok f => (.pure f : Sem Flow) | .error e => .raise e).onRaise fun (x : Value) => do
        if (← field x 1) == Value.none then unsupported "frame.own-activation:exception-without-traceback"
        setFlight x env.frame).wrap K H gd lv) none (gd false) (lv []) c p [] :: fs) s₂) (fun x s' => Seg M A R Y n s₀ c (H x) fs s') s₁)
      (fun x s' => Seg M A R Y n s₀ c (H x) fs s') s)
    (hs : ∀ x, foldedSetIterable iter env x = pure x := by intro _; rfl) :
    Seg M A R Y n s₀ c ((exec (.For target iter body orelse pos) env).wrap K H gd lv) fs s := by
  rw [exec_For]
  refine seg_bind_wrap (wpAny_standAt ?_)
  refine seg_bind_wrap (wpAny_mono h (fun x s₁ h₁ => ?_) fun _ _ h' => h')
  refine seg_bind_wrap (wpAny_of_eq (hs x) ?_)
  refine seg_bind_wrap (wpAny_standAt ?_)
  refine seg_bind_wrap (wpAny_holding (wpAny_mono h₁ (fun it s₂ h₂ => ?_) fun _ _ h' => h'))
  exact seg_call h₂
end
section
variable {prog : Program} {w : World} {A : Around} {R : GenEnd} {Y : Protocol} {n : Nat} {s₀ : Shared} {fs : List Frame} {s : Shared} {env : Env}
theorem segForLoop {target : Expr} {it : Value} {body orelse : List Stmt}
    (h : wpAny (model prog w) (A.over (.forLoop target it body orelse env) fs) (pyNext it) (fun r s₁ => match r with
        | none => Seg (model prog w) A R Y n s₀ (.forLoop target it body orelse env) (.pure (.again (.block orelse env))) fs s₁
        | some v => wpAny (model prog w) (A.over (.forLoop target it body orelse env) fs) (letOwnedTupleGo target it v) (fun _ s₂ =>
            wpAny (model prog w) (A.over (.forLoop target it body orelse env) fs) (assign target env v) (fun _ s₃ =>
              Seg (model prog w) A R Y n s₀ (.forLoop target it body orelse env) ((execs body env).wrap (fun f => match f with
            | .next | .cont => .pure (.again (.forLoop target it body orelse env))
            | .brk => .pure (.done .next)
            | .ret v => .pure (.done (.ret v))) (fun e => (do noteFrame e env; theTreesLotGoes e : Sem Unit).wrap (fun _ => .raise e) .raise id id) id id) fs s₃)
              (fun x s' => Seg (model prog w) A R Y n s₀ (.forLoop target it body orelse env) ((do noteFrame x env; theTreesLotGoes x : Sem Unit).wrap (fun _ => .raise x) .raise id id) fs s') s₂)
            (fun x s' => Seg (model prog w) A R Y n s₀ (.forLoop target it body orelse env) ((do noteFrame x env; theTreesLotGoes x : Sem Unit).wrap (fun _ => .raise x) .raise id id) fs s') s₁)
      (fun x s' => Seg (model prog w) A R Y n s₀ (.forLoop target it body orelse env) ((do noteFrame x env; theTreesLotGoes x : Sem Unit).wrap (fun _ => .raise x) .raise id id) fs s') s) :
    Seg (model prog w) A R Y n s₀ (.forLoop target it body orelse env) ((model prog w).den (.forLoop target it body orelse env)) fs s := by
  show Seg _ A R Y n s₀ _ ((forTurn target it body orelse env).onRaise (fun x => do noteFrame x env; theTreesLotGoes x)) fs s
  unfold forTurn
  rw [Sem.onRaise_eq_wrap]
  have he : ∀ (x : Value) (s' : Shared), Seg (model prog w) A R Y n s₀ (.forLoop target it body orelse env) ((do noteFrame x env; theTreesLotGoes x : Sem Unit).wrap (fun _ => .raise x) .raise id id) fs s' →
      Seg (model prog w) A R Y n s₀ (.forLoop target it body orelse env) ((do noteFrame x env; theTreesLotGoes x : Sem Unit).bind fun _ => .raise x) fs s' := fun x s' hx => by
    rw [Sem.bind_eq_wrap]; exact hx
  refine seg_bind_wrap (wpAny_standAt ?_)
  refine seg_bind_wrap (wpAny_onRaise (wpAny_mono h (fun r s₁ h₁ => ?_) fun x s' hx => wpAny_standAt (he x s' hx)))
  cases r with
  | none => exact h₁
  | some v =>
    refine seg_bind_wrap (wpAny_mono h₁ (fun _ s₂ h₂ => ?_) fun x s' hx => he x s' hx)
    refine seg_bind_wrap (wpAny_mono h₂ (fun _ s₃ h₃ => ?_) fun x s' hx => he x s' hx)
    rw [Sem.bind_eq_wrap', Sem.wrap_wrap]
    rw [Sem.wrap_congr (execs body env) _ _ (K' := fun f => match f with
            | .next | .cont => .pure (.again (.forLoop target it body orelse env))
            | .brk => .pure (.done .next)
            | .ret v => .pure (.done (.ret v))) (H' := (fun e => (do noteFrame e env; theTreesLotGoes e : Sem Unit).wrap (fun _ => .raise e) .raise id id))
        (fun f => by cases f <;> rfl)
        (fun e => by first | exact Sem.bind_eq_wrap _ _ | (show (do noteFrame e env; theTreesLotGoes e : Sem Unit).bind (fun _ => .raise e) = _; rw [Sem.bind_eq_wrap]))]
    exact h₃
theorem segBlockNil (h : Seg (model prog w) A R Y n s₀ (.block [] env) (.pure (.done .next)) fs s) :
    Seg (model prog w) A R Y n s₀ (.block [] env) ((model prog w).den (.block [] env)) fs s := h
end
end PySem
namespace L2
open PySem PySem.Spec PyProof.Rows GenW
end L2
set_option Elab.async false
set_option linter.all false
set_option maxRecDepth 100000
set_option maxHeartbeats 2000000
/-! Lists of lists of ints; a walk in a generator. -/
namespace Sq
open PySem PySem.Spec PyProof.Rows L2
/-- at each of them stands its list of ints -/
def RowsAt (H : Hp) : List Addr → List (List Int) → Prop
  | [], [] => True
  | a :: as, c :: cs => H a = some (.lst (c.map V.int)) ∧ RowsAt H as cs
  | _, _ => False
theorem RowsAt.same {H H' : Hp} (s : Same H H') : ∀ {as : List Addr} {cs : List (List Int)}, RowsAt H as cs → RowsAt H' as cs
  | [], [], _ => trivial
  | _ :: _, _ :: _, h => ⟨s _ _ h.1, RowsAt.same s h.2⟩
  | [], _ :: _, h => h.elim
  | _ :: _, [], h => h.elim
theorem RowsAt.len {H : Hp} : ∀ {as : List Addr} {cs : List (List Int)}, RowsAt H as cs → as.length = cs.length
  | [], [], _ => rfl
  | _ :: _, _ :: _, h => congrArg Nat.succ (RowsAt.len h.2)
  | [], _ :: _, h => h.elim
  | _ :: _, [], h => h.elim
theorem RowsAt.app {H : Hp} : ∀ {as : List Addr} {cs : List (List Int)} {bs : List Addr} {ds : List (List Int)}, RowsAt H as cs → RowsAt H bs ds → RowsAt H (as ++ bs) (cs ++ ds)
  | [], [], _, _, _, h2 => h2
  | _ :: _, _ :: _, _, _, h, h2 => ⟨h.1, RowsAt.app h.2 h2⟩
  | [], _ :: _, _, _, h, _ => h.elim
  | _ :: _, [], _, _, h, _ => h.elim
theorem RowsAt.rev {H : Hp} : ∀ {as : List Addr} {cs : List (List Int)}, RowsAt H as cs → RowsAt H as.reverse cs.reverse
  | [], [], _ => trivial
  | _ :: _, _ :: _, h => by
    rw [List.reverse_cons, List.reverse_cons]
    exact (RowsAt.rev h.2).app ⟨h.1, trivial⟩
  | [], _ :: _, h => h.elim
  | _ :: _, [], h => h.elim
theorem RowsAt.get {H : Hp} : ∀ {as : List Addr} {cs : List (List Int)} {i : Nat} {c : List Int}, RowsAt H as cs → cs[i]? = some c → ∃ a, as[i]? = some a ∧ H a = some (.lst (c.map V.int))
  | _ :: _, _ :: _, 0, _, h, e => by
    cases e
    exact ⟨_, rfl, h.1⟩
  | _ :: _, _ :: _, i + 1, _, h, e => RowsAt.get (i := i) h.2 e
  | [], _ :: _, _, _, h, _ => h.elim
  | _, [], _, _, _, e => by simp at e
theorem RowsAt.upd {H : Hp} {p : Addr} {o : HO} : ∀ {as : List Addr} {cs : List (List Int)}, RowsAt H as cs → p ∉ as → RowsAt (upd H p o) as cs
  | [], [], _, _ => trivial
  | a :: _, _ :: _, h, n => ⟨by rw [upd_ne (fun z => n (by rw [z]; exact List.mem_cons_self ..))]; exact h.1, RowsAt.upd h.2 (fun z => n (List.mem_cons_of_mem _ z))⟩
  | [], _ :: _, h, _ => h.elim
  | _ :: _, [], h, _ => h.elim
theorem map_ref {as : List Addr} {i : Nat} {x : V} (h : (as.map V.ref)[i]? = some x) : ∃ a, as[i]? = some a ∧ V.ref a = x := by
  rw [List.getElem?_map] at h
  exact Option.map_eq_some_iff.mp h
end Sq
set_option Elab.async false
set_option linter.all false
set_option maxRecDepth 100000
set_option maxHeartbeats 1000000
/-! Lists of lists of ints as data. -/
namespace Sq
open PySem PySem.Spec PyProof.Rows L2
def rLenK (K : PySem.W.Frag) : List V → Hp → VK → Prop := fun xs H Q => ∃ p ys, xs = [V.ref p] ∧ (SqL K H p ys ∨ SqT K H p ys) ∧ Q (V.int (ys.length : Nat)) H
theorem call_lenK {X : Cx} : CallR X (.builtin "len") (rLenK X.K) := call_len_seq
def rListK (K : PySem.W.Frag) : List V → Hp → VK → Prop := fun xs H Q => ∃ p ys, xs = [V.ref p] ∧ (SqL K H p ys ∨ SqT K H p ys) ∧ ∀ l, H l = none → Q (.ref l) (upd H l (.lst ys))
theorem call_listK {X : Cx} : CallR X (.type "list") (rListK X.K) := call_list_of
/-- kept by what turns the source alone -/
theorem RowsAt.keep {H H' : Hp} {l d : Addr} (k : ∀ b o, H b = some o → b ≠ l → b ≠ d → H' b = some o) : ∀ {as : List Addr} {cs : List (List Int)}, RowsAt H as cs → l ∉ as → d ∉ as → RowsAt H' as cs
  | [], [], _, _, _ => trivial
  | a :: _, _ :: _, h, n1, n2 => ⟨k _ _ h.1 (fun z => n1 (by rw [z]; exact List.mem_cons_self ..)) (fun z => n2 (by rw [z]; exact List.mem_cons_self ..)), RowsAt.keep k h.2 (fun z => n1 (List.mem_cons_of_mem _ z)) (fun z => n2 (List.mem_cons_of_mem _ z))⟩
  | [], _ :: _, h, _, _ => h.elim
  | _ :: _, [], h, _, _ => h.elim
end Sq
set_option Elab.async false
set_option linter.all false
set_option maxHeartbeats 1000000
/-! A hidden list, found by questions. -/
namespace Sq
theorem pro_le {m : Int} : ∀ {ks : List Int}, (∀ k ∈ ks, 2 ≤ k ∧ k ≤ m) → pro ks ≤ m ^ ks.length
  | [], _ => by rw [List.length_nil, Int.pow_zero]; decide
  | k :: r, h => by
    have hk := h k List.mem_cons_self
    have hr : ∀ x ∈ r, 2 ≤ x ∧ x ≤ m := fun x hx => h x (List.mem_cons_of_mem _ hx)
    have ih := pro_le hr
    have pp := pro_pos (ks := r) fun x hx => (hr x hx).1
    rw [pro_cons, List.length_cons, Int.pow_succ, Int.mul_comm (m ^ r.length) m]
    exact Int.mul_le_mul hk.2 ih (by omega) (by omega)
theorem pro_app (ks ls : List Int) : pro (ks ++ ls) = pro ks * pro ls := by
  unfold pro
  rw [List.foldl_append]
  exact pro_from ls _
end Sq
set_option Elab.async false
set_option linter.all false
set_option maxRecDepth 100000
set_option maxHeartbeats 1000000
/-! Counting: how many lengths up to a limit become one that is told. -/
namespace Sq
open PySem PySem.Spec PyProof.Rows L2
def onceN (n k : Nat) : Nat := n / k + n % k
def cntN (f : Nat → Bool) : Nat → Nat
  | 0 => 0
  | n + 1 => cntN f n + (if f n = true then 1 else 0)
def sumR (g : Nat → Int) : Nat → Int
  | 0 => 0
  | n + 1 => sumR g n + g n
theorem sumR_congr {g h : Nat → Int} : ∀ {n : Nat}, (∀ j, j < n → g j = h j) → sumR g n = sumR h n
  | 0, _ => rfl
  | n + 1, e => by
    show sumR g n + g n = sumR h n + h n
    rw [sumR_congr fun j hj => e j (Nat.lt_succ_of_lt hj), e n (Nat.lt_succ_self n)]
theorem sumR_one {g h : Nat → Int} {i : Nat} : ∀ {n : Nat}, i < n → (∀ j, j < n → j ≠ i → g j = h j) → sumR g n = sumR h n + (g i - h i)
  | 0, hi, _ => absurd hi (Nat.not_lt_zero _)
  | n + 1, hi, e => by
    show sumR g n + g n = sumR h n + h n + (g i - h i)
    by_cases c : i = n
    · subst c
      rw [sumR_congr fun j hj => e j (Nat.lt_succ_of_lt hj) (Nat.ne_of_lt hj)]
      omega
    · rw [sumR_one (i := i) (by omega) fun j hj ne => e j (Nat.lt_succ_of_lt hj) ne, e n (Nat.lt_succ_self n) (fun z => c z.symm)]
      omega
theorem cntN_succ (f : Nat → Bool) (n : Nat) : cntN f (n + 1) = cntN f n + (if f n = true then 1 else 0) := rfl
/-- the lengths up to a limit, by what is left over of them -/
theorem cnt_once (f : Nat → Bool) {k : Nat} (hk : 2 ≤ k) : ∀ lim : Nat, ((cntN (fun x => f (onceN x k)) (lim + 1) : Nat) : Int) = sumR (fun left => ((cntN f ((lim - left) / k + left + 1) : Nat) : Int) - ((cntN f left : Nat) : Int)) (min k (lim + 1))
  | 0 => by
    rw [Nat.min_eq_right (by omega)]
    show (((0 : Nat) + (if f (onceN 0 k) = true then 1 else 0) : Nat) : Int) = 0 + (((cntN f ((0 - 0) / k + 0 + 1) : Nat) : Int) - ((0 : Nat) : Int))
    have e : onceN 0 k = 0 := by unfold onceN; simp
    have e2 : (0 - 0) / k + 0 + 1 = 1 := by simp
    rw [e, e2]
    show (((0 : Nat) + (if f 0 = true then 1 else 0) : Nat) : Int) = 0 + ((((0 : Nat) + (if f 0 = true then 1 else 0) : Nat) : Int) - ((0 : Nat) : Int))
    omega
  | lim + 1 => by
    have ih := cnt_once f hk lim
    rw [cntN_succ (fun x => f (onceN x k)) (lim + 1)]
    rw [Int.natCast_add, ih]
    by_cases c : lim + 1 < k
    · rw [Nat.min_eq_right (by omega), Nat.min_eq_right (by omega)]
      show _ = sumR _ (lim + 1) + (((cntN f ((lim + 1 - (lim + 1)) / k + (lim + 1) + 1) : Nat) : Int) - ((cntN f (lim + 1) : Nat) : Int))
      have e : onceN (lim + 1) k = lim + 1 := by
        unfold onceN
        rw [Nat.div_eq_of_lt c, Nat.mod_eq_of_lt c, Nat.zero_add]
      have e2 : (lim + 1 - (lim + 1)) / k + (lim + 1) + 1 = (lim + 1) + 1 := by
        rw [Nat.sub_self, Nat.zero_div, Nat.zero_add]
      rw [e, e2, cntN_succ f (lim + 1)]
      have same : sumR (fun left => ((cntN f ((lim - left) / k + left + 1) : Nat) : Int) - ((cntN f left : Nat) : Int)) (lim + 1) = sumR (fun left => ((cntN f ((lim + 1 - left) / k + left + 1) : Nat) : Int) - ((cntN f left : Nat) : Int)) (lim + 1) :=
        sumR_congr fun j hj => by
          rw [Nat.div_eq_of_lt (show lim - j < k by omega), Nat.div_eq_of_lt (show lim + 1 - j < k by omega)]
      rw [same]
      omega
    · rw [Nat.min_eq_left (by omega), Nat.min_eq_left (by omega)]
      have hlt : (lim + 1) % k < k := Nat.mod_lt _ (by omega)
      obtain ⟨l0, el0⟩ : ∃ l0, l0 = (lim + 1) % k := ⟨_, rfl⟩
      obtain ⟨q, eq⟩ : ∃ q, q = (lim + 1) / k := ⟨_, rfl⟩
      have de : lim + 1 = k * q + l0 := by rw [el0, eq]; exact (Nat.div_add_mod _ _).symm
      have q1 : 1 ≤ q := by rw [eq]; exact (Nat.le_div_iff_mul_le (by omega)).mpr (by omega)
      obtain ⟨q', rfl⟩ : ∃ q', q = q' + 1 := ⟨q - 1, by omega⟩
      have l0k : l0 < k := by rw [el0]; exact hlt
      have kq : k * (q' + 1) = k * q' + k := Nat.mul_succ k q'
      have d1 : (lim + 1 - l0) / k = q' + 1 := by
        rw [show lim + 1 - l0 = k * (q' + 1) by omega]
        exact Nat.mul_div_cancel_left _ (by omega)
      have d0 : (lim - l0) / k = q' := by
        rw [show lim - l0 = (k - 1) + k * q' by omega, Nat.add_mul_div_left _ _ (by omega), Nat.div_eq_of_lt (by omega), Nat.zero_add]
      have diff := sumR_one (g := fun left => ((cntN f ((lim + 1 - left) / k + left + 1) : Nat) : Int) - ((cntN f left : Nat) : Int)) (h := fun left => ((cntN f ((lim - left) / k + left + 1) : Nat) : Int) - ((cntN f left : Nat) : Int)) (i := l0) (n := k) l0k (fun j hj ne => by
        have e : (lim + 1 - j) / k = (lim - j) / k := by
          have hjl : j ≤ lim := by omega
          -- k doesn't divide lim + 1 - j
          have nd : (lim + 1 - j) % k ≠ 0 := fun z => by
            apply ne
            have m := Nat.div_add_mod (lim + 1 - j) k
            rw [z, Nat.add_zero] at m
            have e2 : lim + 1 = j + k * ((lim + 1 - j) / k) := by omega
            have : (lim + 1) % k = j := by rw [e2, Nat.add_mul_mod_self_left, Nat.mod_eq_of_lt hj]
            rw [el0, this]
          rw [show lim + 1 - j = (lim - j) + 1 by omega] at nd ⊢
          rw [Nat.succ_div]
          rw [if_neg (fun z => nd (Nat.mod_eq_zero_of_dvd z)), Nat.add_zero]
        show ((cntN f ((lim + 1 - j) / k + j + 1) : Nat) : Int) - _ = _
        rw [e])
      rw [diff]
      show _ = _ + ((((cntN f ((lim + 1 - l0) / k + l0 + 1) : Nat) : Int) - ((cntN f l0 : Nat) : Int)) - (((cntN f ((lim - l0) / k + l0 + 1) : Nat) : Int) - ((cntN f l0 : Nat) : Int)))
      rw [d1, d0]
      have eo : onceN (lim + 1) k = q' + 1 + l0 := by
        unfold onceN
        rw [← eq, ← el0]
      rw [eo, show q' + 1 + l0 + 1 = (q' + 1 + l0) + 1 from rfl, cntN_succ f (q' + 1 + l0), show q' + l0 + 1 = q' + 1 + l0 by omega]
      omega
end Sq
set_option Elab.async false
set_option linter.all false
set_option maxRecDepth 100000
set_option maxHeartbeats 4000000
/-! {e for a in xs for b in ys}, e an int: over the library's rules of the same with a list. -/
set_option Elab.async false
set_option linter.all false
set_option maxHeartbeats 1000000
/-! Choices counted: the longest run after a replacement, and how many choices are good. -/
namespace Sq
def la (L k : Int) : Int := if k > L then L else (L + 1) / k + k - 2
/-- 2, 3, .., g -/
def cand (g : Int) : List Int := (List.range (g - 1).toNat).map fun i : Nat => 2 + (i : Int)
def cnt (g : Int) : Nat → Int → Nat
  | 0, L => if L ≤ 1 then 1 else 0
  | n + 1, L => ((cand g).map fun k => cnt g n (la L k)).sum
end Sq
set_option Elab.async false
set_option linter.all false
set_option maxRecDepth 100000
set_option maxHeartbeats 1000000
/-! Walks with an open step; members without doubles; the lengths by place. -/
namespace Sq
open PySem PySem.Spec PyProof.Rows L2
/-! ### without doubles -/
def dd (vs : List Int) : List Int := vs.foldl (fun ds x => if x ∈ ds then ds else ds ++ [x]) []
/-! ### the lengths by place -/
structure Lens (n : Nat) (g L : Int) (i : Nat) (rows : List (List Int)) : Prop where
  len : rows.length = i + 1
  zero : rows[0]? = some [L]
  asc : ∀ (p : Nat) (r : List Int), rows[p]? = some r → r.Pairwise (· < ·)
  mem : ∀ (p : Nat) (r : List Int), rows[p]? = some r → ∀ x ∈ r, 0 ≤ x ∧ x ≤ L
  next : ∀ (p : Nat) (r r' : List Int), rows[p]? = some r → rows[p + 1]? = some r' → ∀ x, x ∈ r' ↔ (∃ l ∈ r, ∃ k, 2 ≤ k ∧ k ≤ g ∧ x = la l k) ∧ x ≤ up (n - (p + 1)) 1
  short : L < 63 ∨ ∀ (p : Nat) (r : List Int), rows[p]? = some r → r.length ≤ 6
theorem Lens.start {n : Nat} {g L : Int} (h0 : 0 ≤ L) : Lens n g L 0 [[L]] where
  len := rfl
  zero := rfl
  asc := fun p r e => by
    match p, e with
    | 0, e => cases e; exact List.pairwise_singleton _ _
  mem := fun p r e x hx => by
    match p, e with
    | 0, e =>
      cases e
      rw [List.mem_singleton.mp hx]
      exact ⟨h0, Int.le_refl _⟩
  next := fun p r r' e e' => by
    match p, e' with
    | 0, e' => cases e'
    | p + 1, e' => cases e'
  short := .inr fun p r e => by
    match p, e with
    | 0, e => cases e; exact (show 1 ≤ 6 by decide)
end Sq
set_option Elab.async false
set_option linter.all false
set_option maxRecDepth 100000
set_option maxHeartbeats 1000000
/-! A dict of limits, each with how often it counts: what it says of a length. -/
namespace Sq
open PySem PySem.Spec PyProof.Rows L2
/-! ### dicts from ints to ints -/
def kvZ (kz : List (Int × Int)) : List (Key × V) := kz.map fun p => (.inl p.1, .int p.2)
def getZ (kz : List (Int × Int)) (k : Int) : Int := ((kz.find? fun p => decide (p.1 = k)).map (·.2)).getD 0
def putZ (kz : List (Int × Int)) (k v : Int) : List (Int × Int) := if (kz.any fun p => decide (p.1 = k)) = true then kz.map (fun p => if p.1 = k then (p.1, v) else p) else kz ++ [(k, v)]
def addZ (kz : List (Int × Int)) (k d : Int) : List (Int × Int) := putZ kz k (getZ kz k + d)
def keysZ (kz : List (Int × Int)) : List Int := kz.map (·.1)
def one (b : Bool) : Int := if b = true then 1 else 0
def mZ (kz : List (Int × Int)) (L : Int) : Int := (kz.map fun p => p.2 * one (decide (L ≤ p.1))).sum
theorem valV_kvZ (k : Int) : ∀ kz : List (Int × Int), valV (kvZ kz) (.inl k) = (kz.find? fun p => decide (p.1 = k)).map fun p => V.int p.2
  | [] => rfl
  | p :: kz => by
    show valV ((.inl p.1, .int p.2) :: kvZ kz) (.inl k) = _
    by_cases c : p.1 = k
    · rw [valV_pos (by rw [c]), List.find?_cons_of_pos (by exact decide_eq_true c)]
      rfl
    · rw [valV_neg (by intro z; exact c (Sum.inl.inj z)), valV_kvZ k kz, List.find?_cons_of_neg (by intro z; exact c (of_decide_eq_true z))]
theorem get_kvZ (kz : List (Int × Int)) (k : Int) : (valV (kvZ kz) (.inl k)).getD (.int 0) = .int (getZ kz k) := by
  rw [valV_kvZ]
  unfold getZ
  cases kz.find? fun p => decide (p.1 = k) with
  | none => rfl
  | some p => rfl
theorem put_kvZ (kz : List (Int × Int)) (k v : Int) : putK (kvZ kz) (.inl k) (.int v) = kvZ (putZ kz k v) := by
  unfold putK putZ
  have e : (kvZ kz).any (fun kv => decide (kv.1 = (.inl k : Key))) = kz.any fun p => decide (p.1 = k) := by
    unfold kvZ
    rw [List.any_map]
    congr 1
    funext p
    show decide ((.inl p.1 : Key) = .inl k) = decide (p.1 = k)
    rw [decide_eq_decide]
    exact ⟨fun z => Sum.inl.inj z, fun z => by rw [z]⟩
  rw [e]
  by_cases c : (kz.any fun p => decide (p.1 = k)) = true
  · rw [if_pos c, if_pos c]
    unfold kvZ
    rw [List.map_map, List.map_map]
    apply List.map_congr_left
    intro p _
    show (if (.inl p.1 : Key) = .inl k then ((.inl p.1 : Key), V.int v) else (.inl p.1, .int p.2)) = ((.inl (if p.1 = k then (p.1, v) else p).1 : Key), V.int (if p.1 = k then (p.1, v) else p).2)
    by_cases e : p.1 = k
    · rw [if_pos (by rw [e]), if_pos e]
    · rw [if_neg (fun z => e (Sum.inl.inj z)), if_neg e]
  · rw [if_neg c, if_neg c]
    unfold kvZ
    rw [List.map_append]
    rfl
theorem keys_put (kz : List (Int × Int)) (k v : Int) : keysZ (putZ kz k v) = if k ∈ keysZ kz then keysZ kz else keysZ kz ++ [k] := by
  unfold putZ
  have e : (kz.any fun p => decide (p.1 = k)) = true ↔ k ∈ keysZ kz := by
    unfold keysZ
    rw [List.any_eq_true]
    constructor
    · rintro ⟨p, hp, h⟩
      exact List.mem_map.mpr ⟨p, hp, of_decide_eq_true h⟩
    · intro h
      obtain ⟨p, hp, e⟩ := List.mem_map.mp h
      exact ⟨p, hp, decide_eq_true e⟩
  by_cases c : (kz.any fun p => decide (p.1 = k)) = true
  · rw [if_pos c, if_pos (e.mp c)]
    unfold keysZ
    rw [List.map_map]
    apply List.map_congr_left
    intro p _
    show (if p.1 = k then (p.1, v) else p).1 = p.1
    split <;> rfl
  · rw [if_neg c, if_neg (fun z => c (e.mpr z))]
    unfold keysZ
    rw [List.map_append]
    rfl
theorem nodup_put {kz : List (Int × Int)} {k v : Int} (h : (keysZ kz).Nodup) : (keysZ (putZ kz k v)).Nodup := by
  rw [keys_put]
  split
  · exact h
  · rename_i n
    rw [List.nodup_append]
    refine ⟨h, by simp, fun a ha b hb => ?_⟩
    rw [List.mem_singleton.mp hb]
    intro z
    exact n (by rw [← z]; exact ha)
theorem mem_put {kz : List (Int × Int)} {k v x : Int} (h : x ∈ keysZ (putZ kz k v)) : x ∈ keysZ kz ∨ x = k := by
  rw [keys_put] at h
  split at h
  · exact .inl h
  · rcases List.mem_append.mp h with h | h
    · exact .inl h
    · exact .inr (List.mem_singleton.mp h)
theorem mZ_cons (p : Int × Int) (kz : List (Int × Int)) (L : Int) : mZ (p :: kz) L = p.2 * one (decide (L ≤ p.1)) + mZ kz L := by
  unfold mZ
  rw [List.map_cons, List.sum_cons]
/-- a key is told more or less often -/
theorem mZ_add : ∀ {kz : List (Int × Int)} (k d L : Int), (keysZ kz).Nodup → mZ (addZ kz k d) L = mZ kz L + d * one (decide (L ≤ k))
  | [], k, d, L, _ => by
    show mZ [(k, 0 + d)] L = mZ [] L + _
    rw [mZ_cons, Int.zero_add]
    show d * one (decide (L ≤ k)) + mZ [] L = _
    omega
  | p :: kz, k, d, L, h => by
    have hn : p.1 ∉ keysZ kz ∧ (keysZ kz).Nodup := List.nodup_cons.mp h
    unfold addZ
    by_cases c : p.1 = k
    · have eg : getZ (p :: kz) k = p.2 := by
        unfold getZ
        rw [List.find?_cons_of_pos (by exact decide_eq_true c)]
        rfl
      have ep : putZ (p :: kz) k (p.2 + d) = (p.1, p.2 + d) :: kz := by
        unfold putZ
        rw [if_pos (by rw [List.any_cons, decide_eq_true c]; rfl), List.map_cons, if_pos c]
        congr 1
        rw [List.map_congr_left (g := id)]
        · exact List.map_id _
        · intro q hq
          rw [if_neg]
          · rfl
          · intro z
            exact hn.1 (by rw [c, ← z]; exact List.mem_map.mpr ⟨q, hq, rfl⟩)
      rw [eg, ep, mZ_cons, mZ_cons]
      show (p.2 + d) * one (decide (L ≤ p.1)) + mZ kz L = _
      rw [Int.add_mul, c]
      omega
    · have eg : getZ (p :: kz) k = getZ kz k := by
        unfold getZ
        rw [List.find?_cons_of_neg (by intro z; exact c (of_decide_eq_true z))]
      have ep : putZ (p :: kz) k (getZ kz k + d) = p :: putZ kz k (getZ kz k + d) := by
        unfold putZ
        rw [List.any_cons, decide_eq_false c, Bool.false_or]
        split
        · rw [List.map_cons, if_neg c]
        · rfl
      have ih := mZ_add (kz := kz) k d L hn.2
      unfold addZ at ih
      rw [eg, ep, mZ_cons, ih, mZ_cons]
      omega
theorem mZ_filter : ∀ (kz : List (Int × Int)) (L : Int), mZ (kz.filter fun p => !decide (p.2 = 0)) L = mZ kz L
  | [], _ => rfl
  | p :: kz, L => by
    rw [mZ_cons]
    by_cases c : p.2 = 0
    · rw [List.filter_cons_of_neg (by rw [c]; decide), mZ_filter kz L, c, Int.zero_mul, Int.zero_add]
    · rw [List.filter_cons_of_pos (by simp [c]), mZ_cons, mZ_filter kz L]
/-! ### counts -/
theorem cnt_eq (L : Nat) : ∀ n : Nat, ((cntN (fun y => decide (y = L)) n : Nat) : Int) = one (decide (L < n))
  | 0 => rfl
  | n + 1 => by
    rw [cntN_succ, Int.natCast_add, cnt_eq L n]
    unfold one
    by_cases c : n = L
    · subst c
      simp
    · by_cases d : L < n
      · simp [c, d, Nat.lt_succ_of_lt d]
      · have : ¬ L < n + 1 := by omega
        simp [c, d, this]
theorem sumR_point (g : Nat → Bool) (v : Nat) : ∀ n : Nat, sumR (fun y => one (decide (v = y)) * one (g y)) n = if v < n then one (g v) else 0
  | 0 => rfl
  | n + 1 => by
    show sumR _ n + one (decide (v = n)) * one (g n) = _
    rw [sumR_point g v n]
    by_cases c : v = n
    · subst c
      rw [if_neg (Nat.lt_irrefl _), if_pos (Nat.lt_succ_self _), decide_eq_true rfl]
      show 0 + 1 * one (g v) = _
      omega
    · rw [decide_eq_false c]
      show _ + 0 * one (g n) = _
      rw [Int.zero_mul, Int.add_zero]
      by_cases d : v < n
      · rw [if_pos d, if_pos (Nat.lt_succ_of_lt d)]
      · rw [if_neg d, if_neg (by omega)]
theorem sumR_add {g h : Nat → Int} : ∀ n : Nat, sumR (fun y => g y + h y) n = sumR g n + sumR h n
  | 0 => rfl
  | n + 1 => by
    show sumR _ n + (g n + h n) = (sumR g n + g n) + (sumR h n + h n)
    rw [sumR_add n]
    omega
theorem sumR_mul {g : Nat → Int} (m : Int) : ∀ n : Nat, sumR (fun y => m * g y) n = m * sumR g n
  | 0 => by
    show (0 : Int) = m * 0
    rw [Int.mul_zero]
  | n + 1 => by
    show sumR _ n + m * g n = m * (sumR g n + g n)
    rw [sumR_mul m n, Int.mul_add]
/-- counted by what they become -/
theorem cnt_by (s : Nat → Nat) (g : Nat → Bool) (B : Nat) : ∀ n : Nat, (∀ x, x < n → s x < B) → ((cntN (fun x => g (s x)) n : Nat) : Int) = sumR (fun y => ((cntN (fun x => decide (s x = y)) n : Nat) : Int) * one (g y)) B
  | 0, _ => by
    have : ∀ B, sumR (fun y => (((0 : Nat)) : Int) * one (g y)) B = 0 := fun B => by
      induction B with
      | zero => rfl
      | succ B ih =>
        show sumR _ B + _ = 0
        rw [ih]
        show 0 + 0 * one (g B) = 0
        omega
    exact (this B).symm
  | n + 1, h => by
    rw [cntN_succ, Int.natCast_add, cnt_by s g B n fun x hx => h x (Nat.lt_succ_of_lt hx)]
    have e : sumR (fun y => ((cntN (fun x => decide (s x = y)) (n + 1) : Nat) : Int) * one (g y)) B = sumR (fun y => ((cntN (fun x => decide (s x = y)) n : Nat) : Int) * one (g y) + one (decide (s n = y)) * one (g y)) B :=
      sumR_congr fun y _ => by
        rw [cntN_succ, Int.natCast_add, Int.add_mul]
        congr 1
        by_cases c : s n = y
        · rw [decide_eq_true c]; rfl
        · rw [decide_eq_false c]; rfl
    rw [e, sumR_add, sumR_point, if_pos (h n (Nat.lt_succ_self n))]
    congr 1
    unfold one
    split <;> rfl
/-- up to a limit -/
theorem sumR_lim (g : Nat → Bool) (lim : Int) (h0 : -1 ≤ lim) : ∀ B : Nat, sumR (fun y => one (decide ((y : Int) ≤ lim)) * one (g y)) B = ((cntN g (min B (lim + 1).toNat) : Nat) : Int)
  | 0 => by
    rw [Nat.zero_min]
    rfl
  | B + 1 => by
    show sumR _ B + one (decide ((B : Int) ≤ lim)) * one (g B) = _
    rw [sumR_lim g lim h0 B]
    by_cases c : (B : Int) ≤ lim
    · rw [decide_eq_true c, Nat.min_eq_left (by omega), Nat.min_eq_left (by omega), cntN_succ, Int.natCast_add]
      congr 1
      show 1 * one (g B) = _
      rw [Int.one_mul]
      unfold one
      split <;> rfl
    · rw [decide_eq_false c, Nat.min_eq_right (by omega), Nat.min_eq_right (by omega)]
      show _ + 0 * one (g B) = _
      omega
/-- what the dict says of the lengths, summed -/
theorem mZ_sum (g : Nat → Bool) (B : Nat) : ∀ (kz : List (Int × Int)), (∀ p ∈ kz, -1 ≤ p.1 ∧ p.1 < (B : Int)) → sumR (fun y => mZ kz (y : Int) * one (g y)) B = (kz.map fun p => p.2 * ((cntN g (p.1 + 1).toNat : Nat) : Int)).sum
  | [], _ => by
    have : ∀ B, sumR (fun y : Nat => mZ [] (y : Int) * one (g y)) B = 0 := fun B => by
      induction B with
      | zero => rfl
      | succ B ih =>
        show sumR _ B + _ = 0
        rw [ih]
        show 0 + 0 * one (g B) = 0
        omega
    exact this B
  | p :: kz, h => by
    have hp := h p List.mem_cons_self
    rw [List.map_cons, List.sum_cons, ← mZ_sum g B kz fun q hq => h q (List.mem_cons_of_mem _ hq)]
    have e : sumR (fun y : Nat => mZ (p :: kz) (y : Int) * one (g y)) B = sumR (fun y : Nat => p.2 * (one (decide ((y : Int) ≤ p.1)) * one (g y)) + mZ kz (y : Int) * one (g y)) B :=
      sumR_congr fun y _ => by
        rw [mZ_cons, Int.add_mul, Int.mul_assoc]
    rw [e, sumR_add, sumR_mul, sumR_lim g p.1 hp.1, Nat.min_eq_right (by omega)]
end Sq
set_option Elab.async false
set_option linter.all false
set_option maxRecDepth 100000
set_option maxHeartbeats 1000000
/-! One replacement more: the next dict of limits. -/
namespace Sq
open PySem PySem.Spec PyProof.Rows L2
def sN (x : Nat) (ks : List Int) : Nat := ks.foldl (fun n k => onceN n k.toNat) x
theorem sN_app (x : Nat) (ks : List Int) (k : Int) : sN x (ks ++ [k]) = onceN (sN x ks) k.toNat := by
  unfold sN
  rw [List.foldl_append]
  rfl
theorem onceN_le (n : Nat) {k : Nat} (hk : 2 ≤ k) : onceN n k ≤ n := by
  unfold onceN
  have e := Nat.div_add_mod n k
  have : n / k ≤ k * (n / k) := Nat.le_mul_of_pos_left _ (by omega)
  omega
theorem sN_le : ∀ (ks : List Int) (x : Nat), (∀ k ∈ ks, 2 ≤ k) → sN x ks ≤ x
  | [], x, _ => Nat.le_refl _
  | k :: ks, x, h => by
    have hk := h k List.mem_cons_self
    have a := onceN_le x (k := k.toNat) (by omega)
    have b := sN_le ks (onceN x k.toNat) fun q hq => h q (List.mem_cons_of_mem _ hq)
    exact Nat.le_trans b a
/-! ### the steps -/
def lng (lim k : Int) (j : Nat) : Int := (lim - (j : Int)) / k + (j : Int)
def inn (kz : List (Int × Int)) (lim m k : Int) : Nat → List (Int × Int)
  | 0 => kz
  | j + 1 => addZ (addZ (inn kz lim m k j) (lng lim k j) m) ((j : Int) - 1) (-m)
def rng1 (lim k : Int) : Nat := (min k (lim + 1)).toNat
def outF (k : Int) (ls : List (Int × Int)) : List (Int × Int) := ls.foldl (fun acc p => inn acc p.1 p.2 k (rng1 p.1 k)) []
def nextZ (k : Int) (ls : List (Int × Int)) : List (Int × Int) := (outF k ls).filter fun p => !decide (p.2 = 0)
theorem inn_nd {kz : List (Int × Int)} {lim m k : Int} (h : (keysZ kz).Nodup) : ∀ j, (keysZ (inn kz lim m k j)).Nodup
  | 0 => h
  | j + 1 => nodup_put (nodup_put (inn_nd h j))
theorem inn_mem {kz : List (Int × Int)} {lim m k x : Int} : ∀ j, x ∈ keysZ (inn kz lim m k j) → x ∈ keysZ kz ∨ ∃ i, i < j ∧ (x = lng lim k i ∨ x = (i : Int) - 1)
  | 0, h => .inl h
  | j + 1, h => by
    rcases mem_put h with h | h
    · rcases mem_put h with h | h
      · rcases inn_mem j h with h | ⟨i, hi, h⟩
        · exact .inl h
        · exact .inr ⟨i, Nat.lt_succ_of_lt hi, h⟩
      · exact .inr ⟨j, Nat.lt_succ_self j, .inl h⟩
    · exact .inr ⟨j, Nat.lt_succ_self j, .inr h⟩
theorem inn_M {kz : List (Int × Int)} {lim m k : Int} (h : (keysZ kz).Nodup) (L : Int) : ∀ j, mZ (inn kz lim m k j) L = mZ kz L + m * sumR (fun i => one (decide (L ≤ lng lim k i)) - one (decide (L ≤ (i : Int) - 1))) j
  | 0 => by
    show mZ kz L = mZ kz L + m * 0
    omega
  | j + 1 => by
    have ih := inn_M (kz := kz) (lim := lim) (m := m) (k := k) h L j
    show mZ (addZ (addZ (inn kz lim m k j) (lng lim k j) m) ((j : Int) - 1) (-m)) L = _
    rw [mZ_add _ _ _ (show (keysZ (addZ (inn kz lim m k j) (lng lim k j) m)).Nodup from nodup_put (inn_nd h j)), mZ_add _ _ _ (inn_nd h j), ih]
    show _ = mZ kz L + m * (sumR _ j + (one (decide (L ≤ lng lim k j)) - one (decide (L ≤ (j : Int) - 1))))
    rw [Int.mul_add, Int.mul_sub, Int.neg_mul]
    omega
theorem out_nd (k : Int) : ∀ (ls acc : List (Int × Int)), (keysZ acc).Nodup → (keysZ (ls.foldl (fun acc p => inn acc p.1 p.2 k (rng1 p.1 k)) acc)).Nodup
  | [], acc, h => h
  | p :: ls, acc, h => out_nd k ls _ (inn_nd h _)
def tT (lim k L : Int) : Int := sumR (fun i => one (decide (L ≤ lng lim k i)) - one (decide (L ≤ (i : Int) - 1))) (rng1 lim k)
theorem out_M (k L : Int) : ∀ (ls acc : List (Int × Int)), (keysZ acc).Nodup → mZ (ls.foldl (fun acc p => inn acc p.1 p.2 k (rng1 p.1 k)) acc) L = mZ acc L + (ls.map fun p => p.2 * tT p.1 k L).sum
  | [], acc, h => by
    show mZ acc L = mZ acc L + 0
    omega
  | p :: ls, acc, h => by
    show mZ (ls.foldl _ (inn acc p.1 p.2 k (rng1 p.1 k))) L = _
    rw [out_M k L ls _ (inn_nd h _), inn_M h, List.map_cons, List.sum_cons]
    show _ + p.2 * tT p.1 k L + _ = _
    omega
theorem tT_cnt {lim k : Int} (hk : 2 ≤ k) (h0 : -1 ≤ lim) (L : Nat) : tT lim k (L : Int) = ((cntN (fun y => decide (onceN y k.toNat = L)) (lim + 1).toNat : Nat) : Int) := by
  obtain ⟨kn, rfl⟩ : ∃ kn : Nat, k = (kn : Int) := ⟨k.toNat, by omega⟩
  rw [Int.toNat_natCast]
  by_cases c : lim = -1
  · subst c
    unfold tT rng1
    have e : (min (kn : Int) (-1 + 1)).toNat = 0 := by omega
    rw [e]
    rfl
  · obtain ⟨ln, rfl⟩ : ∃ ln : Nat, lim = (ln : Int) := ⟨lim.toNat, by omega⟩
    rw [show ((ln : Int) + 1).toNat = ln + 1 by omega, cnt_once (fun y => decide (y = L)) (by omega) ln]
    unfold tT rng1
    rw [show (min (kn : Int) ((ln : Int) + 1)).toNat = min kn (ln + 1) by omega]
    refine sumR_congr fun j hj => ?_
    have hj1 : j ≤ ln := by
      have := Nat.lt_of_lt_of_le hj (Nat.min_le_right _ _)
      omega
    rw [cnt_eq, cnt_eq]
    have e1 : lng (ln : Int) (kn : Int) j = (((ln - j) / kn + j : Nat) : Int) := by
      unfold lng
      rw [Int.natCast_add, Int.natCast_ediv, Int.ofNat_sub hj1]
    rw [e1]
    have a : decide ((L : Int) ≤ (((ln - j) / kn + j : Nat) : Int)) = decide (L < (ln - j) / kn + j + 1) := decide_eq_decide.mpr (by omega)
    have b : decide ((L : Int) ≤ (j : Int) - 1) = decide (L < j) := decide_eq_decide.mpr (by omega)
    rw [a, b]
/-! ### where the limits stand -/
def Win (A x : Int) : Prop := (-1 ≤ x ∧ x ≤ 60) ∨ (A ≤ x ∧ x ≤ A + 62)
theorem win_len {A : Int} {xs : List Int} (nd : xs.Nodup) (h : ∀ x ∈ xs, Win A x) : xs.length ≤ 200 := by
  have sub : xs ⊆ ((List.range 62).map fun i : Nat => (i : Int) - 1) ++ ((List.range 63).map fun i : Nat => A + (i : Int)) := fun x hx => by
    rcases h x hx with ⟨a, b⟩ | ⟨a, b⟩
    · exact List.mem_append_left _ (List.mem_map.mpr ⟨(x + 1).toNat, List.mem_range.mpr (by omega), by omega⟩)
    · exact List.mem_append_right _ (List.mem_map.mpr ⟨(x - A).toNat, List.mem_range.mpr (by omega), by omega⟩)
  have := List.Nodup.length_le_of_subset nd sub
  rw [List.length_append, List.length_map, List.length_map, List.length_range, List.length_range] at this
  omega
theorem win_next {A lim k : Int} (hA : 0 ≤ A) (hk : 2 ≤ k) (h30 : k ≤ 30) (h : Win A lim) {i : Nat} (hi : i < rng1 lim k) : Win (A / k) (lng lim k i) ∧ Win (A / k) ((i : Int) - 1) := by
  unfold rng1 at hi
  have i1 : (i : Int) < k := by omega
  have i2 : (i : Int) ≤ lim := by omega
  refine ⟨?_, .inl ⟨by omega, by omega⟩⟩
  unfold lng
  have q0 : 0 ≤ (lim - (i : Int)) / k := Int.ediv_nonneg (by omega) (by omega)
  have em := Int.mul_ediv_add_emod (lim - (i : Int)) k
  have m0 := Int.emod_nonneg (lim - (i : Int)) (show k ≠ 0 by omega)
  have m1 := Int.emod_lt_of_pos (lim - (i : Int)) (show 0 < k by omega)
  obtain ⟨q, eq⟩ : ∃ q, q = (lim - (i : Int)) / k := ⟨_, rfl⟩
  rw [← eq] at q0 em ⊢
  have q2 : 2 * q ≤ k * q := Int.mul_le_mul_of_nonneg_right hk q0
  rcases h with ⟨a, b⟩ | ⟨a, b⟩
  · exact .inl ⟨by omega, by omega⟩
  · -- beside A / k
    have ea := Int.mul_ediv_add_emod A k
    have n0 := Int.emod_nonneg A (show k ≠ 0 by omega)
    have n1 := Int.emod_lt_of_pos A (show 0 < k by omega)
    have p0 : 0 ≤ A / k := Int.ediv_nonneg hA (by omega)
    obtain ⟨p, ep⟩ : ∃ p, p = A / k := ⟨_, rfl⟩
    rw [← ep] at ea p0 ⊢
    refine .inr ⟨?_, ?_⟩
    · -- p ≤ q + i
      have : k * p ≤ k * (q + (i : Int)) + (k - 1) := by
        have : (i : Int) ≤ k * (i : Int) := by
          have := Int.mul_le_mul_of_nonneg_right (show 1 ≤ k by omega) (show 0 ≤ (i : Int) by omega)
          omega
        rw [Int.mul_add]
        omega
      have lt : k * p < k * (q + (i : Int) + 1) := by
        rw [Int.mul_add, Int.mul_one]
        omega
      have := Int.lt_of_mul_lt_mul_left lt (by omega)
      omega
    · -- q + i ≤ p + 62
      have h1 : k * (q - p) ≤ 62 + k := by
        rw [Int.mul_sub]
        omega
      by_cases c : q - p ≤ 32
      · omega
      · have : 2 * (q - p) ≤ k * (q - p) := Int.mul_le_mul_of_nonneg_right hk (by omega)
        have : k * 33 ≤ k * (q - p) := Int.mul_le_mul_of_nonneg_left (by omega) (by omega)
        omega
/-- the dict of limits says of every length how many runs up to the last one have it after these replacements -/
structure LimOk (ks : List Int) (last : Nat) (kz : List (Int × Int)) : Prop where
  nd : (keysZ kz).Nodup
  win : ∃ A : Int, 0 ≤ A ∧ A ≤ (last : Int) ∧ ∀ x ∈ keysZ kz, Win A x
  tells : ∀ y : Nat, mZ kz (y : Int) = ((cntN (fun x => decide (sN x ks = y)) (last + 1) : Nat) : Int)
theorem lim_start (last : Nat) : LimOk [] last [((last : Int), 1)] := by
  refine ⟨by simp [keysZ], ⟨(last : Int), by omega, Int.le_refl _, fun x hx => ?_⟩, fun y => ?_⟩
  · have : x = (last : Int) := List.mem_singleton.mp hx
    rw [this]
    exact .inr ⟨Int.le_refl _, by omega⟩
  · rw [mZ_cons]
    show 1 * one (decide ((y : Int) ≤ (last : Int))) + 0 = _
    have e : (fun x => decide (sN x [] = y)) = fun x => decide (x = y) := rfl
    rw [e, cnt_eq, Int.one_mul, Int.add_zero]
    congr 1
    exact decide_eq_decide.mpr (by omega)
theorem outF_win {A k : Int} (hA : 0 ≤ A) (hk : 2 ≤ k) (h30 : k ≤ 30) : ∀ (ls acc : List (Int × Int)), (∀ x ∈ keysZ ls, Win A x) → (∀ x ∈ keysZ acc, Win (A / k) x) → ∀ x ∈ keysZ (ls.foldl (fun acc p => inn acc p.1 p.2 k (rng1 p.1 k)) acc), Win (A / k) x
  | [], acc, _, h => h
  | p :: ls, acc, hl, h => outF_win hA hk h30 ls _ (fun x hx => hl x (List.mem_cons_of_mem _ hx)) fun x hx => by
    rcases inn_mem _ hx with z | ⟨i, hi, z⟩
    · exact h x z
    · have w := win_next hA hk h30 (hl p.1 List.mem_cons_self) hi
      rcases z with z | z
      · rw [z]; exact w.1
      · rw [z]; exact w.2
theorem keys_filter {f : Int × Int → Bool} {kz : List (Int × Int)} {x : Int} (h : x ∈ keysZ (kz.filter f)) : x ∈ keysZ kz := by
  obtain ⟨p, hp, e⟩ := List.mem_map.mp h
  exact List.mem_map.mpr ⟨p, (List.mem_filter.mp hp).1, e⟩
theorem lim_next {ks : List Int} {last : Nat} {kz : List (Int × Int)} {k : Int} (S : LimOk ks last kz) (hks : ∀ x ∈ ks, 2 ≤ x) (hk : 2 ≤ k) (h30 : k ≤ 30) : LimOk (ks ++ [k]) last (nextZ k kz) := by
  obtain ⟨A, hA, hAl, win⟩ := S.win
  have nd0 : (keysZ []).Nodup := List.nodup_nil
  have w := outF_win hA hk h30 kz [] win (fun x hx => nomatch hx)
  refine ⟨?_, ⟨A / k, Int.ediv_nonneg hA (by omega), ?_, fun x hx => w x (keys_filter hx)⟩, fun L => ?_⟩
  · have n := out_nd k kz [] nd0
    unfold nextZ keysZ
    exact List.Nodup.sublist (List.Sublist.map _ List.filter_sublist) n
  · have := Int.ediv_le_self k hA
    omega
  · unfold nextZ
    rw [mZ_filter]
    show mZ (kz.foldl _ []) (L : Int) = _
    rw [out_M k (L : Int) kz [] nd0]
    show 0 + _ = _
    rw [Int.zero_add]
    have b : ∀ p ∈ kz, -1 ≤ p.1 ∧ p.1 < ((last + 100 : Nat) : Int) := fun p hp => by
      rcases win p.1 (List.mem_map.mpr ⟨p, hp, rfl⟩) with z | z <;> omega
    have e1 : (kz.map fun p => p.2 * tT p.1 k (L : Int)) = kz.map fun p => p.2 * ((cntN (fun y => decide (onceN y k.toNat = L)) (p.1 + 1).toNat : Nat) : Int) :=
      List.map_congr_left fun p hp => by rw [tT_cnt hk (b p hp).1]
    rw [e1, ← mZ_sum _ (last + 100) kz b]
    have e2 : (fun x => decide (sN x (ks ++ [k]) = L)) = fun x => (fun y => decide (onceN y k.toNat = L)) (sN x ks) := by
      funext x
      rw [sN_app]
    rw [e2, cnt_by (fun x => sN x ks) (fun y => decide (onceN y k.toNat = L)) (last + 100) (last + 1) fun x hx => by
      have := sN_le ks x hks
      omega]
    exact sumR_congr fun y _ => by rw [S.tells y]
end Sq
set_option Elab.async false
set_option linter.all false
set_option maxRecDepth 100000
set_option maxHeartbeats 1000000
/-! What is asked of the handled error in its suite, whatever its class. -/
set_option Elab.async false
set_option linter.all false
set_option maxRecDepth 100000
set_option maxHeartbeats 1000000
/-! A def that may raise, called where it doesn't; keywords of such a def. -/
set_option Elab.async false
set_option linter.all false
set_option maxRecDepth 100000
set_option maxHeartbeats 2000000
/-! Objects of an own class: made, their methods called, their properties read, where these may raise too. -/
set_option Elab.async false
set_option linter.all false
set_option maxRecDepth 100000
set_option maxHeartbeats 1000000
/-! a <= b <= c <= d as a test; the number of all origins. -/
set_option Elab.async false
set_option linter.all false
set_option maxRecDepth 100000
set_option maxHeartbeats 1000000
/-! The number of all origins, replacement by replacement. -/
namespace Sq
open PySem PySem.Spec PyProof.Rows L2
theorem pro_cons' (k : Int) (ks : List Int) : pro (k :: ks) = k * pro ks := by
  have := pro_app [k] ks
  rw [show [k] ++ ks = k :: ks from rfl] at this
  rw [this, show pro [k] = 1 * k from rfl, Int.one_mul]
end Sq
set_option Elab.async false
set_option linter.all false
set_option maxRecDepth 100000
set_option maxHeartbeats 1000000
/-! yield from a list. -/
namespace L2
open PySem PySem.Spec PyProof.Rows GenW
section
variable {prog : Program} {w : World} {A : Around} {E : Value → Shared → Prop} {s : Shared}
theorem special_lst_item {it l : Addr} {i : Nat} {items : Array Value} {x : Value} {Q : Option Value → Shared → Prop} (hit : s.heap.IsListIter it l i) (hl : s.heap.IsList l items) (hx : items[i]? = some x)
    (hQ : ∀ h', h'.IsListIter it l (i + 1) → Heap.SameBut it s.heap h' → Q (some x) { s with heap := h' }) : wpAny (model prog w) A (callSpecial? (.ref it) "__next__") Q E s := by
  obtain ⟨o, ho, hc, hd⟩ := id hit
  obtain ⟨ol, hol, _, nl, hdl⟩ := hl
  refine wpAny_callSpecial?_slot (name := Str.ofString "__next__") hit.typeIs slot_listiter_next (wpAny_call_entry slot_listiter_next hit.typeIs entry_listiter_next ?_ (args_listiter_next _))
  show wpAny _ _ (field (.ref it) 0 >>= _) _ _ s
  refine wpAny_bind (wpAny_field ho hd (x := .ref l) rfl ?_)
  show wpAny _ _ (if (Value.ref l == Value.none) = true then _ else _) _ _ s
  rw [if_neg (show ¬ ((Value.ref l == Value.none) = true) from Bool.false_ne_true)]
  show wpAny _ _ (field (.ref it) 1 >>= _) _ _ s
  refine wpAny_bind (wpAny_field ho hd (x := .int i 0) rfl ?_)
  show wpAny _ _ (seqItems? (.ref l) >>= _) _ _ s
  refine wpAny_bind (wpAny_seqItems hol hdl ?_)
  simp only [Int.toNat_natCast, hx]
  refine wpAny_bind (wpAny_setField ho hd (by simp) (wpAny_pure ⟨x, rfl, hQ _ ?_ (Heap.SameBut.update ..)⟩))
  exact ⟨_, Heap.get?_update_self _ ho (Obj.isFreed_of_fields (Obj.data_mapFields hd _)), (Obj.cls_mapFields ..).trans hc, by
    rw [Obj.data_mapFields hd]; simp [rawInt]⟩
theorem special_lst_end {it l : Addr} {i : Nat} {items : Array Value} {Q : Option Value → Shared → Prop} (hh : A.handled = none) (hit : s.heap.IsListIter it l i) (hl : s.heap.IsList l items) (hx : items[i]? = none)
    (hE : ∀ e h', StopX e h' → Heap.ExtBut it s.heap h' → E e { s with heap := h' }) : wpAny (model prog w) A (callSpecial? (.ref it) "__next__") Q E s := by
  obtain ⟨o, ho, hc, hd⟩ := id hit
  obtain ⟨ol, hol, _, nl, hdl⟩ := hl
  refine wpAny_callSpecial?_slot (name := Str.ofString "__next__") hit.typeIs slot_listiter_next (wpAny_call_entry slot_listiter_next hit.typeIs entry_listiter_next ?_ (args_listiter_next _))
  show wpAny _ _ (field (.ref it) 0 >>= _) _ _ s
  refine wpAny_bind (wpAny_field ho hd (x := .ref l) rfl ?_)
  show wpAny _ _ (if (Value.ref l == Value.none) = true then _ else _) _ _ s
  rw [if_neg (show ¬ ((Value.ref l == Value.none) = true) from Bool.false_ne_true)]
  show wpAny _ _ (field (.ref it) 1 >>= _) _ _ s
  refine wpAny_bind (wpAny_field ho hd (x := .int i 0) rfl ?_)
  show wpAny _ _ (seqItems? (.ref l) >>= _) _ _ s
  refine wpAny_bind (wpAny_seqItems hol hdl ?_)
  simp only [Int.toNat_natCast, hx]
  refine wpAny_bind (wpAny_rule (wpAny_bind (wpAny_setField ho hd (by simp) ?_)))
  show wpAny _ _ (newExc (.type "StopIteration") [] >>= _) _ _ _
  refine wpAny_bind ?_
  simp only [newExc, newTuple]
  refine wpAny_bind (wpAny_newObj_type ?_ (by size_fits))
  refine wpAny_bind (m := firstArgMember _ _) (wpAny_of_eq (a := Value.none) (by first | rfl | (simp only [firstArgMember]; rfl)) ?_)
  refine wpAny_newObj_type ?_ (by size_fits)
  simp only [raiseNew]
  refine wpAny_bind (wpAny_handled ?_)
  first | rw [show A.in1.handled = none from hh] | rw [hh]
  refine wpAny_bind (wpAny_pure (wpAny_throw ?_))
  refine hE _ _ ⟨_, _, _, rfl, Heap.get?_push_size _ rfl, rfl, rfl, ?_⟩ (((Heap.SameBut.update ..).extBut.push _).push _)
  first
    | rfl
    | (rw [Array.getElem?_append_left (by decide)]; rfl)
    | kernel_rfl
end
section
variable {X : Cx} {e : Expr} {te : TE}
theorem pi_listK {tg l : Expr} {K0 : PySem.W.Frag} {tl : TE} (hK : X.K = K0) (hl : PE X l tl) : PI X tg l (iList K0 tl) := by
  subst hK
  exact pi_list hl
theorem close_lst : typeLookup (.type "list_iterator") "close" = pure none := by rw [typeLookup_type, builtinLookup_eq_fast]; kernel_rfl
end
end L2
set_option Elab.async false
set_option linter.all false
set_option maxRecDepth 100000
set_option maxHeartbeats 1000000
/-! The origins, listed. -/
namespace Sq
open PySem PySem.Spec PyProof.Rows L2
def oneO (L k : Nat) : List Nat := (List.range (min k (L + 1))).map fun left => (L - left) * k + left
def orgs (L : Nat) (ks : List Int) : List Nat := ks.foldr (fun k fs => fs.flatMap fun a => oneO a k.toNat) [L]
theorem flat_len {k : Nat} : ∀ (fs : List Nat), (fs.flatMap fun a => oneO a k).length ≤ fs.length * k
  | [] => Nat.zero_le _
  | a :: fs => by
    rw [List.flatMap_cons, List.length_append, List.length_cons]
    have := flat_len (k := k) fs
    have e : (oneO a k).length ≤ k := by
      unfold oneO
      rw [List.length_map, List.length_range]
      exact Nat.min_le_left _ _
    rw [Nat.add_mul, Nat.one_mul]
    omega
theorem orgs_len {L : Nat} : ∀ {ks : List Int}, (∀ k ∈ ks, 2 ≤ k) → (((orgs L ks).length : Nat) : Int) ≤ pro ks
  | [], _ => Int.le_refl _
  | k :: ks, h => by
    have hk := h k List.mem_cons_self
    have ih := orgs_len (L := L) fun q hq => h q (List.mem_cons_of_mem _ hq)
    have f := flat_len (k := k.toNat) (orgs L ks)
    rw [pro_cons']
    show ((((orgs L ks).flatMap fun a => oneO a k.toNat).length : Nat) : Int) ≤ _
    have : (((orgs L ks).length * k.toNat : Nat) : Int) = ((orgs L ks).length : Int) * k := by
      rw [Int.natCast_mul, Int.toNat_of_nonneg (by omega)]
    have m : ((orgs L ks).length : Int) * k ≤ pro ks * k := Int.mul_le_mul_of_nonneg_right ih (by omega)
    rw [Int.mul_comm k]
    omega
/-! ### all the lengths -/
end Sq
set_option Elab.async false
set_option linter.all false
set_option maxHeartbeats 1000000
/-! The least run with more, from the last replacement to the first; reaches of parts; how great they grow. -/
namespace Sq
open L2
theorem rw1_grow {k R : Int} (hk : 2 ≤ k) (hR : 1 ≤ R) : rw1 k R + 3 ≤ (R + 3) * k := by
  have e : (R + 3) * 2 ≤ (R + 3) * k := Int.mul_le_mul_of_nonneg_left hk (by omega)
  unfold rw1
  by_cases d : k > R + 1
  · rw [if_pos d]
    omega
  · rw [if_neg d, Int.sub_mul]
    have : 2 * 2 ≤ k * k := Int.mul_le_mul hk hk (by decide) (by omega)
    omega
theorem rch_grow : ∀ (ks : List Int) (v B : Int), (∀ k ∈ ks, 2 ≤ k ∧ k ≤ B) → 1 ≤ v → rch ks v + 3 ≤ (v + 3) * B ^ ks.length
  | [], v, B, _, _ => by
    rw [show rch [] v = v from rfl, List.length_nil, Int.pow_zero]
    omega
  | k :: ks, v, B, h, hv => by
    have hk := h k (List.mem_cons_self ..)
    have ht : ∀ x ∈ ks, 2 ≤ x ∧ x ≤ B := fun x hx => h x (List.mem_cons_of_mem _ hx)
    have p := rch_pos ks v (fun x hx => (ht x hx).1) hv
    have ih := rch_grow ks v B ht hv
    have g := rw1_grow hk.1 p
    show rw1 k (rch ks v) + 3 ≤ (v + 3) * B ^ (ks.length + 1)
    rw [Int.pow_succ, ← Int.mul_assoc]
    have a : (rch ks v + 3) * k ≤ ((v + 3) * B ^ ks.length) * k := Int.mul_le_mul_of_nonneg_right ih (by omega)
    have b : ((v + 3) * B ^ ks.length) * k ≤ ((v + 3) * B ^ ks.length) * B := Int.mul_le_mul_of_nonneg_left hk.2 (by omega)
    omega
end Sq
set_option Elab.async false
set_option linter.all false
set_option maxHeartbeats 1000000
/-! Small numbers as texts. -/
set_option Elab.async false
set_option linter.all false
set_option maxHeartbeats 1000000
/-! Lists of replacements in the heap; slices of them. -/
namespace Sq
open PySem PySem.Spec PyProof.Rows L2
/-- replacements, not too great -/
def Rpl (ks : List Int) : Prop := ∀ k ∈ ks, 2 ≤ k ∧ k < 1073741824
theorem Rpl.low {ks : List Int} (h : Rpl ks) : lowAt ks = none := (lowAt_take ks ks.length (by rw [List.take_length]; exact fun k hk => (h k hk).1)).2 (Nat.le_refl _)
theorem Rpl.app {ks ls : List Int} (h : Rpl ks) (g : Rpl ls) : Rpl (ks ++ ls) := fun k hk => by
  rcases List.mem_append.mp hk with z | z
  · exact h k z
  · exact g k z
/-- a list of at most n replacements -/
def RL (H : Hp) (p : Addr) (n : Nat) : Prop := ∃ ks : List Int, H p = some (.lst (ks.map V.int)) ∧ ks.length ≤ n ∧ Rpl ks
theorem RL.same {H H' : Hp} {p : Addr} {n : Nat} (h : RL H p n) (s : Same H H') : RL H' p n := by
  obtain ⟨ks, g, l, r⟩ := h
  exact ⟨ks, s _ _ g, l, r⟩
end Sq
set_option Elab.async false
set_option linter.all false
set_option maxRecDepth 100000
set_option maxHeartbeats 1000000
/-! range(lo, hi) of ints of any size; order of lists; list(g(..)). -/
namespace L2
open PySem PySem.Spec PyProof.Rows
end L2
set_option Elab.async false
set_option linter.all false
set_option maxRecDepth 100000
set_option maxHeartbeats 1000000
set_option Elab.async false
set_option linter.all false
set_option maxRecDepth 100000
set_option maxHeartbeats 2000000
/-! Generators that live beside their consumer: what stands, seen from either side. -/
namespace Sq
open PySem PySem.Spec PyProof.Rows L2 GenW
/-! ### the heap up to an address -/
def cutH (h : Heap) (n : Nat) : Heap := { h with objs := (h.objs.toList.take n).toArray }
theorem cutH_at (h : Heap) (n b : Nat) : (cutH h n).objs[b]? = if b < n then h.objs[b]? else none := by
  unfold cutH
  rw [List.getElem?_toArray, List.getElem?_take, Array.getElem?_toList]
theorem cutH_get {h : Heap} {n b : Nat} {o : Obj} : (cutH h n).get? b = some o ↔ b < n ∧ h.get? b = some o := by
  unfold Heap.get?
  rw [cutH_at]
  by_cases c : b < n
  · rw [if_pos c]
    exact ⟨fun q => ⟨c, q⟩, fun q => q.2⟩
  · rw [if_neg c]
    exact ⟨fun q => (nomatch q), fun q => absurd q.1 c⟩
theorem cutH_size {h : Heap} {n : Nat} : (cutH h n).objs.size = min n h.objs.size := by
  unfold cutH
  simp
def cutS (s : Shared) (n : Nat) : Shared := { s with heap := cutH s.heap n }
theorem cutS_all {s : Shared} {n : Nat} (h : s.heap.objs.size ≤ n) : cutS s n = s := by
  unfold cutS cutH
  rw [List.take_of_length_le (by simpa using h)]
theorem frames_cut {h base : Heap} {n : Nat} : ∀ {l : List Env}, h.FunFrames base l → (∀ b ∈ frs l, b < n) → (cutH h n).FunFrames base l
  | [], _, _ => trivial
  | env :: l, q, low => by
    obtain ⟨hk, ⟨L, o, hf, hn, ho, hd⟩, hr⟩ := q
    have eL : frs (env :: l) = L :: frs l := by
      unfold frs
      rw [List.filterMap_cons, hf]
    rw [eL] at low
    exact ⟨hk, ⟨L, o, hf, hn, cutH_get.mpr ⟨low L List.mem_cons_self, ho⟩, hd⟩, frames_cut hr fun b hb => low b (List.mem_cons_of_mem _ hb)⟩
/-! ### what is kept out of sight -/
def HidO (b : Addr) (o : Obj) : HO := .ext fun h => h.get? b = some o
def hidP (prv : List Addr) (h : Heap) (H : Hp) : Hp := fun b => if b ∈ prv then (h.get? b).map (HidO b) else H b
def unh (prv : List Addr) (H : Hp) : Hp := fun b => if b ∈ prv then none else H b
theorem hidP_in {prv : List Addr} {h : Heap} {H : Hp} {b : Addr} {o : Obj} (m : b ∈ prv) (e : h.get? b = some o) : hidP prv h H b = some (HidO b o) := by
  unfold hidP
  rw [if_pos m, e]
  rfl
theorem hidP_out {prv : List Addr} {h : Heap} {H : Hp} {b : Addr} (m : b ∉ prv) : hidP prv h H b = H b := by
  unfold hidP
  rw [if_neg m]
theorem unh_in {prv : List Addr} {H : Hp} {b : Addr} (m : b ∈ prv) : unh prv H b = none := by
  unfold unh
  rw [if_pos m]
theorem unh_out {prv : List Addr} {H : Hp} {b : Addr} (m : b ∉ prv) : unh prv H b = H b := by
  unfold unh
  rw [if_neg m]
theorem hidP_same {prv : List Addr} {h : Heap} {H : Hp} (free : ∀ b ∈ prv, H b = none) : Same H (hidP prv h H) := fun b o e => by
  rw [hidP_out fun m => by rw [free b m] at e; cases e]
  exact e
theorem hid_ok {P : Program} {w : World} {prv : List Addr} {h : Heap} {H : Hp} (ok : HOk P w H h) (free : ∀ b ∈ prv, H b = none) : HOk P w (hidP prv h H) h := fun b u e => by
  have sm := hidP_same (h := h) free
  by_cases m : b ∈ prv
  · cases q : h.get? b with
    | none =>
      unfold hidP at e
      rw [if_pos m, q] at e
      cases e
    | some o =>
      rw [hidP_in m q] at e
      cases e
      exact ⟨q, ⟨o, q⟩, fun h1 h2 a k => k o a⟩
  · rw [hidP_out m] at e
    exact (ok b u e).stay (fun _ _ _ q => q) (fun c q => sm _ _ q) fun c xs q => sm _ _ q
theorem unh_ok {P : Program} {w : World} {prv : List Addr} {h : Heap} {H : Hp} (ok : HOk P w H h) (hid : ∀ b ∈ prv, ∃ φ, H b = some (.ext φ)) : HOk P w (unh prv H) h := fun b u e => by
  by_cases m : b ∈ prv
  · rw [unh_in m] at e
    cases e
  · rw [unh_out m] at e
    refine (ok b u e).stay (fun _ _ _ q => q) (fun c q => ?_) fun c xs q => ?_
    · rw [unh_out fun n => by obtain ⟨φ, z⟩ := hid c n; rw [q] at z; cases z]
      exact q
    · rw [unh_out fun n => by obtain ⟨φ, z⟩ := hid c n; rw [q] at z; cases z]
      exact q
section
variable {X : Cx} {pins : List (Addr × Obj)} {σ : L2.St} {H : Hp} {s : Shared}
theorem inv_unhid {prv : List Addr} (I : Inv X pins σ H s) (hid : ∀ b ∈ prv, ∃ φ, H b = some (.ext φ)) : Inv X pins σ (unh prv H) s := by
  have out : ∀ {b : Addr}, H b = none → unh prv H b = none := fun {b} e => by
    by_cases m : b ∈ prv
    · exact unh_in m
    · rw [unh_out m]
      exact e
  have keep : ∀ {b : Addr} {o : HO}, H b = some o → (∀ φ, o ≠ .ext φ) → unh prv H b = some o := fun {b o} e ne => by
    rw [unh_out fun m => by obtain ⟨φ, z⟩ := hid b m; rw [e] at z; exact ne φ (Option.some.inj z)]
    exact e
  refine ⟨I.ok, I.os, I.bare, ⟨fun b o e n => I.base.keep b o e n, fun b o e n => I.base.slot b o e n, fun b o e n hx => out (I.base.free b o e n hx), I.base.there, fun b xs q => keep (I.base.tups b xs q) (fun φ z => by cases z), fun b o u q => keep (I.base.frzs b o u q) (fun φ z => by cases z), fun b ps q => ?_⟩, I.loc, I.cell, out I.free, fun x c e => out (I.freeC x c e), fun p hp => ?_, unh_ok I.hok hid, I.len⟩
  · obtain ⟨more, e⟩ := I.base.tbls b ps q
    exact ⟨more, keep e (fun φ z => by cases z)⟩
  · obtain ⟨a, b, c, d, e⟩ := I.pin p hp
    exact ⟨a, out b, c, d, e⟩
/-- the generators' table may change -/
theorem inv_gens (I : Inv X pins σ H s) {s' : Shared} (hh : s'.heap = s.heap) (ho : s'.os = s.os) (hg : AllBare s'.gens) : Inv X pins σ H s' :=
  I.call' (ch := []) ho (by rw [hh]; exact Un.refl) (by rw [hh]; exact I.hok) hg fun b z => by simp at z
end
/-! ### an error leaves the generator -/
/-- what a frame's ground has of what stood before -/
theorem ground_ub {X : Cx} {pins : List (Addr × Obj)} {σ : L2.St} {H : Hp} {sI s' : Shared} {B : Heap} (I : Inv X pins σ H sI) (hex : X.ex = []) (nb : ∀ b o, sI.heap.get? b = some o → b ∉ frs X.stack → B.get? b = some o) (up : sI.heap.UpToSlots s'.heap) :
    (∀ h', s'.heap.UpToSlots h' → UB X.fs X.H_0 H X.s_0.heap B h') ∧ ∀ p ∈ X.pn, B.get? p.1 = some p.2 := by
  have none' : ∀ b, b ∉ X.ex := fun b z => by rw [hex] at z; cases z
  have old : ∀ b o, X.s_0.heap.get? b = some o → b ∉ X.fs → b ∉ frs X.stack := fun b o e nf m => by
    rcases List.mem_cons.mp (I.stkSub b m) with z | z
    · exact absurd (z ▸ Heap.lt_size e) (Nat.not_lt_of_le I.ok.above)
    · exact nf z
  refine ⟨fun h' up' => ⟨fun b o e n nf => nb b o (I.base.keep b o e n nf (none' b)) (old b o e nf), fun b o e hb => ?_, fun b o e n => I.base.free b o e n (none' b), fun b o e nf => ?_, I.base.tups, I.base.frzs, I.base.tbls⟩, fun p hp => ?_⟩
  · obtain ⟨_, o₀, e₀, plain⟩ := I.ok.funs.mem hb
    obtain rfl := Option.some.inj (e.symm.trans e₀)
    obtain ⟨_, e1⟩ := I.base.slot b o e (I.ok.frf b hb) hb (none' b)
    obtain ⟨_, e2⟩ := up b _ e1 plain
    exact (up' b _ e2 plain).imp fun _ e3 => e3
  · exact (I.base.there b o e (none' b)).imp fun o' e1 => nb b o' e1 (old b o e nf)
  · obtain ⟨e, _, nl, nf, _⟩ := I.pin p (List.mem_append_left _ hp)
    exact nb _ _ e fun m => (List.mem_cons.mp (I.stkSub p.1 m)).elim nl nf
theorem air_leaves {X : Cx} {W : WX} {E : XK} {s' : Shared} {E₁ : Value → Shared → Prop} {u : Value} (hs : X.stack = X.env :: X.outer) (hf : X.env.frame = some X.env.locals) (hex : X.ex = []) (hW : ∀ cls d σ H, W cls d σ H → E cls d H) (x : L2N.XE X W u s') :
    wpAny (model X.prog X.w) X.A (leaving X.env u) (fun _ s'' => L2N.CX X.prog X.w X.outer X.H_0 X.s_0 E u s'' ∧ ∀ p ∈ X.pn, s''.heap.get? p.1 = some p.2) E₁ s' := by
  obtain ⟨a, B, sI, pins, σ, H, cls, d, rfl, I, nb, up, sky, na, os, ag, w⟩ := x
  obtain ⟨ub, pinB⟩ := ground_ub I hex nb up
  have fin : ∀ h', HandSPX.FlyingZ B X.outer a (L2N.Zn cls d) h' → s'.heap.UpToSlots h' → L2N.CX X.prog X.w X.outer X.H_0 X.s_0 E (.ref a) { s' with heap := h' } ∧ ∀ p ∈ X.pn, h'.get? p.1 = some p.2 := fun h' fl up' =>
    ⟨⟨a, B, H, cls, d, rfl, fl, I.inGround nb, ub h' up', na, os.trans I.os, ag, hW _ _ _ _ w⟩, fun p hp => fl.1 _ _ (pinB p hp)⟩
  have fr : X.A.frames = some (X.env :: X.outer) := I.ok.frames.trans (congrArg some hs)
  rw [hs] at sky
  rcases sky with ⟨hB, hn, hl, oe, vs, he, hz, hd, h1⟩ | fl | held
  · exact PXN.leaving_firstZ L2N.Zn.steady fr hl hf he hB hn hd h1 hz fin
  · exact PXN.leaves_onZ L2N.Zn.steady fr hf fl fin
  · exact HandSPX.leaves_heldZ hf held fin
/-! ### the generator's context -/
def lcx (P : Program) (w : World) (K : PySem.W.Frag) (mg : Str → Option Value) (base : Heap) (N : List Str) (qual : Str) (scope : Scope) (f : Addr) (cd : Value) (A : Around) (outer : List Env) (n0 : Addr) (s0 : Shared) (H0 : Hp) (E : XK) (pn : List (Addr × Obj)) : Cx where
  prog := P
  w := w
  K := K
  mg := mg
  base := base
  A := A.deeper (envOfC qual scope n0 f cd)
  N := N
  s_0 := s0
  H_0 := H0
  env := envOfC qual scope n0 f cd
  outer := outer
  stack := envOfC qual scope n0 f cd :: outer
  ex := []
  calm := true
  fn := fun _ => true
  pn := pn
  xe := fun e s' => wpAny (model P w) (A.deeper (envOfC qual scope n0 f cd)) (leaving (envOfC qual scope n0 f cd) e) (fun _ s'' => L2N.CX P w outer H0 s0 E e s'' ∧ ∀ p ∈ pn, s''.heap.get? p.1 = some p.2) (fun _ _ => False) s'
theorem inv_lcx {P : Program} {w : World} {K : PySem.W.Frag} {mg : Str → Option Value} {base : Heap} {N : List Str} {qual : Str} {scope : Scope} {f : Addr} {cd : Value} {A : Around} {outer : List Env} {s s1 : Shared} {H H1 : Hp} {E : XK} {p : Addr × Obj} {σ : L2.St}
    (I : Inv (gcxOf P w K mg base N qual scope f cd A outer s H E [p]) [] σ H1 s1) : Inv (lcx P w K mg base N qual scope f cd A outer s.heap.objs.size s H E [p]) [] σ H1 s1 := I.toTry _
section
variable {P : Program} {w : World} {K : PySem.W.Frag} {mg : Str → Option Value} {base : Heap} {N : List Str} {qual : Str} {scope : Scope} {f : Addr} {cd : Value} {A : Around} {outer : List Env} {n0 : Addr} {s0 sb s1 s2 : Shared} {Hb H1 H2 : Hp} {E E' : XK} {pn ip : List (Addr × Obj)} {σ : L2.St}
theorem takes_lcx : L2N.Takes (lcx P w K mg base N qual scope f cd A outer n0 s0 Hb E pn) (fun cls d _ H' => E cls d H') := fun u s' x =>
  air_leaves (W := fun cls d _ H' => E cls d H') (E := E) rfl rfl rfl (fun _ _ _ _ h => h) x
theorem owns_lcx : PassesOwn (model P w) (lcx P w K mg base N qual scope f cd A outer n0 s0 Hb E pn).A (lcx P w K mg base N qual scope f cd A outer n0 s0 Hb E pn).env (lcx P w K mg base N qual scope f cd A outer n0 s0 Hb E pn).xe :=
  passes_of (X := lcx P w K mg base N qual scope f cd A outer n0 s0 Hb E pn) (K := fun e s'' => L2N.CX P w outer Hb s0 E e s'' ∧ ∀ p ∈ pn, s''.heap.get? p.1 = some p.2) (E₁ := fun _ _ => False) rfl
/-- what is the generator's alone: its frame, its cells, its own object, its iterators -/
def cellA (l : List (Str × Addr)) : List Addr := (l.map (·.1)).filterMap fun x => l.lookup x
theorem cellA_mem {l : List (Str × Addr)} {c : Addr} : c ∈ cellA l ↔ ∃ x, l.lookup x = some c := by
  unfold cellA
  rw [List.mem_filterMap]
  constructor
  · rintro ⟨x, _, e⟩
    exact ⟨x, e⟩
  · rintro ⟨x, e⟩
    exact ⟨x, List.mem_map.mpr ⟨(x, c), PySem.mem_of_lookup e, rfl⟩, e⟩
def prvOf (scope : Scope) (n0 : Addr) (pn ip : List (Addr × Obj)) : List Addr := n0 :: (cellA (cellsFrom (n0 + 1) scope.names []) ++ (pn ++ ip).map (·.1))
end
end Sq
set_option Elab.async false
set_option linter.all false
set_option maxRecDepth 100000
set_option maxHeartbeats 2000000
namespace Sq
open PySem PySem.Spec PyProof.Rows L2 GenW
section
variable {Xc : Cx} {N : List Str} {qual : Str} {scope : Scope} {f : Addr} {cd : Value} {A : Around} {n0 : Addr} {sb s1 s2 : Shared} {Hb H1 H2 : Hp} {E E' : XK} {pn ip pinsC : List (Addr × Obj)} {σ c c2 : L2.St}
abbrev gcx (Xc : Cx) (N : List Str) (qual : Str) (scope : Scope) (f : Addr) (cd : Value) (A : Around) (n0 : Addr) (s0 : Shared) (H0 : Hp) (E : XK) (pn : List (Addr × Obj)) : Cx := lcx Xc.prog Xc.w Xc.K Xc.mg Xc.base N qual scope f cd A Xc.stack n0 s0 H0 E pn
/-- what lies at n0 or above is none of the consumer's -/
structure Above (Xc : Cx) (pinsC : List (Addr × Obj)) (n0 : Addr) : Prop where
  young : Xc.s_0.heap.objs.size ≤ n0
  loc : Xc.env.locals < n0
  cell : ∀ x k, Xc.env.cells.lookup x = some k → k < n0
  pin : ∀ p ∈ Xc.pn ++ pinsC, p.1 < n0
  fr : ∀ b ∈ frs Xc.stack, b < n0
  base : Xc.base.objs.size ≤ n0
theorem above_of (I : Inv Xc pinsC c Hb sb) (h : sb.heap.objs.size ≤ n0) : Above Xc pinsC n0 := by
  have lo : ∀ {b : Addr} {o : Obj}, sb.heap.get? b = some o → b < n0 := fun e => Nat.lt_of_lt_of_le (Heap.lt_size e) h
  refine ⟨Nat.le_trans I.sz h, Nat.lt_of_lt_of_le I.lt h, fun x k e => ?_, fun p hp => lo (I.pin p hp).1, fun b hb => ?_, Nat.le_trans (Nat.le_trans I.ok.bsz I.sz) h⟩
  · obtain ⟨v, o, ho, _⟩ := I.cell x k e
    exact lo ho
  · obtain ⟨_, o, ho, _⟩ := I.stack.mem hb
    exact lo ho
theorem prv_there (I : Inv (gcx Xc N qual scope f cd A n0 (cutS sb n0) Hb E' pn) ip σ H1 s1) : ∀ b ∈ prvOf scope n0 pn ip, H1 b = none ∧ ∃ o, s1.heap.get? b = some o := fun b hb => by
  rcases List.mem_cons.mp hb with e | hb
  · subst e
    obtain ⟨m, ⟨o, es, ep, ho, _⟩, _⟩ := I.loc
    exact ⟨I.free, o, ho⟩
  · rcases List.mem_append.mp hb with hb | hb
    · obtain ⟨y, hy⟩ := cellA_mem.mp hb
      obtain ⟨v, o, ho, _⟩ := I.cell y b hy
      exact ⟨I.freeC y b hy, o, ho⟩
    · obtain ⟨p, hp, rfl⟩ := List.mem_map.mp hb
      obtain ⟨h1, h2, _⟩ := I.pin p hp
      exact ⟨h2, _, h1⟩
/-- the consumer, where the generator hands out -/
theorem live_out {prv : List Addr} (Ic : Inv Xc pinsC c Hb sb) (ab : Above Xc pinsC n0) (Ig : Inv (gcx Xc N qual scope f cd A n0 (cutS sb n0) Hb E' pn) ip σ H1 s1) (free : ∀ b ∈ prv, H1 b = none ∧ n0 ≤ b) : Inv Xc pinsC c (hidP prv s1.heap H1) s1 := by
  have sm : Same H1 (hidP prv s1.heap H1) := hidP_same fun b hb => (free b hb).1
  have low : ∀ {b : Addr} {o : Obj}, sb.heap.get? b = some o → b ∉ (List.range sb.heap.objs.size).filter (fun b => decide (n0 ≤ b)) → b < n0 := fun {b o} e nm => by
    by_cases lt : b < n0
    · exact lt
    · exact absurd (List.mem_filter.mpr ⟨List.mem_range.mpr (Heap.lt_size e), decide_eq_true (Nat.le_of_not_lt lt)⟩) nm
  have cut : ∀ {b : Addr} {o : Obj}, sb.heap.get? b = some o → b < n0 → (cutS sb n0).heap.get? b = some o := fun e lt => cutH_get.mpr ⟨lt, e⟩
  refine Ic.call' (ch := (List.range sb.heap.objs.size).filter fun b => decide (n0 ≤ b)) Ig.os ⟨fun b o e n nf hx => ?_, fun b o e n hf hx => ?_, fun b o e n hx => ?_, fun b o e hx => ?_, fun b xs e => ?_, fun b o u e => ?_, fun b ps e => ?_⟩ (hid_ok Ig.hok fun b hb => (free b hb).1) Ig.bare fun b hb => ?_
  · exact Ig.base.keep b o (cut e (low e hx)) n nf (List.not_mem_nil)
  · exact Ig.base.slot b o (cut e (low e hx)) n hf (List.not_mem_nil)
  · rw [hidP_out fun m => absurd (low e hx) (Nat.not_lt_of_le (free b m).2)]
    exact Ig.base.free b o (cut e (low e hx)) n (List.not_mem_nil)
  · exact Ig.base.there b o (cut e (low e hx)) (List.not_mem_nil)
  · exact sm _ _ (Ig.base.tups b xs e)
  · exact sm _ _ (Ig.base.frzs b o u e)
  · obtain ⟨more, q⟩ := Ig.base.tbls b ps e
    exact ⟨more, sm _ _ q⟩
  · have le : n0 ≤ b := of_decide_eq_true (List.mem_filter.mp hb).2
    refine ⟨.inr (Nat.le_trans ab.young le), Nat.ne_of_gt (Nat.lt_of_lt_of_le ab.loc le), fun x k e z => ?_, fun p hp z => ?_⟩
    · exact absurd z (Nat.ne_of_lt (Nat.lt_of_lt_of_le (ab.cell x k e) le))
    · exact absurd z (Nat.ne_of_lt (Nat.lt_of_lt_of_le (ab.pin p hp) le))
/-- the generator, where it is woken again -/
theorem live_in (Ic : Inv Xc pinsC c2 H2 s2) (ab : Above Xc pinsC n0) (le : n0 ≤ sb.heap.objs.size) (Ig : Inv (gcx Xc N qual scope f cd A n0 (cutS sb n0) Hb E' pn) ip σ H1 s1) (hid : ∀ b ∈ prvOf scope n0 pn ip, H2 b = hidP (prvOf scope n0 pn ip) s1.heap H1 b) :
    (∀ b ∈ prvOf scope n0 pn ip, ∃ φ, H2 b = some (.ext φ)) ∧ Inv (gcx Xc N qual scope f cd A n0 (cutS s2 n0) (unh (prvOf scope n0 pn ip) H2) E pn) ip σ (unh (prvOf scope n0 pn ip) H2) s2 := by
  have there := prv_there Ig
  have obj : ∀ b ∈ prvOf scope n0 pn ip, ∃ o, s1.heap.get? b = some o ∧ H2 b = some (HidO b o) := fun b hb => by
    obtain ⟨_, o, ho⟩ := there b hb
    exact ⟨o, ho, by rw [hid b hb, hidP_in hb ho]⟩
  have ext : ∀ b ∈ prvOf scope n0 pn ip, ∃ φ, H2 b = some (.ext φ) := fun b hb => by
    obtain ⟨o, _, e⟩ := obj b hb
    exact ⟨_, e⟩
  have keep : ∀ b ∈ prvOf scope n0 pn ip, ∀ o, s1.heap.get? b = some o → s2.heap.get? b = some o := fun b hb o e => by
    obtain ⟨o', e', q⟩ := obj b hb
    rw [e] at e'
    cases e'
    exact (Ic.hok b _ q).1
  have mL : n0 ∈ prvOf scope n0 pn ip := List.mem_cons_self
  have mC : ∀ x k, (cellsFrom (n0 + 1) scope.names []).lookup x = some k → k ∈ prvOf scope n0 pn ip := fun x k e => List.mem_cons_of_mem _ (List.mem_append_left _ (cellA_mem.mpr ⟨x, e⟩))
  have mP : ∀ p ∈ pn ++ ip, p.1 ∈ prvOf scope n0 pn ip := fun p hp => List.mem_cons_of_mem _ (List.mem_append_right _ (List.mem_map.mpr ⟨p, hp, rfl⟩))
  have out : ∀ {b : Addr}, H2 b = none → unh (prvOf scope n0 pn ip) H2 b = none := fun {b} e => by
    by_cases m : b ∈ prvOf scope n0 pn ip
    · exact unh_in m
    · rw [unh_out m]
      exact e
  refine ⟨ext, ⟨⟨Ig.ok.mod, Ig.ok.kind, Ig.ok.glob, Ig.ok.blt, ?_, Ig.ok.inj, Ig.ok.has, fun x k h e => ?_, Ig.ok.hd, Ig.ok.frames, Ig.ok.stk, fun b z => absurd z List.not_mem_nil, fun b o e => ?_, ?_, fun b o e => List.not_mem_nil, fun b z => absurd z List.not_mem_nil, frames_cut Ic.stack ab.fr, fun b hb => out (Ic.stkFree b hb)⟩,
    rfl, Ic.bare, Un.kept fun b u q => (cutH_get.mp q).2, ?_, fun x k e => ?_, unh_in mL, fun x k e => unh_in (mC x k e), fun p hp => ?_, unh_ok Ic.hok ext, Ig.len⟩⟩
  · show (cutH s2.heap n0).objs.size ≤ n0
    rw [cutH_size]
    exact Nat.min_le_left _ _
  · have q := Ig.ok.cab x k h e
    have q : (cutH sb.heap n0).objs.size ≤ k := q
    rw [cutH_size] at q
    rw [Nat.min_eq_left le] at q
    show (cutH s2.heap n0).objs.size ≤ k
    rw [cutH_size]
    exact Nat.le_trans (Nat.min_le_left _ _) q
  · obtain ⟨h1, h2⟩ := Ic.bs b o e
    exact ⟨cutH_get.mpr ⟨Nat.lt_of_lt_of_le (Heap.lt_size e) ab.base, h1⟩, out h2⟩
  · show Xc.base.objs.size ≤ (cutH s2.heap n0).objs.size
    rw [cutH_size]
    exact Nat.le_min.mpr ⟨ab.base, Nat.le_trans Ic.ok.bsz Ic.sz⟩
  · obtain ⟨m, ⟨o, es, ep, ho, r⟩, hl⟩ := Ig.loc
    refine ⟨m, ⟨o, es, ep, keep _ mL _ ho, r⟩, fun i x v h1 h2 h3 => ?_⟩
    obtain ⟨u, rv, lk⟩ := hl i x v h1 h2 h3
    refine ⟨u, rv, ?_⟩
    rcases lk with z | ⟨kd, k, e, o', ho', hd'⟩
    · exact .inl z
    · exact .inr ⟨kd, k, e, o', keep k (mC x k e) _ ho', hd'⟩
  · obtain ⟨v, o, ho, hd⟩ := Ig.cell x k e
    exact ⟨v, o, keep k (mC x k e) _ ho, hd⟩
  · obtain ⟨h1, _, h3, h4, h5⟩ := Ig.pin p hp
    exact ⟨keep _ (mP p hp) _ h1, unh_in (mP p hp), h3, h4, h5⟩
end
end Sq
set_option Elab.async false
set_option linter.all false
set_option maxRecDepth 100000
set_option maxHeartbeats 2000000
namespace Sq
open PySem PySem.Spec PyProof.Rows L2 GenW
/-- a generator and its consumer -/
structure Lv where
  Xc : Cx
  pinsC : List (Addr × Obj)
  N : List Str
  qual : Str
  scope : Scope
  f : Addr
  cd : Value
  A : Around
  n0 : Addr
  a : Addr
  go : Obj
  g : Nat
  E : XK
  sC : Shared
  HC : Hp
  tot : Nat
  M : Addr → Prop
  It : Nat → V → Hp → Prop
  J : Nat → L2.St → Hp → Prop
abbrev Lv.cx (L : Lv) (s0 : Shared) (H0 : Hp) (E : XK) : Cx := gcx L.Xc L.N L.qual L.scope L.f L.cd L.A L.n0 s0 H0 E [(L.a, L.go)]
abbrev Lv.prv (L : Lv) (ip : List (Addr × Obj)) : List Addr := prvOf L.scope L.n0 [(L.a, L.go)] ip
abbrev Lv.md (L : Lv) : Model := model L.Xc.prog L.Xc.w
structure Lv.Ok (L : Lv) : Prop where
  ab : Above L.Xc L.pinsC L.n0
  isG : ∀ h : Heap, h.get? L.a = some L.go → h.IsGen L.a L.g
  na : L.n0 ≤ L.a
/-- the consumer leaves what it doesn't own -/
def Kps (M : Addr → Prop) (x : V) (H1 H2 : Hp) : Prop := ∀ b o, H1 b = some o → ¬ M b → x ≠ .ref b → H2 b = some o
def Lv.Seat (L : Lv) (i : Nat) (Hb : Hp) (s0 : Shared) (E' : XK) : Prop := ∃ c sb, s0 = cutS sb L.n0 ∧ L.n0 ≤ sb.heap.objs.size ∧ Inv L.Xc L.pinsC c Hb sb ∧ L.J i c Hb ∧ ((i = 0 ∧ s0 = L.sC ∧ Hb = L.HC ∧ E' = L.E) ∨ E' = E0)
def Lv.Y (L : Lv) : Protocol := fun n s₀ v s kap => ∃ (i : Nat) (c : L2.St) (Hb H1 : Hp) (x : V) (ip : List (Addr × Obj)), n + 1 + i = L.tot ∧ L.J i c Hb ∧ Same Hb H1 ∧ L.It i x H1 ∧ RelV x v ∧ Inv L.Xc L.pinsC c (hidP (L.prv ip) s.heap H1) s ∧ (∀ b ∈ L.prv ip, H1 b = none ∧ ∃ o, s.heap.get? b = some o) ∧ s.heap.IsGen L.a L.g ∧
  ∀ s2 c2 H2, Inv L.Xc L.pinsC c2 H2 s2 → (∀ b ∈ L.prv ip, H2 b = hidP (L.prv ip) s.heap H1 b) → Kps L.M x H1 (unh (L.prv ip) H2) → L.J (i + 1) c2 (unh (L.prv ip) H2) → kap (.send .none) s2
def Lv.R (L : Lv) : GenEnd := fun n s₀ r s => ((r = .ok (.ret .none) ∨ r = .ok .next) ∧ ∃ c Hb H1, L.J L.tot c Hb ∧ Same Hb H1 ∧ Inv L.Xc L.pinsC c H1 s) ∨ ∃ e, r = .error e ∧ L2N.CX L.Xc.prog L.Xc.w L.Xc.stack L.HC L.sC L.E e s ∧ s.heap.IsGen L.a L.g
structure GEndL where
  nx : Nat → Hp → L2.St → Hp → Prop
  rt : Nat → Hp → VK
  bk : Nat → Hp → L2.St → Hp → Prop := fun _ _ _ _ => False
  ct : Nat → Hp → L2.St → Hp → Prop := fun _ _ _ _ => False
def GEndL.at (D : GEndL) (i : Nat) (Hb : Hp) : Ends := { nx := D.nx i Hb, rt := D.rt i Hb, bk := D.bk i Hb, ct := D.ct i Hb }
abbrev TGL := GEndL → Nat → Hp → L2.St → Hp → Prop
structure Lv.GC (L : Lv) (ip : List (Addr × Obj)) (c : Code) (fs : List Frame) (gd : Bool → Bool) : Prop where
  over : L.A.over c fs = L.A.deeper (envOfC L.qual L.scope L.n0 L.f L.cd)
  split : splitAtGen fs = none
  guard : fs.any Frame.guarded = false
  gd : gd false = false
  low : ∀ p ∈ ip, L.n0 ≤ p.1
structure Lv.GK (L : Lv) (ip : List (Addr × Obj)) (c : Code) (fs : List Frame) (Kf : Flow → Sem PySem.Fin) (Je : Value → Sem PySem.Fin) (D : GEndL) : Prop where
  ok : ∀ (n i : Nat) (s₀ s s0 : Shared) (E' : XK) (Hb : Hp) (fl : Flow), n + i = L.tot → L.Seat i Hb s0 E' → SP (L.cx s0 Hb E') ip (D.at i Hb) fl s → Seg L.md L.A L.R L.Y n s₀ c (Kf fl) fs s
  exc : ∀ (n i : Nat) (s₀ : Shared) (e : Value) (s s0 : Shared) (E' : XK) (Hb : Hp), L.Seat i Hb s0 E' → (L.cx s0 Hb E').xe e s → Seg L.md L.A L.R L.Y n s₀ c (Je e) fs s
structure GL (L : Lv) (st : Stmt) (t : TGL) : Prop where
  run : ∀ (ip : List (Addr × Obj)) (n i : Nat) (s₀ : Shared) (c : Code) (fs : List Frame) (Kf : Flow → Sem PySem.Fin) (Je : Value → Sem PySem.Fin) (gd : Bool → Bool) (lv : List Value → List Value) (s s0 : Shared) (E' : XK) (σ : L2.St) (Hb H : Hp) (D : GEndL),
    L.GC ip c fs gd → n + i = L.tot → L.GK ip c fs Kf Je D → L.Seat i Hb s0 E' → Inv (L.cx s0 Hb E') ip σ H s → t D i Hb σ H → Seg L.md L.A L.R L.Y n s₀ c ((exec st (envOfC L.qual L.scope L.n0 L.f L.cd)).wrap Kf Je gd lv) fs s
structure GLs (L : Lv) (st : List Stmt) (t : TGL) : Prop where
  run : ∀ (ip : List (Addr × Obj)) (n i : Nat) (s₀ : Shared) (c : Code) (fs : List Frame) (Kf : Flow → Sem PySem.Fin) (Je : Value → Sem PySem.Fin) (gd : Bool → Bool) (lv : List Value → List Value) (s s0 : Shared) (E' : XK) (σ : L2.St) (Hb H : Hp) (D : GEndL),
    L.GC ip c fs gd → n + i = L.tot → L.GK ip c fs Kf Je D → L.Seat i Hb s0 E' → Inv (L.cx s0 Hb E') ip σ H s → t D i Hb σ H → Seg L.md L.A L.R L.Y n s₀ c ((execs st (envOfC L.qual L.scope L.n0 L.f L.cd)).wrap Kf Je gd lv) fs s
section
variable {L : Lv} {st : Stmt} {rest : List Stmt}
def tLPlain (t : TS) : TGL := fun D i Hb σ H => t (D.at i Hb) σ H
theorem gl_ps {t : TS} (h : ∀ s0 Hb E', PS (L.cx s0 Hb E') st t) : GL L st (tLPlain t) := by
  refine ⟨fun ip n i s₀ c fs Kf Je gd lv s s0 E' σ Hb H D gc hn k seat I ht => ?_⟩
  refine seg_wrap ?_
  rw [gc.over]
  exact wpAny_mono ((h s0 Hb E').run ip s σ H (D.at i Hb) I ht) (fun fl s' hs => k.ok n i s₀ s' s0 E' Hb fl hn seat hs) fun x s' hx => k.exc n i s₀ x s' s0 E' Hb seat hx
def tL0 : TGL := fun D i Hb σ H => D.nx i Hb σ H
theorem gls_nil : GLs L [] tL0 :=
  ⟨fun ip n i s₀ c fs Kf Je gd lv s s0 E' σ Hb H D gc hn k seat I ht => seg_execs_nil (k.ok n i s₀ s s0 E' Hb .next hn seat ⟨σ, H, I, ht⟩)⟩
def tLThen (t u : TGL) : TGL := fun D i Hb σ H => t { D with nx := fun i' Hb' σ' H' => u D i' Hb' σ' H' } i Hb σ H
theorem gls_cons {t u : TGL} (a : GL L st t) (b : GLs L rest u) : GLs L (st :: rest) (tLThen t u) := by
  refine ⟨fun ip n i s₀ c fs Kf Je gd lv s s0 E' σ Hb H D gc hn k seat I ht => ?_⟩
  refine seg_execs_cons ?_
  refine a.run ip n i s₀ c fs _ Je gd lv s s0 E' σ Hb H { D with nx := fun i' Hb' σ' H' => u D i' Hb' σ' H' } gc hn ⟨fun n' i' s₀' s' s0' E2 Hb' fl hn' seat' hs => ?_, k.exc⟩ seat I ht
  match fl, hs with
  | .next, ⟨σ', H', I', q⟩ => exact b.run ip n' i' s₀' c fs Kf Je gd lv s' s0' E2 σ' Hb' H' D gc hn' k seat' I' q
  | .brk, hs => exact k.ok n' i' s₀' s' s0' E2 Hb' .brk hn' seat' hs
  | .cont, hs => exact k.ok n' i' s₀' s' s0' E2 Hb' .cont hn' seat' hs
  | .ret u, hs => exact k.ok n' i' s₀' s' s0' E2 Hb' (.ret u) hn' seat' hs
/-! ### yield -/
/-- what is handed out, and what stands when the generator is woken -/
def tLYield (L : Lv) (te : TE) : TGL := fun D i Hb σ H => i < L.tot ∧ te σ H fun x H1 => Same Hb H1 ∧ L.It i x H1 ∧ ∀ H2, Kps L.M x H1 H2 → D.nx (i + 1) H2 σ H2
theorem prv_above {L : Lv} (ok : L.Ok) {s0 : Shared} {Hb H : Hp} {E' : XK} {ip : List (Addr × Obj)} {σ : L2.St} {sb s : Shared} (le : L.n0 ≤ sb.heap.objs.size) (I : Inv (L.cx (cutS sb L.n0) Hb E') ip σ H s) (hip : ∀ p ∈ ip, L.n0 ≤ p.1) : ∀ b ∈ L.prv ip, H b = none ∧ L.n0 ≤ b := fun b hb => by
  refine ⟨(prv_there I b hb).1, ?_⟩
  rcases List.mem_cons.mp hb with e | hb
  · rw [e]
    exact Nat.le_refl _
  · rcases List.mem_append.mp hb with hb | hb
    · obtain ⟨x, hx⟩ := cellA_mem.mp hb
      have q : (cutH sb.heap L.n0).objs.size ≤ b := I.ok.cab x b rfl hx
      rw [cutH_size, Nat.min_eq_left le] at q
      exact q
    · obtain ⟨p, hp, rfl⟩ := List.mem_map.mp hb
      rcases List.mem_append.mp hp with hp | hp
      · rw [List.mem_singleton.mp hp]
        exact ok.na
      · exact hip p hp
/-- at a yield: what the consumer sees, and how it comes back -/
theorem live_turn {L : Lv} (ok : L.Ok) {n i : Nat} {s₀ s s0 : Shared} {E' : XK} {Hb H : Hp} {σ : L2.St} {ip : List (Addr × Obj)} {x : V} {v : Value} {kap : Resume → Shared → Prop} (hip : ∀ p ∈ ip, L.n0 ≤ p.1) (hn : n + 1 + i = L.tot) (seat : L.Seat i Hb s0 E') (I : Inv (L.cx s0 Hb E') ip σ H s) (rv : RelV x v)
    (sm : Same Hb H) (it : L.It i x H) (back : ∀ (s2 : Shared) (H2 : Hp), L.Seat (i + 1) H2 (cutS s2 L.n0) E0 → Inv (L.cx (cutS s2 L.n0) H2 E0) ip σ H2 s2 → Kps L.M x H H2 → kap (.send .none) s2) : L.Y n s₀ v s kap := by
  obtain ⟨c, sb, rfl, le, Ic, j, _⟩ := seat
  have ab := prv_above ok (s0 := cutS sb L.n0) le I hip
  refine ⟨i, c, Hb, H, x, ip, hn, j, sm, it, rv, live_out Ic ok.ab I ab, fun b hb => prv_there I b hb, ok.isG _ (I.pin (L.a, L.go) (List.mem_append_left _ (List.mem_singleton.mpr rfl))).1, fun s2 c2 H2 Ic2 hid kp j2 => ?_⟩
  obtain ⟨ext, I2⟩ := live_in (E := E0) Ic2 ok.ab le I hid
  have Iu := inv_unhid Ic2 ext
  have sz : L.n0 ≤ s2.heap.objs.size := Nat.le_of_lt I2.lt
  exact back s2 _ ⟨c2, s2, rfl, sz, Iu, j2, .inr rfl⟩ I2 kp
theorem gl_yield (ok : L.Ok) {e : Expr} {yp pos : Pos} {te : TE} (he : ∀ s0 Hb E', PE (L.cx s0 Hb E') e te) (hco : L.scope.isCoroutine = false) (hi : interactive (envOfC L.qual L.scope L.n0 L.f L.cd) = false := by rfl) : GL L (.Expr (.Yield (some e) yp) pos) (tLYield L te) := by
  refine ⟨fun ip n i s₀ c fs Kf Je gd lv s s0 E' σ Hb H D gc hn k seat I ht => ?_⟩
  obtain ⟨lt, ht⟩ := ht
  obtain ⟨n, rfl⟩ : ∃ m, n = m + 1 := ⟨n - 1, by omega⟩
  refine seg_Expr_Yield gc.split gc.gd gc.guard ?_ hco hi
  rw [gc.over]
  refine wpAny_mono ((he s0 Hb E').run ip s σ H _ I ht) (fun v s' hv => ?_) fun x s' hx => k.exc _ i s₀ x s' s0 E' Hb seat hx
  obtain ⟨x, H1, I1, rv, sm, it, nx⟩ := hv
  intro kap hk
  refine live_turn ok gc.low hn seat I1 rv sm it fun s2 H2 seat2 I2 kp => hk .none s2 ?_
  exact k.ok n (i + 1) s2 s2 (cutS s2 L.n0) E0 H2 .next (by omega) seat2 ⟨σ, H2, I2, nx H2 kp⟩
/-! ### for -/
def tLFor (wi : TI) (g : TG) (tb : TGL) : TGL := fun D i Hb σ H => wi σ H fun J' H1 => ∃ W : Nat → Nat → Nat → Hp → L2.St → Hp → Prop, (∃ m, W 0 m i Hb σ H1) ∧ ∀ j m i Hb σ H, W j m i Hb σ H →
  (J'.stop j H ∧ D.nx i Hb σ H) ∨ (J'.go j H ∧ ∃ Nw : Nat → Hp → L2.St → Hp → Prop, (∀ i' Hb' σ' H', Nw i' Hb' σ' H' → ∃ m', m' < m ∧ W (j + 1) m' i' Hb' σ' H') ∧ ∀ x H', J'.yld j H x H' → g x σ H' fun σ2 H2 => tb { D with nx := Nw, ct := Nw, bk := D.nx } i Hb σ2 H2)
theorem gl_for {tg iter : Expr} {body : List Stmt} {wi : TI} {g : TG} {tb : TGL} {pos : Pos} (hcalm : ∀ s0 Hb E', (L.cx s0 Hb E').calm = true) (hi : ∀ s0 Hb E', PI (L.cx s0 Hb E') tg iter wi) (hg : ∀ s0 Hb E', PG (L.cx s0 Hb E') tg g) (hb : GLs L body tb)
    (hs : ∀ x, foldedSetIterable iter (envOfC L.qual L.scope L.n0 L.f L.cd) x = pure x := by intro _; rfl) : GL L (.For tg iter body [] pos) (tLFor wi g tb) := by
  refine ⟨fun ip n i s₀ c fs Kf Je gd lv s s0 E' σ Hb H D gc hn k seat I ht => ?_⟩
  refine segFor ?_ hs
  rw [gc.over]
  refine wpAny_mono ((hi s0 Hb E').run ip s σ H _ I ht) (fun v s1 h1 => ?_) fun x s' hx => k.exc n i s₀ x s' s0 E' Hb seat hx
  refine wpAny_mono h1 (fun itv s2 h2 => ?_) fun x s' hx => k.exc n i s₀ x s' s0 E' Hb seat hx
  obtain ⟨it, fp, tn, J', H2, e, I2, T, st2, f2, W, ⟨m0, w0⟩, turn⟩ := h2
  subst e
  intro p
  have young : ∀ b ∈ fp, L.n0 ≤ b := fun b hb => by
    obtain ⟨c', sb, rfl, le, _⟩ := seat
    rcases (f2 b hb).2.2.2.1 with z | z
    · exact absurd z List.not_mem_nil
    · have z : (cutH sb.heap L.n0).objs.size ≤ b := z
      rw [cutH_size, Nat.min_eq_left le] at z
      exact z
  have over' : ∀ kk : Result → Sem PySem.Fin, L.A.over (.forLoop tg (.ref it) body [] (envOfC L.qual L.scope L.n0 L.f L.cd)) (.ret kk none (gd false) (lv []) c p [] :: fs) = L.A.deeper (envOfC L.qual L.scope L.n0 L.f L.cd) := fun kk => (over_loop rfl rfl).trans gc.over
  have fpk : ∀ {s0 : Shared} {Hb H' : Hp} {E' : XK} {i : Nat}, L.Seat i Hb s0 E' → (∀ b ∈ fp, H' b = none) → ∀ b ∈ fp, FpOk (L.cx s0 Hb E') ip H' b := fun {s0 Hb H' E' i} seat hn b hb => by
    obtain ⟨c', sb, rfl, le, _⟩ := seat
    obtain ⟨_, q1, q2, _, q4, q5⟩ := f2 b hb
    refine ⟨hn b hb, q1, q2, .inr ?_, q4, q5⟩
    show (cutH sb.heap L.n0).objs.size ≤ b
    rw [cutH_size]
    exact Nat.le_trans (Nat.min_le_left _ _) (young b hb)
  have loop : ∀ (m j n i : Nat) (s₀ s s0 : Shared) (E' : XK) (σ : L2.St) (Hb H : Hp), n + i = L.tot → W j m i Hb σ H → tn j s.heap → (∀ b ∈ fp, H b = none) → L.Seat i Hb s0 E' → Inv (L.cx s0 Hb E') ip σ H s →
      Seg L.md L.A L.R L.Y n s₀ (.forLoop tg (.ref it) body [] (envOfC L.qual L.scope L.n0 L.f L.cd)) (L.md.den (.forLoop tg (.ref it) body [] (envOfC L.qual L.scope L.n0 L.f L.cd)))
        (.ret (fun r => ((match r with | .ok f => (.pure f : Sem Flow) | .error e => .raise e).onRaise (cameBack (envOfC L.qual L.scope L.n0 L.f L.cd))).wrap Kf Je gd lv) none (gd false) (lv []) c p [] :: fs) s := by
    intro m
    induction m using Nat.strongRecOn with
    | ind m ih =>
      intro j n i s₀ s s0 E' σ Hb H hn w st fr seat I
      have back : ∀ (n i : Nat) (s₀ : Shared) (x : Value) (s' s0 : Shared) (E' : XK) (Hb : Hp), L.Seat i Hb s0 E' → cameBackBy L.md (L.A.deeper (envOfC L.qual L.scope L.n0 L.f L.cd)) (envOfC L.qual L.scope L.n0 L.f L.cd) (L.cx s0 Hb E').xe x s' → Seg L.md L.A L.R L.Y n s₀ c (((Sem.raise x : Sem Flow).onRaise (cameBack (envOfC L.qual L.scope L.n0 L.f L.cd))).wrap Kf Je gd lv) fs s' := fun n i s₀ x s' s0 E' Hb seat h => by
        show Seg _ _ _ _ _ _ _ (((cameBack (envOfC L.qual L.scope L.n0 L.f L.cd) x).bind fun _ => (Sem.raise x : Sem Flow)).wrap Kf Je gd lv) _ _
        rw [Sem.bind_eq_wrap, Sem.wrap_wrap]
        refine seg_wrap ?_
        rw [gc.over]
        exact wpAny_mono h (fun _ s' hx => k.exc n i s₀ x s' s0 E' Hb seat hx) fun y s' hx => k.exc n i s₀ y s' s0 E' Hb seat hx
      have ee : ∀ (n i : Nat) (s₀ : Shared) (x : Value) (s' s0 : Shared) (E' : XK) (Hb : Hp), L.Seat i Hb s0 E' → (L.cx s0 Hb E').xe x s' → Seg L.md L.A L.R L.Y n s₀ (.forLoop tg (.ref it) body [] (envOfC L.qual L.scope L.n0 L.f L.cd))
          ((do noteFrame x (envOfC L.qual L.scope L.n0 L.f L.cd); theTreesLotGoes x : Sem Unit).wrap (fun _ => .raise x) .raise id id)
          (.ret (fun r => ((match r with | .ok f => (.pure f : Sem Flow) | .error e => .raise e).onRaise (cameBack (envOfC L.qual L.scope L.n0 L.f L.cd))).wrap Kf Je gd lv) none (gd false) (lv []) c p [] :: fs) s' := fun n i s₀ x s' s0 E' Hb seat hx => by
        refine seg_wrap ?_
        rw [over']
        refine wpAny_bind (wpAny_mono (owns_lcx x s' hx) (fun _ s'' hcb => wpAny_theTreesLotGoes ?_) fun y s'' hcb => ?_)
        · exact seg_leaf (.error x) (back n i s₀ x s'' s0 E' Hb seat hcb)
        · exact seg_leaf (.error y) (back n i s₀ y s'' s0 E' Hb seat hcb)
      refine segForLoop ?_
      rw [over']
      rcases turn j m i Hb σ H w with ⟨stop, qn⟩ | ⟨go, Nw, hN, step⟩
      · refine wpAny_mono (T.done (L.cx s0 Hb E') rfl rfl rfl (hcalm s0 Hb E') j _ s σ H (L.cx s0 Hb E').xe I (fpk seat fr) st stop) (fun rr s4 hh => ?_) fun x s' hx => ee n i s₀ x s' s0 E' Hb seat hx
        obtain ⟨hr, I4⟩ := hh
        subst hr
        refine seg_again rfl (segBlockNil ?_)
        exact seg_leaf (.ok .next) (k.ok n i s₀ s4 s0 E' Hb .next hn seat ⟨σ, H, I4, qn⟩)
      · refine wpAny_mono (T.item (L.cx s0 Hb E') rfl rfl rfl (hcalm s0 Hb E') j _ s σ H (L.cx s0 Hb E').xe I (fpk seat fr) st go) (fun rr s4 hh => ?_) fun x s' hx => ee n i s₀ x s' s0 E' Hb seat hx
        obtain ⟨u, hr, h4⟩ := hh
        subst hr
        refine wpAny_mono h4 (fun _ s5 hh => ?_) fun x s' hx => ee n i s₀ x s' s0 E' Hb seat hx
        obtain ⟨x, H5, I5, r5, y5, st5, fr5⟩ := hh
        have I5' := I5.pinned (fpk seat fr5) (T.obj _ _ st5)
        refine wpAny_mono ((hg s0 Hb E').run _ s5 σ H5 x u _ I5' r5 (step x H5 y5)) (fun _ s6 hh => ?_) fun x s' hx => ee n i s₀ x s' s0 E' Hb seat hx
        obtain ⟨σ6, H6, I6, q6⟩ := hh
        have gm : L.GC (ip ++ pinsAt fp s5.heap) (.forLoop tg (.ref it) body [] (envOfC L.qual L.scope L.n0 L.f L.cd)) (.ret (fun r => ((match r with | .ok f => (.pure f : Sem Flow) | .error e => .raise e).onRaise (cameBack (envOfC L.qual L.scope L.n0 L.f L.cd))).wrap Kf Je gd lv) none (gd false) (lv []) c p [] :: fs) id := by
          refine ⟨over' _, ?_, ?_, rfl, fun q hq => ?_⟩
          · show (splitAtGen fs).map _ = none
            rw [gc.split]
            rfl
          · show (gd false || fs.any Frame.guarded) = false
            rw [gc.gd, gc.guard]
            rfl
          · rcases List.mem_append.mp hq with z | z
            · exact gc.low q z
            · exact young q.1 (of_pinsAt z).1
        have again : ∀ {n' i' : Nat} {s₀' s7 s0' : Shared} {E2 : XK} {σ7 : L2.St} {Hb7 H7 : Hp}, n' + i' = L.tot → L.Seat i' Hb7 s0' E2 → Inv (L.cx s0' Hb7 E2) (ip ++ pinsAt fp s5.heap) σ7 H7 s7 → Nw i' Hb7 σ7 H7 →
            Seg L.md L.A L.R L.Y n' s₀' (.forLoop tg (.ref it) body [] (envOfC L.qual L.scope L.n0 L.f L.cd)) (.pure (.again (.forLoop tg (.ref it) body [] (envOfC L.qual L.scope L.n0 L.f L.cd))))
              (.ret (fun r => ((match r with | .ok f => (.pure f : Sem Flow) | .error e => .raise e).onRaise (cameBack (envOfC L.qual L.scope L.n0 L.f L.cd))).wrap Kf Je gd lv) none (gd false) (lv []) c p [] :: fs) s7 := fun {n' i' s₀' s7 s0' E2 σ7 Hb7 H7} hn' seat' I7 n7 => by
          obtain ⟨m', hm, w7⟩ := hN i' Hb7 σ7 H7 n7
          have pz : ∀ b ∈ fp, ∀ o, s5.heap.get? b = some o → s7.heap.get? b = some o ∧ H7 b = none := fun b hb o e => by
            have z := I7.pin (b, o) (List.mem_append_right _ (List.mem_append_right _ (mem_pinsAt hb e)))
            exact ⟨z.1, z.2.1⟩
          refine seg_again rfl (ih m' hm (j + 1) n' i' s₀' s7 s0' E2 σ7 Hb7 H7 hn' w7 (T.keep _ _ _ st5 fun b hb o e => (pz b hb o e).1) (fun b hb => ?_) seat' I7.unpinned)
          obtain ⟨o, e, d⟩ := T.obj _ _ st5 b hb
          exact (pz b hb o e).2
        refine hb.run (ip ++ pinsAt fp s5.heap) n i s₀ _ _ _ _ id id s6 s0 E' σ6 Hb H6 { D with nx := Nw, ct := Nw, bk := D.nx } gm hn ⟨fun n' i' s₀' s3 s0' E2 Hb' fl hn' seat' hs => ?_, fun n' i' s₀' x s3 s0' E2 Hb' seat' hx => ee n' i' s₀' x s3 s0' E2 Hb' seat' hx⟩ seat I6 q6
        match fl, hs with
        | .next, ⟨σ3, H3, I3, n3⟩ => exact again hn' seat' I3 n3
        | .cont, ⟨σ3, H3, I3, n3⟩ => exact again hn' seat' I3 n3
        | .brk, ⟨σ3, H3, I3, n3⟩ => exact seg_leaf (.ok .next) (k.ok n' i' s₀' s3 s0' E2 Hb' .next hn' seat' ⟨σ3, H3, I3.unpinned, n3⟩)
        | .ret v, ⟨x3, σ3, H3, I3, r3, n3⟩ => exact seg_leaf (.ok (.ret v)) (k.ok n' i' s₀' s3 s0' E2 Hb' (.ret v) hn' seat' ⟨x3, σ3, H3, I3.unpinned, r3, n3⟩)
  exact loop m0 0 n i s₀ s2 s0 E' σ Hb H2 hn w0 st2 (fun b hb => (f2 b hb).1) seat I2
end
end Sq
set_option Elab.async false
set_option linter.all false
set_option maxRecDepth 100000
set_option maxHeartbeats 2000000
namespace Sq
open PySem PySem.Spec PyProof.Rows L2 GenW
section
variable {L : Lv}
/-! ### yield from a list -/
def tLYf (L : Lv) (te : TE) : TGL := fun D i Hb σ H => te σ H fun x H1 => ∃ (a : Addr) (xs : List V), x = .ref a ∧ Same Hb H1 ∧ i + xs.length ≤ L.tot ∧ ∃ Pv : Nat → Hp → Prop, Pv 0 H1 ∧ (∀ j H, j ≤ xs.length → Pv j H → H a = some (.lst xs)) ∧
  (∀ j H x, xs[j]? = some x → Pv j H → L.It (i + j) x H ∧ ∀ H2, Kps L.M x H H2 → Pv (j + 1) H2) ∧ ∀ Hb' H, Pv xs.length H → Same Hb' H → D.nx (i + xs.length) Hb' σ H
theorem segYf (ok : L.Ok) {ip : List (Addr × Obj)} {fs : List Frame} {it a : Addr} {xs : List V} {σ : L2.St} {i0 : Nat} {Pv : Nat → Hp → Prop} (low : ∀ p ∈ ip, L.n0 ≤ p.1) (young : L.n0 ≤ it) (nL : it ≠ L.n0) (nC : ∀ x c, (cellsFrom (L.n0 + 1) L.scope.names []).lookup x = some c → c ≠ it) (nP : ∀ p ∈ [(L.a, L.go)] ++ ip, p.1 ≠ it) (nF : it ∉ frs L.Xc.stack) (nA : a ≠ it)
    (calm : (L.A.over (.builtin "proto.yield_from" ⟨[.ref it, .bool false, .none], []⟩) fs).handled = none) (sp : splitAtGen fs = none) (gd : fs.any Frame.guarded = false) (room : i0 + xs.length ≤ L.tot)
    (lst : ∀ j H, j ≤ xs.length → Pv j H → H a = some (.lst xs)) (step : ∀ j H x, xs[j]? = some x → Pv j H → L.It (i0 + j) x H ∧ ∀ H2, Kps L.M x H H2 → Pv (j + 1) H2)
    (fin : ∀ (n : Nat) (s₀ s s0 : Shared) (E' : XK) (Hb H : Hp), n + (i0 + xs.length) = L.tot → L.Seat (i0 + xs.length) Hb s0 E' → Same Hb H → Inv (L.cx s0 Hb E') ip σ H s → Pv xs.length H → Seg L.md L.A L.R L.Y n s₀ (.builtin "proto.yield_from" ⟨[.ref it, .bool false, .none], []⟩) (.pure (.done (.ret .none))) fs s) :
    ∀ (r j n : Nat) (s₀ s s0 : Shared) (E' : XK) (Hb H : Hp), j + r = xs.length → n + (i0 + j) = L.tot → L.Seat (i0 + j) Hb s0 E' → Same Hb H → Inv (L.cx s0 Hb E') ip σ H s → H it = none → s.heap.IsListIter it a j → Pv j H →
      Seg L.md L.A L.R L.Y n s₀ (.builtin "proto.yield_from" ⟨[.ref it, .bool false, .none], []⟩) (L.md.den (.builtin "proto.yield_from" ⟨[.ref it, .bool false, .none], []⟩)) fs s := by
  have turned : ∀ {s s0 : Shared} {E' : XK} {Hb H : Hp} {i : Nat} {h' : Heap} {tk : Nat}, L.Seat i Hb s0 E' → H it = none → Inv (L.cx s0 Hb E') ip σ H s → (∀ b o, b ≠ it → s.heap.get? b = some o → h'.get? b = some o) → Inv (L.cx s0 Hb E') ip σ H { s with heap := h', toks := tk } := fun {s s0 E' Hb H i h' tk} seat hn I hk => by
    obtain ⟨c', sb, rfl, le, _⟩ := seat
    refine I.turned (it := it) hk hn nL (.inr ?_) nC nP
    show (cutH sb.heap L.n0).objs.size ≤ it
    rw [cutH_size]
    exact Nat.le_trans (Nat.min_le_left _ _) young
  intro r
  induction r with
  | zero =>
    intro j n s₀ s s0 E' Hb H hj hn seat sm I hit isL pv
    obtain rfl : j = xs.length := by omega
    obtain ⟨_, its, _, rits, hl⟩ := I.hok a _ (lst _ _ (Nat.le_refl _) pv)
    have isl : s.heap.IsList a its.toArray := ⟨_, hl, rfl, _, rfl⟩
    have none' : its.toArray[xs.length]? = none := by
      have e := rits.length
      have e2 : its[xs.length]? = none := List.getElem?_eq_none_iff.mpr (by omega)
      simpa using e2
    rw [show L.md.den _ = _ from den_yf (X := L.Xc)]
    unfold Builtin.«proto.yield_from»
    try dsimp only
    refine seg_bind (wpAny_pure ?_)
    try dsimp only
    refine seg_bind (wpAny_attempt (wpAny_holding ?_))
    rw [if_neg Bool.false_ne_true, if_pos (show (Value.none == Value.none) = true from rfl)]
    refine wpAny_bind (wpAny_rule (wpAny_bind ?_))
    refine special_lst_end calm isL isl none' fun e h' hS hk => ?_
    obtain ⟨ae, oe, vs, rfl, hoe, hce, hde, h5⟩ := hS
    try dsimp only
    refine seg_bind (wpAny_endsTurn hoe hce ?_)
    try dsimp only
    rw [if_pos rfl]
    first
      | refine seg_bind (wpAny_rule ?_)
      | (rw [if_neg Bool.false_ne_true]; refine seg_bind (wpAny_rule ?_))
      | (rw [if_neg Bool.false_ne_true]; refine seg_bind (wpAny_pure ?_); refine seg_bind (wpAny_rule ?_))
    refine seg_bind (wpAny_field hoe hde h5 ?_)
    exact fin n s₀ _ s0 E' Hb H hn seat sm (turned (tk := s.toks) seat hit I fun b o hb eb => hk b o hb eb) pv
  | succ r ih =>
    intro j n s₀ s s0 E' Hb H hj hn seat sm I hit isL pv
    have lt : j < xs.length := by omega
    obtain ⟨x, hx⟩ : ∃ x, xs[j]? = some x := ⟨_, List.getElem?_eq_getElem lt⟩
    obtain ⟨iti, nxt⟩ := step j H x hx pv
    obtain ⟨_, its, _, rits, hl⟩ := I.hok a _ (lst _ _ (Nat.le_of_lt lt) pv)
    have isl : s.heap.IsList a its.toArray := ⟨_, hl, rfl, _, rfl⟩
    obtain ⟨u, hu, ru⟩ := rits.get hx
    have lb : i0 + j < L.tot := by omega
    obtain ⟨n, rfl⟩ : ∃ m, n = m + 1 := ⟨n - 1, by omega⟩
    rw [show L.md.den _ = _ from den_yf (X := L.Xc)]
    unfold Builtin.«proto.yield_from»
    try dsimp only
    refine seg_bind (wpAny_pure ?_)
    try dsimp only
    refine seg_bind (wpAny_attempt (wpAny_holding ?_))
    rw [if_neg Bool.false_ne_true, if_pos (show (Value.none == Value.none) = true from rfl)]
    refine wpAny_bind (wpAny_rule (wpAny_bind ?_))
    refine special_lst_item isL isl (x := u) (by simpa using hu) fun h' isL' hs => ?_
    have I' := turned (tk := s.toks) seat hit I fun b o hb eb => hs.extBut b o hb eb
    obtain ⟨oi, hoi, hci, hdi⟩ := id isL'
    refine wpAny_pure ?_
    try dsimp only
    refine seg_bind (wpAny_typeOf (T := "list_iterator") ⟨oi, hoi, hci⟩ ?_)
    try dsimp only
    first
      | (refine seg_bind (wpAny_of_eq close_lst ?_); refine seg_bind (wpAny_pure ?_))
      | refine seg_bind (wpAny_bind (wpAny_of_eq close_lst (wpAny_pure ?_)))
      | refine seg_bind (wpAny_of_eq close_lst ?_)
    try dsimp only
    refine seg_bind (wpAny_sleptOver hoi hci (by decide) ?_)
    refine seg_yield sp rfl gd ?_
    have Ip : Inv (L.cx s0 Hb E') (ip ++ [(it, oi)]) σ H { s with heap := h', toks := s.toks } := I'.pins_of fun p hp => by
      rcases List.mem_append.mp hp with z | z
      · exact I'.pin p (List.mem_append_right _ z)
      · rw [List.mem_singleton.mp z]
        exact ⟨hoi, hit, nL, nF, fun v q => by rw [hdi] at q; cases q⟩
    refine live_turn ok (fun p hp => ?_) (by omega) seat Ip ru sm iti fun s2 H2 seat2 I2 kp => ?_
    · rcases List.mem_append.mp hp with z | z
      · exact low p z
      · rw [List.mem_singleton.mp z]
        exact young
    have there := I2.pin (it, oi) (List.mem_append_right _ (List.mem_append_right _ (List.mem_singleton.mpr rfl)))
    have I3 : Inv (L.cx (cutS s2 L.n0) H2 E0) ip σ H2 s2 := I2.pins_of fun p hp => I2.pin p (List.mem_append_right _ (List.mem_append_left _ hp))
    show Seg _ _ _ _ n s2 _ (Builtin.Generator.sleptOver (.ref it) false >>= fun _ => _) fs s2
    refine seg_bind (wpAny_sleptOver there.1 hci (by decide) ?_)
    try dsimp only
    refine seg_bind (wpAny_pure ?_)
    exact seg_again (plainId_quiet plain_yf _) (ih (j + 1) n s2 s2 (cutS s2 L.n0) E0 H2 H2 (by omega) (by omega) seat2 (Same.refl _) I3 there.2.1 ⟨oi, there.1, hci, hdi⟩ (nxt H2 kp))
theorem gl_yf (ok : L.Ok) {e : Expr} {yp pos : Pos} {te : TE} (he : ∀ s0 Hb E', PE (L.cx s0 Hb E') e te) (calm : (L.A.deeper (envOfC L.qual L.scope L.n0 L.f L.cd)).handled = none) (hi : interactive (envOfC L.qual L.scope L.n0 L.f L.cd) = false := by rfl) : GL L (.Expr (.YieldFrom e yp) pos) (tLYf L te) := by
  refine ⟨fun ip n i s₀ c fs Kf Je gd lv s s0 E' σ Hb H D gc hn k seat I ht => ?_⟩
  rw [exec_Expr (envOfC L.qual L.scope L.n0 L.f L.cd) _ pos hi rfl]
  show Seg _ _ _ _ n s₀ c (.at pos fun _ => ((eval e (envOfC L.qual L.scope L.n0 L.f L.cd) >>= fun v => (standAt yp >>= fun _ => yieldFrom (envOfC L.qual L.scope L.n0 L.f L.cd) v)) >>= fun x => dropValue (.YieldFrom e yp) pos x).wrap Kf Je gd lv) fs s
  refine seg_at (segw_bind2 ?_)
  rw [gc.over]
  refine wpAny_mono ((he s0 Hb E').run ip s σ H _ I ht) (fun v s1 hv => ?_) fun x s' hx => k.exc n i s₀ x s' s0 E' Hb seat hx
  obtain ⟨x, H1, I1, rv, a, xs, ex, sm, room, Pv, p0, lst, step, fin⟩ := hv
  subst ex
  obtain rfl : v = Value.ref a := rv
  obtain ⟨_, its, _, rits, hl⟩ := I1.hok a _ (lst 0 H1 (Nat.zero_le _) p0)
  have isl : s1.heap.IsList a its.toArray := ⟨_, hl, rfl, _, rfl⟩
  refine seg_at ?_
  show Seg _ _ _ _ n s₀ c ((yieldFrom (envOfC L.qual L.scope L.n0 L.f L.cd) (.ref a)).wrap (fun b => (dropValue (.YieldFrom e yp) pos b).wrap Kf Je gd lv) Je gd lv) fs s1
  unfold yieldFrom
  refine seg_bind_wrap (wpAny_typeOf isl.typeIs ?_)
  rw [if_neg (show ¬ ((Value.type "list" == Value.type "coroutine") = true) by decide)]
  refine seg_bind_wrap (wpAny_holding ?_)
  rw [gc.over]
  refine wpAny_pyIter_list isl ?_
  have below : ∀ {b : Addr} {o : Obj}, s1.heap.get? b = some o → b ≠ s1.heap.objs.size := fun e => Nat.ne_of_lt (Heap.lt_size e)
  have kept : ∀ b o, s1.heap.get? b = some o → (s1.heap.push { cls := .type "list_iterator", data := .fields #[.ref a, .int 0 0] }).get? b = some o := fun b o e => Heap.get?_push_of_some _ e
  have I2 : Inv (L.cx s0 Hb E') ip σ H1 { s1 with heap := s1.heap.push { cls := .type "list_iterator", data := .fields #[.ref a, .int 0 0] } } := I1.kept (t' := s1.toks) kept
  have free : H1 s1.heap.objs.size = none := I1.hok.fresh (Nat.le_refl _)
  have yng : L.n0 ≤ s1.heap.objs.size := Nat.le_of_lt I1.lt
  have frn : s1.heap.objs.size ∉ frs L.Xc.stack := I1.nofs (Nat.le_refl _)
  refine seg_call fun p => ?_
  refine segYf ok (xs := xs) (σ := σ) (i0 := i) gc.low yng (Nat.ne_of_gt I1.lt) (fun y k' e z => ?_) (fun q hq => below (I1.pin q hq).1) frn (below hl) ?_ ?_ ?_ room lst step (fun n' s₀' s' s0' E2 Hb' H' hn' seat' sm' I' pv' => ?_) xs.length 0 n s₀ _ s0 E' Hb H1 (Nat.zero_add _) hn seat sm I2 free ⟨_, Heap.get?_push_size _ rfl, rfl, rfl⟩ p0
  · obtain ⟨v', o, ho, _⟩ := I1.cell y k' e
    exact below ho z
  · show (L.A.over c fs).handled = none
    rw [gc.over]
    exact calm
  · show (splitAtGen fs).map _ = none
    rw [gc.split]
    rfl
  · show (gd false || fs.any Frame.guarded) = false
    rw [gc.gd, gc.guard]
    rfl
  · exact seg_leaf (.ok (.ret .none)) (k.ok n' (i + xs.length) s₀' s' s0' E2 Hb' .next hn' seat' ⟨σ, H', I', fin Hb' H' pv' sm'⟩)
/-! ### from the call to the first item -/
structure G0s (L : Lv) (st : List Stmt) (t : GEndL → L2.St → Hp → Prop) : Prop where
  run : ∀ (s₀ : Shared) (c : Code) (fs : List Frame) (Kf : Flow → Sem PySem.Fin) (Je : Value → Sem PySem.Fin) (gd : Bool → Bool) (lv : List Value → List Value) (s : Shared) (σ : L2.St) (H : Hp) (D : GEndL),
    L.GC [] c fs gd → L.GK [] c fs Kf Je D → L.Seat 0 L.HC L.sC L.E → Inv (L.cx L.sC L.HC L.E) [] σ H s → t D σ H → Seg L.md L.A L.R L.Y L.tot s₀ c ((execs st (envOfC L.qual L.scope L.n0 L.f L.cd)).wrap Kf Je gd lv) fs s
theorem g0_of {st : List Stmt} {t : TGL} (h : GLs L st t) : G0s L st fun D σ H => t D 0 L.HC σ H :=
  ⟨fun s₀ c fs Kf Je gd lv s σ H D gc k seat I ht => h.run [] L.tot 0 s₀ c fs Kf Je gd lv s L.sC L.E σ L.HC H D gc rfl k seat I ht⟩
theorem g0_cons {st : Stmt} {rest : List Stmt} {t : TS} {u : GEndL → L2.St → Hp → Prop} (h : PS (L.cx L.sC L.HC L.E) st t) (r : G0s L rest u) : G0s L (st :: rest) fun D σ H => t { nx := fun σ' H' => u D σ' H', rt := fun _ _ => False } σ H := by
  refine ⟨fun s₀ c fs Kf Je gd lv s σ H D gc k seat I ht => ?_⟩
  refine seg_execs_cons (seg_wrap ?_)
  rw [gc.over]
  refine wpAny_mono (h.run [] s σ H _ I ht) (fun fl s' hs => ?_) fun x s' hx => k.exc L.tot 0 s₀ x s' L.sC L.E L.HC seat hx
  match fl, hs with
  | .next, ⟨σ', H', I', q⟩ => exact r.run s₀ c fs Kf Je gd lv s' σ' H' D gc k seat I' q
  | .brk, ⟨_, _, _, q⟩ => exact False.elim q
  | .cont, ⟨_, _, _, q⟩ => exact False.elim q
  | .ret u, ⟨_, _, _, _, _, q⟩ => exact False.elim q
end
end Sq
set_option Elab.async false
set_option linter.all false
set_option maxRecDepth 100000
set_option maxHeartbeats 2000000
namespace Sq
open PySem PySem.Spec PyProof.Rows L2 GenW
/-! ### a generator def, for a consumer that lives beside it -/
abbrev SpL := List V → Hp → (Addr → Prop) → Nat → (Nat → V → Hp → Prop) → XK → Prop
/-- what a call gives: a generator that has not begun -/
def LMade (Xc : Cx) (pinsC : List (Addr × Obj)) (k : Nat) (c : L2.St) (H : Hp) (s : Shared) (M : Addr → Prop) (tot : Nat) (It : Nat → V → Hp → Prop) (E : XK) (u : Value) (s' : Shared) : Prop :=
  ∃ (a : Addr) (g : Nat) (code : Code), u = .ref a ∧ s.heap.objs.size ≤ a ∧ s'.heap.IsGen a g ∧ s'.gens[g]? = some (.fresh code) ∧ s'.os = s.os ∧ AllBare s'.gens ∧ s'.heap.NoLimit ∧ (∀ b o, s.heap.get? b = some o → s'.heap.get? b = some o) ∧
    ∀ (J : Nat → L2.St → Hp → Prop) (A : Around) (s2 : Shared), J 0 c H → Room k A → A.frames = some Xc.stack → (∀ b o, s'.heap.get? b = some o → s2.heap.get? b = some o) → s2.os = s.os → AllBare s2.gens →
      ∃ L : Lv, L.Ok ∧ L.Xc = Xc ∧ L.pinsC = pinsC ∧ L.a = a ∧ L.g = g ∧ L.M = M ∧ L.tot = tot ∧ L.It = It ∧ L.J = J ∧ L.E = E ∧ L.sC = s ∧ L.HC = H ∧ L.A = A ∧ Seg L.md L.A L.R L.Y L.tot s2 code (L.md.den code) [] s2
structure GFnL (P : Program) (w : World) (K : PySem.W.Frag) (mg : Str → Option Value) (base : Heap) (k : Nat) (f : Addr) (fd : FuncData) (ps : List Str) (sp : SpL) : Prop where
  len : ∀ vs H M tot It E, sp vs H M tot It E → vs.length = ps.length
  run : ∀ (Xc : Cx) (pinsC : List (Addr × Obj)) (c : L2.St) (s : Shared) (H : Hp) (args : Args) (us : List Value) (vs : List V) (M : Addr → Prop) (tot : Nat) (It : Nat → V → Hp → Prop) (E : XK), Xc.prog = P → Xc.w = w → Xc.K = K → Xc.mg = mg → Xc.base = base → Inv Xc pinsC c H s → Room k Xc.A → BindsTo s fd args (ps.zip us) → Vals vs us → sp vs H M tot It E →
    codeAny (model P w) Xc.A (.call (.ref f) args) (fun r s' => match r with | .ok (.ret u) => LMade Xc pinsC k c H s M tot It E u s' | _ => False) s
theorem lfn_of {P : Program} {w : World} {K : PySem.W.Frag} {mg : Str → Option Value} {base : Heap} {k : Nat} {f : Addr} {name qual : Str} {params : Arguments} {body : List Stmt} {scope : Scope} {dV kV doc pm cdv ct oc : Value} {an od : Option Addr}
    {osl : Array (Option Value)} {N ps : List Str} {sp : SpL} (found : K.lookup f = some ⟨oc, od, .func (PySem.W.fnOf name qual params body scope dV kV doc pm an cdv ct), osl⟩) (coded : PySem.W.codeIn K cdv qual = true) (S : GScope N ps scope)
    (len : ∀ vs H M tot It E, sp vs H M tot It E → vs.length = ps.length)
    (inner : ∀ (L : Lv) (vs : List V), L.Ok → L.Xc.prog = P → L.Xc.w = w → L.Xc.K = K → L.Xc.mg = mg → L.Xc.base = base → L.N = N → L.qual = qual → L.scope = scope → L.f = f → L.cd = cdv → Room k (L.A.deeper (envOfC qual scope L.n0 f cdv)) → sp vs L.HC L.M L.tot L.It L.E →
      ∃ t, G0s L body t ∧ t { nx := fun i Hb _ H => i = L.tot ∧ Same Hb H, rt := fun _ _ _ _ => False } (start N vs) L.HC) :
    GFnL P w K mg base (k + 1) f (PySem.W.fnOf name qual params body scope dV kV doc pm an cdv ct) ps sp := by
  refine ⟨len, fun Xc pinsC c s H args us vs M tot It E hP hw hK hmg hbase Ic room bound rel wish => ?_⟩
  subst hP hw hK hmg hbase
  have few := len _ _ _ _ _ _ wish
  have e0 := Ic.env0
  have inK : Xc.K.In s.heap := Ic.kIn
  have noLim : s.heap.NoLimit := Ic.nolimit
  have kinds : ∀ y ∈ ps.zip us, scope.names.lookup y.1 = some .local ∨ (scope.names.lookup y.1 = some .cell ∧ ((cellsFrom (s.heap.objs.size + 1) scope.names []).lookup y.1).isSome = true) := fun ⟨n, v⟩ hy =>
    (S.par n (List.of_mem_zip hy).1).elim .inl fun z => .inr ⟨z, PySem.W.cellsFrom_some _ _ _ (.inl z)⟩
  refine codeAny_call_generator room.depth (inK _ _ found) rfl S.co S.gen rfl (PySem.W.codeRec_of inK coded) (bound _ _ _ _ ?_)
  refine wpAny_newFunctionEnv_cells S.kind kinds fun env he s1 made => ?_
  subst he
  have lim1 : s1.heap.NoLimit := noLim.keeps made.toInCall.keep
  refine ⟨lim1, ?_⟩
  obtain ⟨h1, tk, es1, keep1⟩ := made.done
  have os1 : s1.os = s.os := by rw [es1]
  have gen1 : s1.gens = s.gens := by rw [es1]
  have lt1 : s.heap.objs.size < s1.heap.objs.size := made.toInCall.ns.lt
  have keepS : ∀ b o, s.heap.get? b = some o → s1.heap.get? b = some o := made.toInCall.keep
  suffices main : ∀ (go : Obj) (nm qn : Value) (tk2 : Nat), go.cls = .type "generator" → go.data = .fields #[.int s1.gens.size 0, nm, qn] → go.slots = #[] → (∀ h : Heap, (h.push go).get? h.objs.size = some go) →
      LMade Xc pinsC (k + 1) c H s M tot It E (.ref s1.heap.objs.size) { s1 with gens := s1.gens.push (.fresh (.func body (envOfC qual scope s.heap.objs.size f cdv))), toks := tk2, heap := s1.heap.push go } from
    main _ _ _ _ rfl rfl rfl fun h => Heap.get?_push_size _ rfl
  intro go nm qn tk2 isG dataG slotsG pushG
  have isGen : ∀ h : Heap, h.get? s1.heap.objs.size = some go → h.IsGen s1.heap.objs.size s1.gens.size := fun h e => ⟨go, nm, qn, e, isG, dataG, slotsG⟩
  refine ⟨s1.heap.objs.size, s1.gens.size, _, rfl, Nat.le_of_lt lt1, isGen _ (pushG _), Array.getElem?_push_size .., os1, AllBare.push (by rw [gen1]; exact Ic.bare) rfl, lim1.keeps fun b o e => Heap.get?_push_of_some _ e, fun b o e => Heap.get?_push_of_some _ (keepS b o e), ?_⟩
  intro J Aw s2 j0 roomW framesW keep2 os2 bare2
  obtain ⟨L, eL⟩ : ∃ L : Lv, L = ⟨Xc, pinsC, N, qual, scope, f, cdv, Aw, s.heap.objs.size, s1.heap.objs.size, go, s1.gens.size, E, s, H, tot, M, It, J⟩ := ⟨_, rfl⟩
  have ok : L.Ok := by
    subst eL
    exact ⟨above_of Ic (Nat.le_refl _), fun h e => isGen h e, Nat.le_of_lt lt1⟩
  refine ⟨L, ok, by rw [eL], by rw [eL], by rw [eL], by rw [eL], by rw [eL], by rw [eL], by rw [eL], by rw [eL], by rw [eL], by rw [eL], by rw [eL], by rw [eL], ?_⟩
  obtain ⟨t, ht, reading⟩ := inner L vs ok (by rw [eL]) (by rw [eL]) (by rw [eL]) (by rw [eL]) (by rw [eL]) (by rw [eL]) (by rw [eL]) (by rw [eL]) (by rw [eL]) (by rw [eL]) (by rw [eL]; exact roomW.deeper _) (by rw [eL]; exact wish)
  subst eL
  have e0w : Env0 Xc.prog Xc.w Xc.K Xc.mg Xc.base Aw Xc.stack s H := ⟨framesW, e0.mod, e0.bs, e0.bsz, e0.funs, e0.frf, e0.hok, e0.bare⟩
  have I1 : Inv (gcxOf Xc.prog Xc.w Xc.K Xc.mg Xc.base N qual scope f cdv Aw Xc.stack s H E []) [] (start N vs) H s1 := inv_startG S roomW.hd e0w few rel made
  have keep12 : ∀ b o, s1.heap.get? b = some o → s2.heap.get? b = some o := fun b o e => keep2 b o (Heap.get?_push_of_some _ e)
  have I2 : Inv (gcxOf Xc.prog Xc.w Xc.K Xc.mg Xc.base N qual scope f cdv Aw Xc.stack s H E []) [] (start N vs) H s2 :=
    I1.call' (ch := []) (os2.trans os1.symm) (Un.kept keep12) (I1.hok.kept keep12) bare2 fun b z => by simp at z
  have thereG : s2.heap.get? s1.heap.objs.size = some go := keep2 s1.heap.objs.size go (pushG _)
  have I3 : Inv (gcxOf Xc.prog Xc.w Xc.K Xc.mg Xc.base N qual scope f cdv Aw Xc.stack s H E [(s1.heap.objs.size, go)]) [] (start N vs) H s2 := Inv.pinnedG I2 fun p hp => by
    have hp' : p = (s1.heap.objs.size, go) := by simpa using hp
    rw [hp']
    exact ⟨thereG, I1.hok.fresh (Nat.le_refl _), Nat.ne_of_gt lt1, I1.nofs (Nat.le_refl _), fun v q => by rw [dataG] at q; cases q⟩
  have seat0 : Lv.Seat ⟨Xc, pinsC, N, qual, scope, f, cdv, Aw, s.heap.objs.size, s1.heap.objs.size, go, s1.gens.size, E, s, H, tot, M, It, J⟩ 0 H s E :=
    ⟨c, s, (cutS_all (Nat.le_refl _)).symm, Nat.le_refl _, Ic, j0, .inl ⟨rfl, rfl, rfl, rfl⟩⟩
  refine seg_func ?_
  refine ht.run s2 _ [] _ _ id id s2 (start N vs) H _ ⟨over_func, rfl, rfl, rfl, fun p z => absurd z List.not_mem_nil⟩ ⟨fun n i s₀ s' s0 E' Hb fl hn seat hs => ?_, fun n i s₀ e s' s0 E' Hb seat hx => ?_⟩ seat0 (inv_lcx I3) reading
  · match fl, hs with
    | .next, ⟨σ', H', I', hi, sm⟩ =>
      refine seg_end (.ok (.ret .none)) (.inl ⟨.inl rfl, ?_⟩)
      obtain ⟨c', sb, rfl, le, Ib, j', _⟩ := seat
      have q := live_out (prv := []) Ib ok.ab I' fun b z => absurd z List.not_mem_nil
      have e : hidP [] s'.heap H' = H' := by
        funext b
        exact hidP_out List.not_mem_nil
      rw [e] at q
      subst hi
      exact ⟨c', Hb, H', j', sm, q⟩
    | .brk, ⟨_, _, _, q⟩ => exact False.elim q
    | .cont, ⟨_, _, _, q⟩ => exact False.elim q
    | .ret u, ⟨_, _, _, _, _, q⟩ => exact False.elim q
  · refine seg_wrap ?_
    rw [over_func]
    refine wpAny_mono (show wpAny (model Xc.prog Xc.w) (Aw.deeper (envOfC qual scope s.heap.objs.size f cdv)) (leaving (envOfC qual scope s.heap.objs.size f cdv) e) (fun _ s'' => L2N.CX Xc.prog Xc.w Xc.stack Hb s0 E' e s'' ∧ ∀ p ∈ [(s1.heap.objs.size, go)], s''.heap.get? p.1 = some p.2) (fun _ _ => False) s' from hx) (fun _ s'' q => ?_) fun _ s'' q => q.elim
    obtain ⟨c', sb, es, le, Ib, j', alt⟩ := seat
    rcases alt with ⟨rfl, rfl, rfl, rfl⟩ | rfl
    · exact seg_end (.error e) (.inr ⟨e, rfl, q.1, isGen _ (q.2 (s1.heap.objs.size, go) (List.mem_singleton.mpr rfl))⟩)
    · obtain ⟨a', B, H', cls, d, _, _, _, _, _, _, _, z⟩ := q.1
      exact z.elim
end Sq
set_option Elab.async false
set_option linter.all false
set_option maxRecDepth 100000
set_option maxHeartbeats 2000000
/-! Code that leaves the generators' table as it is. -/
namespace Sq
open PySem PySem.Spec PyProof.Rows L2 GenW
section
variable {X : Cx} {pins : List (Addr × Obj)} {σ : L2.St} {H : Hp} {s : Shared}
structure GE (X : Cx) (e : Expr) (t : TE) : Prop where
  run : ∀ (pins : List (Addr × Obj)) (s : Shared) (σ : L2.St) (H : Hp) (Q : VK), Inv X pins σ H s → t σ H Q → wpAny (model X.prog X.w) X.A (eval e X.env) (fun u s' => s'.gens = s.gens ∧ EP X pins σ Q u s') X.xe s
structure GA (X : Cx) (es : List Expr) (t : TA) : Prop where
  run : ∀ (pos : Pos) (pins : List (Addr × Obj)) (s : Shared) (σ : L2.St) (H : Hp) (Q : List V → Hp → Prop), Inv X pins σ H s → t σ H Q → wpAny (model X.prog X.w) X.A (spliced (backTo pos (starEach es X.env))) (fun us s' => s'.gens = s.gens ∧ AP X pins σ Q us s') X.xe s
structure GT (X : Cx) (e : Expr) (t : TT) : Prop where
  run : ∀ (pins : List (Addr × Obj)) (s : Shared) (σ : L2.St) (H : Hp) (Q : Bool → Hp → Prop), Inv X pins σ H s → t σ H Q → wpAny (model X.prog X.w) X.A (isTrue e X.env (eval e X.env)) (fun b s' => s'.gens = s.gens ∧ TP X pins σ Q b s') X.xe s
structure GSt (X : Cx) (st : Stmt) (t : TS) : Prop where
  run : ∀ (pins : List (Addr × Obj)) (s : Shared) (σ : L2.St) (H : Hp) (D : Ends), Inv X pins σ H s → t D σ H → wpAny (model X.prog X.w) X.A (exec st X.env) (fun f s' => s'.gens = s.gens ∧ SP X pins D f s') X.xe s
structure GSts (X : Cx) (st : List Stmt) (t : TS) : Prop where
  run : ∀ (pins : List (Addr × Obj)) (s : Shared) (σ : L2.St) (H : Hp) (D : Ends), Inv X pins σ H s → t D σ H → wpAny (model X.prog X.w) X.A (execs st X.env) (fun f s' => s'.gens = s.gens ∧ SP X pins D f s') X.xe s
structure GG (X : Cx) (tg : Expr) (t : TG) : Prop where
  run : ∀ (pins : List (Addr × Obj)) (s : Shared) (σ : L2.St) (H : Hp) (v : V) (u : Value) (Q : L2.St → Hp → Prop), Inv X pins σ H s → RelV v u → t v σ H Q → wpAny (model X.prog X.w) X.A (assign tg X.env u) (fun _ s' => s'.gens = s.gens ∧ ∃ σ' H', Inv X pins σ' H' s' ∧ Q σ' H') X.xe s
def CallG (X : Cx) (f : Value) (r : List V → Hp → VK → Prop) : Prop := ∀ (pins : List (Addr × Obj)) (s : Shared) (σ : L2.St) (H : Hp) (vs : List V) (us : List Value) (Q : VK), Inv X pins σ H s → Vals vs us → r vs H Q → wpAny (model X.prog X.w) X.A (call f us) (fun u s' => s'.gens = s.gens ∧ EP X pins σ Q u s') X.xe s
/-! ### expressions -/
theorem ge_var {i : Nat} {x : Str} {pos : Pos} (hN : X.N[i]? = some x) (hv : Vis X.env.scope x) (hd : (x == ("__debug__" : Str)) = false := by decide) (hcd : (x == ("__classdict__" : Str)) = false := by decide) : GE X (.Name x pos) (tVar i) :=
  ⟨fun pins s σ H Q I h => by
    obtain ⟨v, e, q⟩ := h
    exact raw_name hN hv I e (fun u r => ⟨rfl, v, H, I, r, q⟩) hd hcd⟩
theorem ge_int {i : Int} {k : Nat} {pos : Pos} : GE X (.Constant (.int i) k pos) (tC (.int i)) :=
  ⟨fun pins s σ H Q I h => wpAny_Constant_int ⟨rfl, .int i, H, I.tok _, ⟨_, rfl⟩, h⟩⟩
theorem ga_nil : GA X [] tNil := ⟨fun pos pins s σ H Q I h => Calls.spliced_nil ⟨rfl, [], H, I, .nil, h⟩⟩
theorem ga_cons {e : Expr} {es : List Expr} {te : TE} {t : TA} (ha : GE X e te) (hr : GA X es t) (hs : starEach (e :: es) X.env = (false, eval e X.env) :: starEach es X.env := by rfl) : GA X (e :: es) (tCons te t) := by
  refine ⟨fun pos pins s σ H Q I h => ?_⟩
  rw [hs]
  show wpAny _ _ (spliced ((false, eval e X.env) :: backTo pos (starEach es X.env))) _ _ s
  refine Calls.spliced_cons (thn (ha.run pins s σ H _ I h) fun u s1 hh => ?_)
  obtain ⟨g1, x, H1, I1, r1, q1⟩ := hh
  exact thn (hr.run pos pins s1 σ H1 _ I1 q1) fun us s2 ⟨g2, xs, H2, I2, r2, q2⟩ => ⟨g2.trans g1, x :: xs, H2, I2, .cons r1 r2, q2⟩
theorem ge_callB {id : String} {r : List V → Hp → VK → Prop} {x : Str} {p pos : Pos} {e : Expr} {es : List Expr} {t : TA} (hc : CallG X (.builtin id) r) (hg : Gl X x) (hm : X.mg x = none) (hv : bootBuiltins x = some (.builtin id)) (ha : GA X (e :: es) t) (hn : x ≠ "__name__" := by decide) (hdb : (x == ("__debug__" : Str)) = false := by decide)
    (he : starEach (e :: es) X.env = (false, eval e X.env) :: starEach es X.env := by rfl) (hpl : (backTo pos (starEach es X.env)).any (·.1) = false := by rfl) : GE X (.Call (.Name x p) (e :: es) [] pos) (tCB r t) := by
  refine ⟨fun pins s σ H Q I h => ?_⟩
  refine wpAny_Call_Name_kw (ld_blt I hg hm hv ?_ hn hdb)
  refine PyProof.Rows.callWith_builtin1 (thn (ha.run pos pins s σ H _ I h) fun us s1 hh => ?_) he hpl
  obtain ⟨g1, vs, H1, I1, r1, q1⟩ := hh
  exact thn (hc pins s1 σ H1 vs us Q I1 r1 q1) fun u s2 ⟨g2, q2⟩ => ⟨g2.trans g1, q2⟩
theorem cg_len : CallG X (.builtin "len") (rLenK X.K) := by
  intro pins s σ H xs us Q I r h
  obtain ⟨p, ys, rfl, hq, q⟩ := h
  obtain ⟨u, rfl, rx⟩ := vals1 r
  cases rx
  have hn := line63
  rcases hq with hq | hq
  · obtain ⟨its, r', pl, hz⟩ := I.list hq
    have hlen := r'.length
    exact Calls.call_len_list pl.isList (by simp only [List.size_toArray] <;> omega) ⟨rfl, .int ys.length, H, I.tok _, ⟨s.toks + 1, by rw [List.size_toArray, hlen]⟩, q⟩
  · obtain ⟨its, r', pl, hz⟩ := I.tuple hq
    have hlen := r'.length
    exact len_tuple pl (by simp only [List.size_toArray] <;> omega) ⟨rfl, .int ys.length, H, I.tok _, ⟨s.toks + 1, by rw [List.size_toArray, hlen]⟩, q⟩
/-- l.append(e) -/
theorem ge_append {o e : Expr} {to te : TE} {apos cpos : Pos} (ho : GE X o to) (ha : GE X e te) (hbase : attributeBase o "append" X.env (eval o X.env) = eval o X.env := by rfl)
    (hfew : ((backTo cpos (starEach [e] X.env)).all (fun x => !x.1) && (backToKw cpos (keywordEach [] X.env)).all (fun x => x.1.isSome) && decide ([e].length + ([] : List Keyword).length + (if ([] : List Keyword).isEmpty then 0 else 1) < 30)) = true := by rfl)
    (hline : (apos.endLine == cpos.line) = true := by rfl) (hs : starEach [e] X.env = (false, eval e X.env) :: starEach [] X.env := by rfl) : GE X (.Call (.Attribute o "append" apos) [e] [] cpos) (tBM X.K "list" rAppend to (tCons te tNil)) := by
  refine ⟨fun pins s σ H Q I h => ?_⟩
  refine wpAny_Call_method_late hbase hfew hline rfl (thn (ho.run pins s σ H _ I h) fun v s1 hh => ?_)
  obtain ⟨g1, x, H1, I1, r1, ty, q1⟩ := hh
  obtain ⟨h1, h2⟩ := tyV_is I1 r1 ty
  refine ⟨"list", _, PySem.F.plainAttrs_list, PySem.F.slot_list_append, PySem.F.type_list_append, h1, h2, ?_⟩
  have hA := (ga_cons (hs := hs) ha ga_nil).run cpos pins s1 σ H1 _ I1 q1
  rw [hs] at hA ⊢
  refine Calls.callWith_builtin rfl (Calls.evalArgs_plain (thn hA fun us s2 hh => ?_))
  obtain ⟨g2, vs, H2, I2, r2, l, xs, y, ex, ev, hH, hz, q⟩ := hh
  subst ex ev
  cases r1
  obtain ⟨u, rfl, ru⟩ := r2.one
  obtain ⟨z, its, n, r, hl, eo⟩ := I2.lstM hH
  refine call_meets F.slot_list_append ⟨_, eo, rfl⟩ F.entry_list_append (F.args_list_append_2 _ _) (PySem.list_append l its.toArray n u (by rw [List.size_toArray]; omega)) ⟨eo, ?_⟩
  refine ⟨g2.trans g1, .non, _, I2.lset (its' := its ++ [u]) hH eo (by simp) (r.append (.cons ru .nil)) ?_, rfl, q⟩
  rw [List.length_append, List.length_singleton]
  omega
/-- a == b, two ints -/
def tEqI (ta tb : TE) : TT := fun σ H Q => ta σ H fun x H1 => tb σ H1 fun y H2 => ∃ i j, x = .int i ∧ y = .int j ∧ Q (decide (i = j)) H2
theorem gt_eq {a b : Expr} {ta tb : TE} {pos : Pos} (ha : GE X a ta) (hb : GE X b tb) (hm : behindInMarks .Eq b = false) : GT X (.Compare a [.Eq] [b] pos) (tEqI ta tb) := by
  refine ⟨fun pins s σ H Q I h => ?_⟩
  refine wpAny_isTrue_Compare1 (thn (ha.run pins s σ H _ I h) fun v s1 hh => ?_) hm
  obtain ⟨g1, x, H1, I1, r1, q1⟩ := hh
  refine thn (hb.run pins s1 σ H1 _ I1 q1) fun u s2 hh => ?_
  obtain ⟨g2, y, H2, I2, r2, i, j, rfl, rfl, q⟩ := hh
  obtain ⟨t1, rfl⟩ := r1
  obtain ⟨t2, rfl⟩ := r2
  refine PySem.P.eq_int ?_
  have e : (i == j) = decide (i = j) := rfl
  rw [e]
  exact wpAny_truthy_bool ⟨g2.trans g1, H2, I2, q⟩
/-! ### statements -/
theorem gst_expr {e : Expr} {te : TE} {pos : Pos} (he : GE X e te) (hs : swapsWith e none pos.line X.env = pure false := by rfl) : GSt X (.Expr e pos) (tDrop te) := by
  refine ⟨fun pins s σ H D I h => ?_⟩
  refine wpAny_Expr_any (thn (he.run pins s σ H _ I h) fun v s1 hh => ?_) I.quiet hs
  obtain ⟨g1, x, H1, I1, r1, q1⟩ := hh
  exact ⟨g1, σ, H1, I1, q1⟩
theorem gst_break {pos : Pos} : GSt X (.Break pos) tBreak := ⟨fun _ _ σ H _ I h => wpAny_Break ⟨rfl, σ, H, I, h⟩⟩
theorem gsts_nil : GSts X [] tNext := ⟨fun _ _ σ H _ I h => wpAny_execs_nil ⟨rfl, σ, H, I, h⟩⟩
theorem gsts_cons {st : Stmt} {rest : List Stmt} {t u : TS} (h1 : GSt X st t) (h2 : GSts X rest u) : GSts X (st :: rest) (tSeq t u) := by
  refine ⟨fun pins s σ H D I h => ?_⟩
  refine wpAny_execs_cons (thn (h1.run pins s σ H { D with nx := u D } I h) fun f s1 hh => ?_)
  obtain ⟨g1, q⟩ := hh
  match f, q with
  | .next, ⟨σ', H', I', q⟩ => exact thn (h2.run pins s1 σ' H' D I' q) fun f2 s2 ⟨g2, q2⟩ => ⟨g2.trans g1, q2⟩
  | .ret v, q => exact ⟨g1, q⟩
  | .brk, q => exact ⟨g1, q⟩
  | .cont, q => exact ⟨g1, q⟩
theorem gsts_one {st : Stmt} {t : TS} (h1 : GSt X st t) : GSts X [st] t := by
  refine ⟨fun pins s σ H D I h => ?_⟩
  refine wpAny_execs_cons (thn (h1.run pins s σ H D I h) fun f s1 hh => ?_)
  obtain ⟨g1, q⟩ := hh
  match f, q with
  | .next, q => exact wpAny_execs_nil ⟨g1, q⟩
  | .ret v, q => exact ⟨g1, q⟩
  | .brk, q => exact ⟨g1, q⟩
  | .cont, q => exact ⟨g1, q⟩
theorem gst_if {c : Expr} {a b : List Stmt} {tc : TT} {t u : TS} {pos : Pos} (hc : GT X c tc) (ha : GSts X a t) (hb : GSts X b u) : GSt X (.If c a b pos) (tIfS tc t u) := by
  refine ⟨fun pins s σ H D I h => ?_⟩
  refine wpAny_If (thn (hc.run pins s σ H _ I h) fun d s1 hh => ?_)
  obtain ⟨g1, H1, I1, q1⟩ := hh
  cases d with
  | true => exact thn (ha.run pins s1 σ H1 D I1 q1) fun f2 s2 ⟨g2, q2⟩ => ⟨g2.trans g1, q2⟩
  | false => exact thn (hb.run pins s1 σ H1 D I1 q1) fun f2 s2 ⟨g2, q2⟩ => ⟨g2.trans g1, q2⟩
/-- a local name is stored -/
theorem gg_name {i : Nat} {x : Str} {pos : Pos} (hN : X.N.Nodup) (hi : X.N[i]? = some x) (hx : X.env.scope.names.lookup x = some .local) (hk : X.env.kindOf x = some .local := by first | rfl | assumption) : GG X (.Name x pos) (gName i) := by
  refine ⟨fun pins s σ H v u Q I r h => ?_⟩
  refine wpAny_assign_Name ?_
  obtain ⟨m, hn, hl⟩ := id I.loc
  have hcls : (X.env.scope.kind == .class || (X.env.scope.kind == .module && X.env.locals != X.env.globals)) = false := by rw [I.ok.kind]; rfl
  have hiσ : i < σ.length := by rw [I.len]; exact (List.getElem?_eq_some_iff.mp hi).1
  refine wpAny_storeName_local hk hn (fun h' hn' hs => ⟨rfl, σ.set i (some v), H, ?_, h⟩) hcls
  have old : ∀ b o, X.s_0.heap.get? b = some o → b ≠ X.env.locals := fun b o e => Nat.ne_of_lt (Nat.lt_of_lt_of_le (Heap.lt_size e) I.ok.above)
  obtain ⟨oL, _, _, hoL, _⟩ := id hn
  refine ⟨I.ok, I.os, I.bare, ⟨fun b o e n hb hx => ?_, fun b o e n hb hx => ?_, I.base.free, fun b o e hx => ?_, I.base.tups, I.base.frzs, I.base.tbls⟩, ⟨_, hn', fun j y v' e1 e2 e3 => ?_⟩, fun y c e => ?_, I.free, I.freeC, fun p hp => ?_, fun b ob e => ?_, by simpa using I.len⟩
  · exact (hs.2 b (old b o e)).trans (I.base.keep b o e n hb hx)
  · obtain ⟨sl, e1⟩ := I.base.slot b o e n hb hx
    exact ⟨sl, (hs.2 b (old b o e)).trans e1⟩
  · obtain ⟨o', e1⟩ := I.base.there b o e hx
    exact ⟨o', (hs.2 b (old b o e)).trans e1⟩
  · by_cases hj : j = i
    · subst hj
      rw [hi] at e1
      cases e1
      rw [List.getElem?_set_self hiσ] at e2
      cases e2
      exact ⟨u, r, .inl ⟨hk, by simp⟩⟩
    · rw [List.getElem?_set_ne (Ne.symm hj)] at e2
      obtain ⟨u', r', q⟩ := hl j y v' e1 e2 e3
      refine ⟨u', r', ?_⟩
      rcases q with ⟨k, e⟩ | ⟨k, c, e, z⟩
      · have ne : y ≠ x := fun e => hj (nodup_ix hN e1 (e ▸ hi))
        exact .inl ⟨k, by simp [ne, e]⟩
      · exact .inr ⟨k, c, e, z.sameBut hs (I.cne y c e)⟩
  · obtain ⟨w', z⟩ := I.cell y c e
    exact ⟨w', z.sameBut hs (I.cne y c e)⟩
  · obtain ⟨e, n, ne, nf, d⟩ := I.pin p hp
    exact ⟨(hs.2 p.1 ne).trans e, n, ne, nf, d⟩
  · refine (I.hok b ob e).stay (fun c w' hc q => (hs.2 c ?_).trans q) (fun _ q => q) fun _ _ q => q
    rintro rfl
    rcases hc with rfl | hc
    · rw [I.free] at e
      cases e
    · rw [I.free] at hc
      cases hc
end
end Sq
set_option Elab.async false
set_option linter.all false
set_option maxRecDepth 100000
set_option maxHeartbeats 2000000
/-! for x in g(e, ..): body, where g is a generator def that lives beside its consumer. -/
namespace Sq
open PySem PySem.Spec PyProof.Rows L2 GenW
/-- what the body of the loop has to keep -/
def LBack (M : Addr → Prop) (J : Nat → L2.St → Hp → Prop) (i : Nat) (x : V) (P : Addr → Prop) (H2 Hh : Hp) (σ' : L2.St) (H' : Hp) : Prop := (∀ b, P b → H' b = Hh b) ∧ ∀ H'' : Hp, (∀ b, P b → H'' b = none) → (∀ b, ¬ P b → H'' b = H' b) → Kps M x H2 H'' ∧ J (i + 1) σ' H''
def tForL (sp : SpL) (E : L2.St → XK) (t : TA) (g : TG) (tb : TS) : TS := fun D σ H => t σ H fun vs H1 => ∃ (M : Addr → Prop) (tot : Nat) (It : Nat → V → Hp → Prop) (J : Nat → L2.St → Hp → Prop), sp vs H1 M tot It (E σ) ∧ J 0 σ H1 ∧
  (∀ (i : Nat) (c : L2.St) (Hb H2 : Hp) (x : V) (P : Addr → Prop) (Hh : Hp), i < tot → J i c Hb → Same Hb H2 → It i x H2 → (∀ b, P b → H2 b = none ∧ ∃ φ, Hh b = some (.ext φ)) → (∀ b, ¬ P b → Hh b = H2 b) →
    g x c Hh fun σ2 H3 => tb { nx := LBack M J i x P H2 Hh, ct := LBack M J i x P H2 Hh, bk := D.nx, rt := D.rt } σ2 H3) ∧
  ∀ c Hb H2, J tot c Hb → Same Hb H2 → D.nx c H2
theorem weakN {P : Program} {w : World} {outer : List Env} {H : Hp} {s s' : Shared} {E : XK} {u : Value} (c : L2N.CX P w outer H s E u s') : L2.CX P w outer H s E u s' := by
  obtain ⟨a, B, H', cls, d, e, fl, r⟩ := c
  exact ⟨a, B, H', cls, d, e, L2H.flyingZ_imp (fun _ z => z.zc) fl, r⟩
section
variable {X : Cx} {k : Nat} {f : Addr} {fd : FuncData} {ps : List Str} {sp : SpL} {E : L2.St → XK} {x : Str} {p cpos pos : Pos} {tgt e : Expr} {es : List Expr} {t : TA} {g : TG} {tb : TS} {body : List Stmt}
theorem ps_forL (F : GFnL X.prog X.w X.K X.mg X.base k f fd ps sp) (hr : Room (k + 1) X.A) (hg : Gl X x) (hm : X.mg x = some (.ref f)) (hk : PySem.W.keepIn X.K (.ref f) = true) (hb : Binds X.K fd ps []) (ha : PA X (e :: es) t) (htg : GG X tgt g) (hbd : GSts X body tb)
    (hx : ∀ σ, PassesAt (L2N.CX X.prog X.w) X σ (E σ)) (ns : ∀ σ, NoStop X.K (E σ)) (own : PassesOwn (model X.prog X.w) X.A X.env X.xe) (lt : ∀ (a : Addr) (v : Value), letOwnedTupleGo tgt (.ref a) v = pure () := by intro _ _; rfl)
    (hfs : ∀ y, foldedSetIterable (.Call (.Name x p) (e :: es) [] cpos) X.env y = pure y := by intro _; rfl)
    (hdb : (x == ("__debug__" : Str)) = false := by decide) (he : starEach (e :: es) X.env = (false, eval e X.env) :: starEach es X.env := by rfl) (hpl : (backTo cpos (starEach es X.env)).any (·.1) = false := by rfl) :
    PS X (.For tgt (.Call (.Name x p) (e :: es) [] cpos) body [] pos) (tForL sp E t g tb) := by
  refine ⟨fun pins s σ H D I h => ?_⟩
  refine wpAny_For (wpAny_Call_Name_kw (ld_glob I hg hm ?_ hdb)) hfs
  refine PySem.W.callWith_K (h₀ := X.base) I.ok.mod.kin hk (thn (ha.run cpos pins s σ H _ I h) fun us s1 hh => ?_) he hpl
  obtain ⟨vs, H1, I1, r1, M, tot, It, J, q, j0, turn, fin⟩ := hh
  refine ⟨I1.kIn, ?_⟩
  have few : us.length = ps.length := by rw [← r1.length]; exact F.len _ _ _ _ _ _ q
  have bind := hb s1 us I1.kIn (by rw [List.append_nil]; exact few)
  rw [List.append_nil] at bind
  refine wpAny_call (codeAny_mono (F.run X pins σ s1 H1 ⟨us, []⟩ us vs M tot It (E σ) rfl rfl rfl rfl rfl I1 (hr.mono (by omega)) bind r1 q) fun r s2 hq => ?_)
  match r, hq with
  | .ok (.ret u), hq =>
    obtain ⟨a, g, c, rfl, ha1, isG, fresh, os2, bare2, lim2, keep2, wake⟩ := hq
    refine wpAny_pyIter_gen isG ?_
    obtain ⟨L, ok, eX, eP, eA, eG, eM, eT, eI, eJ, eE, eS, eH, eAr, seg⟩ := wake J X.A.in1 (s2.setGen g .running) j0 ⟨hr.hd, by have := hr.dp; show X.A.depth + 3 * k + 5 < _; omega, by have := hr.un; show X.A.units + 1 + 16 * k + 200 < _; omega⟩ I1.ok.frames (fun b o e => e) os2 (allBare_setGen bare2 rfl)
    obtain ⟨LX, Lp, LN, Lq, Ls, Lf, Lc, LA, Ln, La, Lo, Lg, LE, LS, LH, LT, LM, LI, LJ⟩ := L
    dsimp only at eX eP eA eG eM eT eI eJ eE eS eH eAr
    have eX := eX.symm
    have eP := eP.symm
    have eA := eA.symm
    have eG := eG.symm
    have eM := eM.symm
    have eT := eT.symm
    have eI := eI.symm
    have eJ := eJ.symm
    have eE := eE.symm
    have eS := eS.symm
    have eH := eH.symm
    subst eX eP eA eG eM eT eI eJ eE eS eH eAr
    obtain ⟨L, eL⟩ : ∃ L : Lv, L = ⟨X, pins, LN, Lq, Ls, Lf, Lc, X.A.in1, Ln, a, Lo, g, E σ, s1, H1, tot, M, It, J⟩ := ⟨_, rfl⟩
    have goes0 : (GenState.fresh c).Goes (model X.prog X.w) X.A.in1 (fun n s₀ r s₁ => ((r = .ok (.ret .none) ∨ r = .ok .next) ∧ ∃ c Hb H2, J tot c Hb ∧ Same Hb H2 ∧ Inv X pins c H2 s₁) ∨ ∃ e, r = .error e ∧ (L2N.CX X.prog X.w X.stack H1 s1 (E σ) e s₁ ∧ s₁.heap.IsGen a g)) L.Y tot (.send .none) (s2.setGen g .running) := by
      subst eL
      exact ⟨rfl, seg_imp (fun n s₀ r s z => z) (fun n s₀ v s kap kap' hkk z => by
        obtain ⟨i, c, Hb, H1, x, ip, z1, z2, z3, z4, z5, z6, z7, z8, z9⟩ := z
        exact ⟨i, c, Hb, H1, x, ip, z1, z2, z3, z4, z5, z6, z7, z8, fun s2 c2 H2 w1 w2 w3 w4 => hkk _ _ (z9 s2 c2 H2 w1 w2 w3 w4)⟩) tot seg⟩
    refine codeAny_forLoop_any (fun n s' => s'.heap.IsGen a g ∧ s'.heap.NoLimit ∧ ∃ gs, s'.gens[g]? = some gs ∧ gs.Goes (model X.prog X.w) X.A.in1 (fun n s₀ r s₁ => ((r = .ok (.ret .none) ∨ r = .ok .next) ∧ ∃ c Hb H2, J tot c Hb ∧ Same Hb H2 ∧ Inv X pins c H2 s₁) ∨ ∃ e, r = .error e ∧ (L2N.CX X.prog X.w X.stack H1 s1 (E σ) e s₁ ∧ s₁.heap.IsGen a g)) L.Y n (.send .none) (s'.setGen g .running)) (fun n s' hs => ?_) tot ⟨isG, lim2, _, fresh, goes0⟩
    obtain ⟨isG', lim', gs, hgs, goes⟩ := hs
    have hgl : g < s'.gens.size := (Array.getElem?_eq_some_iff.mp hgs).1
    refine wpAny_gsz (n := g + 1) hgl (next_genG (A := X.A) (F := fun _ _ s₁ => ∃ c Hb H2, J tot c Hb ∧ Same Hb H2 ∧ Inv X pins c H2 s₁) hr.hd lim' (by have := hr.dp; omega) isG' hgs goes (fun v s₁ gs' bare' hv => ?_) (fun s₁ hp h' hkp => ?_) fun er s₁ hee => ?_)
    · intro hsz
      have hsz1 : g < s₁.gens.size := by
        have q : (s₁.setGen g gs').gens.size = s₁.gens.size := setGen_size _ _ _
        have hsz' : g + 1 ≤ (s₁.setGen g gs').gens.size := hsz
        omega
      subst eL
      obtain ⟨i, c2, Hb, H2, x2, ip, hi, j, sm, it, rv, I2, prv, isG1, back⟩ := hv
      dsimp only at j it I2 back isG1 hi
      have I3 : Inv X pins c2 (hidP (Lv.prv ⟨X, pins, LN, Lq, Ls, Lf, Lc, X.A.in1, Ln, a, Lo, g, E σ, s1, H1, tot, M, It, J⟩ ip) s₁.heap H2) (s₁.setGen g gs') := inv_gens I2 rfl rfl (allBare_setGen I2.bare bare')
      obtain ⟨prvL, ePrv⟩ : ∃ l, l = Lv.prv ⟨X, pins, LN, Lq, Ls, Lf, Lc, X.A.in1, Ln, a, Lo, g, E σ, s1, H1, tot, M, It, J⟩ ip := ⟨_, rfl⟩
      have ma : a ∈ prvL := by
        rw [ePrv]
        exact List.mem_cons_of_mem _ (List.mem_append_right _ (List.mem_map.mpr ⟨(a, Lo), List.mem_append_left _ (List.mem_singleton.mpr rfl), rfl⟩))
      rw [← ePrv] at I3 prv back
      refine wpAny_of_eq (lt a v) ?_
      have rd := turn i c2 Hb H2 x2 (fun b => b ∈ prvL) (hidP prvL s₁.heap H2) (by omega) j sm it (fun b hb => ⟨(prv b hb).1, by obtain ⟨o, ho⟩ := (prv b hb).2; exact ⟨_, hidP_in hb ho⟩⟩) fun b hb => hidP_out hb
      refine wpAny_passesOwn own (thn (htg.run pins _ c2 _ x2 v _ I3 rv rd) fun _ s4 h4 => ?_)
      obtain ⟨g4, σ4, H4, I4, q4⟩ := h4
      refine wpAny_passesOwn own (thn (hbd.run pins s4 σ4 H4 _ I4 q4) fun fl s5 h5 => ?_)
      obtain ⟨g5, q5⟩ := h5
      have again : ∀ σ5 H5, Inv X pins σ5 H5 s5 → LBack M J i x2 (fun b => b ∈ prvL) H2 (hidP prvL s₁.heap H2) σ5 H5 → ∃ m, m < n ∧ s5.heap.IsGen a g ∧ s5.heap.NoLimit ∧ ∃ gs, s5.gens[g]? = some gs ∧ gs.Goes (model X.prog X.w) X.A.in1 (fun n s₀ r s₁ => ((r = .ok (.ret .none) ∨ r = .ok .next) ∧ ∃ c Hb H2, J tot c Hb ∧ Same Hb H2 ∧ Inv X pins c H2 s₁) ∨ ∃ e, r = .error e ∧ (L2N.CX X.prog X.w X.stack H1 s1 (E σ) e s₁ ∧ s₁.heap.IsGen a g)) (Lv.Y ⟨X, pins, LN, Lq, Ls, Lf, Lc, X.A.in1, Ln, a, Lo, g, E σ, s1, H1, tot, M, It, J⟩) m (.send .none) (s5.setGen g .running) := fun σ5 H5 I5 lb => by
        obtain ⟨lb1, lb2⟩ := lb
        obtain ⟨kp, j5⟩ := lb2 (unh prvL H5) (fun b hb => unh_in hb) fun b hb => unh_out hb
        have hk := back (s5.setGen g .running) σ5 H5 (inv_gens I5 rfl rfl (allBare_setGen I5.bare rfl)) lb1 kp j5
        cases n with
        | zero => exact hk.elim
        | succ m =>
          refine ⟨m, Nat.lt_succ_self m, ?_, I5.nolimit, gs', ?_, hk⟩
          · obtain ⟨o, nm, qn, ho, r⟩ := isG1
            refine ⟨o, nm, qn, ?_, r⟩
            have z := lb1 a ma
            rw [hidP_in ma ho] at z
            exact (I5.hok a _ z).1
          · rw [g5, g4]
            exact setGen_at hsz1
      match fl, q5 with
      | .next, ⟨σ5, H5, I5, lb⟩ => exact again σ5 H5 I5 lb
      | .cont, ⟨σ5, H5, I5, lb⟩ => exact again σ5 H5 I5 lb
      | .brk, ⟨σ5, H5, I5, qd⟩ => exact ⟨σ5, H5, I5, qd⟩
      | .ret v, q5 => exact q5
    · intro _
      obtain ⟨c2, Hb, H2, j, sm, I2⟩ := hp
      refine wpAny_execs_nil ⟨c2, H2, ?_, fin c2 Hb H2 j sm⟩
      exact I2.call' (ch := []) rfl (Un.kept hkp) (I2.hok.kept hkp) (allBare_setGen I2.bare rfl) fun b z => by simp at z
    · obtain ⟨hc, hg1⟩ := hee
      have kin : X.K.In s₁.heap := by
        obtain ⟨b1, B, H2, cls, d, _, fl, _, ub, _⟩ := id hc
        refine I1.ok.mod.kin.keeps fun b o eb => fl.1 b o (ub.keep b o (I1.bs b o eb).1 (I1.bs b o eb).2 fun hm => ?_)
        rcases List.mem_cons.mp (I1.stkSub b hm) with z | z
        · have low := Heap.lt_size eb
          rw [z] at low
          exact absurd (Nat.lt_of_lt_of_le low (Nat.le_trans I1.ok.bsz I1.ok.above)) (Nat.lt_irrefl _)
        · exact I1.ok.nofr eb z
      refine ⟨hg1, notStop_of (ns σ) kin (weakN hc), fun _ => own _ _ (hx σ pins H1 s1 er _ I1 ?_)⟩
      obtain ⟨b1, B, H2, cls, d, z1, fl, z2, ub, z3, z4, z5, z6⟩ := hc
      exact ⟨b1, B, H2, cls, d, z1, fl, z2, ub, z3, z4, allBare_setGen z5 rfl, z6⟩
end
/-- a generator def by its name -/
structure Dl (P : Program) (w : World) (K : PySem.W.Frag) (mg : Str → Option Value) (base : Heap) (k : Nat) (x : Str) (ps : List Str) (sp : SpL) : Prop where
  ex : ∃ f fd, GFnL P w K mg base k f fd ps sp ∧ mg x = some (.ref f) ∧ PySem.W.keepIn K (.ref f) = true ∧ Binds K fd ps []
section
variable {X : Cx} {k : Nat} {ps : List Str} {sp : SpL} {x : Str} {p cpos pos : Pos} {tgt e : Expr} {es : List Expr} {t : TA} {g : TG} {tb : TS} {body : List Stmt} {W : WX}
theorem ps_forLD {K0 : PySem.W.Frag} (sameK : X.K = K0) (D : Dl X.prog X.w X.K X.mg X.base k x ps sp) (takes : L2N.Takes X W) (hr : Room (k + 1) X.A) (hg : Gl X x) (ha : PA X (e :: es) t) (htg : GG X tgt g) (hbd : GSts X body tb) (own : PassesOwn (model X.prog X.w) X.A X.env X.xe)
    (lt : ∀ (a : Addr) (v : Value), letOwnedTupleGo tgt (.ref a) v = pure () := by intro _ _; rfl) (hfs : ∀ y, foldedSetIterable (.Call (.Name x p) (e :: es) [] cpos) X.env y = pure y := by intro _; rfl)
    (hdb : (x == ("__debug__" : Str)) = false := by decide) (he : starEach (e :: es) X.env = (false, eval e X.env) :: starEach es X.env := by rfl) (hpl : (backTo cpos (starEach es X.env)).any (·.1) = false := by rfl) :
    PS X (.For tgt (.Call (.Name x p) (e :: es) [] cpos) body [] pos) (tForL sp (EF K0 W) t g tb) := by
  obtain ⟨f, fd, F, gm, kp, b⟩ := D.ex
  subst sameK
  exact ps_forL (E := EF X.K W) F hr hg gm kp b ha htg hbd (fun σ pins H s e s' I c => L2N.passAt (W := fun cls d σ H => W cls d σ H ∧ PySem.W.subIn X.K cls (.type "StopIteration") = some false) (takes.imp fun _ _ _ _ z => z.1) σ pins H s e s' I c) (fun σ cls d H (z : EF X.K W σ cls d H) => z.2) own lt hfs hdb he hpl
end
end Sq
set_option Elab.async false
set_option linter.all false
set_option maxRecDepth 100000
set_option maxHeartbeats 2000000
namespace Sq
open PySem PySem.Spec PyProof.Rows L2 GenW
/-- a loop over a walk that hands out -/
theorem lfor_it {J : L2.It} {n : Nat} {G : Hp → Prop} {Y : Nat → Hp → V → Hp → Prop} (w : Walk J n G Y) {g : TG} {tb : TGL} {D : GEndL} {k : Nat} {Hb : Hp} {σ : L2.St} {H : Hp} (Pv : Nat → Nat → Hp → L2.St → Hp → Prop) (h0 : Pv 0 k Hb σ H) (hG : ∀ i k Hb σ H, i ≤ n → Pv i k Hb σ H → G H)
    (hs : ∀ i k Hb x σ H H', i < n → Pv i k Hb σ H → Y i H x H' → g x σ H' fun σ2 H2 => tb { D with nx := Pv (i + 1), ct := Pv (i + 1), bk := D.nx } k Hb σ2 H2) (hd : ∀ k Hb σ H, Pv n k Hb σ H → D.nx k Hb σ H) :
    ∃ W : Nat → Nat → Nat → Hp → L2.St → Hp → Prop, (∃ m, W 0 m k Hb σ H) ∧ ∀ j m i Hb σ H, W j m i Hb σ H →
      (J.stop j H ∧ D.nx i Hb σ H) ∨ (J.go j H ∧ ∃ Nw : Nat → Hp → L2.St → Hp → Prop, (∀ i' Hb' σ' H', Nw i' Hb' σ' H' → ∃ m', m' < m ∧ W (j + 1) m' i' Hb' σ' H') ∧ ∀ x H', J.yld j H x H' → g x σ H' fun σ2 H2 => tb { D with nx := Nw, ct := Nw, bk := D.nx } i Hb σ2 H2) := by
  refine ⟨fun j m i Hb σ H => m = n - j ∧ j ≤ n ∧ Pv j i Hb σ H, ⟨n, by simp, Nat.zero_le _, h0⟩, ?_⟩
  rintro j m i Hb σ H ⟨rfl, hj, p⟩
  have q := hG j i Hb σ H hj p
  by_cases hlt : j < n
  · exact .inr ⟨w.goes j H hlt q, Pv (j + 1), fun i' Hb' σ' H' p' => ⟨n - (j + 1), by omega, rfl, hlt, p'⟩, fun x H' y => hs j i Hb x σ H H' hlt p (w.yields j H x H' hlt q y)⟩
  · have e : j = n := by omega
    subst e
    exact .inl ⟨w.stops H q, hd i Hb σ H p⟩
theorem pi_reversedK {X : Cx} {K0 : PySem.W.Frag} {tg e : Expr} {ta : TA} {p pos : Pos} (hK : X.K = K0) (hg : Gl X "reversed") (hm : X.mg "reversed" = none) (ha : PA X [e] ta) (hs : starEach [e] X.env = [(false, eval e X.env)] := by rfl) : PI X tg (.Call (.Name "reversed" p) [e] [] pos) (iRev K0 ta) := by
  subst hK
  exact pi_reversed hg hm ha hs
theorem ge_appendK {X : Cx} {K0 : PySem.W.Frag} {o e : Expr} {to te : TE} {apos cpos : Pos} (hK : X.K = K0) (ho : GE X o to) (ha : GE X e te) (hbase : attributeBase o "append" X.env (eval o X.env) = eval o X.env := by rfl)
    (hfew : ((backTo cpos (starEach [e] X.env)).all (fun x => !x.1) && (backToKw cpos (keywordEach [] X.env)).all (fun x => x.1.isSome) && decide ([e].length + ([] : List Keyword).length + (if ([] : List Keyword).isEmpty then 0 else 1) < 30)) = true := by rfl)
    (hline : (apos.endLine == cpos.line) = true := by rfl) (hs : starEach [e] X.env = (false, eval e X.env) :: starEach [] X.env := by rfl) : GE X (.Call (.Attribute o "append" apos) [e] [] cpos) (tBM K0 "list" rAppend to (tCons te tNil)) := by
  subst hK
  exact ge_append ho ha hbase hfew hline hs
/-- a generator def, its context taken apart -/
theorem lfn_at {P : Program} {w : World} {K : PySem.W.Frag} {mg : Str → Option Value} {base : Heap} {k : Nat} {f : Addr} {name qual : Str} {params : Arguments} {body : List Stmt} {scope : Scope} {dV kV doc pm cdv ct oc : Value} {an od : Option Addr}
    {osl : Array (Option Value)} {N ps : List Str} {sp : SpL} (found : K.lookup f = some ⟨oc, od, .func (PySem.W.fnOf name qual params body scope dV kV doc pm an cdv ct), osl⟩) (coded : PySem.W.codeIn K cdv qual = true) (S : GScope N ps scope)
    (len : ∀ vs H M tot It E, sp vs H M tot It E → vs.length = ps.length)
    (inner : ∀ (Xc : Cx) (pinsC : List (Addr × Obj)) (A : Around) (n0 a : Addr) (go : Obj) (g : Nat) (E : XK) (sC : Shared) (HC : Hp) (tot : Nat) (M : Addr → Prop) (It : Nat → V → Hp → Prop) (J : Nat → L2.St → Hp → Prop) (vs : List V),
      Lv.Ok ⟨{ Xc with prog := P, w := w, K := K, mg := mg, base := base }, pinsC, N, qual, scope, f, cdv, A, n0, a, go, g, E, sC, HC, tot, M, It, J⟩ → Room k (A.deeper (envOfC qual scope n0 f cdv)) → sp vs HC M tot It E →
      ∃ t, G0s ⟨{ Xc with prog := P, w := w, K := K, mg := mg, base := base }, pinsC, N, qual, scope, f, cdv, A, n0, a, go, g, E, sC, HC, tot, M, It, J⟩ body t ∧ t { nx := fun i Hb _ H => i = tot ∧ Same Hb H, rt := fun _ _ _ _ => False } (start N vs) HC) :
    GFnL P w K mg base (k + 1) f (PySem.W.fnOf name qual params body scope dV kV doc pm an cdv ct) ps sp := by
  refine lfn_of found coded S len fun L vs ok h1 h2 h3 h4 h5 h6 h7 h8 h9 h10 room h => ?_
  obtain ⟨LX, Lp, LN, Lq, Ls, Lf, Lc, LA, Ln, La, Lo, Lg, LE, LS, LH, LT, LM, LI, LJ⟩ := L
  dsimp only at h1 h2 h3 h4 h5 h6 h7 h8 h9 h10 room h
  subst h6 h7 h8 h9 h10
  subst h1 h2 h3 h4 h5
  exact inner LX Lp LA Ln La Lo Lg LE LS LH LT LM LI LJ vs ok room h
end Sq
set_option Elab.async false
set_option linter.all false
set_option maxRecDepth 100000
set_option maxHeartbeats 2000000
namespace Sq
open PySem PySem.Spec PyProof.Rows L2
/-! ### the text -/
def topS (i : Nat) : Stmt := PySem.Challenge.pw_squeezelists_k11_errors_of_reaches_and_o.main.body.getD i (.Pass ⟨0, 0, 0, 0⟩)
abbrev s_checklist : Stmt := topS 8
theorem sc_checklist : FnScope ["replacements", "index", "number"] ["replacements"] (defScope s_checklist) := ⟨rfl, rfl, rfl, by decide +kernel, rfl, by decide +kernel, by decide +kernel⟩
abbrev s_checknumber : Stmt := topS 9
theorem sc_checknumber : FnScope ["number", "least"] ["number", "least"] (defScope s_checknumber) := ⟨rfl, rfl, rfl, by decide +kernel, rfl, by decide +kernel, by decide +kernel⟩
abbrev s_greatestorigin : Stmt := topS 11
theorem sc_greatestorigin : FnScope ["length", "replacements", "greatest", "number"] ["length", "replacements"] (defScope s_greatestorigin) := ⟨rfl, rfl, rfl, by decide +kernel, rfl, by decide +kernel, by decide +kernel⟩
abbrev s_origins : Stmt := topS 12
theorem sc_origins : GScope ["length", "replacements", "found", "number", "after", "origin"] ["length", "replacements"] (defScope s_origins) := ⟨rfl, rfl, rfl, by decide +kernel, rfl, by decide +kernel, by decide +kernel⟩
abbrev s_countorigins : Stmt := topS 13
theorem sc_countorigins : FnScope ["length", "replacements", "last", "limits", "number", "limit", "many"] ["length", "replacements", "last"] (defScope s_countorigins) := ⟨rfl, rfl, rfl, by decide +kernel, rfl, by decide +kernel, by decide +kernel⟩
abbrev s_manyforone : Stmt := topS 14
theorem sc_manyforone : FnScope ["length", "number"] ["length", "number"] (defScope s_manyforone) := ⟨rfl, rfl, rfl, by decide +kernel, rfl, by decide +kernel, by decide +kernel⟩
abbrev s_originsforone : Stmt := topS 15
theorem sc_originsforone : FnScope ["length", "number", "left"] ["length", "number"] (defScope s_originsforone) := ⟨rfl, rfl, rfl, by decide +kernel, rfl, by decide +kernel, by decide +kernel⟩
abbrev s_limitsafter : Stmt := topS 16
theorem sc_limitsafter : FnScope ["limits", "number", "found", "limit", "many", "left", "longest"] ["limits", "number"] (defScope s_limitsafter) := ⟨rfl, rfl, rfl, by decide +kernel, rfl, by decide +kernel, by decide +kernel⟩
abbrev s_reach : Stmt := topS 18
theorem sc_reach : FnScope ["replacements", "most", "longest", "number"] ["replacements", "most"] (defScope s_reach) := ⟨rfl, rfl, rfl, by decide +kernel, rfl, by decide +kernel, by decide +kernel⟩
abbrev s_bestreach : Stmt := topS 19
theorem sc_bestreach : FnScope ["steps", "most", "longest", "_"] ["steps", "most"] (defScope s_bestreach) := ⟨rfl, rfl, rfl, by decide +kernel, rfl, by decide +kernel, by decide +kernel⟩
abbrev s_feweststeps : Stmt := topS 20
theorem sc_feweststeps : FnScope ["length", "most", "steps", "longest"] ["length", "most"] (defScope s_feweststeps) := ⟨rfl, rfl, rfl, by decide +kernel, rfl, by decide +kernel, by decide +kernel⟩
abbrev s_bestlists : Stmt := topS 21
theorem sc_bestlists : GScope ["steps", "most", "choices", "many", "numbers", "place"] ["steps", "most"] (defScope s_bestlists) := ⟨rfl, rfl, rfl, by decide +kernel, rfl, by decide +kernel, by decide +kernel⟩
abbrev s_reachwith : Stmt := topS 22
theorem sc_reachwith : FnScope ["number", "longest"] ["number", "longest"] (defScope s_reachwith) := ⟨rfl, rfl, rfl, by decide +kernel, rfl, by decide +kernel, by decide +kernel⟩
abbrev s_bestnumbers : Stmt := topS 23
theorem sc_bestnumbers : FnScope ["longest", "low", "high"] ["longest"] (defScope s_bestnumbers) := ⟨rfl, rfl, rfl, by decide +kernel, rfl, by decide +kernel, by decide +kernel⟩
abbrev s_greatestreachwithone : Stmt := topS 24
theorem sc_greatestreachwithone : FnScope ["longest"] ["longest"] (defScope s_greatestreachwithone) := ⟨rfl, rfl, rfl, by decide +kernel, rfl, by decide +kernel, by decide +kernel⟩
abbrev s_bestchoices : Stmt := topS 25
theorem sc_bestchoices : FnScope ["steps", "most", "choices", "longest", "_"] ["steps", "most"] (defScope s_bestchoices) := ⟨rfl, rfl, rfl, by decide +kernel, rfl, by decide +kernel, by decide +kernel⟩
abbrev s_listat : Stmt := topS 26
theorem sc_listat : FnScope ["choices", "place", "found", "rest", "numbers"] ["choices", "place"] (defScope s_listat) := ⟨rfl, rfl, rfl, by decide +kernel, rfl, by decide +kernel, by decide +kernel⟩
abbrev s_lawsource : Stmt := topS 28
theorem sc_lawsource : FnScope ["script", "mix", "digits", "cell", "span"] ["script"] (defScope s_lawsource) := ⟨rfl, rfl, rfl, by decide +kernel, rfl, by decide +kernel, by decide +kernel⟩
abbrev s_lawdraw : Stmt := topS 29
theorem sc_lawdraw : FnScope ["source", "many", "drawn", "mixed"] ["source", "many"] (defScope s_lawdraw) := ⟨rfl, rfl, rfl, by decide +kernel, rfl, by decide +kernel, by decide +kernel⟩
abbrev s_lawsame : Stmt := topS 30
theorem sc_lawsame : FnScope ["found", "wanted", "k"] ["found", "wanted"] (defScope s_lawsame) := ⟨rfl, rfl, rfl, by decide +kernel, rfl, by decide +kernel, by decide +kernel⟩
abbrev s_lawrow : Stmt := topS 31
theorem sc_lawrow : FnScope ["source", "many", "wide", "way", "again", "found", "time", "some"] ["source", "many", "wide"] (defScope s_lawrow) := ⟨rfl, rfl, rfl, by decide +kernel, rfl, by decide +kernel, by decide +kernel⟩
abbrev s_lawerror : Stmt := topS 33
theorem sc_lawerror : FnScope ["e", "held", "names", "name", "is_one"] ["e"] (defScope s_lawerror) := ⟨rfl, rfl, rfl, by decide +kernel, rfl, by decide +kernel, by decide +kernel⟩
abbrev s_lawspoilt : Stmt := topS 34
theorem sc_lawspoilt : FnScope ["source", "row", "found", "time", "low"] ["source", "row"] (defScope s_lawspoilt) := ⟨rfl, rfl, rfl, by decide +kernel, rfl, by decide +kernel, by decide +kernel⟩
abbrev s_lawraised : Stmt := topS 35
theorem sc_lawraised : FnScope ["door", "row", "some", "caught", "seen", "one", "e"] ["door", "row", "some"] (defScope s_lawraised) := ⟨rfl, rfl, rfl, by decide +kernel, rfl, by decide +kernel, by decide +kernel⟩
abbrev s_lawdue : Stmt := topS 36
theorem sc_lawdue : FnScope ["checks", "found", "word", "value", "fails"] ["checks"] (defScope s_lawdue) := ⟨rfl, rfl, rfl, by decide +kernel, rfl, by decide +kernel, by decide +kernel⟩
abbrev s_law : Stmt := topS 37
theorem sc_law : FnScope ["script", "source", "k", "turn", "row", "low", "listed", "some", "most_low", "steps_low", "long_low", "far_low", "last_low", "dues", "saved", "told", "spot", "one", "door", "checks"] ["script"] (defScope s_law) := ⟨rfl, rfl, rfl, by decide +kernel, rfl, by decide +kernel, by decide +kernel⟩
end Sq
set_option Elab.async false
set_option linter.all false
set_option maxRecDepth 100000
set_option maxHeartbeats 4000000
set_option exponentiation.threshold 2000
namespace Sq
open PySem PySem.Spec PyProof.Rows L2
/-! ### the source of draws: at l, its digits at d -/
def M61 : Int := 2305843009213693951
structure Src (H : Hp) (l d : Addr) (mix cnt : Int) : Prop where
  ob : ∃ cur ds, H l = some (.lst [.ref d, .int cur, .int mix, .int cnt]) ∧ H d = some (.lst (List.map V.int ds))
  m0 : 0 ≤ mix
  m1 : mix < M61
  c0 : 0 ≤ cnt
  ne : l ≠ d
/-- all but the two lists is as it was -/
def Keep (H H' : Hp) (l d : Addr) : Prop := ∀ b o, H b = some o → b ≠ l → b ≠ d → H' b = some o
theorem Keep.refl (H : Hp) (l d : Addr) : Keep H H l d := fun _ _ h _ _ => h
theorem Keep.trans {H H1 H2 : Hp} {l d : Addr} (a : Keep H H1 l d) (b : Keep H1 H2 l d) : Keep H H2 l d := fun c o h n1 n2 => b c o (a c o h n1 n2) n1 n2
theorem Keep.of {H H' : Hp} {l d : Addr} (s : Same H H') : Keep H H' l d := fun b o h _ _ => s b o h
theorem Keep.l {H H' : Hp} {l d : Addr} {o : HO} (a : Keep H H' l d) : Keep H (upd H' l o) l d := fun c x h n1 n2 => by
  rw [upd_ne n1]
  exact a c x h n1 n2
theorem Keep.d {H H' : Hp} {l d : Addr} {o : HO} (a : Keep H H' l d) : Keep H (upd H' d o) l d := fun c x h n1 n2 => by
  rw [upd_ne n2]
  exact a c x h n1 n2
theorem Keep.new {H H' : Hp} {l d p : Addr} {o : HO} (a : Keep H H' l d) (h : H' p = none) : Keep H (upd H' p o) l d := a.trans (Keep.of (same_new h))
theorem Keep.seq {K : PySem.W.Frag} {H H' : Hp} {a l d : Addr} {xs : List V} (e : Keep H H' l d) (n1 : a ≠ l) (n2 : a ≠ d) (h : SqL K H a xs) : SqL K H' a xs := by
  rcases h with (h | ⟨o, h⟩) | h
  · exact .inl (.inl (e _ _ h n1 n2))
  · exact .inl (.inr ⟨o, e _ _ h n1 n2⟩)
  · exact .inr h
theorem Src.same {H H' : Hp} {l d : Addr} {mix cnt : Int} (S : Src H l d mix cnt) (s : Same H H') : Src H' l d mix cnt :=
  let ⟨cur, ds, h1, h2⟩ := S.ob
  ⟨⟨cur, ds, s _ _ h1, s _ _ h2⟩, S.m0, S.m1, S.c0, S.ne⟩
def spDraw : Sp := fun vs H Q _ => ∃ (l d : Addr) (mix cnt many : Int), vs = [.ref l, .int many] ∧ Src H l d mix cnt ∧ cnt < 1000000 ∧ 0 < many ∧ many.natAbs < 2 ^ 200 ∧
  ∀ z cnt' H', 0 ≤ z → z < many → Src H' l d mix cnt' → cnt' ≤ cnt + 1 → Keep H H' l d → Q (.int z) H'
theorem m61_small (x : Int) : (x % ((2 : Int) ^ (61 : Int).toNat - 1)).natAbs < 2 ^ 64 := by
  have h1 := Int.emod_nonneg x (show (2 : Int) ^ (61 : Int).toNat - 1 ≠ 0 by decide)
  have h2 := Int.emod_lt_of_pos x (show 0 < (2 : Int) ^ (61 : Int).toNat - 1 by decide)
  have e : (2 : Int) ^ (61 : Int).toNat - 1 = 2305843009213693951 := by decide
  rw [e] at h1 h2 ⊢
  omega
theorem Keep.free {H H' : Hp} {l d p : Addr} {mix cnt : Int} (k : Keep H H' l d) (S : Src H' l d mix cnt) (h : H' p = none) : H p = none := by
  obtain ⟨cur, ds, h1, h2⟩ := S.ob
  cases e : H p with
  | none => rfl
  | some o =>
    have := k p o e (fun z => by rw [z, h1] at h; cases h) (fun z => by rw [z, h2] at h; cases h)
    rw [h] at this
    cases this
theorem Src.nel {H : Hp} {l d p : Addr} {mix cnt : Int} (S : Src H l d mix cnt) (h : H p = none) : p ≠ l := fun z => by
  obtain ⟨cur, ds, h1, h2⟩ := S.ob
  rw [z, h1] at h
  cases h
theorem Src.ned {H : Hp} {l d p : Addr} {mix cnt : Int} (S : Src H l d mix cnt) (h : H p = none) : p ≠ d := fun z => by
  obtain ⟨cur, ds, h1, h2⟩ := S.ob
  rw [z, h2] at h
  cases h
section
variable {P : Program} {w : World} {K : PySem.W.Frag} {mg : Str → Option Value} {base : Heap}
theorem ok_lawdraw {f : Addr} {fd : FuncData} (F : Fun K "_law_draw" "_law_draw" s_lawdraw f fd) : FnOk P w K mg base CX0 1 f fd ["source", "many"] spDraw := by
  refine F.ok sc_lawdraw (fun vs H Q E h => ?_) (fun cdv A outer s H vs Q E hr h => ?_)
  · obtain ⟨l, d, mix, cnt, many, rfl, _⟩ := h
    rfl
  · obtain ⟨l, d, mix, cnt, many, rfl, S, hc, hm, hw, q⟩ := h
    refine ⟨_, (pss_cons (ps_while PassesOwn.never (PW.pt (pw_and (pt_cmpR op_lt (pe_ix (r := rIxL K) ix_list (pv 0) pe_int (fun _ _ => rfl)) pe_int (nomark _)) (pw_and1 (pt_cmpR (op_neD hr.units) (pe_ix (r := rIxL K) ix_list (pv 0) pe_int (fun _ _ => rfl)) (pe_lst pa_nil) (nomark _)))))
 (pss_one (ps_asg (pe_bm PySem.F.plainAttrs_list PySem.F.slot_list_pop PySem.F.type_list_pop mt_popAt (pe_ix (r := rIxL K) ix_list (pv 0) pe_int (fun _ _ => rfl)) (pa_cons pe_int pa_nil)) (pg_sub (pv 0) pe_int set_list))))
 (pss_cons (ps_if (pt_cmpR op_ge (pe_ix (r := rIxL K) ix_list (pv 0) pe_int (fun _ _ => rfl)) pe_int (nomark _))
 (pss_cons (ps_set (i := 2) sc_lawdraw.nd rfl (Or.inl rfl) (pe_op op_mod (pe_ix (r := rIxL K) ix_list (pv 0) pe_int (fun _ _ => rfl)) (pv 1)))
 (pss_cons (ps_asg (pe_op op_fdivW (pe_ix (r := rIxL K) ix_list (pv 0) pe_int (fun _ _ => rfl)) (pv 1)) (pg_sub (pv 0) pe_int set_list))
 (pss_one (ps_ret (pv 2)))))
 pss_nil)
 (pss_cons (ps_asg (pe_op op_add (pe_ix (r := rIxL K) ix_list (pv 0) pe_int (fun _ _ => rfl)) pe_int) (pg_sub (pv 0) pe_int set_list))
 (pss_cons (ps_set (i := 3) sc_lawdraw.nd rfl (Or.inl rfl) (pe_op op_mul (pe_op op_add (pe_ix (r := rIxL K) ix_list (pv 0) pe_int (fun _ _ => rfl)) pe_int) (pe_op op_pow (pe_op op_add (pe_ix (r := rIxL K) ix_list (pv 0) pe_int (fun _ _ => rfl)) pe_int) pe_int)))
 (pss_cons (ps_set (i := 3) sc_lawdraw.nd rfl (Or.inl rfl) (pe_op op_mod (pe_op op_add (pv 3) (pe_op op_mul pe_int (pe_ix (r := rIxL K) ix_list (pv 0) pe_int (fun _ _ => rfl)))) (pe_op op_sub (pe_op op_pow pe_int pe_int) pe_int)))
 (pss_one (ps_ret (pe_op op_mod (pe_op op_fdiv (pe_op op_mod (pe_op op_pow (pv 3) pe_int) (pe_op op_add (pe_op op_pow pe_int pe_int) pe_int)) pe_int) (pv 1))))))))), ?_⟩
    have c0 := S.c0
    have m0 := S.m0
    have m1 := S.m1
    have nld := S.ne
    -- while source[1] < 2 and source[0] != []
    obtain ⟨cur0, ds0, hl0, hd0⟩ := S.ob
    refine ⟨fun m σ H' => σ = [some (.ref l), some (.int many), none, none] ∧ Keep H H' l d ∧ ∃ cur ds, H' l = some (.lst [.ref d, .int cur, .int mix, .int cnt]) ∧ H' d = some (.lst (List.map V.int ds)) ∧ ds.length = m,
      ⟨_, rfl, Keep.refl H l d, cur0, ds0, hl0, hd0, rfl⟩, ?_⟩
    rintro m σ H' ⟨rfl, kp, cur, ds, hl, hd, hm2⟩
    refine tell (fun H2 => Same H' H2 ∧ ds ≠ []) (fun H2 => Same H' H2) (fun Q' hT hF => ?_) (fun H2 h => ?_) (fun H2 h => ?_)
    · refine ⟨_, rfl, l, _, 1, _, rfl, rfl, SqL.of hl, rfl, cur, 2, rfl, rfl, _, rfl, ite2 (fun c1 => ?_) (fun c1 => hF _ (Same.refl _))⟩
      refine ⟨_, rfl, l, _, 0, _, rfl, rfl, SqL.of hl, rfl, Nat.zero_le _, fun p hp => ?_⟩
      have npd : d ≠ p := ne_of_none hd hp
      refine ⟨_, _, .lst (SqL.of (show (upd H' p (.lst [])) d = _ by rw [upd_ne npd]; exact hd)) (dp_ints ds), .lst (SqL.of upd_same) .nil, shaped_ints ds, shaped_ints [], _, rfl, ?_⟩
      cases ds with
      | nil => exact hF _ (same_new hp)
      | cons x r => exact hT _ ⟨same_new hp, List.cons_ne_nil _ _⟩
    · refine iteT ?_
      obtain ⟨sm, nn⟩ := h
      obtain ⟨x, r, rfl⟩ : ∃ x r, ds = x :: r := by
        cases ds with
        | nil => exact absurd rfl nn
        | cons x r => exact ⟨x, r, rfl⟩
      have hl2 := sm _ _ hl
      have hd2 := sm _ _ hd
      refine ⟨fun σ' H'' => σ' = [some (.ref l), some (.int many), none, none] ∧ Keep H H'' l d ∧ H'' l = some (.lst [.ref d, .int x, .int mix, .int cnt]) ∧ H'' d = some (.lst (List.map V.int r)), ?_, ?_⟩
      · rintro σ' H'' ⟨e1, e2, e3, e4⟩
        exact ⟨r.length, by rw [← hm2, List.length_cons]; omega, e1, e2, _, _, e3, e4, rfl⟩
      refine ⟨_, rfl, l, _, 0, _, rfl, rfl, SqL.of hl2, rfl, .inl ⟨rfl, _, SqL.of hd2⟩, d, _, 0, 0, .int x, rfl, rfl, hd2, by decide, by decide, seqIndex_of (Int.le_refl 0) (by rw [List.length_map, List.length_cons]; omega), rfl, ?_⟩
      refine ⟨_, rfl, l, _, 1, 1, rfl, rfl, (show (upd H2 d _) l = _ by rw [upd_ne nld]; exact hl2), rfl, ?_⟩
      refine ⟨rfl, ((kp.trans (.of sm)).d).l, upd_same, ?_⟩
      rw [upd_ne nld.symm, upd_same]
      rfl
    · refine iteF ?_
      have kp2 := kp.trans (Keep.of h)
      have hl2 := h _ _ hl
      have hd2 := h _ _ hd
      clear hl hd hl0 hd0 hm2
      refine ⟨_, rfl, l, _, 1, _, rfl, rfl, SqL.of hl2, rfl, cur, 2, rfl, rfl, _, rfl, ite2 (fun c1 => ?_) (fun c1 => ?_)⟩
      · -- drawn = source[1] % many
        refine ⟨_, rfl, l, _, 1, _, rfl, rfl, SqL.of hl2, rfl, _, rfl, cur, many, rfl, rfl, hm, ?_⟩
        refine ⟨_, rfl, l, _, 1, _, rfl, rfl, SqL.of hl2, rfl, _, rfl, cur, many, rfl, rfl, wide_div hm hw (by decide) (by decide), ?_⟩
        refine ⟨_, rfl, l, _, 1, 1, rfl, rfl, hl2, rfl, _, rfl, ?_⟩
        refine q _ cnt _ (Int.emod_nonneg _ (by omega)) (Int.emod_lt_of_pos _ hm) ⟨⟨cur / many, ds, upd_same, by rw [upd_ne nld.symm]; exact hd2⟩, m0, m1, c0, nld⟩ (by omega) kp2.l
      · refine ⟨_, rfl, l, _, 3, _, rfl, rfl, SqL.of hl2, rfl, cnt, 1, rfl, rfl, _, rfl, l, _, 3, 3, rfl, rfl, hl2, rfl, ?_⟩
        have hl3 : (upd H2 l (.lst [.ref d, .int cur, .int mix, .int (cnt + 1)])) l = some (.lst [.ref d, .int cur, .int mix, .int (cnt + 1)]) := upd_same
        have cc : (cnt + 1 + 3).natAbs < 2 ^ 64 := by omega
        refine ⟨_, rfl, l, _, 2, _, rfl, rfl, SqL.of hl3, rfl, mix, 7, rfl, rfl, _, rfl, l, _, 3, _, rfl, rfl, SqL.of hl3, rfl, cnt + 1, 3, rfl, rfl, cnt + 1 + 3, 3, rfl, rfl, ⟨by decide, by decide, cc⟩, mix + 7, _, rfl, rfl, .inl ⟨by omega, by unfold M61 at m1; omega⟩, ?_⟩
        refine ⟨_, rfl, _, rfl, l, _, 3, _, rfl, rfl, SqL.of hl3, rfl, 1000081, cnt + 1, rfl, rfl, .inl ⟨by decide, by decide⟩, _, _, rfl, rfl, 2, 61, rfl, rfl, ⟨by decide, by decide, by decide⟩, _, 1, rfl, rfl, _, _, rfl, rfl, (by decide : (0 : Int) < 2 ^ Int.toNat 61 - 1), ?_⟩
        refine ⟨_, rfl, _, 5, rfl, rfl, ⟨by decide, by decide, m61_small _⟩, 10, 18, rfl, rfl, ⟨by decide, by decide, by decide⟩, _, 9, rfl, rfl, _, _, rfl, rfl, (by decide : (0 : Int) < 10 ^ Int.toNat 18 + 9), _, 128, rfl, rfl, ⟨by decide, by decide⟩, _, rfl, _, many, rfl, rfl, hm, ?_⟩
        exact q _ (cnt + 1) _ (Int.emod_nonneg _ (by omega)) (Int.emod_lt_of_pos _ hm) ⟨⟨cur, ds, hl3, by rw [upd_ne nld.symm]; exact hd2⟩, m0, m1, by omega, nld⟩ (by omega) kp2.l
theorem m61_is : (2 : Int) ^ (61 : Int).toNat - 1 = M61 := by decide
def spSource (K : PySem.W.Frag) : Sp := fun vs H Q _ => ∃ (a : Addr) (ns : List Int), vs = [.ref a] ∧ SqL K H a (ns.map V.int) ∧ ns.length ≤ 63 ∧ ∀ l d mix H', H l = none → H d = none → Same H H' → Src H' l d mix 0 → Q (.ref l) H'
theorem ok_lawsource {f : Addr} {fd : FuncData} (F : Fun K "_law_source" "_law_source" s_lawsource f fd) (B : Bi mg) : FnOk P w K mg base CX0 1 f fd ["script"] (spSource K) := by
  refine F.ok sc_lawsource (fun vs H Q E h => ?_) (fun cdv A outer s H vs Q E hr h => ?_)
  · obtain ⟨a, ns, rfl, _⟩ := h
    rfl
  · obtain ⟨a, ns, rfl, hS, hn, q⟩ := h
    refine ⟨_, (pss_cons (ps_set (i := 1) sc_lawsource.nd rfl (Or.inl rfl) pe_int)
 (pss_cons (ps_set (i := 2) sc_lawsource.nd rfl (Or.inl rfl) (pe_lst pa_nil))
 (pss_cons (ps_for PassesOwn.never rfl (pi_list (pv 0)) (pg_name (i := 3) sc_lawsource.nd rfl (Or.inl rfl))
 (pss_cons (ps_set (i := 1) sc_lawsource.nd rfl (Or.inl rfl) (pe_op op_mod (pe_op op_add (pe_op op_mul (pv 1) pe_int) (pv 3)) (pe_op op_sub (pe_op op_pow pe_int pe_int) pe_int)))
 (pss_cons (ps_set (i := 4) sc_lawsource.nd rfl (Or.inl rfl) (pe_callB (id := "max") (call_max2 rfl) (by rfl) B.n_max (by decide +kernel) (pa_cons (pv 3) (pa_cons (pe_op op_sub pe_int (pv 3)) pa_nil))))
 (pss_one (ps_if (pt_cmpR op_ge (pv 4) (pe_op op_pow pe_int pe_int) (nomark _))
 (pss_one (ps_expr (pe_bm PySem.F.plainAttrs_list PySem.F.slot_list_append PySem.F.type_list_append mt_append (pv 2) (pa_cons (pe_op op_sub (pv 4) (pe_op op_pow pe_int pe_int)) pa_nil))))
 pss_nil)))))
 (pss_one (ps_ret (pe_lst (pa_cons (pv 2) (pa_cons pe_int (pa_cons (pv 1) (pa_cons pe_int pa_nil)))))))))), ?_⟩
    refine ⟨Nat.zero_le _, fun d hd => ?_⟩
    refine ⟨_, rfl, a, rfl, ⟨_, (same_new hd).seq hS⟩, for_list (K := K) (a := a) (xs := ns.map V.int) (fun i σ H' => Same H H' ∧ ∃ mix ds y3 y4, σ = [some (.ref a), some (.int mix), some (.ref d), y3, y4] ∧ 0 ≤ mix ∧ mix < M61 ∧ ds.length ≤ i ∧ H' d = some (.lst (List.map V.int ds)))
      ⟨same_new hd, 271828182845904, [], none, none, rfl, by decide, by decide, Nat.le_refl _, upd_same⟩ (fun i σ H' _ h => h.1.seq hS) ?_ ?_⟩
    · rintro i x σ H' hi ⟨sm, mix, ds, y3, y4, rfl, m0, m1, hlen, hdd⟩
      have hil : i < ns.length := by
        have := (List.getElem?_eq_some_iff.mp hi).1
        rwa [List.length_map] at this
      obtain ⟨c, hc, rfl⟩ := map_at hi
      refine ⟨_, rfl, mix, 1000033, rfl, rfl, .inr ⟨by decide, by decide⟩, _, rfl, _, c, rfl, rfl, 2, 61, rfl, rfl, ⟨by decide, by decide, by decide⟩, _, 1, rfl, rfl, _, _, rfl, rfl, (by decide : (0 : Int) < 2 ^ Int.toNat 61 - 1), ?_⟩
      rw [m61_is]
      have m0' : 0 ≤ (mix * 1000033 + c) % M61 := Int.emod_nonneg _ (by decide)
      have m1' : (mix * 1000033 + c) % M61 < M61 := Int.emod_lt_of_pos _ (by decide)
      refine ⟨_, rfl, _, rfl, 0, c, rfl, rfl, c, 0 - c, rfl, ?_⟩
      generalize (if 0 - c > c then 0 - c else c) = sp
      refine ⟨_, rfl, 10, 18, rfl, rfl, ⟨by decide, by decide, by decide⟩, _, _, rfl, rfl, _, rfl, ite2 (fun _ => ?_) (fun _ => ?_)⟩
      · refine ⟨_, rfl, .inl ⟨rfl, _, SqL.of hdd⟩, _, rfl, 10, 18, rfl, rfl, ⟨by decide, by decide, by decide⟩, _, _, rfl, rfl, d, _, _, rfl, rfl, hdd, (by rw [List.length_map]; exact small1000 (by omega)), ?_⟩
        refine ⟨fun b o e => ?_, (mix * 1000033 + c) % M61, ds ++ [sp - 10 ^ Int.toNat 18], _, _, rfl, m0', m1', by rw [List.length_append]; show ds.length + 1 ≤ i + 1; omega, ?_⟩
        · rw [upd_ne (ne_of_none e hd)]
          exact sm _ _ e
        · rw [upd_same, List.map_append]
          rfl
      · exact ⟨sm, (mix * 1000033 + c) % M61, ds, _, _, rfl, m0', m1', by omega, hdd⟩
    · rintro σ H' ⟨sm, mix, ds, y3, y4, rfl, m0, m1, hlen, hdd⟩
      refine ⟨_, rfl, _, rfl, (by show 4 ≤ sizeLine; exact Nat.le_of_lt (small1000 (by decide))), fun l hl => ?_⟩
      have ndl : d ≠ l := ne_of_none hdd hl
      refine q l d mix _ (sm.free hl) hd (sm.trans (same_new hl)) ⟨⟨0, ds, upd_same, by rw [upd_ne ndl]; exact hdd⟩, m0, m1, Int.le_refl 0, ndl.symm⟩
end
end Sq
set_option Elab.async false
set_option linter.all false
set_option maxRecDepth 100000
set_option maxHeartbeats 4000000
set_option exponentiation.threshold 2000
namespace Sq
open PySem PySem.Spec PyProof.Rows L2
theorem at3 {a b c z : Int} (h0 : 0 ≤ z) (h : z < 3) : ∃ k, atI [V.int a, V.int b, V.int c] z = some (.int k) ∧ (k = a ∨ k = b ∨ k = c) := by
  have : z = 0 ∨ z = 1 ∨ z = 2 := by omega
  rcases this with e | e | e
  · subst e
    exact ⟨a, rfl, .inl rfl⟩
  · subst e
    exact ⟨b, rfl, .inr (.inl rfl)⟩
  · subst e
    exact ⟨c, rfl, .inr (.inr rfl)⟩
section
variable {P : Program} {w : World} {K : PySem.W.Frag} {mg : Str → Option Value} {base : Heap}
def spRow : Sp := fun vs H Q _ => ∃ (l d : Addr) (mix cnt many wide : Int), vs = [.ref l, .int many, .int wide] ∧ Src H l d mix cnt ∧ cnt < 500000 ∧ 0 ≤ many ∧ many ≤ 12 ∧ 2 ≤ wide ∧ wide < 1073741824 ∧
  ∀ p ks cnt' H', H p = none → Src H' l d mix cnt' → cnt' ≤ cnt + 3 + 2 * many → Keep H H' l d → H' p = some (.lst (List.map V.int ks)) → (ks.length : Int) ≤ many → (∀ k ∈ ks, 2 ≤ k ∧ k ≤ wide) → Q (.ref p) H'
theorem ok_lawrow {f : Addr} {fd : FuncData} (F : Fun K "_law_row" "_law_row" s_lawrow f fd) (B : Bi mg) (D_lawdraw : Df P w K mg base 1 "_law_draw" ["source", "many"] spDraw) : FnOk P w K mg base CX0 2 f fd ["source", "many", "wide"] spRow := by
  refine F.ok sc_lawrow (fun vs H Q E h => ?_) (fun cdv A outer s H vs Q E hr h => ?_)
  · obtain ⟨l, d, mix, cnt, many, wide, rfl, _⟩ := h
    rfl
  · obtain ⟨l, d, mix, cnt, many, wide, rfl, S, hc, hm0, hm1, hw0, hw1, q⟩ := h
    refine ⟨_, (pss_cons (ps_par (i := 3) (j := 4) (by rfl) sc_lawrow.nd rfl rfl (by decide) rfl rfl (pa_cons (pe_callD D_lawdraw (hr.mono (by omega)) (by rfl) (pa_cons (pv 0) (pa_cons pe_int pa_nil))) (pa_cons (pe_op op_add pe_int (pe_callD D_lawdraw (hr.mono (by omega)) (by rfl) (pa_cons (pv 0) (pa_cons (pe_op op_sub (pv 2) pe_int) pa_nil)))) pa_nil)) (by rfl))
 (pss_cons (ps_set (i := 5) sc_lawrow.nd rfl (Or.inl rfl) (pe_lst pa_nil))
 (pss_cons (ps_for PassesOwn.never rfl (pi_range1 (by rfl) B.n_range (pa_cons (pe_callD D_lawdraw (hr.mono (by omega)) (by rfl) (pa_cons (pv 0) (pa_cons (pe_op op_add (pv 1) pe_int) pa_nil))) pa_nil)) (pg_name (i := 6) sc_lawrow.nd rfl (Or.inl rfl))
 (pss_cons (ps_set (i := 7) sc_lawrow.nd rfl (Or.inl rfl) (pe_lst (pa_cons (pe_op op_add pe_int (pe_callD D_lawdraw (hr.mono (by omega)) (by rfl) (pa_cons (pv 0) (pa_cons (pe_op op_sub (pv 2) pe_int) pa_nil)))) (pa_cons (pe_op op_add pe_int (pe_callD D_lawdraw (hr.mono (by omega)) (by rfl) (pa_cons (pv 0) (pa_cons (pe_callB (id := "min") (call_min2 rfl) (by rfl) B.n_min (by decide +kernel) (pa_cons pe_int (pa_cons (pe_op op_sub (pv 2) pe_int) pa_nil))) pa_nil)))) (pa_cons (pv 4) pa_nil)))))
 (pss_one (ps_expr (pe_bm PySem.F.plainAttrs_list PySem.F.slot_list_append PySem.F.type_list_append mt_append (pv 5) (pa_cons (pe_ix (r := rIxL K) ix_list (pv 7) (pv 3) (fun _ _ => rfl)) pa_nil))))))
 (pss_one (ps_ret (pv 5)))))), ?_⟩
    refine ⟨_, rfl, l, d, mix, cnt, 3, rfl, S, by omega, by omega, by decide, fun z1 cnt1 H1 z10 z11 S1 hc1 k1 => ?_⟩
    refine ⟨_, rfl, _, rfl, wide, 1, rfl, rfl, l, d, mix, cnt1, wide - 1, rfl, S1, by omega, by omega, by omega, fun z2 cnt2 H2 z20 z21 S2 hc2 k2 => ?_⟩
    refine ⟨2, z2, rfl, rfl, _, _, rfl, ?_⟩
    -- found = []
    refine ⟨Nat.zero_le _, fun p hp => ?_⟩
    have npl := S2.nel hp
    have npd := S2.ned hp
    have k3 : Keep H (upd H2 p (.lst [])) l d := (k1.trans k2).new hp
    have hpH : H p = none := (k1.trans k2).free S2 hp
    have S3 : Src (upd H2 p (.lst [])) l d mix cnt2 := S2.same (same_new hp)
    -- for time in range(..)
    refine ⟨_, rfl, _, rfl, many, 1, rfl, rfl, l, d, mix, cnt2, many + 1, rfl, S3, by omega, by omega, by omega, fun z3 cnt3 H4 z30 z31 S4 hc3 k4 => ?_⟩
    have hp4 := k4 p _ upd_same npl npd
    refine ⟨z3, rfl, by omega, by omega, for_range (lo := 0) (n := z3.toNat) (fun i σ H' => ∃ ks cnt' y6 y7, σ = [some (.ref l), some (.int many), some (.int wide), some (.int z1), some (.int (2 + z2)), some (.ref p), y6, y7] ∧ Keep H H' l d ∧ Src H' l d mix cnt' ∧ cnt' ≤ cnt + 3 + 2 * i ∧ H' p = some (.lst (List.map V.int ks)) ∧ ks.length = i ∧ ∀ k ∈ ks, 2 ≤ k ∧ k ≤ wide)
      ⟨[], cnt3, none, none, rfl, k3.trans k4, S4, by omega, hp4, rfl, fun k h => by cases h⟩ ?_ ?_⟩
    · rintro i σ H5 hi ⟨ks, c5, y6, y7, rfl, k5, S5, hc5, hp5, hlen, hks⟩
      refine ⟨_, rfl, _, rfl, wide, 1, rfl, rfl, l, d, mix, c5, wide - 1, rfl, S5, by omega, by omega, by omega, fun z6 c6 H6 z60 z61 S6 hc6 k6 => ?_⟩
      refine ⟨2, z6, rfl, rfl, _, rfl, _, rfl, wide, 1, rfl, rfl, 4, wide - 1, rfl, ?_⟩
      have hmin : (0 : Int) < (if wide - 1 < 4 then wide - 1 else 4) ∧ (if wide - 1 < 4 then wide - 1 else 4) ≤ wide - 1 ∧ (if wide - 1 < 4 then wide - 1 else 4) ≤ 4 := by
        split <;> omega
      generalize (if wide - 1 < 4 then wide - 1 else 4) = mn at hmin
      refine ⟨l, d, mix, c6, mn, rfl, S6, by omega, by omega, by omega, fun z7 c7 H7 z70 z71 S7 hc7 k7 => ?_⟩
      have k57 := k6.trans k7
      have hp7 := k57 p _ hp5 npl npd
      refine ⟨2, z7, rfl, rfl, _, rfl, (by show 3 ≤ sizeLine; exact Nat.le_of_lt (small1000 (by decide))), fun t ht => ?_⟩
      have ntp : t ≠ p := fun z => by rw [z, hp7] at ht; cases ht
      obtain ⟨k, hk, hk3⟩ := at3 (a := 2 + z6) (b := 2 + z7) (c := 2 + z2) z10 z11
      have hp8 : (upd H7 t (.lst [.int (2 + z6), .int (2 + z7), .int (2 + z2)])) p = some (.lst (List.map V.int ks)) := by rw [upd_ne ntp.symm]; exact hp7
      refine ⟨_, rfl, .inl ⟨rfl, _, SqL.of hp8⟩, _, rfl, _, rfl, t, _, z1, .int k, rfl, rfl, SqL.of upd_same, hk, p, _, _, rfl, rfl, hp8, (by rw [List.length_map]; exact small1000 (by omega)), ?_⟩
      have S8 : Src (upd H7 t (.lst [.int (2 + z6), .int (2 + z7), .int (2 + z2)])) l d mix c7 := S7.same (same_new ht)
      have k8 : Keep H (upd H7 t (.lst [.int (2 + z6), .int (2 + z7), .int (2 + z2)])) l d := (k5.trans k57).new ht
      refine ⟨ks ++ [k], c7, _, _, rfl, ?_, ?_, by omega, ?_, by rw [List.length_append, hlen]; rfl, ?_⟩
      · intro b o e n1 n2
        have nb : b ≠ p := fun z => by rw [z, hpH] at e; cases e
        rw [upd_ne nb]
        exact k8 b o e n1 n2
      · obtain ⟨cur, ds, h1, h2⟩ := S8.ob
        exact ⟨⟨cur, ds, by rw [upd_ne npl.symm]; exact h1, by rw [upd_ne npd.symm]; exact h2⟩, S8.m0, S8.m1, S8.c0, S8.ne⟩
      · rw [upd_same, List.map_append]
        rfl
      · intro x hx
        rcases List.mem_append.mp hx with h | h
        · exact hks x h
        · have e := List.mem_singleton.mp h
          subst e
          omega
    · rintro σ H5 ⟨ks, c5, y6, y7, rfl, k5, S5, hc5, hp5, hlen, hks⟩
      refine ⟨_, rfl, ?_⟩
      exact q p ks c5 H5 hpH S5 (by omega) k5 hp5 (by omega) hks
end
section
variable {P : Program} {w : World} {K : PySem.W.Frag} {mg : Str → Option Value} {base : Heap} {c fI : Nat → Addr} {qn : Nat → Str} {cB : Addr}
def spCheckNumber (c : Nat → Addr) : Sp := fun vs H Q E => ∃ (n l : Int), vs = [.int n, .int l] ∧ (l ≤ n → Q .non H) ∧ (n < l → Wish E (c 1) (.int n) H)
theorem ok_checknumber {f : Addr} {fd : FuncData} (F : Fun K "check_number" "check_number" s_checknumber f fd) (Z : Errs P K mg c fI qn cB) : FnOk P w K mg base (L2N.CX P w) 1 f fd ["number", "least"] (spCheckNumber c) := by
  refine okN F sc_checknumber (fun vs H Q E h => ?_) (fun cdv A outer s H vs Q E hr h => ?_)
  · obtain ⟨n, l, rfl, _⟩ := h
    rfl
  · obtain ⟨n, l, rfl, q, e⟩ := h
    refine ⟨_, (pss_one (ps_if (pt_cmpR op_lt (pv 0) (pv 1) (nomark _))
 (pss_one (L2N.ps_raise rfl takesN (pmk_erN (Z.er 1 (by decide)).2 Z.g1 hr (by rfl) (pv 0))))
 pss_nil)), ?_⟩
    refine ⟨_, rfl, _, rfl, _, _, rfl, rfl, _, rfl, ite2 (fun c => ?_) (fun c => ?_)⟩
    · exact ⟨_, rfl, e (of_decide_eq_true c)⟩
    · exact q (by have : ¬ n < l := fun z => c (decide_eq_true z); omega)
def spCheckList (K : PySem.W.Frag) (c : Nat → Addr) : Sp := fun vs H Q E => ∃ (a : Addr) (ks : List Int), vs = [.ref a] ∧ SqL K H a (ks.map V.int) ∧ (lowAt ks = none → ∀ H', Same H H' → Q .non H') ∧ (∀ j : Nat, lowAt ks = some j → ∀ H', Same H H' → Wish E (c 0) (.int (j : Int)) H')
theorem ok_checklist {f : Addr} {fd : FuncData} (F : Fun K "check_list" "check_list" s_checklist f fd) (B : Bi mg) (Z : Errs P K mg c fI qn cB) : FnOk P w K mg base (L2N.CX P w) 1 f fd ["replacements"] (spCheckList K c) := by
  refine okN F sc_checklist (fun vs H Q E h => ?_) (fun cdv A outer s H vs Q E hr h => ?_)
  · obtain ⟨a, ks, rfl, _⟩ := h
    rfl
  · obtain ⟨a, ks, rfl, hS, q, e⟩ := h
    refine ⟨_, (pss_one (ps_for ownsN rfl (pi_enum (by rfl) B.n_enumerate (pa_cons (pv 0) pa_nil)) (pg_tup rfl (pgs_cons (pg_name (i := 1) sc_checklist.nd rfl (Or.inl rfl)) (pgs_cons (pg_name (i := 2) sc_checklist.nd rfl (Or.inl rfl)) pgs_nil)))
 (pss_one (ps_if (pt_cmpR op_lt (pv 2) pe_int (nomark _))
 (pss_one (L2N.ps_raise rfl takesN (pmk_erN (Z.er 0 (by decide)).2 Z.g0 hr (by rfl) (pv 1))))
 pss_nil)))), ?_⟩
    refine ⟨_, rfl, a, _, rfl, hS, for_it walk_enum (fun i σ H' => Same H H' ∧ (∀ k ∈ ks.take i, 2 ≤ k) ∧ ∃ y1 y2, σ = [some (.ref a), y1, y2]) ⟨Same.refl H, (fun k z => by simp at z), none, none, rfl⟩ (fun i σ H' _ h => h.1.seq hS) ?_ ?_⟩
    · rintro i x σ H' H2 hi ⟨sm, up, y1, y2, rfl⟩ ⟨T, u, v, rfl, hT, rfl, e1, e2⟩
      cases e1
      obtain ⟨k, hk, rfl⟩ := map_at e2
      have sm2 := sm.trans (same_new (o := .tup [.int (i : Int), .int k]) hT)
      obtain ⟨la, lb⟩ := lowAt_take ks i up
      refine ⟨T, _, rfl, .inl (.inl upd_same), rfl, _, _, rfl, _, _, rfl, rfl, ?_⟩
      refine ⟨_, rfl, _, 2, rfl, rfl, _, rfl, ite2 (fun c => ?_) (fun c => ?_)⟩
      · exact ⟨_, rfl, e i (la k hk (of_decide_eq_true c)) _ sm2⟩
      · refine ⟨sm2, fun x hx => ?_, _, _, rfl⟩
        rw [List.take_add_one, hk] at hx
        rcases List.mem_append.mp hx with z | z
        · exact up x z
        · have := List.mem_singleton.mp z
          have : ¬ k < 2 := fun z => c (decide_eq_true z)
          omega
    · rintro σ H' ⟨sm, up, y1, y2, rfl⟩
      exact q ((lowAt_take ks ks.length (by rw [List.length_map] at up; exact up)).2 (Nat.le_refl _)) H' sm
end
end Sq
set_option Elab.async false
set_option linter.all false
set_option maxRecDepth 100000
set_option maxHeartbeats 4000000
set_option exponentiation.threshold 2000
namespace Sq
open PySem PySem.Spec PyProof.Rows L2
theorem bits3 {R : Int} {b : Nat} (hR : 1 ≤ R) (h : R.natAbs < 2 ^ b) : ∀ x : Int, 0 ≤ x → x ≤ R + 3 → x.natAbs < 2 ^ (b + 2) := fun x h0 h1 => by
  have e : 2 ^ (b + 2) = 4 * 2 ^ b := by rw [Nat.pow_add]; omega
  omega
theorem grow_bits {R : Int} {b : Nat} (hR : 1 ≤ R) (h : R.natAbs < 2 ^ b) : (grow R).natAbs < 2 ^ (2 * b) := by
  have l1 := low_ge hR
  have l2 := low_le hR
  have g : grow R = (R + 3 - low R) * low R - 2 := rw1_low (by omega)
  have gp := grow_pos hR
  have e1 := sq_gap R (low R)
  have d0 : 0 ≤ (2 * low R - (R + 3)) * (2 * low R - (R + 3)) := by
    by_cases c : 0 ≤ 2 * low R - (R + 3)
    · exact Int.mul_nonneg c c
    · have := Int.mul_nonneg (a := -(2 * low R - (R + 3))) (b := -(2 * low R - (R + 3))) (by omega) (by omega)
      rwa [Int.neg_mul_neg] at this
  obtain ⟨B, hB⟩ : ∃ B : Int, B = ((2 ^ b : Nat) : Int) := ⟨_, rfl⟩
  have r1 : R + 3 ≤ B + 2 := by omega
  have m1 : (R + 3) * (R + 3) ≤ (B + 2) * (B + 2) := Int.mul_le_mul r1 r1 (by omega) (by omega)
  have m2 : (B + 2) * (B + 2) = B * B + 4 * B + 4 := by
    simp only [Int.add_mul, Int.mul_add]
    omega
  have m3 : 2 * B ≤ B * B := Int.mul_le_mul_of_nonneg_right (by omega) (by omega)
  have e2 : ((2 ^ (2 * b) : Nat) : Int) = B * B := by
    rw [hB, Nat.two_mul, Nat.pow_add]
    push_cast
    rfl
  omega
theorem up_bits {v : Int} {b : Nat} (hv : 1 ≤ v) (h : v.natAbs < 2 ^ b) : ∀ n, (up n v).natAbs < 2 ^ (b * 2 ^ n)
  | 0 => by
    rw [Nat.pow_zero, Nat.mul_one]
    exact h
  | n + 1 => by
    have := grow_bits (up_pos hv n) (up_bits hv h n)
    rwa [show 2 * (b * 2 ^ n) = b * 2 ^ (n + 1) by rw [Nat.pow_succ, Nat.mul_left_comm, Nat.mul_comm 2]] at this
theorem pow_le_le {i n b c : Nat} (h : i ≤ n) (hb : b * 2 ^ n ≤ c) : b * 2 ^ i ≤ c := Nat.le_trans (Nat.mul_le_mul_left b (Nat.pow_le_pow_right (by decide) h)) hb
section
variable {P : Program} {w : World} {K : PySem.W.Frag} {mg : Str → Option Value} {base : Heap}
def spReachWith : Sp := fun vs H Q _ => ∃ (k R : Int), vs = [.int k, .int R] ∧ 2 ≤ k ∧ (k ≤ R + 1 → CMulW (R + 3 - k) k) ∧ Q (.int (rw1 k R)) H
theorem ok_reachwith {f : Addr} {fd : FuncData} (F : Fun K "reach_with" "reach_with" s_reachwith f fd) : FnOk P w K mg base CX0 1 f fd ["number", "longest"] spReachWith := by
  refine F.ok sc_reachwith (fun vs H Q E h => ?_) (fun cdv A outer s H vs Q E hr h => ?_)
  · obtain ⟨k, R, rfl, _⟩ := h
    rfl
  · obtain ⟨k, R, rfl, h2, h3, q⟩ := h
    refine ⟨_, (pss_cons (ps_if (pt_cmpR op_gt (pv 0) (pe_op op_add (pv 1) pe_int) (nomark _))
 (pss_one (ps_ret (pv 1)))
 pss_nil)
 (pss_one (ps_ret (pe_op op_sub (pe_op op_mulW (pe_op op_sub (pe_op op_add (pv 1) pe_int) (pv 0)) (pv 0)) pe_int)))), ?_⟩
    refine ⟨_, rfl, _, rfl, _, _, rfl, rfl, _, _, rfl, rfl, _, rfl, ite2 (fun c => ?_) (fun c => ?_)⟩
    · have c' : R + 1 < k := of_decide_eq_true c
      have e : rw1 k R = R := by
        unfold rw1
        rw [if_pos (show k > R + 1 from c')]
      rw [e] at q
      exact ⟨_, rfl, q⟩
    · have c' : ¬ R + 1 < k := fun z => c (decide_eq_true z)
      have e : rw1 k R = (R + 3 - k) * k - 2 := by
        unfold rw1
        rw [if_neg (show ¬ k > R + 1 from c')]
      rw [e] at q
      exact ⟨_, rfl, _, _, rfl, rfl, _, rfl, _, _, rfl, rfl, _, rfl, _, _, rfl, rfl, h3 (by omega), _, _, rfl, rfl, q⟩
def spBestNumbers : Sp := fun vs H Q _ => ∃ R : Int, vs = [.int R] ∧ ∀ p, H p = none → Q (.ref p) (upd H p (.lst ((bests R).map V.int)))
theorem ok_bestnumbers {f : Addr} {fd : FuncData} (F : Fun K "best_numbers" "best_numbers" s_bestnumbers f fd) : FnOk P w K mg base CX0 1 f fd ["longest"] spBestNumbers := by
  refine F.ok sc_bestnumbers (fun vs H Q E h => ?_) (fun cdv A outer s H vs Q E hr h => ?_)
  · obtain ⟨R, rfl, _⟩ := h
    rfl
  · obtain ⟨R, rfl, q⟩ := h
    refine ⟨_, (pss_cons (ps_set (i := 1) sc_bestnumbers.nd rfl (Or.inl rfl) (pe_op op_fdiv (pe_op op_add (pv 0) pe_int) pe_int))
 (pss_cons (ps_set (i := 2) sc_bestnumbers.nd rfl (Or.inl rfl) (pe_op op_fdiv (pe_op op_add (pv 0) pe_int) pe_int))
 (pss_cons (ps_if (pt_cmpR op_eq (pv 1) (pv 2) (nomark _))
 (pss_one (ps_ret (pe_lst (pa_cons (pv 1) pa_nil))))
 pss_nil)
 (pss_one (ps_ret (pe_lst (pa_cons (pv 1) (pa_cons (pv 2) pa_nil)))))))), ?_⟩
    refine ⟨_, rfl, _, 3, rfl, rfl, _, 2, rfl, rfl, ⟨by decide, by decide⟩, _, rfl, _, 4, rfl, rfl, _, 2, rfl, rfl, ⟨by decide, by decide⟩, ?_⟩
    refine ⟨_, rfl, _, rfl, rfl, _, rfl, ite2 (fun c => ?_) (fun c => ?_)⟩
    · have c' : V.int (low R) = V.int (high R) := of_decide_eq_true c
      have e : low R = high R := by injection c'
      refine ⟨_, rfl, (by show 1 ≤ sizeLine; exact Nat.le_of_lt (small1000 (by decide))), fun p hp => ?_⟩
      have := q p hp
      unfold bests at this
      rw [if_pos e] at this
      exact this
    · have e : ¬ low R = high R := fun z => c (decide_eq_true (congrArg V.int z))
      refine ⟨_, rfl, _, rfl, (by show 2 ≤ sizeLine; exact Nat.le_of_lt (small1000 (by decide))), fun p hp => ?_⟩
      have := q p hp
      unfold bests at this
      rw [if_neg e] at this
      exact this
def spGrow : Sp := fun vs H Q _ => ∃ (R : Int) (b : Nat), vs = [.int R] ∧ 1 ≤ R ∧ R.natAbs < 2 ^ b ∧ b ≤ 200000 ∧ ∀ H', Same H H' → Q (.int (grow R)) H'
theorem bests_head (R : Int) : ∃ r, bests R = low R :: r := by
  unfold bests
  split
  · exact ⟨_, rfl⟩
  · exact ⟨_, rfl⟩
theorem ok_grow {f : Addr} {fd : FuncData} (F : Fun K "greatest_reach_with_one" "greatest_reach_with_one" s_greatestreachwithone f fd) (D_reachwith : Df P w K mg base 1 "reach_with" ["number", "longest"] spReachWith)
    (D_bestnumbers : Df P w K mg base 1 "best_numbers" ["longest"] spBestNumbers) : FnOk P w K mg base CX0 2 f fd ["longest"] spGrow := by
  refine F.ok sc_greatestreachwithone (fun vs H Q E h => ?_) (fun cdv A outer s H vs Q E hr h => ?_)
  · obtain ⟨R, b, rfl, _⟩ := h
    rfl
  · obtain ⟨R, b, rfl, hR, hb, hb2, q⟩ := h
    refine ⟨_, (pss_one (ps_ret (pe_callD D_reachwith (hr.mono (by omega)) (by rfl) (pa_cons (pe_ix (r := rIxL K) ix_list (pe_callD D_bestnumbers (hr.mono (by omega)) (by rfl) (pa_cons (pv 0) pa_nil)) pe_int (fun _ _ => rfl)) (pa_cons (pv 0) pa_nil))))), ?_⟩
    obtain ⟨r, er⟩ := bests_head R
    refine ⟨_, rfl, R, rfl, fun p hp => ⟨p, (bests R).map V.int, 0, .int (low R), rfl, rfl, SqL.of upd_same, ?_, _, rfl, low R, R, rfl, low_ge hR, fun c => ?_, q _ (same_new hp)⟩⟩
    · rw [er]
      exact atI_nat (j := 0) rfl
    · have l1 := low_ge hR
      have l2 := low_le hR
      exact wide_mul (bits3 hR hb (R + 3 - low R) (by omega) (by omega)) (bits3 hR hb (low R) (by omega) (by omega)) (by omega) (by omega) (by omega)
end
end Sq
set_option Elab.async false
set_option linter.all false
set_option maxRecDepth 100000
set_option maxHeartbeats 4000000
set_option exponentiation.threshold 2000
namespace Sq
open PySem PySem.Spec PyProof.Rows L2
def SmallK (ks : List Int) : Prop := ∀ k ∈ ks, k < 1073741824
/-! ### how far it gets -/
def RchOk : List Int → Int → Prop
  | [], _ => True
  | k :: ks, v => 2 ≤ k ∧ (k ≤ rch ks v + 1 → CMulW (rch ks v + 3 - k) k) ∧ RchOk ks v
theorem RchOk.drop : ∀ {ks : List Int} {v : Int} {k : Int} {r : List Int} (i : Nat), RchOk ks v → ks.drop i = k :: r → 2 ≤ k ∧ (k ≤ rch r v + 1 → CMulW (rch r v + 3 - k) k)
  | [], v, k, r, i, h, e => by simp at e
  | x :: xs, v, k, r, 0, h, e => by
    rw [List.drop_zero] at e
    cases e
    exact ⟨h.1, h.2.1⟩
  | x :: xs, v, k, r, i + 1, h, e => RchOk.drop (ks := xs) i h.2.2 e
theorem rchok20 : ∀ {ks : List Int} {v : Int}, (∀ k ∈ ks, 2 ≤ k ∧ k ≤ 20) → 1 ≤ v → v ≤ 10 ^ 30 → ks.length ≤ 5 → RchOk ks v
  | [], v, _, _, _, _ => trivial
  | k :: ks, v, hk, h1, h2, hl => by
    have h0 := hk k (List.mem_cons_self ..)
    have ht : ∀ x ∈ ks, 2 ≤ x ∧ x ≤ 20 := fun x hx => hk x (List.mem_cons_of_mem _ hx)
    rw [List.length_cons] at hl
    refine ⟨h0.1, fun c => ?_, rchok20 ht h1 h2 (by omega)⟩
    have g := rch_grow ks v 20 ht h1
    have p := rch_pos ks v (fun x hx => (ht x hx).1) h1
    have e : ((20 : Int) ^ ks.length) ≤ 20 ^ 4 := by
      have : ks.length = 0 ∨ ks.length = 1 ∨ ks.length = 2 ∨ ks.length = 3 ∨ ks.length = 4 := by omega
      rcases this with z | z | z | z | z <;> rw [z] <;> decide
    have m := Int.mul_le_mul_of_nonneg_left e (show 0 ≤ v + 3 by omega)
    have q : (v + 3) * (20 : Int) ^ 4 ≤ (10 ^ 30 + 3) * 20 ^ 4 := Int.mul_le_mul_of_nonneg_right (by omega) (by decide)
    have big : ((10 : Int) ^ 30 + 3) * 20 ^ 4 < 2 ^ 200 := by decide
    refine wide_mul (a := 200) (b := 30) ?_ ?_ (by decide) (by decide) (by decide)
    · have : ((2 : Int) ^ 200) = ((2 ^ 200 : Nat) : Int) := by decide
      omega
    · have : (2 : Nat) ^ 30 = 1073741824 := by decide
      omega
theorem up_ge {v : Int} (hv : 1 ≤ v) : ∀ n, up n 1 ≤ up n v
  | 0 => hv
  | n + 1 => by
    have ih := up_ge hv n
    show grow (up n 1) ≤ grow (up n v)
    by_cases c : up n 1 = up n v
    · rw [c]
      exact Int.le_refl _
    · exact Int.le_of_lt (grow_lt (up_pos (by decide) n) (by omega))
theorem few_ex {l v : Int} {n : Nat} : ∀ i : Nat, i ≤ n → l ≤ up i v → ∃ t : Nat, t ≤ n ∧ l ≤ up t v ∧ ∀ i : Nat, i < t → up i v < l := fun i => by
  induction i using Nat.strongRecOn with
  | ind i ih =>
    intro hi hl
    by_cases d : ∃ j : Nat, j < i ∧ l ≤ up j v
    · obtain ⟨j, hj, hjl⟩ := d
      exact ih j hj (by omega) hjl
    · refine ⟨i, hi, hl, fun j hj => ?_⟩
      by_cases z : up j v < l
      · exact z
      · exact absurd ⟨j, hj, by omega⟩ d
theorem up9 : (10 : Int) ^ 30 ≤ up 9 1 := by decide +kernel
section
variable {P : Program} {w : World} {K : PySem.W.Frag} {mg : Str → Option Value} {base : Heap} {c fI : Nat → Addr} {qn : Nat → Str} {cB : Addr}
abbrev FReach (K : PySem.W.Frag) (f : Addr) (fd : FuncData) : Prop := FunD K "reach" "reach" (defArgs s_reach) (defBody s_reach) (defScope s_reach) [.int 1] [] f fd
def spReach (K : PySem.W.Frag) (c : Nat → Addr) : Sp := fun vs H Q E => ∃ (a : Addr) (ks : List Int) (v : Int), vs = [.ref a, .int v] ∧ SqL K H a (ks.map V.int) ∧ (lowAt ks = none → 1 ≤ v → RchOk ks v ∧ ∀ H' r, Same H H' → Q (.int r) H') ∧
  (∀ j : Nat, lowAt ks = some j → ∀ H', Same H H' → Wish E (c 0) (.int (j : Int)) H') ∧ (lowAt ks = none → v < 1 → ∀ H', Same H H' → Wish E (c 1) (.int v) H')
theorem ok_reach {f : Addr} {fd : FuncData} (F : FReach K f fd) (B : Bi mg) (X_checklist : Dn P w K mg base 1 "check_list" ["replacements"] (spCheckList K c))
    (X_checknumber : Dn P w K mg base 1 "check_number" ["number", "least"] (spCheckNumber c)) (D_reachwith : Df P w K mg base 1 "reach_with" ["number", "longest"] spReachWith) :
    FnOk P w K mg base (L2N.CX P w) 2 f fd ["replacements", "most"] (spReach K c) := by
  refine okDN F sc_reach (fun vs H Q E h => ?_) (fun cdv A outer s H vs Q E hr h => ?_)
  · obtain ⟨a, ks, v, rfl, _⟩ := h
    rfl
  · obtain ⟨a, ks, v, rfl, hS, q, e1, e2⟩ := h
    refine ⟨_, (pss_cons (ps_expr (pe_callN X_checklist takesN (hr.mono (by omega)) (by rfl) (pa_cons (pv 0) pa_nil)))
 (pss_cons (ps_expr (pe_callN X_checknumber takesN (hr.mono (by omega)) (by rfl) (pa_cons (pv 1) (pa_cons pe_int pa_nil))))
 (pss_cons (ps_set (i := 2) sc_reach.nd rfl (Or.inl rfl) (pv 1))
 (pss_cons (ps_for ownsN rfl (pi_reversed (by rfl) B.n_reversed (pa_cons (pv 0) pa_nil)) (pg_name (i := 3) sc_reach.nd rfl (Or.inl rfl))
 (pss_one (ps_set (i := 2) sc_reach.nd rfl (Or.inl rfl) (pe_callD D_reachwith (hr.mono (by omega)) (by rfl) (pa_cons (pv 3) (pa_cons (pv 2) pa_nil))))))
 (pss_one (ps_ret (pv 2))))))), ?_⟩
    refine ⟨.ref a, rfl, a, ks, rfl, hS, fun ok H1 s1 => ?_, e1⟩
    refine ⟨_, rfl, v, 1, rfl, fun hv => ?_, fun lt => e2 ok lt H1 s1⟩
    obtain ⟨hok, q⟩ := q ok hv
    refine ⟨_, rfl, ?_⟩
    have h1 := s1.seq hS
    refine ⟨_, rfl, a, ks.map V.int, rfl, h1, for_it walk_rev (fun i σ H' => H' = H1 ∧ i ≤ ks.length ∧ ∃ y, σ = [some (.ref a), some (.int v), some (.int (rch (ks.drop (ks.length - i)) v)), y]) ⟨rfl, Nat.zero_le _, none, ?_⟩ (fun i σ H' _ h => by rw [h.1]; exact h1) ?_ ?_⟩
    · rw [Nat.sub_zero, List.drop_length]
      rfl
    · rintro i x σ H' H2 hi ⟨rfl, hle, y, rfl⟩ ⟨rfl, e⟩
      rw [List.length_map] at hi e
      obtain ⟨k, hk', rfl⟩ := map_at e
      have hj : ks.length - 1 - i < ks.length := by omega
      have ed : ks.drop (ks.length - (i + 1)) = k :: ks.drop (ks.length - i) := by
        rw [show ks.length - (i + 1) = ks.length - 1 - i by omega, List.drop_eq_getElem_cons hj]
        rw [List.getElem?_eq_getElem hj] at hk'
        rw [Option.some.inj hk', show ks.length - 1 - i + 1 = ks.length - i by omega]
      have hm := hok.drop _ ed
      refine ⟨_, rfl, _, rfl, k, _, rfl, hm.1, hm.2, rfl, hi, some (.int k), ?_⟩
      rw [ed]
      rfl
    · rintro σ H' ⟨rfl, hle, y, rfl⟩
      exact ⟨_, rfl, q _ _ s1⟩
abbrev FBestReach (K : PySem.W.Frag) (f : Addr) (fd : FuncData) : Prop := FunD K "best_reach" "best_reach" (defArgs s_bestreach) (defBody s_bestreach) (defScope s_bestreach) [.int 1] [] f fd
def spBestReach (c : Nat → Addr) : Sp := fun vs H Q E => ∃ (n v : Int), vs = [.int n, .int v] ∧ (0 ≤ n → 1 ≤ v → n < 1000 ∧ (∃ b : Nat, v.natAbs < 2 ^ b ∧ b * 2 ^ n.toNat ≤ 200000) ∧ ∀ H' r, Same H H' → Q (.int r) H') ∧
  (n < 0 → Wish E (c 1) (.int n) H) ∧ (0 ≤ n → v < 1 → Wish E (c 1) (.int v) H)
theorem ok_bestreach {f : Addr} {fd : FuncData} (F : FBestReach K f fd) (B : Bi mg) (X_checknumber : Dn P w K mg base 1 "check_number" ["number", "least"] (spCheckNumber c))
    (D_greatestreachwithone : Df P w K mg base 2 "greatest_reach_with_one" ["longest"] spGrow) : FnOk P w K mg base (L2N.CX P w) 3 f fd ["steps", "most"] (spBestReach c) := by
  refine okDN F sc_bestreach (fun vs H Q E h => ?_) (fun cdv A outer s H vs Q E hr h => ?_)
  · obtain ⟨n, v, rfl, _⟩ := h
    rfl
  · obtain ⟨n, v, rfl, q, e1, e2⟩ := h
    refine ⟨_, (pss_cons (ps_expr (pe_callN X_checknumber takesN (hr.mono (by omega)) (by rfl) (pa_cons (pv 0) (pa_cons pe_int pa_nil))))
 (pss_cons (ps_expr (pe_callN X_checknumber takesN (hr.mono (by omega)) (by rfl) (pa_cons (pv 1) (pa_cons pe_int pa_nil))))
 (pss_cons (ps_set (i := 2) sc_bestreach.nd rfl (Or.inl rfl) (pv 1))
 (pss_cons (ps_for ownsN rfl (pi_range1 (by rfl) B.n_range (pa_cons (pv 0) pa_nil)) (pg_name (i := 3) sc_bestreach.nd rfl (Or.inl rfl))
 (pss_one (ps_set (i := 2) sc_bestreach.nd rfl (Or.inl rfl) (pe_callD D_greatestreachwithone (hr.mono (by omega)) (by rfl) (pa_cons (pv 2) pa_nil)))))
 (pss_one (ps_ret (pv 2))))))), ?_⟩
    refine ⟨_, rfl, n, 0, rfl, fun h0 => ?_, e1⟩
    refine ⟨_, rfl, v, 1, rfl, fun hv => ?_, e2 h0⟩
    obtain ⟨hn, ⟨b, hb, hb2⟩, q⟩ := q h0 hv
    refine ⟨_, rfl, ?_⟩
    refine ⟨_, rfl, n, rfl, by omega, by omega, for_range (lo := 0) (n := n.toNat) (fun i σ H' => Same H H' ∧ ∃ y, σ = [some (.int n), some (.int v), some (.int (up i v)), y]) ⟨Same.refl H, none, rfl⟩ ?_ ?_⟩
    · rintro i σ H' hi ⟨sm, y, rfl⟩
      refine ⟨_, rfl, up i v, b * 2 ^ i, rfl, up_pos hv i, up_bits hv hb i, pow_le_le (by omega) hb2, fun H2 s2 => ⟨sm.trans s2, _, rfl⟩⟩
    · rintro σ H' ⟨sm, y, rfl⟩
      exact ⟨_, rfl, q _ _ sm⟩
abbrev FFewest (K : PySem.W.Frag) (f : Addr) (fd : FuncData) : Prop := FunD K "fewest_steps" "fewest_steps" (defArgs s_feweststeps) (defBody s_feweststeps) (defScope s_feweststeps) [.int 1] [] f fd
def spFewest (c : Nat → Addr) : Sp := fun vs H Q E => ∃ (l v : Int), vs = [.int l, .int v] ∧ (0 ≤ l → 1 ≤ v → l ≤ 10 ^ 30 ∧ v ≤ 10 ^ 30 ∧ ∀ H' r, Same H H' → Q (.int r) H') ∧
  (l < 0 → Wish E (c 1) (.int l) H) ∧ (0 ≤ l → v < 1 → Wish E (c 1) (.int v) H)
theorem ok_feweststeps {f : Addr} {fd : FuncData} (F : FFewest K f fd) (B : Bi mg) (X_checknumber : Dn P w K mg base 1 "check_number" ["number", "least"] (spCheckNumber c))
    (D_greatestreachwithone : Df P w K mg base 2 "greatest_reach_with_one" ["longest"] spGrow) : FnOk P w K mg base (L2N.CX P w) 3 f fd ["length", "most"] (spFewest c) := by
  refine okDN F sc_feweststeps (fun vs H Q E h => ?_) (fun cdv A outer s H vs Q E hr h => ?_)
  · obtain ⟨l, v, rfl, _⟩ := h
    rfl
  · obtain ⟨l, v, rfl, q, e1, e2⟩ := h
    refine ⟨_, (pss_cons (ps_expr (pe_callN X_checknumber takesN (hr.mono (by omega)) (by rfl) (pa_cons (pv 0) (pa_cons pe_int pa_nil))))
 (pss_cons (ps_expr (pe_callN X_checknumber takesN (hr.mono (by omega)) (by rfl) (pa_cons (pv 1) (pa_cons pe_int pa_nil))))
 (pss_cons (ps_set (i := 2) sc_feweststeps.nd rfl (Or.inl rfl) pe_int)
 (pss_cons (ps_set (i := 3) sc_feweststeps.nd rfl (Or.inl rfl) (pv 1))
 (pss_cons (ps_while ownsN (pt_cmpR op_lt (pv 3) (pv 0) (nomark _))
 (pss_cons (ps_set (i := 3) sc_feweststeps.nd rfl (Or.inl rfl) (pe_callD D_greatestreachwithone (hr.mono (by omega)) (by rfl) (pa_cons (pv 3) pa_nil)))
 (pss_one (ps_aug (i := 2) sc_feweststeps.nd rfl (Or.inl rfl) pe_int ip_add))))
 (pss_one (ps_ret (pv 2)))))))), ?_⟩
    refine ⟨_, rfl, l, 0, rfl, fun h0 => ?_, e1⟩
    refine ⟨_, rfl, v, 1, rfl, fun hv => ?_, e2 h0⟩
    obtain ⟨hl30, hv30, q⟩ := q h0 hv
    obtain ⟨t, t9, ht, hl⟩ := few_ex (l := l) (v := v) (n := 9) 9 (Nat.le_refl _) (by have := up_ge hv 9; have := up9; omega)
    have hb : v.natAbs < 2 ^ 120 := by
      have e : ((10 : Int) ^ 30) < ((2 ^ 120 : Nat) : Int) := by decide
      omega
    have hb2 : 120 * 2 ^ t ≤ 200000 := by
      have := Nat.pow_le_pow_right (show 0 < 2 by decide) t9
      omega
    refine ⟨_, rfl, ?_⟩
    refine ⟨fun m σ H' => ∃ i : Nat, i + m = t ∧ Same H H' ∧ σ = [some (.int l), some (.int v), some (.int (i : Int)), some (.int (up i v))], ⟨t, 0, by omega, Same.refl H, rfl⟩, ?_⟩
    rintro m σ H' ⟨i, him, sm, rfl⟩
    refine ⟨_, rfl, _, rfl, up i v, l, rfl, rfl, _, rfl, ?_⟩
    by_cases c : up i v < l
    · rw [decide_eq_true c]
      have hi : i < t := by
        by_cases z : i < t
        · exact z
        · have e : i = t := by omega
          subst e
          omega
      refine iteT ⟨fun σ' H'' => ∃ m', m' < m ∧ ∃ i : Nat, i + m' = t ∧ Same H H'' ∧ σ' = [some (.int l), some (.int v), some (.int (i : Int)), some (.int (up i v))], fun _ _ h => h, ?_⟩
      refine ⟨_, rfl, up i v, 120 * 2 ^ i, rfl, up_pos hv i, up_bits hv hb i, pow_le_le (by omega) hb2, fun H2 s2 => ⟨_, rfl, (i : Int), 1, rfl, rfl, ?_⟩⟩
      exact ⟨m - 1, by omega, i + 1, by omega, sm.trans s2, rfl⟩
    · rw [decide_eq_false c]
      have e : i = t := by
        by_cases z : i < t
        · exact absurd (hl i z) c
        · omega
      subst e
      exact iteF ⟨_, rfl, q _ _ sm⟩
/-- both values given -/
theorem both_x {k : Nat} {x : Str} {prm : Arguments} {bd : List Stmt} {scp : Scope} {f : Addr} {fd : FuncData} {a b : Str} {sp : Sp} (F : FunD K x x prm bd scp [.int 1] [] f fd) (G : FnOk P w K mg base (L2N.CX P w) k f fd [a, b] sp) (g : mg x = some (.ref f)) (h2 : Binds K fd [a, b] []) : Dn P w K mg base k x [a, b] sp :=
  ⟨⟨f, fd, G, g, F.kp, h2⟩⟩
theorem reach_b {f : Addr} {fd : FuncData} (F : FReach K f fd) : Binds K fd ["replacements", "most"] [] := by
  obtain ⟨ds, hd, hb⟩ := F.binds1 (ps := ["replacements", "most"]) 2 1 (by simp) rfl (fun T kV doc pm an cdv ct us its h1 h2 => match us, its, h1, h2 with | [_, _], [_], _, _ => ⟨_, rfl, rfl⟩)
  have e := vals_nil hd
  subst e
  exact hb
theorem bestreach_b {f : Addr} {fd : FuncData} (F : FBestReach K f fd) : Binds K fd ["steps", "most"] [] := by
  obtain ⟨ds, hd, hb⟩ := F.binds1 (ps := ["steps", "most"]) 2 1 (by simp) rfl (fun T kV doc pm an cdv ct us its h1 h2 => match us, its, h1, h2 with | [_, _], [_], _, _ => ⟨_, rfl, rfl⟩)
  have e := vals_nil hd
  subst e
  exact hb
theorem fewest_b {f : Addr} {fd : FuncData} (F : FFewest K f fd) : Binds K fd ["length", "most"] [] := by
  obtain ⟨ds, hd, hb⟩ := F.binds1 (ps := ["length", "most"]) 2 1 (by simp) rfl (fun T kV doc pm an cdv ct us its h1 h2 => match us, its, h1, h2 with | [_, _], [_], _, _ => ⟨_, rfl, rfl⟩)
  have e := vals_nil hd
  subst e
  exact hb
end
end Sq
set_option Elab.async false
set_option linter.all false
set_option maxRecDepth 100000
set_option maxHeartbeats 4000000
set_option exponentiation.threshold 2000
namespace Sq
open PySem PySem.Spec PyProof.Rows L2
section
variable {P : Program} {w : World} {K : PySem.W.Frag} {mg : Str → Option Value} {base : Heap}
def spBestChoices : Sp := fun vs H Q _ => ∃ (n : Nat) (v : Int) (b : Nat), vs = [.int (n : Int), .int v] ∧ 1 ≤ v ∧ v.natAbs < 2 ^ b ∧ b * 2 ^ n ≤ 200000 ∧ n < 1000 ∧
  ∀ p as H', H p = none → (∀ a ∈ as, H a = none) → Same H H' → H' p = some (.lst (as.map V.ref)) → RowsAt H' as (chs n v) → Q (.ref p) H'
theorem ok_bestchoices {f : Addr} {fd : FuncData} (F : Fun K "best_choices" "best_choices" s_bestchoices f fd) (B : Bi mg) (D_bestnumbers : Df P w K mg base 1 "best_numbers" ["longest"] spBestNumbers)
    (D_greatestreachwithone : Df P w K mg base 2 "greatest_reach_with_one" ["longest"] spGrow) : FnOk P w K mg base CX0 3 f fd ["steps", "most"] spBestChoices := by
  refine F.ok sc_bestchoices (fun vs H Q E h => ?_) (fun cdv A outer s H vs Q E hr h => ?_)
  · obtain ⟨n, v, b, rfl, _⟩ := h
    rfl
  · obtain ⟨n, v, b, rfl, hv, hb, hb2, hn, q⟩ := h
    refine ⟨_, (pss_cons (ps_set (i := 2) sc_bestchoices.nd rfl (Or.inl rfl) (pe_lst pa_nil))
 (pss_cons (ps_set (i := 3) sc_bestchoices.nd rfl (Or.inl rfl) (pv 1))
 (pss_cons (ps_for PassesOwn.never rfl (pi_range1 (by rfl) B.n_range (pa_cons (pv 0) pa_nil)) (pg_name (i := 4) sc_bestchoices.nd rfl (Or.inl rfl))
 (pss_cons (ps_expr (pe_bm PySem.F.plainAttrs_list PySem.F.slot_list_append PySem.F.type_list_append mt_append (pv 2) (pa_cons (pe_callD D_bestnumbers (hr.mono (by omega)) (by rfl) (pa_cons (pv 3) pa_nil)) pa_nil)))
 (pss_one (ps_set (i := 3) sc_bestchoices.nd rfl (Or.inl rfl) (pe_callD D_greatestreachwithone (hr.mono (by omega)) (by rfl) (pa_cons (pv 3) pa_nil))))))
 (pss_cons (ps_expr (pe_bm0 PySem.F.plainAttrs_list PySem.F.slot_list_reverse PySem.F.type_list_reverse mt_reverse (pv 2)))
 (pss_one (ps_ret (pv 2))))))), ?_⟩
    refine ⟨Nat.zero_le _, fun p hp => ?_⟩
    refine ⟨_, rfl, _, rfl, (n : Int), rfl, by omega, by omega, for_range (lo := 0) (n := (n : Int).toNat) (fun i σ H' => ∃ as y, σ = [some (.int (n : Int)), some (.int v), some (.ref p), some (.int (up i v)), y] ∧ Same H H' ∧ H' p = some (.lst (as.map V.ref)) ∧ p ∉ as ∧ (∀ a ∈ as, H a = none) ∧ RowsAt H' as (chs i v).reverse)
      ⟨[], none, rfl, same_new hp, upd_same, (fun z => nomatch z), (fun a z => nomatch z), trivial⟩ ?_ ?_⟩
    · rintro i σ H' hi ⟨as, y, rfl, sm, hp', off, nas, ra⟩
      have la : as.length = i := by rw [ra.len, List.length_reverse, chs_len]
      refine ⟨_, rfl, .inl ⟨rfl, _, SqL.of hp'⟩, _, rfl, up i v, rfl, fun r hr' => ?_⟩
      have npr : p ≠ r := ne_of_none hp' hr'
      have hp2 : (upd H' r (.lst ((bests (up i v)).map V.int))) p = some (.lst (as.map V.ref)) := by rw [upd_ne npr]; exact hp'
      refine ⟨p, _, _, rfl, rfl, hp2, (by rw [List.length_map]; exact small1000 (by omega)), ?_⟩
      refine ⟨_, rfl, up i v, b * 2 ^ i, rfl, up_pos hv i, up_bits hv hb i, pow_le_le (by omega) hb2, fun H3 s3 => ?_⟩
      refine ⟨as ++ [r], _, rfl, fun c o e => s3 _ _ ?_, s3 _ _ ?_, ?_, ?_, RowsAt.same s3 ?_⟩
      · rw [upd_ne (ne_of_none e hp)]
        exact same_new hr' _ _ (sm _ _ e)
      · rw [upd_same, List.map_append]
        rfl
      · intro z
        rcases List.mem_append.mp z with z | z
        · exact off z
        · exact npr (List.mem_singleton.mp z)
      · intro z zz
        rcases List.mem_append.mp zz with zz | zz
        · exact nas z zz
        · rw [List.mem_singleton.mp zz]
          exact sm.free hr'
      · show RowsAt _ _ (bests (up i v) :: chs i v).reverse
        rw [List.reverse_cons]
        refine (RowsAt.upd (RowsAt.same (same_new hr') ra) off).app ⟨?_, trivial⟩
        rw [upd_ne npr.symm, upd_same]
    · rintro σ H' ⟨as, y, rfl, sm, hp', off, nas, ra⟩
      refine ⟨_, rfl, .inl ⟨rfl, _, SqL.of hp'⟩, p, _, rfl, rfl, hp', ?_⟩
      refine ⟨_, rfl, ?_⟩
      have e : (n : Int).toNat = n := by omega
      rw [e] at ra
      have r2 := ra.rev
      rw [List.reverse_reverse] at r2
      refine q p as.reverse _ hp (fun a z => nas a (List.mem_reverse.mp z)) (fun c o e => ?_) ?_ (r2.upd fun z => off (List.mem_reverse.mp z))
      · rw [upd_ne (ne_of_none e hp)]
        exact sm _ _ e
      · rw [upd_same, List.map_reverse]
def spListAt : Sp := fun vs H Q _ => ∃ (p : Addr) (z : Int) (as : List Addr) (cs : List (List Int)), vs = [.ref p, .int z] ∧ H p = some (.lst (as.map V.ref)) ∧ RowsAt H as cs ∧ Full cs ∧ (∀ c ∈ cs, c.length < 1000) ∧ cs.length < 1000 ∧
  ∀ q H', H q = none → Same H H' → H' q = some (.lst ((pick cs z).map V.int)) → Q (.ref q) H'
theorem ok_listat {f : Addr} {fd : FuncData} (F : Fun K "list_at" "list_at" s_listat f fd) (B : Bi mg) : FnOk P w K mg base CX0 1 f fd ["choices", "place"] spListAt := by
  refine F.ok sc_listat (fun vs H Q E h => ?_) (fun cdv A outer s H vs Q E hr h => ?_)
  · obtain ⟨p, z, as, cs, rfl, _⟩ := h
    rfl
  · obtain ⟨p, z, as, cs, rfl, hp, ra, full, few, fw, q⟩ := h
    refine ⟨_, (pss_cons (ps_set (i := 2) sc_listat.nd rfl (Or.inl rfl) (pe_lst pa_nil))
 (pss_cons (ps_set (i := 3) sc_listat.nd rfl (Or.inl rfl) (pv 1))
 (pss_cons (ps_for PassesOwn.never rfl (pi_reversed (by rfl) B.n_reversed (pa_cons (pv 0) pa_nil)) (pg_name (i := 4) sc_listat.nd rfl (Or.inl rfl))
 (pss_cons (ps_expr (pe_bm PySem.F.plainAttrs_list PySem.F.slot_list_append PySem.F.type_list_append mt_append (pv 2) (pa_cons (pe_ix (r := rIxL K) ix_list (pv 4) (pe_op op_mod (pv 3) (pe_callB (id := "len") (r := rLenK K) call_lenK (by rfl) B.n_len (by decide +kernel) (pa_cons (pv 4) pa_nil))) (fun _ _ => rfl)) pa_nil)))
 (pss_one (ps_set (i := 3) sc_listat.nd rfl (Or.inl rfl) (pe_op op_fdiv (pv 3) (pe_callB (id := "len") (r := rLenK K) call_lenK (by rfl) B.n_len (by decide +kernel) (pa_cons (pv 4) pa_nil)))))))
 (pss_cons (ps_expr (pe_bm0 PySem.F.plainAttrs_list PySem.F.slot_list_reverse PySem.F.type_list_reverse mt_reverse (pv 2)))
 (pss_one (ps_ret (pv 2))))))), ?_⟩
    refine ⟨Nat.zero_le _, fun d hd => ?_⟩
    have la := ra.len
    have npd : p ≠ d := ne_of_none hp hd
    refine ⟨_, rfl, _, rfl, p, as.map V.ref, rfl, SqL.of (same_new hd _ _ hp), for_it walk_rev (fun i σ H' => ∃ y, i ≤ cs.length ∧ Same H H' ∧ σ = [some (.ref p), some (.int z), some (.ref d), some (.int (z / lens (cs.drop (cs.length - i)))), y] ∧ H' d = some (.lst ((pick (cs.drop (cs.length - i)) z).reverse.map V.int)))
      ⟨none, Nat.zero_le _, same_new hd, ?_, ?_⟩ (fun i σ H' _ h => ?_) ?_ ?_⟩
    · rw [Nat.sub_zero, List.drop_length]
      show _ = [_, _, _, some (V.int (z / 1)), _]
      rw [Int.ediv_one]
      rfl
    · rw [Nat.sub_zero, List.drop_length]
      exact upd_same
    · obtain ⟨y, _, sm, _⟩ := h
      exact SqL.of (sm _ _ hp)
    · rintro i x σ H' H2 hi ⟨y, hle, sm, rfl, hd'⟩ ⟨rfl, e⟩
      rw [List.length_map] at hi e
      obtain ⟨a, ha, rfl⟩ := map_ref e
      have hj : cs.length - 1 - i < cs.length := by omega
      obtain ⟨c, hc⟩ : ∃ c, cs[cs.length - 1 - i]? = some c := ⟨_, List.getElem?_eq_getElem hj⟩
      have hcm : c ∈ cs := List.mem_of_getElem? hc
      obtain ⟨a', ha', hac⟩ := ra.get hc
      rw [la] at ha
      rw [ha] at ha'
      cases ha'
      have hac' := sm _ _ hac
      have ed : cs.drop (cs.length - (i + 1)) = c :: cs.drop (cs.length - i) := by
        rw [show cs.length - (i + 1) = cs.length - 1 - i by omega, List.drop_eq_getElem_cons hj]
        rw [List.getElem?_eq_getElem hj] at hc
        rw [Option.some.inj hc, show cs.length - 1 - i + 1 = cs.length - i by omega]
      have lc := few c hcm
      have lp := full c hcm
      have m0 := Int.emod_nonneg (z / lens (cs.drop (cs.length - i))) (show (c.length : Int) ≠ 0 by omega)
      have m1 := Int.emod_lt_of_pos (z / lens (cs.drop (cs.length - i))) (show 0 < (c.length : Int) by omega)
      have lt : ((z / lens (cs.drop (cs.length - i))) % (c.length : Int)).toNat < c.length := by omega
      have el : ((c.map V.int).length : Int) = (c.length : Int) := by rw [List.length_map]
      -- found.append(numbers[rest % len(numbers)])
      refine ⟨_, rfl, .inl ⟨rfl, _, SqL.of hd'⟩, _, rfl, _, rfl, _, rfl, a, c.map V.int, rfl, .inl (SqL.of hac'), _, _, rfl, rfl, (by rw [el]; omega), a, c.map V.int, _, .int (c.getD ((z / lens (cs.drop (cs.length - i))) % (c.length : Int)).toNat 0), rfl, rfl, SqL.of hac', ?_, ?_⟩
      · rw [el]
        refine at_of (j := ((z / lens (cs.drop (cs.length - i))) % (c.length : Int)).toNat) (by omega) ?_
        rw [List.getElem?_map, List.getElem?_eq_getElem lt, List.getD_eq_getElem?_getD, List.getElem?_eq_getElem lt]
        rfl
      · have lfd : (List.map V.int (pick (cs.drop (cs.length - i)) z).reverse).length < 1000 := by
          rw [List.length_map, List.length_reverse, pick_len, List.length_drop]
          omega
        refine ⟨d, _, _, rfl, rfl, hd', small1000 (Nat.le_of_lt lfd), ?_⟩
        have nad : a ≠ d := ne_of_none hac hd
        have hac2 : (upd H2 d (.lst (List.map V.int (pick (cs.drop (cs.length - i)) z).reverse ++ [.int (c.getD ((z / lens (cs.drop (cs.length - i))) % (c.length : Int)).toNat 0)]))) a = some (.lst (c.map V.int)) := by rw [upd_ne nad]; exact hac'
        refine ⟨_, rfl, _, rfl, a, c.map V.int, rfl, .inl (SqL.of hac2), _, _, rfl, rfl, ⟨by rw [el]; omega, by rw [el]; omega⟩, ?_⟩
        refine ⟨some (.ref a), by omega, fun b o e => ?_, ?_, ?_⟩
        · rw [upd_ne (ne_of_none e hd)]
          exact sm _ _ e
        · rw [ed, el]
          show _ = [_, _, _, some (V.int (z / ((c.length : Int) * lens (cs.drop (cs.length - i))))), _]
          rw [Int.mul_comm (c.length : Int), ← Int.ediv_ediv_of_nonneg (Int.le_of_lt (lens_pos (fun x hx => full x (List.mem_of_mem_drop hx))))]
          rfl
        · rw [upd_same, ed]
          show _ = some (HO.lst ((_ :: pick (cs.drop (cs.length - i)) z).reverse.map V.int))
          rw [List.reverse_cons, List.map_append]
          rfl
    · rintro σ H' ⟨y, hle, sm, rfl, hd'⟩
      have e0 : cs.drop (cs.length - (as.map V.ref).length) = cs := by
        rw [List.length_map, la, Nat.sub_self, List.drop_zero]
      rw [e0] at hd'
      refine ⟨_, rfl, .inl ⟨rfl, _, SqL.of hd'⟩, d, _, rfl, rfl, hd', ?_⟩
      refine ⟨_, rfl, q d _ hd (fun b o e => ?_) ?_⟩
      · rw [upd_ne (ne_of_none e hd)]
        exact sm _ _ e
      · rw [upd_same, ← List.map_reverse, List.reverse_reverse]
end
end Sq
set_option Elab.async false
set_option linter.all false
set_option maxRecDepth 100000
set_option maxHeartbeats 4000000
set_option exponentiation.threshold 2000
namespace Sq
open PySem PySem.Spec PyProof.Rows L2 GenW
theorem lens_app : ∀ (a b : List (List Int)), lens (a ++ b) = lens a * lens b
  | [], b => (Int.one_mul _).symm
  | c :: a, b => by
    show (c.length : Int) * lens (a ++ b) = (c.length : Int) * lens a * lens b
    rw [lens_app a b, Int.mul_assoc]
theorem RowsAt.kps {M : Addr → Prop} {x : V} {H H' : Hp} (kp : Kps M x H H') : ∀ {as : List Addr} {cs : List (List Int)}, (∀ a ∈ as, ¬ M a ∧ x ≠ .ref a) → RowsAt H as cs → RowsAt H' as cs
  | [], [], _, _ => trivial
  | a :: as, c :: cs, n, h => ⟨kp _ _ h.1 (n a List.mem_cons_self).1 (n a List.mem_cons_self).2, RowsAt.kps kp (fun b hb => n b (List.mem_cons_of_mem _ hb)) h.2⟩
  | [], _ :: _, _, h => h.elim
  | _ :: _, [], _, h => h.elim
section
variable {P : Program} {w : World} {K : PySem.W.Frag} {mg : Str → Option Value} {base : Heap} {c fI : Nat → Addr} {qn : Nat → Str} {cB : Addr}
def spBestL (c : Nat → Addr) : SpL := fun vs H M tot It E => ∃ (n v : Int), vs = [.int n, .int v] ∧ (∀ b, M b → ∃ o, H b = some o) ∧
  (0 ≤ n → 1 ≤ v → n ≤ 8 ∧ (∃ b : Nat, v.natAbs < 2 ^ b ∧ b * 2 ^ n.toNat ≤ 200000) ∧ tot = (lens (chs n.toNat v)).toNat ∧ ∀ i x H', It i x H') ∧ (n < 0 → Wish E (c 1) (.int n) H) ∧ (0 ≤ n → v < 1 → Wish E (c 1) (.int v) H)
abbrev FBestLists (K : PySem.W.Frag) (f : Addr) (fd : FuncData) : Prop := FunD K "best_lists" "best_lists" (defArgs s_bestlists) (defBody s_bestlists) (defScope s_bestlists) [.int 1] [] f fd
theorem bestlists_b {f : Addr} {fd : FuncData} (F : FBestLists K f fd) : Binds K fd ["steps", "most"] [] := by
  obtain ⟨ds, hd, hb⟩ := F.binds1 (ps := ["steps", "most"]) 2 1 (by simp) rfl (fun T kV doc pm an cdv ct us its h1 h2 => match us, its, h1, h2 with | [_, _], [_], _, _ => ⟨_, rfl, rfl⟩)
  have e := vals_nil hd
  subst e
  exact hb
theorem ok_bestlists {f : Addr} {fd : FuncData} (F : FBestLists K f fd) (B : Bi mg) (X_checknumber : Dn P w K mg base 1 "check_number" ["number", "least"] (spCheckNumber c))
    (D_bestchoices : Df P w K mg base 3 "best_choices" ["steps", "most"] spBestChoices) (D_listat : Df P w K mg base 1 "list_at" ["choices", "place"] spListAt) : GFnL P w K mg base 4 f fd ["steps", "most"] (spBestL c) := by
  obtain ⟨oc, od, dV, kV, doc, pm, an, cdv, ct, osl, rfl, lk, hcd, hD, hK⟩ := F.ex
  refine lfn_at (k := 3) lk hcd sc_bestlists (fun vs H M tot It E h => ?_) (fun Xc pinsC A n0 a go g E sC HC tot M It J vs ok_ hr h => ?_)
  · obtain ⟨n, v, rfl, _⟩ := h
    rfl
  · obtain ⟨n, v, rfl, hM, q, e1, e2⟩ := h
    refine ⟨_, (g0_cons (ps_expr (pe_callN X_checknumber takes_lcx (hr.mono (by omega)) (by rfl) (pa_cons (pv 0) (pa_cons pe_int pa_nil))))
 (g0_cons (ps_expr (pe_callN X_checknumber takes_lcx (hr.mono (by omega)) (by rfl) (pa_cons (pv 1) (pa_cons pe_int pa_nil))))
 (g0_of (gls_cons (gl_ps fun s0_ Hb_ E_ => (ps_set (i := 2) sc_bestlists.nd rfl (Or.inl rfl) (pe_callD D_bestchoices (hr.mono (by omega)) (by rfl) (pa_cons (pv 0) (pa_cons (pv 1) pa_nil)))))
 (gls_cons (gl_ps fun s0_ Hb_ E_ => (ps_set (i := 3) sc_bestlists.nd rfl (Or.inl rfl) pe_int))
 (gls_cons (gl_ps fun s0_ Hb_ E_ => (ps_for owns_lcx rfl (pi_listK (K0 := K) rfl (pv 2)) (pg_name (i := 4) sc_bestlists.nd rfl (Or.inl rfl))
 (pss_one (ps_set (i := 3) sc_bestlists.nd rfl (Or.inl rfl) (pe_op op_mul (pv 3) (pe_callB (id := "len") (r := rLenK K) call_lenK (by rfl) B.n_len (by decide +kernel) (pa_cons (pv 4) pa_nil)))))))
 (gls_cons (gl_for (fun s0_ Hb_ E_ => rfl) (fun s0_ Hb_ E_ => (pi_range1 (by rfl) B.n_range (pa_cons (pv 3) pa_nil))) (fun s0_ Hb_ E_ => (pg_name (i := 5) sc_bestlists.nd rfl (Or.inl rfl)))
 (gls_cons (gl_yield ok_ (fun s0_ Hb_ E_ => (pe_callD D_listat (hr.mono (by omega)) (by rfl) (pa_cons (pv 2) (pa_cons (pv 5) pa_nil)))) rfl)
 gls_nil))
 gls_nil))))))), ?_⟩
    refine ⟨_, rfl, n, 0, rfl, fun h0 => ?_, e1⟩
    refine ⟨_, rfl, v, 1, rfl, fun hv => ?_, e2 h0⟩
    obtain ⟨hn, ⟨b, hb, hb2⟩, ht, hIt⟩ := q h0 hv
    obtain ⟨n, rfl⟩ : ∃ m : Nat, n = (m : Int) := ⟨n.toNat, by omega⟩
    rw [Int.toNat_natCast] at hb2 ht
    refine ⟨_, rfl, _, rfl, n, v, b, rfl, hv, hb, hb2, by omega, fun p as H1 hp nas s1 hp1 ra => ?_⟩
    have full := chs_full n v
    have la := ra.len
    have lc := chs_len n v
    have few : ∀ c ∈ chs n v, c.length ≤ 2 := fun c hc => by
      obtain ⟨i, _, rfl⟩ := chs_mem hc
      rw [bests_len]
      split <;> omega
    refine ⟨_, rfl, p, rfl, ⟨_, SqL.of hp1⟩, for_list (K := K) (a := p) (xs := as.map V.ref) (fun i σ H' => H' = H1 ∧ ∃ y4 y5, σ = [some (.int (n : Int)), some (.int v), some (.ref p), some (.int (lens ((chs n v).take i))), y4, y5])
      ⟨rfl, none, none, rfl⟩ (fun i σ H' _ h => by rw [h.1]; exact SqL.of hp1) ?_ ?_⟩
    · rintro i x σ H' hi ⟨rfl, y4, y5, rfl⟩
      obtain ⟨a, ha, rfl⟩ := map_ref hi
      have hil : i < (chs n v).length := by
        have := (List.getElem?_eq_some_iff.mp ha).1
        omega
      obtain ⟨c, hc⟩ : ∃ c, (chs n v)[i]? = some c := ⟨_, List.getElem?_eq_getElem hil⟩
      obtain ⟨a', ha', hac⟩ := ra.get hc
      rw [ha] at ha'
      cases ha'
      have lc2 := few c (List.mem_of_getElem? hc)
      refine ⟨_, rfl, _, rfl, a, c.map V.int, rfl, .inl (SqL.of hac), _, _, rfl, rfl, .inr ⟨by rw [List.length_map]; omega, by rw [List.length_map]; omega⟩, rfl, some (.ref a), y5, ?_⟩
      have e : (chs n v).take (i + 1) = (chs n v).take i ++ [c] := by rw [List.take_add_one, hc]; rfl
      rw [e, lens_app, List.length_map]
      show _ = [_, _, _, some (V.int (lens ((chs n v).take i) * ((c.length : Int) * 1))), _, _]
      rw [Int.mul_one]
      rfl
    · rintro σ H' ⟨rfl, y4, y5, rfl⟩
      have e0 : (chs n v).take (as.map V.ref).length = chs n v := List.take_of_length_le (by rw [List.length_map, la]; exact Nat.le_refl _)
      rw [e0]
      have lp := lens_pos full
      have ll := lens_le (show n ≤ 8 by omega) v
      have away : ∀ {b : Addr}, HC b = none → ¬ M b := fun {b} e m => by
        obtain ⟨o, z⟩ := hM b m
        rw [e] at z
        cases z
      refine ⟨_, rfl, lens (chs n v), rfl, by omega, by omega, lfor_it walk_range (fun i k Hb σ H2 => k = i ∧ ∃ y5, σ = [some (.int (n : Int)), some (.int v), some (.ref p), some (.int (lens (chs n v))), y4, y5] ∧ Same Hb H2 ∧ H2 p = some (.lst (as.map V.ref)) ∧ RowsAt H2 as (chs n v))
        ⟨rfl, y5, rfl, s1, hp1, ra⟩ (fun _ _ _ _ _ _ _ => trivial) ?_ ?_⟩
      · rintro i k Hb x σ H2 H3 hi ⟨rfl, y5, rfl, sm, gp, ra'⟩ ⟨rfl, rfl⟩
        refine ⟨by show k < tot; omega, ?_⟩
        refine ⟨_, rfl, _, rfl, p, _, as, chs n v, rfl, gp, ra', full, fun c hc => by have := few c hc; omega, by omega, fun q' H4 hq s4 hq4 => ?_⟩
        refine ⟨sm.trans s4, hIt _ _ _, fun H5 kp => ?_⟩
        have kp : Kps M (.ref q') H4 H5 := kp
        have nq : ∀ {b : Addr} {o : HO}, H3 b = some o → V.ref q' ≠ .ref b := fun {b o} e z => by
          cases z
          rw [hq] at e
          cases e
        refine ⟨rfl, _, rfl, Same.refl _, kp _ _ (s4 _ _ gp) (away hp) (nq gp), RowsAt.kps kp (fun b hb => ⟨away (nas b hb), ?_⟩) (ra'.same s4)⟩
        obtain ⟨i, hi⟩ := List.mem_iff_getElem?.mp hb
        have hil : i < (chs n v).length := by
          have := (List.getElem?_eq_some_iff.mp hi).1
          omega
        obtain ⟨b', hb', hac⟩ := ra'.get (List.getElem?_eq_getElem hil)
        rw [hi] at hb'
        cases hb'
        exact nq hac
      · rintro k Hb σ H2 ⟨rfl, y5, rfl, sm, gp, ra'⟩
        exact ⟨by show _ = tot; omega, sm⟩
end
end Sq
set_option Elab.async false
set_option linter.all false
set_option maxRecDepth 100000
set_option maxHeartbeats 4000000
set_option exponentiation.threshold 2000
namespace Sq
open PySem PySem.Spec PyProof.Rows L2
section
variable {P : Program} {w : World} {K : PySem.W.Frag} {mg : Str → Option Value} {base : Heap} {c fI : Nat → Addr} {qn : Nat → Str} {cB : Addr}
def spGreat (K : PySem.W.Frag) (c : Nat → Addr) : Sp := fun vs H Q E => ∃ (n : Int) (a : Addr) (ks : List Int), vs = [.int n, .ref a] ∧ SqL K H a (ks.map V.int) ∧ SmallK ks ∧ (0 ≤ n → lowAt ks = none → ∀ H', Same H H' → Q (.int (prodF n ks)) H') ∧
  (n < 0 → Wish E (c 1) (.int n) H) ∧ (0 ≤ n → ∀ j : Nat, lowAt ks = some j → ∀ H', Same H H' → Wish E (c 0) (.int (j : Int)) H')
theorem ok_greatestorigin {f : Addr} {fd : FuncData} (F : Fun K "greatest_origin" "greatest_origin" s_greatestorigin f fd) (X_checknumber : Dn P w K mg base 1 "check_number" ["number", "least"] (spCheckNumber c)) (X_checklist : Dn P w K mg base 1 "check_list" ["replacements"] (spCheckList K c)) :
    FnOk P w K mg base (L2N.CX P w) 2 f fd ["length", "replacements"] (spGreat K c) := by
  refine okN F sc_greatestorigin (fun vs H Q E h => ?_) (fun cdv A outer s H vs Q E hr h => ?_)
  · obtain ⟨n, a, ks, rfl, _⟩ := h
    rfl
  · obtain ⟨n, a, ks, rfl, hS, sm, q, e1, e2⟩ := h
    refine ⟨_, (pss_cons (ps_expr (pe_callN X_checknumber takesN (hr.mono (by omega)) (by rfl) (pa_cons (pv 0) (pa_cons pe_int pa_nil))))
 (pss_cons (ps_expr (pe_callN X_checklist takesN (hr.mono (by omega)) (by rfl) (pa_cons (pv 1) pa_nil)))
 (pss_cons (ps_set (i := 2) sc_greatestorigin.nd rfl (Or.inl rfl) (pv 0))
 (pss_cons (ps_for ownsN rfl (pi_list (pv 1)) (pg_name (i := 3) sc_greatestorigin.nd rfl (Or.inl rfl))
 (pss_one (ps_set (i := 2) sc_greatestorigin.nd rfl (Or.inl rfl) (pe_op op_mul (pv 2) (pv 3)))))
 (pss_one (ps_ret (pv 2))))))), ?_⟩
    refine ⟨_, rfl, n, 0, rfl, fun h0 => ?_, e1⟩
    refine ⟨_, rfl, a, ks, rfl, hS, fun ok H1 s1 => ?_, e2 h0⟩
    have ok2 := lowAt_none ok
    refine ⟨_, rfl, _, rfl, a, rfl, ⟨_, s1.seq hS⟩, for_list (K := K) (a := a) (xs := ks.map V.int) (fun i σ H' => H' = H1 ∧ ∃ y, σ = [some (.int n), some (.ref a), some (.int (prodF n (ks.take i))), y]) ⟨rfl, none, rfl⟩ (fun i σ H' _ h => by rw [h.1]; exact s1.seq hS) ?_ ?_⟩
    · rintro i x σ H' hi ⟨rfl, y, rfl⟩
      obtain ⟨k, e, rfl⟩ := map_at hi
      have hm := List.mem_of_getElem? e
      have a1 := ok2 k hm
      have a2 := sm k hm
      refine ⟨_, rfl, _, rfl, _, k, rfl, rfl, .inr ⟨by omega, by omega⟩, rfl, some (.int k), ?_⟩
      rw [List.take_add_one, e]
      show _ = [_, _, some (V.int (prodF n (ks.take i ++ [k]))), _]
      unfold prodF
      rw [List.foldl_append]
      rfl
    · rintro σ H' ⟨rfl, y, rfl⟩
      rw [List.length_map, List.take_length]
      exact ⟨_, rfl, q h0 ok _ s1⟩
end
theorem walkI {J : It} {n : Nat} {G : Hp → Prop} {Y : Nat → Hp → V → Hp → Prop} (Wk : Walk J n G Y) {Qd : Hp → Prop} {St : V → Hp → (Hp → Prop) → Prop} {H0 : Hp} (Pv : Nat → Hp → Prop) (h0 : Pv 0 H0) (hl : ∀ i H, i ≤ n → Pv i H → G H)
    (hs : ∀ i x H H', i < n → Pv i H → Y i H x H' → St x H' (Pv (i + 1))) (hd : ∀ H, Pv n H → Qd H) :
    ∃ W : Nat → Nat → Hp → Prop, (∃ m, W 0 m H0) ∧ ∀ i m H, W i m H → (J.stop i H ∧ Qd H) ∨ (J.go i H ∧ ∃ Nx : Hp → Prop, (∀ H', Nx H' → ∃ m', m' < m ∧ W (i + 1) m' H') ∧ ∀ x H', J.yld i H x H' → St x H' Nx) := by
  refine ⟨fun i m H => m = n - i ∧ i ≤ n ∧ Pv i H, ⟨_, rfl, Nat.zero_le _, h0⟩, ?_⟩
  rintro i m H ⟨rfl, le, p⟩
  have there := hl i H le p
  by_cases lt : i < n
  · exact .inr ⟨Wk.goes i H lt there, Pv (i + 1), fun H' p' => ⟨n - (i + 1), by omega, rfl, lt, p'⟩, fun x H' y => hs i x H H' lt p (Wk.yields i H x H' lt there y)⟩
  · obtain rfl : i = n := by omega
    exact .inl ⟨Wk.stops H there, hd H p⟩
section
variable {P : Program} {w : World} {K : PySem.W.Frag} {mg : Str → Option Value} {base : Heap}
def spLimits : Sp := fun vs H Q _ => ∃ (d : Addr) (k : Int) (kz : List (Int × Int)) (A : Int), vs = [.ref d, .int k] ∧ H d = some (.dK (kvZ kz)) ∧ 2 ≤ k ∧ k ≤ 30 ∧ 0 ≤ A ∧ (∀ x ∈ keysZ kz, Win A x) ∧ ∀ p H', H p = none → Same H H' → H' p = some (.dK (kvZ (nextZ k kz))) → Q (.ref p) H'
theorem ok_limits {f : Addr} {fd : FuncData} (F : Fun K "limits_after" "limits_after" s_limitsafter f fd) (B : Bi mg) : FnOk P w K mg base CX0 1 f fd ["limits", "number"] spLimits := by
  refine F.ok sc_limitsafter (fun vs H Q E h => ?_) (fun cdv A outer s H vs Q E hr h => ?_)
  · obtain ⟨d, k, kz, A, rfl, _⟩ := h
    rfl
  · obtain ⟨d, k, kz, A', rfl, hd, k2, k30, hA, win, q⟩ := h
    refine ⟨_, (pss_cons (ps_set (i := 2) sc_limitsafter.nd rfl (Or.inl rfl) pe_dnewK)
 (pss_cons (ps_lock (ps_for PassesOwn.never rfl (pi_items (pv 0)) (pg_tup rfl (pgs_cons (pg_name (i := 3) sc_limitsafter.nd rfl (Or.inl rfl)) (pgs_cons (pg_name (i := 4) sc_limitsafter.nd rfl (Or.inl rfl)) pgs_nil)))
 (pss_one (ps_for PassesOwn.never rfl (pi_range1 (by rfl) B.n_range (pa_cons (pe_callB (id := "min") (call_min2 rfl) (by rfl) B.n_min (by decide +kernel) (pa_cons (pv 1) (pa_cons (pe_op op_add (pv 3) pe_int) pa_nil))) pa_nil)) (pg_name (i := 5) sc_limitsafter.nd rfl (Or.inl rfl))
 (pss_cons (ps_set (i := 6) sc_limitsafter.nd rfl (Or.inl rfl) (pe_op op_add (pe_op op_fdiv (pe_op op_sub (pv 3) (pv 5)) (pv 1)) (pv 5)))
 (pss_cons (ps_dput (hu_of hr) (pv 2) (pv 6) (pe_op op_add (pe_dget2 (hu_of hr) (pv 2) (pv 6) pe_int ⟨by rfl, by rfl, by rfl, by rfl⟩) (pv 4)) rfl)
 (pss_one (ps_dput (hu_of hr) (pv 2) (pe_op op_sub (pv 5) pe_int) (pe_op op_sub (pe_dget2 (hu_of hr) (pv 2) (pe_op op_sub (pv 5) pe_int) pe_int ⟨by rfl, by rfl, by rfl, by rfl⟩) (pv 4)) rfl))))))))
 (pss_one (ps_ret (pe_lock (pe_dc (own := [("limit", 3), ("many", 4)]) (g := gTup K 2 (gCons (gName 3) (gCons (gName 4) gNil))) rfl sc_limitsafter.nd (pi_items (pv 2)) (blkOk_by (own := [("limit", 3), ("many", 4)]) (N := ["limits", "number", "found", "limit", "many", "left", "longest"]) (sc := defScope s_limitsafter) (by decide +kernel)) (fun _ _ _ _ _ => (pg_tup rfl (pgs_cons (pg_name (i := 3) sc_limitsafter.nd rfl (Or.inl rfl)) (pgs_cons (pg_name (i := 4) sc_limitsafter.nd rfl (Or.inl rfl)) pgs_nil)))) (fun _ _ _ _ _ => pts_one (pt_cmpR op_ne (pv 4) pe_int (nomark _))) (fun _ _ _ _ _ => (pv 3)) (fun _ _ _ _ _ => (pv 4)))))))), ?_⟩
    have lim : sizeLine = 16777216 := sizeLine_eq
    refine fun p hp => ?_
    have npd : d ≠ p := ne_of_none hd hp
    have win0 : ∀ i, ∀ x ∈ keysZ ((kz.take i).foldl (fun acc p => inn acc p.1 p.2 k (rng1 p.1 k)) []), Win (A' / k) x := fun i => outF_win hA k2 k30 (kz.take i) [] (fun x hx => by
      obtain ⟨q, hq, e⟩ := List.mem_map.mp hx
      exact win x (List.mem_map.mpr ⟨q, List.mem_of_mem_take hq, e⟩)) (fun x hx => nomatch hx)
    have nd0 : ∀ i, (keysZ ((kz.take i).foldl (fun acc p => inn acc p.1 p.2 k (rng1 p.1 k)) [])).Nodup := fun i => out_nd k _ [] List.nodup_nil
    have few : ∀ {acc : List (Int × Int)}, (keysZ acc).Nodup → (∀ x ∈ keysZ acc, Win (A' / k) x) → (kvZ acc).length < sizeLine := fun {acc} nd w => by
      have := win_len nd w
      unfold keysZ at this
      rw [List.length_map] at this
      unfold kvZ
      rw [List.length_map]
      omega
    refine ⟨d, .dK (kvZ kz), (same_new hp) _ _ hd, trivial, fun od => ?_⟩
    refine ⟨_, rfl, d, od, kvZ kz, rfl, upd_same, for_it walk_items (fun i σ H' => (∃ y3 y4 y5 y6, σ = [some (.ref d), some (.int k), some (.ref p), y3, y4, y5, y6]) ∧ H' d = some (.frz od (.dK (kvZ kz))) ∧ H' p = some (.dK (kvZ ((kz.take i).foldl (fun acc p => inn acc p.1 p.2 k (rng1 p.1 k)) []))) ∧ (∀ b o, H b = some o → b ≠ d → H' b = some o))
      ⟨⟨none, none, none, none, rfl⟩, upd_same, by rw [upd_ne npd.symm]; exact upd_same, fun b o e nb => by rw [upd_ne nb]; exact same_new hp _ _ e⟩ (fun i σ H' _ h => h.2.1) ?_ ?_⟩
    · rintro i x σ H1 H2 hi ⟨⟨y3, y4, y5, y6, rfl⟩, gd1, gp1, fr1⟩ ⟨T, u, v, rfl, nT, rfl, e1, e2⟩
      have hi' : i < kz.length := by
        unfold kvZ at hi
        rwa [List.length_map] at hi
      have ek : (kvZ kz)[i]? = some (.inl kz[i].1, .int kz[i].2) := by
        unfold kvZ
        rw [List.getElem?_map, List.getElem?_eq_getElem hi']
        rfl
      have e1' : Option.map (fun kv : Key × V => kV kv.1) (kvZ kz)[i]? = some u := e1
      have e2' : Option.map Prod.snd (kvZ kz)[i]? = some v := e2
      rw [ek] at e1' e2'
      cases e1'
      cases e2'
      clear e1 e2
      obtain ⟨lm, m, elm⟩ : ∃ lm m, kz[i] = (lm, m) := ⟨_, _, rfl⟩
      have wl : Win A' lm := win lm (List.mem_map.mpr ⟨kz[i], List.getElem_mem hi', by rw [elm]⟩)
      have l1 : -1 ≤ lm := by rcases wl with z | z <;> omega
      obtain ⟨acc, eacc⟩ : ∃ acc, acc = (kz.take i).foldl (fun acc p => inn acc p.1 p.2 k (rng1 p.1 k)) [] := ⟨_, rfl⟩
      have ndA : (keysZ acc).Nodup := by rw [eacc]; exact nd0 i
      have wA : ∀ x ∈ keysZ acc, Win (A' / k) x := by rw [eacc]; exact win0 i
      rw [← eacc] at gp1
      have eacc2 : inn acc lm m k (rng1 lm k) = (kz.take (i + 1)).foldl (fun acc p => inn acc p.1 p.2 k (rng1 p.1 k)) [] := by
        rw [List.take_add_one, List.getElem?_eq_getElem hi', elm, eacc]
        show _ = List.foldl _ [] (List.take i kz ++ [(lm, m)])
        rw [List.foldl_append]
        rfl
      rw [elm]
      refine ⟨T, _, rfl, .inl (.inl upd_same), rfl, _, _, rfl, _, _, rfl, rfl, ?_⟩
      have sT := same_new (o := .tup [.int lm, .int m]) nT
      obtain ⟨N, eN⟩ : ∃ N : Int, N = (if lm + 1 < k then lm + 1 else k) := ⟨_, rfl⟩
      have hN : N.toNat = rng1 lm k ∧ 0 ≤ N ∧ N ≤ 30 := by
        unfold rng1
        rw [eN]
        split <;> omega
      refine ⟨_, rfl, _, rfl, _, 1, rfl, rfl, k, lm + 1, rfl, N, by rw [eN], by omega, by omega, for_range (lo := 0) (n := N.toNat) (fun j σ H' => (∃ y5 y6, σ = [some (.ref d), some (.int k), some (.ref p), some (.int lm), some (.int m), y5, y6]) ∧ H' d = some (.frz od (.dK (kvZ kz))) ∧ H' p = some (.dK (kvZ (inn acc lm m k j))) ∧ (∀ b o, H b = some o → b ≠ d → H' b = some o))
        ⟨⟨y5, y6, rfl⟩, sT _ _ gd1, sT _ _ gp1, fun b o e nb => sT _ _ (fr1 b o e nb)⟩ ?_ ?_⟩
      · rintro j σ H3 hj ⟨⟨y5, y6, rfl⟩, gd3, gp3, fr3⟩
        rw [Int.zero_add]
        have hjr : j < rng1 lm k := by omega
        have ndj := inn_nd (lim := lm) (m := m) (k := k) ndA j
        have wj : ∀ x ∈ keysZ (inn acc lm m k j), Win (A' / k) x := fun x hx => by
          rcases inn_mem _ hx with z | ⟨i', hi2, z⟩
          · exact wA x z
          · have w := win_next hA k2 k30 wl (Nat.lt_trans hi2 hjr)
            rcases z with z | z
            · rw [z]; exact w.1
            · rw [z]; exact w.2
        have wn := win_next hA k2 k30 wl hjr
        obtain ⟨L, eL⟩ : ∃ L, L = lng lm k j := ⟨_, rfl⟩
        have eL2 : (lm - (j : Int)) / k + (j : Int) = L := by rw [eL]; rfl
        refine ⟨_, rfl, _, rfl, _, _, rfl, rfl, _, rfl, _, k, rfl, rfl, ⟨by omega, by omega⟩, _, rfl, _, _, rfl, rfl, ?_⟩
        dsimp only
        rw [eL2]
        refine ⟨_, rfl, p, rfl, .inl ⟨_, .of gp3⟩, _, rfl, _, DGet.k (k := .inl L) gp3, ?_⟩
        rw [get_kvZ]
        refine ⟨_, rfl, _, _, rfl, rfl, _, rfl, _, rfl, p, _, rfl, DPut.k (k := .inl L) gp3 (few ndj wj), ?_⟩
        rw [put_kvZ]
        have gp4 : (upd H3 p (.dK (kvZ (putZ (inn acc lm m k j) L (getZ (inn acc lm m k j) L + m))))) p = some (.dK (kvZ (addZ (inn acc lm m k j) L m))) := upd_same
        have gd4 : (upd H3 p (.dK (kvZ (putZ (inn acc lm m k j) L (getZ (inn acc lm m k j) L + m))))) d = some (.frz od (.dK (kvZ kz))) := by rw [upd_ne npd]; exact gd3
        have fr4 : ∀ b o, H b = some o → b ≠ d → (upd H3 p (.dK (kvZ (putZ (inn acc lm m k j) L (getZ (inn acc lm m k j) L + m))))) b = some o := fun b o e nb => by
          rw [upd_ne (ne_of_none e hp)]
          exact fr3 b o e nb
        generalize upd H3 p (.dK (kvZ (putZ (inn acc lm m k j) L (getZ (inn acc lm m k j) L + m)))) = H4 at gp4 gd4 fr4 ⊢
        have ndj4 : (keysZ (addZ (inn acc lm m k j) L m)).Nodup := nodup_put ndj
        have wj4 : ∀ x ∈ keysZ (addZ (inn acc lm m k j) L m), Win (A' / k) x := fun x hx => by
          rcases mem_put hx with z | z
          · exact wj x z
          · rw [z, eL]; exact wn.1
        refine ⟨_, rfl, p, rfl, .inl ⟨_, .of gp4⟩, _, rfl, _, 1, rfl, rfl, _, DGet.k (k := .inl ((j : Int) - 1)) gp4, ?_⟩
        rw [get_kvZ]
        refine ⟨_, rfl, _, _, rfl, rfl, _, rfl, _, rfl, _, 1, rfl, rfl, p, _, rfl, DPut.k (k := .inl ((j : Int) - 1)) gp4 (few ndj4 wj4), ?_⟩
        rw [put_kvZ]
        refine ⟨⟨_, _, rfl⟩, by rw [upd_ne npd]; exact gd4, ?_, fun b o e nb => by rw [upd_ne (ne_of_none e hp)]; exact fr4 b o e nb⟩
        rw [upd_same]
        show some (HO.dK (kvZ (putZ (addZ (inn acc lm m k j) L m) ((j : Int) - 1) (getZ (addZ (inn acc lm m k j) L m) ((j : Int) - 1) - m)))) = some (.dK (kvZ (addZ (addZ (inn acc lm m k j) (lng lm k j) m) ((j : Int) - 1) (-m))))
        rw [← eL]
        exact congrArg (fun z => some (HO.dK (kvZ (putZ (addZ (inn acc lm m k j) L m) ((j : Int) - 1) z)))) Int.sub_eq_add_neg
      · rintro σ H3 ⟨⟨y5, y6, rfl⟩, gd3, gp3, fr3⟩
        rw [hN.1, eacc2] at gp3
        exact ⟨⟨_, _, _, _, rfl⟩, gd3, gp3, fr3⟩
    · rintro σ H1 ⟨⟨y3, y4, y5, y6, rfl⟩, gd1, gp1, fr1⟩
      have lk : (kvZ kz).length = kz.length := by unfold kvZ; rw [List.length_map]
      rw [lk, List.take_length] at gp1
      have wF := win0 kz.length
      have nF := nd0 kz.length
      rw [List.take_length] at wF nF
      obtain ⟨fz, efz⟩ : ∃ fz, fz = outF k kz := ⟨_, rfl⟩
      have gp1' : H1 p = some (.dK (kvZ fz)) := by rw [efz]; exact gp1
      have wF' : ∀ x ∈ keysZ fz, Win (A' / k) x := by rw [efz]; exact wF
      have nF' : (keysZ fz).Nodup := by rw [efz]; exact nF
      have ez : nextZ k kz = fz.filter fun p => !decide (p.2 = 0) := by rw [efz]; rfl
      rw [ez] at q
      clear efz ez gp1 wF nF win0 nd0
      refine ⟨gd1, ?_⟩
      have gp2 : (upd H1 d (.dK (kvZ kz))) p = some (.dK (kvZ fz)) := by rw [upd_ne npd.symm]; exact gp1'
      have s2 : Same H (upd H1 d (.dK (kvZ kz))) := fun b o e => by
        by_cases c : b = d
        · rw [c, upd_same, ← e, c]
          exact hd.symm
        · rw [upd_ne c]
          exact fr1 b o e c
      generalize upd H1 d (.dK (kvZ kz)) = H2 at gp2 s2 ⊢
      refine ⟨p, .dK (kvZ fz), gp2, trivial, fun od2 => ?_⟩
      refine ⟨_, rfl, p, od2, kvZ fz, rfl, upd_same, fun D hD => have hD' : H2 D = none := (by
        have nD : D ≠ p := fun z => by rw [z, upd_same] at hD; cases hD
        rw [upd_ne nD] at hD
        exact hD)
        walkI walk_items (fun i H' => H' p = some (.frz od2 (.dK (kvZ fz))) ∧ H' D = some (.dK (kvZ ((fz.take i).filter fun p => !decide (p.2 = 0)))) ∧ (∀ b o, H2 b = some o → b ≠ p → H' b = some o)) ?_ (fun i H' _ h => h.1) ?_ ?_⟩
      · have nD : p ≠ D := fun z => by rw [← z, upd_same] at hD; cases hD
        have hD2 : H2 D = none := by rw [upd_ne nD.symm] at hD; exact hD
        refine ⟨by rw [upd_ne nD, upd_same], upd_same, fun b o e nb => ?_⟩
        rw [upd_ne (ne_of_none e hD2), upd_ne nb]
        exact e
      · rintro i x H3 H4 hi ⟨gp3, gD3, fr3⟩ ⟨T, u, v, rfl, nT, rfl, e1, e2⟩
        have hi' : i < fz.length := by
          unfold kvZ at hi
          rwa [List.length_map] at hi
        have ek : (kvZ fz)[i]? = some (.inl fz[i].1, .int fz[i].2) := by
          unfold kvZ
          rw [List.getElem?_map, List.getElem?_eq_getElem hi']
          rfl
        have e1' : Option.map (fun kv : Key × V => kV kv.1) (kvZ fz)[i]? = some u := e1
        have e2' : Option.map Prod.snd (kvZ fz)[i]? = some v := e2
        rw [ek] at e1' e2'
        cases e1'
        cases e2'
        clear e1 e2
        obtain ⟨lm, m, elm⟩ : ∃ lm m, fz[i] = (lm, m) := ⟨_, _, rfl⟩
        rw [elm]
        have sT := same_new (o := .tup [.int lm, .int m]) nT
        have tk : fz.take (i + 1) = fz.take i ++ [(lm, m)] := by rw [List.take_add_one, List.getElem?_eq_getElem hi', elm]; rfl
        refine ⟨T, _, rfl, .inl (.inl upd_same), rfl, _, _, rfl, _, _, rfl, rfl, rfl, ?_⟩
        refine ⟨_, rfl, rfl, _, rfl, ?_⟩
        by_cases c : m = 0
        · rw [decide_eq_true (congrArg V.int c)]
          refine iteF ⟨sT _ _ gp3, ?_, fun b o e nb => sT _ _ (fr3 b o e nb)⟩
          rw [tk, List.filter_append, show [(lm, m)].filter (fun p => !decide (p.2 = 0)) = [] by rw [List.filter_cons_of_neg (by simp [c])]; rfl, List.append_nil]
          exact sT _ _ gD3
        · rw [decide_eq_false (fun z => c (by injection z))]
          have fnd : lm ∉ keysZ ((fz.take i).filter fun p => !decide (p.2 = 0)) := fun z => by
            obtain ⟨q1, hq1, e1⟩ := List.mem_map.mp (keys_filter z)
            have nn := nF'
            unfold keysZ at nn
            have h2 : ((fz.take i).map (·.1) ++ (fz.drop i).map (·.1)).Nodup := by rw [← List.map_append, List.take_append_drop]; exact nn
            have md : lm ∈ (fz.drop i).map (·.1) := by
              rw [List.drop_eq_getElem_cons hi', elm]
              exact List.mem_cons_self
            exact (List.nodup_append.mp h2).2.2 lm (List.mem_map.mpr ⟨q1, hq1, e1⟩) lm md rfl
          have put : putZ ((fz.take i).filter fun p => !decide (p.2 = 0)) lm m = (fz.take (i + 1)).filter fun p => !decide (p.2 = 0) := by
            rw [tk, List.filter_append, show [(lm, m)].filter (fun p => !decide (p.2 = 0)) = [(lm, m)] by rw [List.filter_cons_of_pos (by simp [c])]; rfl]
            unfold putZ
            rw [if_neg]
            intro z
            obtain ⟨q1, hq1, h1⟩ := List.any_eq_true.mp z
            exact fnd (List.mem_map.mpr ⟨q1, hq1, of_decide_eq_true h1⟩)
          have nDp : D ≠ p := fun z => by rw [z, gp3] at gD3; cases gD3
          have ndF : (keysZ ((fz.take i).filter fun p => !decide (p.2 = 0))).Nodup := by
            unfold keysZ
            exact List.Nodup.sublist (List.Sublist.map _ (List.Sublist.trans List.filter_sublist (List.take_sublist i fz))) nF'
          have wFF : ∀ x ∈ keysZ ((fz.take i).filter fun p => !decide (p.2 = 0)), Win (A' / k) x := fun x hx => by
            obtain ⟨q1, hq1, e1⟩ := List.mem_map.mp (keys_filter hx)
            exact wF' x (List.mem_map.mpr ⟨q1, List.mem_of_mem_take hq1, e1⟩)
          refine iteT ⟨_, rfl, _, rfl, _, .inl lm, rfl, sT _ _ gD3, few ndF wFF, ?_⟩
          rw [put_kvZ, put]
          refine ⟨by rw [upd_ne nDp.symm]; exact sT _ _ gp3, upd_same, fun b o e nb => ?_⟩
          have nbD : b ≠ D := fun z => by
            rw [z] at e nb
            exact absurd e (by rw [hD']; exact fun z => nomatch z)
          rw [upd_ne nbD]
          exact sT _ _ (fr3 b o e nb)
      · rintro H3 ⟨gp3, gD3, fr3⟩
        have lk : (kvZ fz).length = fz.length := by unfold kvZ; rw [List.length_map]
        rw [lk, List.take_length] at gD3
        have nDp : D ≠ p := fun z => by rw [z, gp3] at gD3; cases gD3
        refine ⟨gp3, q D _ ?_ (fun b o e => ?_) (by rw [upd_ne nDp]; exact gD3)⟩
        · rw [upd_ne nDp] at hD
          exact s2.free hD
        · rw [upd_ne (ne_of_none e hp)]
          exact fr3 b o (s2 b o e) (ne_of_none e hp)
end
theorem mZ_sel (L : Int) : ∀ kz : List (Int × Int), mZ kz L = ((kz.filter fun p => decide (L ≤ p.1)).map (·.2)).sum
  | [] => rfl
  | p :: kz => by
    rw [mZ_cons, mZ_sel L kz]
    by_cases c : L ≤ p.1
    · rw [List.filter_cons_of_pos (by exact decide_eq_true c), List.map_cons, List.sum_cons, decide_eq_true c]
      show p.2 * 1 + _ = _
      rw [Int.mul_one]
    · rw [List.filter_cons_of_neg (by intro z; exact c (of_decide_eq_true z)), decide_eq_false c]
      show p.2 * 0 + _ = _
      rw [Int.mul_zero, Int.zero_add]
end Sq
set_option Elab.async false
set_option linter.all false
set_option maxRecDepth 100000
set_option maxHeartbeats 4000000
set_option exponentiation.threshold 2000
namespace Sq
open PySem PySem.Spec PyProof.Rows L2
section
variable {P : Program} {w : World} {K : PySem.W.Frag} {mg : Str → Option Value} {base : Heap} {c fI : Nat → Addr} {qn : Nat → Str} {cB : Addr}
def spCount (K : PySem.W.Frag) (c : Nat → Addr) : Sp := fun vs H Q E => ∃ (L last : Int) (a : Addr) (ks : List Int), vs = [.int L, .ref a, .int last] ∧ SqL K H a (ks.map V.int) ∧ (0 ≤ L → lowAt ks = none → 0 ≤ last → (∀ k ∈ ks, 2 ≤ k ∧ k ≤ 30) ∧ ∀ H' r, Same H H' → Q (.int r) H') ∧
  (L < 0 → Wish E (c 1) (.int L) H) ∧ (0 ≤ L → ∀ j : Nat, lowAt ks = some j → ∀ H', Same H H' → Wish E (c 0) (.int (j : Int)) H') ∧ (0 ≤ L → lowAt ks = none → last < 0 → ∀ H', Same H H' → Wish E (c 1) (.int last) H')
theorem ok_count {f : Addr} {fd : FuncData} (F : Fun K "count_origins" "count_origins" s_countorigins f fd) (B : Bi mg) (X_checknumber : Dn P w K mg base 1 "check_number" ["number", "least"] (spCheckNumber c)) (X_checklist : Dn P w K mg base 1 "check_list" ["replacements"] (spCheckList K c))
    (D_limitsafter : Df P w K mg base 1 "limits_after" ["limits", "number"] spLimits) : FnOk P w K mg base (L2N.CX P w) 2 f fd ["length", "replacements", "last"] (spCount K c) := by
  refine okN F sc_countorigins (fun vs H Q E h => ?_) (fun cdv A outer s H vs Q E hr h => ?_)
  · obtain ⟨L, last, a, ks, rfl, _⟩ := h
    rfl
  · obtain ⟨L, last, a, ks, rfl, hS, q, e1, e2, e3⟩ := h
    refine ⟨_, (pss_cons (ps_expr (pe_callN X_checknumber takesN (hr.mono (by omega)) (by rfl) (pa_cons (pv 0) (pa_cons pe_int pa_nil))))
 (pss_cons (ps_expr (pe_callN X_checklist takesN (hr.mono (by omega)) (by rfl) (pa_cons (pv 1) pa_nil)))
 (pss_cons (ps_expr (pe_callN X_checknumber takesN (hr.mono (by omega)) (by rfl) (pa_cons (pv 2) (pa_cons pe_int pa_nil))))
 (pss_cons (ps_set (i := 3) sc_countorigins.nd rfl (Or.inl rfl) (pe_disp (pps_cons (pv 2) pe_int pps_nil) rfl rfl (by simp) (by decide)))
 (pss_cons (ps_for ownsN rfl (pi_list (pv 1)) (pg_name (i := 4) sc_countorigins.nd rfl (Or.inl rfl))
 (pss_one (ps_set (i := 3) sc_countorigins.nd rfl (Or.inl rfl) (pe_callD D_limitsafter (hr.mono (by omega)) (by rfl) (pa_cons (pv 3) (pa_cons (pv 4) pa_nil))))))
 (pss_one (ps_ret (pe_callB (id := "sum") (cr_sum rfl) (by rfl) B.n_sum (by decide +kernel) (pa_cons (pe_lock (pe_lc (own := [("limit", 5), ("many", 6)]) (g := gTup K 2 (gCons (gName 5) (gCons (gName 6) gNil))) rfl sc_countorigins.nd (pi_items (pv 3)) (blkOk_by (own := [("limit", 5), ("many", 6)]) (N := ["length", "replacements", "last", "limits", "number", "limit", "many"]) (sc := defScope s_countorigins) (by decide +kernel)) (fun _ _ _ _ _ => (pg_tup rfl (pgs_cons (pg_name (i := 5) sc_countorigins.nd rfl (Or.inl rfl)) (pgs_cons (pg_name (i := 6) sc_countorigins.nd rfl (Or.inl rfl)) pgs_nil)))) (fun _ _ _ _ _ => pts_one (pt_cmpR op_ge (pv 5) (pv 0) (nomark _))) (fun _ _ _ _ _ => (pv 6)))) pa_nil))))))))), ?_⟩
    have lim : sizeLine = 16777216 := sizeLine_eq
    refine ⟨_, rfl, L, 0, rfl, fun h0 => ?_, e1⟩
    refine ⟨_, rfl, a, ks, rfl, hS, fun ok H1 s1 => ?_, e2 h0⟩
    refine ⟨_, rfl, last, 0, rfl, fun h1 => ?_, fun lt => e3 h0 ok lt H1 s1⟩
    obtain ⟨hk, qq⟩ := q h0 ok h1
    clear e1 e2 e3 q
    obtain ⟨L, rfl⟩ : ∃ m : Nat, L = (m : Int) := ⟨L.toNat, by omega⟩
    obtain ⟨last, rfl⟩ : ∃ m : Nat, last = (m : Int) := ⟨last.toNat, by omega⟩
    have two : ∀ k ∈ ks, 2 ≤ k := fun k h => (hk k h).1
    refine fun p hp => ?_
    refine ⟨_, rfl, upd_same, [(.inl (last : Int), .int 1)], rfl, by show 1 ≤ 15; decide, ?_⟩
    have s2 : Same H1 (upd (upd H1 p (.dK [])) p (.dK (mergeK [] [(.inl (last : Int), .int 1)]))) := fun b o e => by
      rw [upd_ne (ne_of_none e hp), upd_ne (ne_of_none e hp)]
      exact e
    have g2 : (upd (upd H1 p (.dK [])) p (.dK (mergeK [] [(.inl (last : Int), .int 1)]))) p = some (.dK (kvZ [((last : Int), 1)])) := upd_same
    generalize upd (upd H1 p (.dK [])) p (.dK (mergeK [] [(.inl (last : Int), .int 1)])) = H2 at s2 g2 ⊢
    have s02 := s1.trans s2
    refine ⟨_, rfl, a, rfl, ⟨_, s02.seq hS⟩, for_list (K := K) (a := a) (xs := ks.map V.int) (fun i σ H' => ∃ d kz y4, σ = [some (.int (L : Int)), some (.ref a), some (.int (last : Int)), some (.ref d), y4, none, none] ∧ Same H H' ∧ H' d = some (.dK (kvZ kz)) ∧ LimOk (ks.take i) last kz)
      ⟨p, _, none, rfl, s02, g2, by rw [List.take_zero]; exact lim_start last⟩ (fun i σ H' _ h => by obtain ⟨_, _, _, _, s, _⟩ := h; exact s.seq hS) ?_ ?_⟩
    · rintro i v σ H3 hi ⟨d, kz, y4, rfl, s3, gd, S⟩
      obtain ⟨k, ek, rfl⟩ := map_at hi
      obtain ⟨k2, k30⟩ := hk k (List.mem_of_getElem? ek)
      obtain ⟨A', hA, _, win⟩ := S.win
      refine ⟨_, rfl, _, rfl, d, k, kz, A', rfl, gd, k2, k30, hA, win, fun p2 H4 hp2 s4 gp2 => ⟨p2, _, _, rfl, s3.trans s4, gp2, ?_⟩⟩
      rw [List.take_add_one, ek]
      exact lim_next S (fun x hx => two x (List.mem_of_mem_take hx)) k2 k30
    · rintro σ H3 ⟨d, kz, y4, rfl, s3, gd, S⟩
      rw [List.length_map, List.take_length] at S
      have hdH : ∀ b o, H b = some o → b ≠ d ∨ b = d := fun b o _ => by
        by_cases c : b = d
        · exact .inr c
        · exact .inl c
      refine ⟨d, .dK (kvZ kz), gd, trivial, fun od => ?_⟩
      refine ⟨_, rfl, d, od, kvZ kz, rfl, upd_same, fun D hD => have hD' : H3 D = none := (by
        have nD : D ≠ d := fun z => by rw [z, upd_same] at hD; cases hD
        rw [upd_ne nD] at hD
        exact hD)
        lc_it walk_items (fun i H' => H' d = some (.frz od (.dK (kvZ kz))) ∧ H' D = some (.lst ((((kz.take i).filter fun p => decide ((L : Int) ≤ p.1)).map (·.2)).map V.int)) ∧ (∀ b o, H3 b = some o → b ≠ d → H' b = some o)) ?_ (fun i H' _ h => h.1) ?_ ?_⟩
      · have nD : d ≠ D := fun z => by rw [← z, upd_same] at hD; cases hD
        refine ⟨by rw [upd_ne nD, upd_same], upd_same, fun b o e nb => ?_⟩
        rw [upd_ne (ne_of_none e hD'), upd_ne nb]
        exact e
      · rintro i x H4 H5 hi ⟨gd4, gD4, fr4⟩ ⟨T, u, v, rfl, nT, rfl, e1, e2⟩
        have hi' : i < kz.length := by
          unfold kvZ at hi
          rwa [List.length_map] at hi
        have ek : (kvZ kz)[i]? = some (.inl kz[i].1, .int kz[i].2) := by
          unfold kvZ
          rw [List.getElem?_map, List.getElem?_eq_getElem hi']
          rfl
        have e1' : Option.map (fun kv : Key × V => kV kv.1) (kvZ kz)[i]? = some u := e1
        have e2' : Option.map Prod.snd (kvZ kz)[i]? = some v := e2
        rw [ek] at e1' e2'
        cases e1'
        cases e2'
        clear e1 e2
        obtain ⟨lm, m, elm⟩ : ∃ lm m, kz[i] = (lm, m) := ⟨_, _, rfl⟩
        rw [elm]
        have sT := same_new (o := .tup [.int lm, .int m]) nT
        have tk : kz.take (i + 1) = kz.take i ++ [(lm, m)] := by rw [List.take_add_one, List.getElem?_eq_getElem hi', elm]; rfl
        have nDd : D ≠ d := fun z => by rw [z, gd4] at gD4; cases gD4
        refine ⟨T, _, rfl, .inl (.inl upd_same), rfl, _, _, rfl, _, _, rfl, rfl, rfl, ?_⟩
        refine ⟨_, rfl, _, rfl, _, _, rfl, rfl, _, rfl, ?_⟩
        by_cases c : (L : Int) ≤ lm
        · rw [decide_eq_true c]
          have fewK : ((((kz.take i).filter fun p => decide ((L : Int) ≤ p.1)).map (·.2)).map V.int).length < sizeLine := by
            obtain ⟨A', hA, _, win⟩ := S.win
            have := win_len S.nd win
            unfold keysZ at this
            rw [List.length_map] at this
            rw [List.length_map, List.length_map]
            have f := List.length_filter_le (fun p : Int × Int => decide ((L : Int) ≤ p.1)) (kz.take i)
            rw [List.length_take] at f
            omega
          refine iteT ⟨_, rfl, _, sT _ _ gD4, fewK, by rw [upd_ne nDd.symm]; exact sT _ _ gd4, ?_, fun b o e nb => ?_⟩
          · rw [upd_same, tk, List.filter_append, show [(lm, m)].filter (fun p => decide ((L : Int) ≤ p.1)) = [(lm, m)] by rw [List.filter_cons_of_pos (by exact decide_eq_true c)]; rfl, List.map_append, List.map_append]
            rfl
          · have nbD : b ≠ D := ne_of_none e hD'
            rw [upd_ne nbD]
            exact sT _ _ (fr4 b o e nb)
        · rw [decide_eq_false c]
          refine iteF ⟨sT _ _ gd4, ?_, fun b o e nb => sT _ _ (fr4 b o e nb)⟩
          rw [tk, List.filter_append, show [(lm, m)].filter (fun p => decide ((L : Int) ≤ p.1)) = [] by rw [List.filter_cons_of_neg (by intro z; exact c (of_decide_eq_true z))]; rfl, List.append_nil]
          exact sT _ _ gD4
      · rintro H4 ⟨gd4, gD4, fr4⟩
        have lk : (kvZ kz).length = kz.length := by unfold kvZ; rw [List.length_map]
        rw [lk, List.take_length] at gD4
        have nDd : D ≠ d := fun z => by rw [z, gd4] at gD4; cases gD4
        refine ⟨gd4, D, _, rfl, SqL.of (by rw [upd_ne nDd]; exact gD4), ?_⟩
        rw [← mZ_sel, S.tells L]
        refine qq _ _ fun b o e => ?_
        by_cases c : b = d
        · have := s3 b o e
          rw [c, gd] at this
          rw [c, upd_same]
          exact this
        · rw [upd_ne c]
          exact fr4 b o (s3 b o e) c
end
section
variable {P : Program} {w : World} {K : PySem.W.Frag} {mg : Str → Option Value} {base : Heap}
def spMany : Sp := fun vs H Q _ => ∃ (L k : Int), vs = [.int L, .int k] ∧ Q (.int (if L + 1 < k then L + 1 else k)) H
theorem ok_many {f : Addr} {fd : FuncData} (F : Fun K "many_for_one" "many_for_one" s_manyforone f fd) (B : Bi mg) : FnOk P w K mg base CX0 1 f fd ["length", "number"] spMany := by
  refine F.ok sc_manyforone (fun vs H Q E h => ?_) (fun cdv A outer s H vs Q E hr h => ?_)
  · obtain ⟨L, k, rfl, _⟩ := h
    rfl
  · obtain ⟨L, k, rfl, q⟩ := h
    refine ⟨_, (pss_one (ps_ret (pe_callB (id := "min") (call_min2 rfl) (by rfl) B.n_min (by decide +kernel) (pa_cons (pv 1) (pa_cons (pe_op op_add (pv 0) pe_int) pa_nil))))), ?_⟩
    exact ⟨_, rfl, _, rfl, _, _, rfl, rfl, _, _, rfl, q⟩
def nI (fs : List Nat) : List Int := fs.map fun n : Nat => (n : Int)
theorem nI_app (a b : List Nat) : nI (a ++ b) = nI a ++ nI b := List.map_append
def spOne : Sp := fun vs H Q _ => ∃ (L : Nat) (k : Int), vs = [.int (L : Int), .int k] ∧ 2 ≤ k ∧ k ≤ 30 ∧ ∀ p H', H p = none → Same H H' → H' p = some (.lst ((nI (oneO L k.toNat)).map V.int)) → Q (.ref p) H'
theorem ok_one {f : Addr} {fd : FuncData} (F : Fun K "origins_for_one" "origins_for_one" s_originsforone f fd) (B : Bi mg) (D_manyforone : Df P w K mg base 1 "many_for_one" ["length", "number"] spMany) : FnOk P w K mg base CX0 2 f fd ["length", "number"] spOne := by
  refine F.ok sc_originsforone (fun vs H Q E h => ?_) (fun cdv A outer s H vs Q E hr h => ?_)
  · obtain ⟨L, k, rfl, _⟩ := h
    rfl
  · obtain ⟨L, k, rfl, h2, h30, q⟩ := h
    refine ⟨_, (pss_one (ps_ret (pe_lc (own := [("left", 2)]) (g := gName 2) rfl sc_originsforone.nd (pi_range1 (by rfl) B.n_range (pa_cons (pe_callD D_manyforone (hr.mono (by omega)) (by rfl) (pa_cons (pv 0) (pa_cons (pv 1) pa_nil))) pa_nil)) (blkOk_by (own := [("left", 2)]) (N := ["length", "number", "left"]) (sc := defScope s_originsforone) (by decide +kernel)) (fun _ _ _ _ _ => (pg_name (i := 2) sc_originsforone.nd rfl (Or.inl rfl))) (fun _ _ _ _ _ => pts_nil) (fun _ _ _ _ _ => (pe_op op_add (pe_op op_mul (pe_op op_sub (pv 0) (pv 2)) (pv 1)) (pv 2)))))), ?_⟩
    have lim : sizeLine = 16777216 := sizeLine_eq
    obtain ⟨m, em⟩ : ∃ m : Int, m = (if (L : Int) + 1 < k then (L : Int) + 1 else k) := ⟨_, rfl⟩
    have hm : 1 ≤ m ∧ m ≤ 30 ∧ m.toNat = min k.toNat (L + 1) := by
      rw [em]
      split <;> omega
    refine ⟨_, rfl, _, rfl, L, k, rfl, m, by rw [em], by omega, by omega, fun D hD => lc_range (lo := 0) (n := m.toNat) (fun j H' => Same H H' ∧ H' D = some (.lst ((nI ((List.range j).map fun l : Nat => (L - l) * k.toNat + l)).map V.int))) ⟨same_new hD, upd_same⟩ ?_ ?_⟩
    · rintro j H' hj ⟨s1, g1⟩
      refine ⟨rfl, ?_⟩
      refine ⟨_, rfl, _, rfl, _, _, rfl, rfl, _, rfl, _, k, rfl, rfl, .inr ⟨by omega, by omega⟩, _, rfl, _, _, rfl, rfl, _, g1, ?_, ?_, ?_⟩
      · rw [List.length_map, nI, List.length_map, List.length_map, List.length_range]
        omega
      · intro b o e
        have nb : b ≠ D := ne_of_none e hD
        rw [upd_ne nb]
        exact s1 b o e
      · rw [upd_same, List.range_succ, List.map_append, nI_app, List.map_append]
        have e : ((L : Int) - (0 + (j : Int))) * k + (0 + (j : Int)) = (((L - j) * k.toNat + j : Nat) : Int) := by
          rw [Int.natCast_add, Int.natCast_mul, Int.toNat_of_nonneg (by omega), Int.ofNat_sub (by omega), Int.zero_add]
        show some (HO.lst (_ ++ [V.int (((L : Int) - (0 + (j : Int))) * k + (0 + (j : Int)))])) = _
        rw [e]
        rfl
    · rintro H' ⟨s1, g1⟩
      refine q D H' hD s1 ?_
      rw [g1, hm.2.2]
      rfl
end
end Sq
set_option Elab.async false
set_option linter.all false
set_option maxRecDepth 100000
set_option maxHeartbeats 4000000
set_option exponentiation.threshold 2000
namespace Sq
open PySem PySem.Spec PyProof.Rows L2 GenW
theorem flat_pre {f : Nat → List Nat} {fs : List Nat} {i a j : Nat} (e : fs[i]? = some a) (hj : j < (f a).length) : ((fs.take i).flatMap f ++ (f a).take j).length < (fs.flatMap f).length := by
  have h : fs = fs.take i ++ (a :: fs.drop (i + 1)) := by
    obtain ⟨hi, rfl⟩ := List.getElem?_eq_some_iff.mp e
    rw [← List.drop_eq_getElem_cons hi, List.take_append_drop]
  have e2 : (fs.flatMap f).length = ((fs.take i ++ (a :: fs.drop (i + 1))).flatMap f).length := by rw [← h]
  rw [e2, List.flatMap_append, List.length_append, List.length_append, List.flatMap_cons, List.length_append, List.length_take]
  omega
theorem pro_drop {ks : List Int} (h : ∀ k ∈ ks, 2 ≤ k) (j : Nat) : pro (ks.drop j) ≤ pro ks := by
  have e : pro ks = pro (ks.take j) * pro (ks.drop j) := by rw [← pro_app, List.take_append_drop]
  have a := pro_pos (ks := ks.take j) fun k hk => h k (List.mem_of_mem_take hk)
  have b := pro_pos (ks := ks.drop j) fun k hk => h k (List.mem_of_mem_drop hk)
  have := Int.mul_le_mul_of_nonneg_right a (show 0 ≤ pro (ks.drop j) by omega)
  omega
section
variable {P : Program} {w : World} {K : PySem.W.Frag} {mg : Str → Option Value} {base : Heap} {c fI : Nat → Addr} {qn : Nat → Str} {cB : Addr}
def spOriginsL (K : PySem.W.Frag) (c : Nat → Addr) : SpL := fun vs H M tot It E => ∃ (L : Int) (a : Addr) (ks : List Int), vs = [.int L, .ref a] ∧ SqL K H a (ks.map V.int) ∧ (∀ b, M b → ∃ o, H b = some o) ∧
  (0 ≤ L → lowAt ks = none → (∀ k ∈ ks, 2 ≤ k ∧ k ≤ 30) ∧ pro ks ≤ 4000000 ∧ tot = (orgs L.toNat ks).length ∧ ∀ i x H', It i x H') ∧ (L < 0 → Wish E (c 1) (.int L) H) ∧ (0 ≤ L → ∀ j : Nat, lowAt ks = some j → ∀ H', Same H H' → Wish E (c 0) (.int (j : Int)) H')
theorem ok_origins {f : Addr} {fd : FuncData} (F : Fun K "origins" "origins" s_origins f fd) (B : Bi mg) (X_checknumber : Dn P w K mg base 1 "check_number" ["number", "least"] (spCheckNumber c)) (X_checklist : Dn P w K mg base 1 "check_list" ["replacements"] (spCheckList K c))
    (D_originsforone : Df P w K mg base 2 "origins_for_one" ["length", "number"] spOne) : GFnL P w K mg base 3 f fd ["length", "replacements"] (spOriginsL K c) := by
  obtain ⟨oc, od, kV, doc, pm, an, cdv, ct, osl, rfl, lk, hcd⟩ := F.ex
  refine lfn_at (k := 2) lk hcd sc_origins (fun vs H M tot It E h => ?_) (fun Xc pinsC A n0 a go g E sC HC tot M It J vs ok_ hr h => ?_)
  · obtain ⟨L, a, ks, rfl, _⟩ := h
    rfl
  · obtain ⟨L, a, ks, rfl, hS, hM, qq, e1, e2⟩ := h
    refine ⟨_, (g0_cons (ps_expr (pe_callN X_checknumber takes_lcx (hr.mono (by omega)) (by rfl) (pa_cons (pv 0) (pa_cons pe_int pa_nil))))
 (g0_cons (ps_expr (pe_callN X_checklist takes_lcx (hr.mono (by omega)) (by rfl) (pa_cons (pv 1) pa_nil)))
 (g0_of (gls_cons (gl_ps fun s0_ Hb_ E_ => (ps_set (i := 2) sc_origins.nd rfl (Or.inl rfl) (pe_lst (pa_cons (pv 0) pa_nil))))
 (gls_cons (gl_ps fun s0_ Hb_ E_ => (ps_for owns_lcx rfl (pi_reversedK (K0 := K) rfl (by rfl) B.n_reversed (pa_cons (pv 1) pa_nil)) (pg_name (i := 3) sc_origins.nd rfl (Or.inr rfl))
 (pss_one (ps_setLc2 (own := [("after", 4), ("origin", 5)]) (vs1 := [5]) (g := gName 4) (g1 := gName 5) (i := 2) rfl sc_origins.nd rfl rfl (sw_true rfl rfl rfl (by decide +kernel)) (pi_listK (K0 := K) rfl (pv 2)) (blkOk_by (own := [("after", 4), ("origin", 5)]) (N := ["length", "replacements", "found", "number", "after", "origin"]) (sc := defScope s_origins) (by decide +kernel)) (by decide) (fun _ _ _ _ _ => (pg_name (i := 4) sc_origins.nd rfl (Or.inl rfl))) (fun _ _ _ _ _ => pts_nil) (fun _ _ _ _ _ => (pi_listK (K0 := K) rfl (pe_callD D_originsforone (hr.mono (by omega)) (by rfl) (pa_cons (pv 4) (pa_cons (pv 3) pa_nil))))) (fun _ _ _ _ _ => (pg_name (i := 5) sc_origins.nd rfl (Or.inl rfl))) (fun _ _ _ _ _ => pts_nil) (fun _ _ _ _ _ => (pv 5))))))
 (gls_cons (gl_yf ok_ (fun s0_ Hb_ E_ => (pe_callB (id := "sorted") (r := rSortedI K) cr_sortedI (by rfl) B.n_sorted (by decide +kernel) (pa_cons (pv 2) pa_nil))) hr.hd)
 gls_nil)))))), ?_⟩
    have lim : sizeLine = 16777216 := sizeLine_eq
    refine ⟨_, rfl, L, 0, rfl, fun h0 => ?_, e1⟩
    refine ⟨_, rfl, a, ks, rfl, hS, fun ok H1 s1 => ?_, e2 h0⟩
    obtain ⟨hk, hp, ht, hIt⟩ := qq h0 ok
    clear e1 e2 qq
    obtain ⟨L, rfl⟩ : ∃ m : Nat, L = (m : Int) := ⟨L.toNat, by omega⟩
    rw [Int.toNat_natCast] at ht
    have two : ∀ k ∈ ks, 2 ≤ k := fun k h => (hk k h).1
    refine ⟨_, rfl, (by show 1 ≤ _; omega), fun p hp2 => ?_⟩
    have g2 : (upd H1 p (.lst [.int (L : Int)])) p = some (.lst ((nI (orgs L [])).map V.int)) := upd_same
    have s2 := s1.trans (same_new (o := .lst [.int (L : Int)]) hp2)
    generalize upd H1 p (.lst [.int (L : Int)]) = H2 at g2 s2 ⊢
    refine ⟨_, rfl, a, ks.map V.int, rfl, s2.seq hS, for_it walk_rev (fun i σ H' => Same HC H' ∧ i ≤ ks.length ∧ ∃ r y, σ = [some (.int (L : Int)), some (.ref a), some (.ref r), y, none, none] ∧ H' r = some (.lst ((nI (orgs L (ks.drop (ks.length - i)))).map V.int))) ⟨s2, Nat.zero_le _, p, none, rfl, ?_⟩ (fun i σ H' _ h => h.1.seq hS) ?_ ?_⟩
    · rw [Nat.sub_zero, List.drop_length]
      exact g2
    · rintro i x σ H' H3 hi ⟨s3, hle, r, y, rfl, gr⟩ ⟨rfl, e⟩
      rw [List.length_map] at hi e
      obtain ⟨k, hk', rfl⟩ := map_at e
      have hm := hk k (List.mem_of_getElem? hk')
      have hj : ks.length - 1 - i < ks.length := by omega
      have ed : ks.drop (ks.length - (i + 1)) = k :: ks.drop (ks.length - i) := by
        rw [show ks.length - (i + 1) = ks.length - 1 - i by omega, List.drop_eq_getElem_cons hj]
        rw [List.getElem?_eq_getElem hj] at hk'
        rw [Option.some.inj hk', show ks.length - 1 - i + 1 = ks.length - i by omega]
      have pd := pro_drop two (ks.length - (i + 1))
      have td : ∀ q ∈ ks.drop (ks.length - (i + 1)), 2 ≤ q := fun q hq => two q (List.mem_of_mem_drop hq)
      have ol := orgs_len (L := L) td
      rw [ed] at pd ol ⊢
      obtain ⟨fs, efs⟩ : ∃ fs, fs = orgs L (ks.drop (ks.length - i)) := ⟨_, rfl⟩
      have eo : orgs L (k :: ks.drop (ks.length - i)) = fs.flatMap fun a => oneO a k.toNat := by rw [efs]; rfl
      rw [← efs] at gr
      rw [eo] at ol ⊢
      clear efs eo
      have ll : ((fs.flatMap fun a => oneO a k.toNat).length : Int) ≤ 4000000 := by omega
      refine ⟨_, rfl, r, rfl, ⟨_, SqL.of gr⟩, fun D hD => walkI (walk_list (K := K) (a := r) (xs := (nI fs).map V.int)) (fun u H4 => Same H3 (wo H4 D) ∧ H4 D = some (.lst ((nI ((fs.take u).flatMap fun a => oneO a k.toNat)).map V.int))) ⟨by rw [wo_upd]; exact same_wo (Same.refl _) hD, upd_same⟩ (fun u H4 _ h => SqL.of (wo_same _ _ (h.1 _ _ gr))) ?_ ?_⟩
      · rintro u x H4 H5 hu ⟨s4, g4⟩ ⟨rfl, ex⟩
        obtain ⟨av, eav, rfl⟩ := map_at ex
        obtain ⟨an, ean, rfl⟩ : ∃ n, fs[u]? = some n ∧ (n : Int) = av := by
          unfold nI at eav
          rw [List.getElem?_map] at eav
          exact Option.map_eq_some_iff.mp eav
        have s5 : Same H3 (wo H5 D) := s4
        have tk : (fs.take u).flatMap (fun a => oneO a k.toNat) ++ (oneO an k.toNat).take (oneO an k.toNat).length = (fs.take (u + 1)).flatMap fun a => oneO a k.toNat := by
          rw [List.take_add_one, ean, List.flatMap_append, List.take_length]
          show _ = _ ++ List.flatMap _ [an]
          rw [List.flatMap_singleton]
        refine ⟨rfl, ?_⟩
        refine ⟨_, rfl, _, rfl, an, k, rfl, hm.1, hm.2, fun p5 H6 hp5 s6 gp5 => ⟨p5, rfl, ⟨_, SqL.of gp5⟩, walkI (walk_list (K := K) (a := p5) (xs := (nI (oneO an k.toNat)).map V.int)) (fun v H7 => H7 p5 = some (.lst ((nI (oneO an k.toNat)).map V.int)) ∧ Same H3 (wo H7 D) ∧ H7 D = some (.lst ((nI ((fs.take u).flatMap (fun a => oneO a k.toNat) ++ (oneO an k.toNat).take v)).map V.int))) ⟨gp5, fun b o e => ?_, ?_⟩ (fun v H7 _ h => SqL.of h.1) ?_ ?_⟩⟩
        · have nb : b ≠ D := ne_of_none e hD
          have := s5 b o e
          rw [wo_ne nb] at this ⊢
          exact s6 _ _ this
        · rw [List.take_zero, List.append_nil]
          exact s6 _ _ g4
        · rintro v x H7 H8 hv ⟨gp7, s7, g7⟩ ⟨rfl, ex⟩
          obtain ⟨zv, ezv, rfl⟩ := map_at ex
          obtain ⟨zn, ezn, rfl⟩ : ∃ n, (oneO an k.toNat)[v]? = some n ∧ (n : Int) = zv := by
            unfold nI at ezv
            rw [List.getElem?_map] at ezv
            exact Option.map_eq_some_iff.mp ezv
          have hvl := (List.getElem?_eq_some_iff.mp ezn).1
          have fp := flat_pre (f := fun a => oneO a k.toNat) ean hvl
          have nD5 : p5 ≠ D := fun z => by
            rw [z] at hp5
            rw [g4] at hp5
            cases hp5
          refine ⟨rfl, ?_⟩
          refine ⟨_, rfl, _, g7, ?_, ?_, ?_, ?_⟩
          · rw [List.length_map, nI, List.length_map]
            omega
          · rw [upd_ne nD5]
            exact gp7
          · rw [wo_upd]
            exact s7
          · rw [upd_same, List.take_add_one, ezn, ← List.append_assoc, nI_app _ (some zn).toList, List.map_append]
            rfl
        · rintro H7 ⟨gp7, s7, g7⟩
          have le : ((nI (oneO an k.toNat)).map V.int).length = (oneO an k.toNat).length := by rw [List.length_map, nI, List.length_map]
          rw [le, tk] at g7
          exact ⟨s7, g7⟩
      · rintro H4 ⟨s4, g4⟩
        have le : ((nI fs).map V.int).length = fs.length := by rw [List.length_map, nI, List.length_map]
        rw [le, List.take_length] at g4
        exact ⟨s3.trans (s4.trans wo_same), hi, D, _, rfl, g4⟩
    · rintro σ H' ⟨s3, hle, r, y, rfl, gr⟩
      rw [List.length_map, Nat.sub_self, List.drop_zero] at gr
      have ll : ∀ {ns : List Int}, (nI (orgs L ks)).Perm ns ∨ ns.Perm (nI (orgs L ks)) → (ns.map V.int).length = tot := fun {ns} h => by
        rw [List.length_map, ht]
        rcases h with h | h
        · have := h.length_eq
          rw [nI, List.length_map] at this
          exact this.symm
        · have := h.length_eq
          rw [nI, List.length_map] at this
          exact this
      have away : ∀ {b : Addr}, HC b = none → ¬ M b := fun {b} e m => by
        obtain ⟨o, z⟩ := hM b m
        rw [e] at z
        cases z
      refine ⟨_, rfl, r, _, rfl, SqL.of gr, fun ns pp pm _ hpp => ⟨pp, _, rfl, s3.trans (same_new hpp), ?_, fun j H4 => H4 pp = some (.lst (ns.map V.int)), upd_same, fun j H4 _ h => h, fun j H4 x hx h => ⟨hIt _ _ _, fun H5 kp => kp _ _ h (away (s3.free hpp)) ?_⟩, fun Hb' H4 h sm => ⟨?_, sm⟩⟩⟩
      · rw [ll (.inr pm)]
        show 0 + tot ≤ tot
        omega
      · obtain ⟨z, _, rfl⟩ := map_at hx
        intro e
        cases e
      · rw [ll (.inr pm)]
        show 0 + tot = tot
        omega
end
end Sq
set_option Elab.async false
set_option linter.all false
set_option maxRecDepth 100000
set_option maxHeartbeats 4000000
set_option exponentiation.threshold 2000
namespace Sq
open PySem PySem.Spec PyProof.Rows L2
/-! ### the same data -/
mutual
def ld : PyData → Bool
  | .none => true
  | .bool _ => true
  | .int _ => true
  | .str x => PyData.canLay0 (.str x)
  | .list xs => decide (xs.length ≤ 1000) && ldAll xs
  | _ => false
def ldAll : List PyData → Bool
  | [] => true
  | x :: xs => ld x && ldAll xs
end
theorem ld_at : ∀ {ds : List PyData} {i : Nat} {d : PyData}, ldAll ds = true → ds[i]? = some d → ld d = true
  | x :: xs, 0, d, h, e => by
    cases e
    exact (Bool.and_eq_true_iff.mp h).1
  | x :: xs, i + 1, d, h, e => ld_at (Bool.and_eq_true_iff.mp h).2 e
section
variable {P : Program} {w : World} {K : PySem.W.Frag} {mg : Str → Option Value} {base : Heap}
/-- both show the same data; n: its depth stays below it -/
def spSame (K : PySem.W.Frag) (n : Nat) : Sp := fun vs H Q _ => ∃ (x y : V) (d : PyData), vs = [x, y] ∧ Dp K H x d ∧ Dp K H y d ∧ ld d = true ∧ d.depth < n ∧ ∀ H', Same H H' → Q (.bl true) H'
theorem ok_lawsame_step {f : Addr} {fd : FuncData} {n : Nat} (F : Fun K "_law_same" "_law_same" s_lawsame f fd) (B : Bi mg) (D_lawsame : Df P w K mg base (n + 1) "_law_same" ["found", "wanted"] (spSame K n)) : FnOk P w K mg base CX0 (n + 2) f fd ["found", "wanted"] (spSame K (n + 1)) := by
  refine F.ok sc_lawsame (fun vs H Q E h => ?_) (fun cdv A outer s H vs Q E hr h => ?_)
  · obtain ⟨x, y, d, rfl, _⟩ := h
    rfl
  · obtain ⟨x, y, d, rfl, dx, dy, id', hdep, q⟩ := h
    refine ⟨_, (pss_cons (ps_if (pt_cmpR op_isN (pv 1) pe_non (nomark _))
 (pss_one (ps_ret (pe_cmpR op_isN (pv 0) pe_non (nomark _))))
 pss_nil)
 (pss_cons (ps_if (pt_val (pe_callB (id := "isinstance") call_isi (by rfl) B.n_isinstance (by decide +kernel) (pa_cons (pv 1) (pa_cons (pe_bltn (v := .ty "bool") (by rfl) B.n_bool (by decide +kernel) rfl) pa_nil))))
 (pss_one (ps_ret (pe_and (pe_callB (id := "isinstance") call_isi (by rfl) B.n_isinstance (by decide +kernel) (pa_cons (pv 0) (pa_cons (pe_bltn (v := .ty "bool") (by rfl) B.n_bool (by decide +kernel) rfl) pa_nil))) (pe_one (pe_cmpR (op_eqD hr.units) (pv 0) (pv 1) (nomark _))))))
 pss_nil)
 (pss_cons (ps_if (pt_val (pe_callB (id := "isinstance") call_isi (by rfl) B.n_isinstance (by decide +kernel) (pa_cons (pv 1) (pa_cons (pe_bltn (v := .ty "int") (by rfl) B.n_int (by decide +kernel) rfl) pa_nil))))
 (pss_one (ps_ret (pe_and (pe_callB (id := "isinstance") call_isi (by rfl) B.n_isinstance (by decide +kernel) (pa_cons (pv 0) (pa_cons (pe_bltn (v := .ty "int") (by rfl) B.n_int (by decide +kernel) rfl) pa_nil))) (pe_and (pe_not (pe_callB (id := "isinstance") call_isi (by rfl) B.n_isinstance (by decide +kernel) (pa_cons (pv 0) (pa_cons (pe_bltn (v := .ty "bool") (by rfl) B.n_bool (by decide +kernel) rfl) pa_nil)))) (pe_one (pe_cmpR (op_eqD hr.units) (pv 0) (pv 1) (nomark _)))))))
 pss_nil)
 (pss_cons (ps_if (pt_val (pe_callB (id := "isinstance") call_isi (by rfl) B.n_isinstance (by decide +kernel) (pa_cons (pv 1) (pa_cons (pe_bltn (v := .ty "str") (by rfl) B.n_str (by decide +kernel) rfl) pa_nil))))
 (pss_one (ps_ret (pe_and (pe_callB (id := "isinstance") call_isi (by rfl) B.n_isinstance (by decide +kernel) (pa_cons (pv 0) (pa_cons (pe_bltn (v := .ty "str") (by rfl) B.n_str (by decide +kernel) rfl) pa_nil))) (pe_one (pe_cmpR (op_eqD hr.units) (pv 0) (pv 1) (nomark _))))))
 pss_nil)
 (pss_cons (ps_if (pt_cmpR op_ne (pe_callB (id := "isinstance") call_isi (by rfl) B.n_isinstance (by decide +kernel) (pa_cons (pv 0) (pa_cons (pe_bltn (v := .ty "list") (by rfl) B.n_list (by decide +kernel) rfl) pa_nil))) (pe_callB (id := "isinstance") call_isi (by rfl) B.n_isinstance (by decide +kernel) (pa_cons (pv 1) (pa_cons (pe_bltn (v := .ty "list") (by rfl) B.n_list (by decide +kernel) rfl) pa_nil))) (nomark _))
 (pss_one (ps_ret pe_bl))
 pss_nil)
 (pss_cons (ps_if (PW.pt (pw_or (pt_cmpR op_ne (pe_callB (id := "isinstance") call_isi (by rfl) B.n_isinstance (by decide +kernel) (pa_cons (pv 0) (pa_cons (pe_bltn (v := .ty "tuple") (by rfl) B.n_tuple (by decide +kernel) rfl) pa_nil))) (pe_callB (id := "isinstance") call_isi (by rfl) B.n_isinstance (by decide +kernel) (pa_cons (pv 1) (pa_cons (pe_bltn (v := .ty "tuple") (by rfl) B.n_tuple (by decide +kernel) rfl) pa_nil))) (nomark _)) (pw_or1 (pt_cmpR op_ne (pe_callB (id := "len") (r := rLenK K) call_lenK (by rfl) B.n_len (by decide +kernel) (pa_cons (pv 0) pa_nil)) (pe_callB (id := "len") (r := rLenK K) call_lenK (by rfl) B.n_len (by decide +kernel) (pa_cons (pv 1) pa_nil)) (nomark _)))))
 (pss_one (ps_ret pe_bl))
 pss_nil)
 (pss_one (ps_ret (pe_cmpR (op_eqD hr.units) (pe_lc (own := [("k", 2)]) (g := gName 2) rfl sc_lawsame.nd (pi_range1 (by rfl) B.n_range (pa_cons (pe_callB (id := "len") (r := rLenK K) call_lenK (by rfl) B.n_len (by decide +kernel) (pa_cons (pv 1) pa_nil)) pa_nil)) (blkOk_by (own := [("k", 2)]) (N := ["found", "wanted", "k"]) (sc := defScope s_lawsame) (by decide +kernel)) (fun _ _ _ _ _ => (pg_name (i := 2) sc_lawsame.nd rfl (Or.inl rfl))) (fun _ _ _ _ _ => pts_one (pt_not (pt_val (pe_callD D_lawsame (hr.mono (by omega)) (by rfl) (pa_cons (pe_ix (r := rIxL K) ix_list (pv 0) (pv 2) (fun _ _ => rfl)) (pa_cons (pe_ix (r := rIxL K) ix_list (pv 1) (pv 2) (fun _ _ => rfl)) pa_nil)))))) (fun _ _ _ _ _ => (pv 2))) (pe_lst pa_nil) (nomark _)))))))))), ?_⟩
    match d, dx, dy, id', hdep, q with
    | .none, .non, .non, _, _, q =>
      refine ⟨_, rfl, rfl, _, rfl, ite2 (fun _ => ?_) (fun c => absurd (decide_eq_true rfl) c)⟩
      refine ⟨_, rfl, rfl, ?_⟩
      rw [decide_eq_true (rfl : V.non = V.non)]
      exact q H (Same.refl H)
    | .bool j, .bl _, .bl _, _, _, q =>
      refine ⟨_, rfl, rfl, _, rfl, ite2 (fun c => by cases of_decide_eq_true c) (fun _ => ?_)⟩
      refine ⟨_, rfl, _, _, _, _, true, rfl, .ty _, (.base (.bl j)), kit_ty (by decide +kernel), _, rfl, iteT ?_⟩
      refine ⟨_, rfl, _, _, _, _, true, rfl, .ty _, (.base (.bl j)), kit_ty (by decide +kernel), _, rfl, iteT ?_⟩
      refine ⟨_, rfl, _, rfl, _, _, .bl j, .bl j, rfl, rfl, ?_⟩
      rw [PySem.SeqAt.eqv_refl (.bool j) rfl]
      exact q H (Same.refl H)
    | .int j, .int _, .int _, _, _, q =>
      refine ⟨_, rfl, rfl, _, rfl, ite2 (fun c => by cases of_decide_eq_true c) (fun _ => ?_)⟩
      refine ⟨_, rfl, _, _, _, _, _, rfl, .ty _, (.base (.int j)), kit_ty (by decide +kernel), _, rfl, iteF ?_⟩
      refine ⟨_, rfl, _, _, _, _, _, rfl, .ty _, (.base (.int j)), kit_ty (by decide +kernel), _, rfl, iteT ?_⟩
      refine ⟨_, rfl, _, _, _, _, _, rfl, .ty _, (.base (.int j)), kit_ty (by decide +kernel), _, rfl, iteT ?_⟩
      refine ⟨_, rfl, _, _, _, _, false, rfl, .ty _, (.base (.int j)), kit_ty (by decide +kernel), _, rfl, _, rfl, iteT ?_⟩
      refine ⟨_, rfl, _, rfl, _, _, .int j, .int j, rfl, rfl, ?_⟩
      rw [PySem.SeqAt.eqv_refl (.int j) rfl]
      exact q H (Same.refl H)
    | .str j, .str _, .str _, ie, _, q =>
      have js : PyData.canLay0 (.str j) = true := ie
      have jsh : SeqAt.shaped (.str j) = true := Bool.and_eq_true_iff.mpr ⟨js, rfl⟩
      refine ⟨_, rfl, rfl, _, rfl, ite2 (fun c => by cases of_decide_eq_true c) (fun _ => ?_)⟩
      refine ⟨_, rfl, _, _, _, _, _, rfl, .ty _, (.base (.str j)), kit_ty (by decide +kernel), _, rfl, iteF ?_⟩
      refine ⟨_, rfl, _, _, _, _, _, rfl, .ty _, (.base (.str j)), kit_ty (by decide +kernel), _, rfl, iteF ?_⟩
      refine ⟨_, rfl, _, _, _, _, _, rfl, .ty _, (.base (.str j)), kit_ty (by decide +kernel), _, rfl, iteT ?_⟩
      refine ⟨_, rfl, _, _, _, _, _, rfl, .ty _, (.base (.str j)), kit_ty (by decide +kernel), _, rfl, iteT ?_⟩
      refine ⟨_, rfl, _, rfl, _, _, .str j, .str j, jsh, jsh, ?_⟩
      rw [PySem.SeqAt.eqv_refl (.str j) js]
      exact q H (Same.refl H)
    | .list es, .lst (a := a) (xs := xs) hx hxa, .lst (a := b) (xs := ys) hs hall, ie, hdep, q =>
      refine ⟨_, rfl, rfl, _, rfl, ite2 (fun c => by cases of_decide_eq_true c) (fun _ => ?_)⟩
      refine ⟨_, rfl, _, _, _, _, _, rfl, .ty _, (ty_seq hs), kit_ty (by decide +kernel), _, rfl, iteF ?_⟩
      refine ⟨_, rfl, _, _, _, _, _, rfl, .ty _, (ty_seq hs), kit_ty (by decide +kernel), _, rfl, iteF ?_⟩
      refine ⟨_, rfl, _, _, _, _, _, rfl, .ty _, (ty_seq hs), kit_ty (by decide +kernel), _, rfl, iteF ?_⟩
      have ie2 := Bool.and_eq_true_iff.mp ie
      have l2 : es.length ≤ 1000 := of_decide_eq_true ie2.1
      have lx := dp_len hxa
      have ly := dp_len hall
      refine ⟨_, rfl, _, _, _, _, true, rfl, .ty _, (ty_seq hx), kit_ty (by decide +kernel), _, rfl, _, _, _, _, true, rfl, .ty _, (ty_seq hs), kit_ty (by decide +kernel), rfl, _, rfl, iteF ?_⟩
      refine ⟨_, rfl, _, _, _, _, false, rfl, .ty _, (ty_seq hx), kit_ty (by decide +kernel), _, rfl, _, _, _, _, false, rfl, .ty _, (ty_seq hs), kit_ty (by decide +kernel), rfl, _, rfl, iteF ?_⟩
      refine ⟨_, rfl, a, xs, rfl, .inl hx, _, rfl, b, ys, rfl, .inl hs, rfl, _, rfl, ite2 (fun c => ?_) (fun c => ?_)⟩
      · rw [lx, ly] at c
        simp at c
      · refine ⟨_, rfl, b, ys, rfl, .inl hs, (ys.length : Int), rfl, by omega, by omega, fun D hD => lc_range (lo := 0) (n := (ys.length : Int).toNat)
          (fun i H' => Same H H' ∧ H' D = some (.lst [])) ⟨same_new hD, upd_same⟩ ?_ ?_⟩
        · rintro i H' hi ⟨sm, hb⟩
          have hi' : i < es.length := by omega
          have g2 : es[i]? = some es[i] := List.getElem?_eq_getElem hi'
          obtain ⟨v1, hv1, dv1⟩ := dp_at hxa g2
          obtain ⟨v2, hv2, dv2⟩ := dp_at hall g2
          have dep : (es[i]).depth < n := by
            have := depth_at g2
            have h3 : PyData.depthAll es + 1 < n + 1 := hdep
            omega
          refine ⟨rfl, _, rfl, _, rfl, a, xs, 0 + (i : Int), v1, rfl, rfl, sm.seq hx, at_of (by omega) hv1, _, rfl, _, rfl, b, ys, 0 + (i : Int), v2, rfl, rfl, sm.seq hs, at_of (by omega) hv2, ?_⟩
          refine ⟨v1, v2, _, rfl, Dp.same sm dv1, Dp.same sm dv2, ld_at ie2.2 g2, dep, fun H2 sm2 => ?_⟩
          exact ⟨_, rfl, iteF ⟨sm.trans sm2, sm2 _ _ hb⟩⟩
        · rintro H' ⟨sm, hb⟩
          refine ⟨Nat.zero_le _, fun p hp => ?_⟩
          have npD : D ≠ p := ne_of_none hb hp
          refine ⟨.list [], .list [], .lst (SqL.of (show (upd H' p (.lst [])) D = _ by rw [upd_ne npD]; exact hb)) .nil, .lst (SqL.of upd_same) .nil, shaped_ints [], shaped_ints [], ?_⟩
          exact q _ (sm.trans (same_new hp))
theorem ok_lawsame {f : Addr} {fd : FuncData} (F : Fun K "_law_same" "_law_same" s_lawsame f fd) (B : Bi mg) (g : mg "_law_same" = some (.ref f)) (b : Binds K fd ["found", "wanted"] []) : ∀ n : Nat, FnOk P w K mg base CX0 (n + 1) f fd ["found", "wanted"] (spSame K n)
  | 0 => ⟨fun vs H Q E h => by obtain ⟨x, y, d, _, _, _, _, z, _⟩ := h; exact absurd z (Nat.not_lt_zero _), fun A outer s H args us vs Q E hr e0 hb hv h => by obtain ⟨x, y, d, _, _, _, _, z, _⟩ := h; exact absurd z (Nat.not_lt_zero _)⟩
  | n + 1 => ok_lawsame_step F B (.mk' F (ok_lawsame F B g b n) g b)
end
theorem z1 : 1 ≤ sizeLine := Nat.le_of_lt (small1000 (by decide))
theorem z2 : 2 ≤ sizeLine := Nat.le_of_lt (small1000 (by decide))
theorem z3 : 3 ≤ sizeLine := Nat.le_of_lt (small1000 (by decide))
theorem z4 : 4 ≤ sizeLine := Nat.le_of_lt (small1000 (by decide))
section
variable {P : Program} {w : World} {K : PySem.W.Frag} {mg : Str → Option Value} {base : Heap} {c fI : Nat → Addr} {qn : Nat → Str} {cB : Addr}
def spError (c : Nat → Addr) : SpZ := fun a cls d vs H Q _ => ∃ (n : Nat) (v : V) (dd : Addr), vs = [.ref a] ∧ n < 5 ∧ cls = .ref (c n) ∧ d = some dd ∧ H dd = some (exd dd [(("value" : Str), v)]) ∧
  ∀ p H', H p = none → Same H H' → H' p = some (.lst [.str (nmE n), v, .bl true]) → Q (.ref p) H'
theorem ok_lawerror {f : Addr} {fd : FuncData} (F : Fun K "_law_error" "_law_error" s_lawerror f fd) (B : Bi mg) (Z : Errs P K mg c fI qn cB) (Z2 : Errs2 K c cB) : FnHZ P w K mg base CX0 1 f fd ["e"] (spError c) := by
  refine fn_ofHZ F sc_lawerror (fun a cl d vs H Q E h => ?_) (fun cdv A outer s H vs Q E p cls d hot hz hr h => ?_)
  · obtain ⟨n, v, dd, rfl, _⟩ := h
    rfl
  · obtain ⟨n, v, dd, rfl, hn, rfl, rfl, hv, q⟩ := h
    have hotc : L2H.HotC (L2H.cxH CX0 P w K mg base ["e", "held", "names", "name", "is_one"] "_law_error" (defScope s_lawerror) f cdv A outer s H E p) := ⟨p, hot, List.mem_cons_self⟩
    have hpm : p ∈ (L2H.cxH CX0 P w K mg base ["e", "held", "names", "name", "is_one"] "_law_error" (defScope s_lawerror) f cdv A outer s H E p).pn := List.mem_cons_self
    have hf : ∃ vs, p.2.data = .fields vs := let ⟨_, vs, e, _⟩ := hot; ⟨vs, e⟩
    refine ⟨_, (pss_cons (ps_set (i := 1) sc_lawerror.nd rfl (Or.inl rfl) (pe_lst (pa_cons (pe_tup (pa_cons pe_str (pa_cons (pe_callB (id := "isinstance") (call_isiP hpm hz hf) (by rfl) B.n_isinstance (by decide +kernel) (pa_cons (pv 0) (pa_cons (pe_glob (v := .ref _) (by rfl) Z.g0 rfl) pa_nil))) pa_nil))) (pa_cons (pe_tup (pa_cons pe_str (pa_cons (pe_callB (id := "isinstance") (call_isiP hpm hz hf) (by rfl) B.n_isinstance (by decide +kernel) (pa_cons (pv 0) (pa_cons (pe_glob (v := .ref _) (by rfl) Z.g1 rfl) pa_nil))) pa_nil))) pa_nil))))
 (pss_cons (ps_set (i := 1) sc_lawerror.nd rfl (Or.inl rfl) (pe_op op_cat (pv 1) (pe_lst (pa_cons (pe_tup (pa_cons pe_str (pa_cons (pe_callB (id := "isinstance") (call_isiP hpm hz hf) (by rfl) B.n_isinstance (by decide +kernel) (pa_cons (pv 0) (pa_cons (pe_glob (v := .ref _) (by rfl) Z.g2 rfl) pa_nil))) pa_nil))) pa_nil))))
 (pss_cons (ps_set (i := 1) sc_lawerror.nd rfl (Or.inl rfl) (pe_op op_cat (pv 1) (pe_lst (pa_cons (pe_tup (pa_cons pe_str (pa_cons (pe_callB (id := "isinstance") (call_isiP hpm hz hf) (by rfl) B.n_isinstance (by decide +kernel) (pa_cons (pv 0) (pa_cons (pe_glob (v := .ref _) (by rfl) Z.g3 rfl) pa_nil))) pa_nil))) (pa_cons (pe_tup (pa_cons pe_str (pa_cons (pe_callB (id := "isinstance") (call_isiP hpm hz hf) (by rfl) B.n_isinstance (by decide +kernel) (pa_cons (pv 0) (pa_cons (pe_glob (v := .ref _) (by rfl) Z.g4 rfl) pa_nil))) pa_nil))) pa_nil)))))
 (pss_cons (hot_setLc (own := [("name", 3), ("is_one", 4)]) (g := gTup K 2 (gCons (gName 3) (gCons (gName 4) gNil))) (i := 2) hotc sc_lawerror.nd rfl rfl (sw_true rfl rfl rfl (by decide +kernel)) (hot_list (pv 1)) (blkOk_by (own := [("name", 3), ("is_one", 4)]) (N := ["e", "held", "names", "name", "is_one"]) (sc := defScope s_lawerror) (by decide +kernel)) (fun _ _ _ _ _ hw_ => (hot_pgTup hw_ (pgs_cons (pg_name (i := 3) sc_lawerror.nd rfl (Or.inl rfl)) (pgs_cons (pg_name (i := 4) sc_lawerror.nd rfl (Or.inl rfl)) pgs_nil)))) (fun _ _ _ _ _ => pts_one (pt_val (pv 4))) (fun _ _ _ _ _ => (pv 3)))
 (pss_one (ps_ret (pe_op op_cat (pv 2) (pe_lst (pa_cons (pe_pv hpm hz hf (pv 0)) (pa_cons (pe_and (pe_callB (id := "isinstance") (call_isiP hpm hz hf) (by rfl) B.n_isinstance (by decide +kernel) (pa_cons (pv 0) (pa_cons (pe_glob (v := .ref _) (by rfl) Z.g5 rfl) pa_nil))) (pe_one (pe_callB (id := "isinstance") (call_isiP hpm hz hf) (by rfl) B.n_isinstance (by decide +kernel) (pa_cons (pv 0) (pa_cons (pe_bltn (v := .ty "ValueError") (by rfl) B.n_ValueError (by decide +kernel) rfl) pa_nil))))) pa_nil)))))))))), ?_⟩
    have T := Z.ex n hn
    -- held = [.., ..]
    refine ⟨_, rfl, v, _, _, _, rfl, .own _, hv, T, Z.is n 0 hn (by decide), z2, fun t0 h0 => ?_⟩
    have s0 := same_new (o := .tup [.str "InvalidList", .bl (decide (n = 0))]) h0
    refine ⟨_, rfl, v, _, _, _, rfl, .own _, s0 _ _ hv, T, Z.is n 1 hn (by decide), z2, fun t1 h1 => ?_⟩
    have s1 := s0.trans (same_new (o := .tup [.str "InvalidNumber", .bl (decide (n = 1))]) h1)
    have g0 := same_new (o := .tup [.str "InvalidNumber", .bl (decide (n = 1))]) h1 _ _ upd_same
    have g1 : (upd (upd H t0 (.tup [.str "InvalidList", .bl (decide (n = 0))])) t1 (.tup [.str "InvalidNumber", .bl (decide (n = 1))])) t1 = some (.tup [.str "InvalidNumber", .bl (decide (n = 1))]) := upd_same
    refine ⟨z2, fun l0 hl0 => ?_⟩
    have s2 := s1.trans (same_new (o := .lst [.ref t0, .ref t1]) hl0)
    have g0 := same_new (o := .lst [.ref t0, .ref t1]) hl0 _ _ g0
    have g1 := same_new (o := .lst [.ref t0, .ref t1]) hl0 _ _ g1
    have gl0 : (upd (upd (upd H t0 (.tup [.str "InvalidList", .bl (decide (n = 0))])) t1 (.tup [.str "InvalidNumber", .bl (decide (n = 1))])) l0 (.lst [.ref t0, .ref t1])) l0 = some (.lst [.ref t0, .ref t1]) := upd_same
    generalize (upd (upd (upd H t0 (.tup [.str "InvalidList", .bl (decide (n = 0))])) t1 (.tup [.str "InvalidNumber", .bl (decide (n = 1))])) l0 (.lst [.ref t0, .ref t1])) = H2 at s2 g0 g1 gl0 ⊢
    -- held = held + [..]
    refine ⟨_, rfl, _, rfl, v, _, _, _, rfl, .own _, s2 _ _ hv, T, Z.is n 2 hn (by decide), z2, fun t2 h2 => ⟨z1, fun l1 hl1 => ?_⟩⟩
    have s3 := (same_new (o := .tup [.str "InvalidCharacter", .bl (decide (n = 2))]) h2).trans (same_new (o := .lst [.ref t2]) hl1)
    have g2 := same_new (o := .lst [.ref t2]) hl1 _ _ (show upd H2 t2 (.tup [.str "InvalidCharacter", .bl (decide (n = 2))]) t2 = _ from upd_same)
    refine ⟨l0, l1, _, _, rfl, rfl, s3 _ _ gl0, upd_same, z3, fun l2 hl2 => ?_⟩
    have s4 := s3.trans (same_new (o := .lst ([.ref t0, .ref t1] ++ [.ref t2])) hl2)
    have g2 := same_new (o := .lst ([.ref t0, .ref t1] ++ [.ref t2])) hl2 _ _ g2
    have gl2 : (upd (upd (upd H2 t2 (.tup [.str "InvalidCharacter", .bl (decide (n = 2))])) l1 (.lst [.ref t2])) l2 (.lst ([.ref t0, .ref t1] ++ [.ref t2]))) l2 = some (.lst [.ref t0, .ref t1, .ref t2]) := upd_same
    have g0 := s4 _ _ g0
    have g1 := s4 _ _ g1
    have s5 := s2.trans s4
    generalize (upd (upd (upd H2 t2 (.tup [.str "InvalidCharacter", .bl (decide (n = 2))])) l1 (.lst [.ref t2])) l2 (.lst ([.ref t0, .ref t1] ++ [.ref t2]))) = H3 at s5 g0 g1 g2 gl2 ⊢
    clear s4 s3 s2 gl0 s1 s0
    -- held = held + [.., ..]
    refine ⟨_, rfl, _, rfl, v, _, _, _, rfl, .own _, s5 _ _ hv, T, Z.is n 3 hn (by decide), z2, fun t3 h3 => ?_⟩
    have s6 := same_new (o := .tup [.str "NothingToUndo", .bl (decide (n = 3))]) h3
    refine ⟨_, rfl, v, _, _, _, rfl, .own _, s6 _ _ (s5 _ _ hv), T, Z.is n 4 hn (by decide), z2, fun t4 h4 => ⟨z2, fun l3 hl3 => ?_⟩⟩
    have s7 := s6.trans (same_new (o := .tup [.str "Unreadable", .bl (decide (n = 4))]) h4)
    have g3 := same_new (o := .tup [.str "Unreadable", .bl (decide (n = 4))]) h4 _ _ (show upd H3 t3 (.tup [.str "NothingToUndo", .bl (decide (n = 3))]) t3 = _ from upd_same)
    have s8 := s7.trans (same_new (o := .lst [.ref t3, .ref t4]) hl3)
    have g3 := same_new (o := .lst [.ref t3, .ref t4]) hl3 _ _ g3
    have g4 := same_new (o := .lst [.ref t3, .ref t4]) hl3 _ _ (show upd (upd H3 t3 (.tup [.str "NothingToUndo", .bl (decide (n = 3))])) t4 (.tup [.str "Unreadable", .bl (decide (n = 4))]) t4 = _ from upd_same)
    refine ⟨l2, l3, _, _, rfl, rfl, s8 _ _ gl2, upd_same, Nat.le_of_lt (small1000 (show 5 ≤ 1000 by decide)), fun l4 hl4 => ?_⟩
    have s9 := s8.trans (same_new (o := .lst ([.ref t0, .ref t1, .ref t2] ++ [.ref t3, .ref t4])) hl4)
    have g3 := same_new (o := .lst ([.ref t0, .ref t1, .ref t2] ++ [.ref t3, .ref t4])) hl4 _ _ g3
    have g4 := same_new (o := .lst ([.ref t0, .ref t1, .ref t2] ++ [.ref t3, .ref t4])) hl4 _ _ g4
    have gl4 : (upd (upd (upd (upd H3 t3 (.tup [.str "NothingToUndo", .bl (decide (n = 3))])) t4 (.tup [.str "Unreadable", .bl (decide (n = 4))])) l3 (.lst [.ref t3, .ref t4])) l4 (.lst ([.ref t0, .ref t1, .ref t2] ++ [.ref t3, .ref t4]))) l4 = some (.lst ([t0, t1, t2, t3, t4].map V.ref)) := upd_same
    have g0 := s9 _ _ g0
    have g1 := s9 _ _ g1
    have g2 := s9 _ _ g2
    have s10 := s5.trans s9
    generalize (upd (upd (upd (upd H3 t3 (.tup [.str "NothingToUndo", .bl (decide (n = 3))])) t4 (.tup [.str "Unreadable", .bl (decide (n = 4))])) l3 (.lst [.ref t3, .ref t4])) l4 (.lst ([.ref t0, .ref t1, .ref t2] ++ [.ref t3, .ref t4]))) = H4 at s10 g0 g1 g2 g3 g4 gl4 ⊢
    clear s5 s6 s7 s8 s9 gl2
    have hT : ∀ i t, [t0, t1, t2, t3, t4][i]? = some t → i < 5 ∧ H4 t = some (.tup [.str (nmE i), .bl (decide (n = i))]) := fun i t e => by
      match i, e with
      | 0, e => cases e; exact ⟨by decide, g0⟩
      | 1, e => cases e; exact ⟨by decide, g1⟩
      | 2, e => cases e; exact ⟨by decide, g2⟩
      | 3, e => cases e; exact ⟨by decide, g3⟩
      | 4, e => cases e; exact ⟨by decide, g4⟩
      | i + 5, e => simp at e
    refine ⟨_, rfl, l4, rfl, ⟨_, SqL.of gl4⟩, fun D hD => lc_list (K := K) (a := l4) (xs := [t0, t1, t2, t3, t4].map V.ref) (fun i H' => Same H4 H' ∧ H' D = some (.lst (if n < i then [.str (nmE n)] else []))) ⟨same_new hD, by rw [if_neg (Nat.not_lt_zero _)]; exact upd_same⟩ (fun i H' _ h => SqL.of (h.1 _ _ gl4)) ?_ ?_⟩
    · rintro i x H' hi ⟨sm, hDD⟩
      obtain ⟨t, ht, rfl⟩ := map_ref hi
      obtain ⟨i5, gt⟩ := hT i t ht
      refine ⟨t, _, rfl, .inl (.inl (sm _ _ gt)), rfl, _, _, rfl, _, _, rfl, rfl, rfl, ?_⟩
      refine ⟨_, rfl, _, rfl, ite2 (fun c1 => ?_) (fun c1 => ?_)⟩
      · obtain rfl : n = i := of_decide_eq_true c1
        rw [if_neg (Nat.lt_irrefl n)] at hDD
        refine ⟨_, rfl, [], hDD, small1000 (by decide), fun b o e => ?_, ?_⟩
        · rw [upd_ne (ne_of_none e hD)]
          exact sm _ _ e
        · rw [if_pos (Nat.lt_succ_self n)]
          exact upd_same
      · have ne : n ≠ i := fun z => c1 (decide_eq_true z)
        refine ⟨sm, ?_⟩
        rw [hDD]
        by_cases lt : n < i
        · rw [if_pos lt, if_pos (Nat.lt_succ_of_lt lt)]
        · rw [if_neg lt, if_neg (by omega)]
    · rintro H' ⟨sm, hDD⟩
      have e5 : ([t0, t1, t2, t3, t4].map V.ref).length = 5 := rfl
      rw [e5, if_pos hn] at hDD
      have sHH := s10.trans sm
      have hv' := sHH _ _ hv
      refine ⟨_, rfl, _, rfl, v, rfl, hv', Z.xf n hn, Z2.nv n hn, _, rfl, v, _, _, _, rfl, .own _, hv', T, Z.isB n hn, _, rfl, iteT ?_⟩
      refine ⟨_, rfl, v, _, _, _, rfl, .ty _, hv', T, Z.isV n hn, z2, fun l5 hl5 => ?_⟩
      refine ⟨D, l5, _, _, rfl, rfl, same_new hl5 _ _ hDD, upd_same, z3, fun l6 hl6 => ?_⟩
      have sf := (sHH.trans (same_new hl5)).trans (same_new (o := .lst ([.str (nmE n)] ++ [v, .bl true])) hl6)
      exact q l6 _ ((sHH.trans (same_new hl5)).free hl6) sf upd_same
end
end Sq
set_option Elab.async false
set_option linter.all false
set_option maxRecDepth 100000
set_option maxHeartbeats 4000000
set_option exponentiation.threshold 2000
namespace Sq
open PySem PySem.Spec PyProof.Rows L2
theorem Src.upd {H : Hp} {l d p : Addr} {mix cnt : Int} {o : HO} (S : Src H l d mix cnt) (h1 : p ≠ l) (h2 : p ≠ d) : Src (upd H p o) l d mix cnt :=
  let ⟨cur, ds, e1, e2⟩ := S.ob
  ⟨⟨cur, ds, by rw [upd_ne h1.symm]; exact e1, by rw [upd_ne h2.symm]; exact e2⟩, S.m0, S.m1, S.c0, S.ne⟩
theorem Keep.young {H H' : Hp} {l d p : Addr} {o : HO} (k : Keep H H' l d) (h : H p = none) : Keep H (upd H' p o) l d := fun b x e n1 n2 => by
  rw [upd_ne (ne_of_none e h)]
  exact k b x e n1 n2
theorem nth_of {xs : List Int} {z : Int} (h0 : 0 ≤ z) (h : z < xs.length) : ∃ k, k ∈ xs ∧ atI (xs.map V.int) z = some (.int k) := by
  have lt : z.toNat < xs.length := by omega
  refine ⟨xs[z.toNat], List.getElem_mem lt, at_of (j := z.toNat) (by omega) ?_⟩
  rw [List.getElem?_map, List.getElem?_eq_getElem lt]
  rfl
section
variable {P : Program} {w : World} {K : PySem.W.Frag} {mg : Str → Option Value} {base : Heap}
def spSpoilt (K : PySem.W.Frag) : Sp := fun vs H Q _ => ∃ (l d a : Addr) (mix cnt M : Int) (ks : List Int), vs = [.ref l, .ref a] ∧ Src H l d mix cnt ∧ cnt < 500000 ∧ SqL K H a (ks.map V.int) ∧ ks.length ≤ 20 ∧ 2 ≤ M ∧ (∀ k ∈ ks, 2 ≤ k ∧ k ≤ M) ∧
  ∀ p ls cnt' H', H p = none → Src H' l d mix cnt' → cnt' ≤ cnt + 10 → Keep H H' l d → H' p = some (.lst (List.map V.int ls)) → ls.length ≤ ks.length + 2 → (∀ k ∈ ls, -1000000000000000000000000000000 < k ∧ k ≤ M) → Q (.ref p) H'
theorem ok_lawspoilt {f : Addr} {fd : FuncData} (F : Fun K "_law_spoilt" "_law_spoilt" s_lawspoilt f fd) (B : Bi mg) (D_lawdraw : Df P w K mg base 1 "_law_draw" ["source", "many"] spDraw) : FnOk P w K mg base CX0 2 f fd ["source", "row"] (spSpoilt K) := by
  refine F.ok sc_lawspoilt (fun vs H Q E h => ?_) (fun cdv A outer s H vs Q E hr h => ?_)
  · obtain ⟨l, d, a, mix, cnt, M, ks, rfl, _⟩ := h
    rfl
  · obtain ⟨l, d, a, mix, cnt, M, ks0, rfl, S, hc, hS, hlen, hM, hks, q⟩ := h
    refine ⟨_, (pss_cons (ps_set (i := 2) sc_lawspoilt.nd rfl (Or.inl rfl) (pe_callTy (T := "list") (r := rListK K) call_listK (by rfl) B.n_list (by decide +kernel) (pa_cons (pv 1) pa_nil)))
 (pss_cons (ps_for PassesOwn.never rfl (pi_range1 (by rfl) B.n_range (pa_cons (pe_ix (r := rIxL K) ix_list (pe_lst (pa_cons pe_int (pa_cons pe_int (pa_cons pe_int (pa_cons pe_int pa_nil))))) (pe_callD D_lawdraw (hr.mono (by omega)) (by rfl) (pa_cons (pv 0) (pa_cons pe_int pa_nil))) (fun _ _ => rfl)) pa_nil)) (pg_name (i := 3) sc_lawspoilt.nd rfl (Or.inl rfl))
 (pss_cons (ps_set (i := 4) sc_lawspoilt.nd rfl (Or.inl rfl) (pe_ix (r := rIxL K) ix_list (pe_lst (pa_cons pe_int (pa_cons pe_int (pa_cons (pe_un un_neg pe_int) (pa_cons (pe_op op_sub pe_int (pe_callD D_lawdraw (hr.mono (by omega)) (by rfl) (pa_cons (pv 0) (pa_cons (pe_op op_pow pe_int pe_int) pa_nil)))) pa_nil))))) (pe_callD D_lawdraw (hr.mono (by omega)) (by rfl) (pa_cons (pv 0) (pa_cons pe_int pa_nil))) (fun _ _ => rfl)))
 (pss_one (ps_expr (pe_bm PySem.F.plainAttrs_list PySem.F.slot_list_insert PySem.F.type_list_insert mt_insert (pv 2) (pa_cons (pe_callD D_lawdraw (hr.mono (by omega)) (by rfl) (pa_cons (pv 0) (pa_cons (pe_op op_add (pe_callB (id := "len") (r := rLenK K) call_lenK (by rfl) B.n_len (by decide +kernel) (pa_cons (pv 2) pa_nil)) pe_int) pa_nil))) (pa_cons (pv 4) pa_nil)))))))
 (pss_one (ps_ret (pv 2))))), ?_⟩
    refine ⟨_, rfl, a, _, rfl, .inl hS, fun p hp => ?_⟩
    have npl := S.nel hp
    have npd := S.ned hp
    have S1 : Src (upd H p (.lst (ks0.map V.int))) l d mix cnt := S.same (same_new hp)
    refine ⟨Nat.le_of_lt (small1000 (show 4 ≤ 1000 by decide)), fun t ht => ?_⟩
    refine ⟨_, rfl, l, d, mix, cnt, 4, rfl, S1.same (same_new ht), by omega, by decide, by decide, fun z cnt4 H4 z0 z1' S4 hc4 k4 => ?_⟩
    have gp4 := k4 _ _ (same_new ht _ _ upd_same) npl npd
    obtain ⟨m, mm, ma⟩ := nth_of (xs := [0, 0, 1, 2]) (z := z) z0 z1'
    have mb : 0 ≤ m ∧ m ≤ 2 := by
      simp at mm
      omega
    have k04 : Keep H H4 l d := ((Keep.of (same_new (o := .lst (ks0.map V.int)) hp)).new ht).trans k4
    refine ⟨t, _, z, .int m, rfl, rfl, SqL.of (k4 _ _ upd_same (S1.nel ht) (S1.ned ht)), ma, m, rfl, by omega, by omega, ?_⟩
    refine for_range (lo := 0) (n := m.toNat) (fun j σ H' => ∃ ks cnt' y3 y4, σ = [some (.ref l), some (.ref a), some (.ref p), y3, y4] ∧ Src H' l d mix cnt' ∧ cnt' ≤ cnt + 1 + 4 * j ∧ Keep H H' l d ∧ H' p = some (.lst (List.map V.int ks)) ∧ ks.length ≤ ks0.length + j ∧ ∀ k ∈ ks, -1000000000000000000000000000000 < k ∧ k ≤ M)
      ⟨ks0, cnt4, none, none, rfl, S4, by omega, k04, gp4, by omega, fun k h => by have := hks k h; omega⟩ ?_ ?_
    · rintro j σ H5 hj ⟨ks, cnt5, y3, y4, rfl, S5, hc5, k5, gp5, lk, hk⟩
      have j2 : j < 2 := by omega
      refine ⟨1, rfl, _, rfl, 10, 29, rfl, rfl, ⟨by decide, by decide, by decide⟩, l, d, mix, cnt5, _, rfl, S5, by omega, by decide, by decide, fun zb cnt7 H7 zb0 zb1 S7 hc7 k7 => ⟨0, zb, rfl, rfl, Nat.le_of_lt (small1000 (show 4 ≤ 1000 by decide)), fun t8 ht8 => ?_⟩⟩
      refine ⟨_, rfl, l, d, mix, cnt7, 4, rfl, S7.same (same_new ht8), by omega, by decide, by decide, fun zc cnt8 H8 zc0 zc1 S8 hc8 k8 => ?_⟩
      have e29 : (10 : Int) ^ (29 : Int).toNat = 100000000000000000000000000000 := by decide
      obtain ⟨y, ym, ya⟩ := nth_of (xs := [1, 0, -1, 0 - zb]) (z := zc) zc0 zc1
      have yb : -1000000000000000000000000000000 < y ∧ y ≤ M := by
        rw [e29] at zb1
        simp at ym
        omega
      have gp8 := k8 _ _ (same_new ht8 _ _ (k7 _ _ gp5 npl npd)) npl npd
      have k58 : Keep H H8 l d := ((k5.trans k7).new ht8).trans k8
      refine ⟨t8, _, zc, .int y, rfl, rfl, SqL.of (k8 _ _ upd_same (S7.nel ht8) (S7.ned ht8)), ya, ?_⟩
      refine ⟨_, rfl, .inl ⟨rfl, _, SqL.of gp8⟩, _, rfl, _, rfl, p, _, rfl, .inl (SqL.of gp8), _, 1, rfl, rfl, l, d, mix, cnt8, _, rfl, S8, by omega, by rw [List.length_map]; omega, by rw [List.length_map]; omega, fun za cnt6 H6 za0 za1 S6 hc6 k6 => ?_⟩
      have gp6 := k6 _ _ gp8 npl npd
      refine ⟨_, rfl, p, _, za, .int y, rfl, rfl, gp6, (by rw [List.length_map]; exact small1000 (by omega)), za0, (by rw [List.length_map] at za1; omega), ?_⟩
      refine ⟨ks.take za.toNat ++ [y] ++ ks.drop za.toNat, cnt6, _, _, rfl, S6.upd npl npd, by omega, (k58.trans k6).young hp, ?_, ?_, fun k h => ?_⟩
      · rw [upd_same, List.map_append, List.map_append, List.map_take, List.map_drop]
        rfl
      · rw [List.length_append, List.length_append, List.length_take, List.length_drop]
        show min za.toNat ks.length + 1 + (ks.length - za.toNat) ≤ ks0.length + (j + 1)
        omega
      · rcases List.mem_append.mp h with h | h
        · rcases List.mem_append.mp h with h | h
          · exact hk k (List.mem_of_mem_take h)
          · rw [List.mem_singleton.mp h]
            exact yb
        · exact hk k (List.mem_of_mem_drop h)
    · rintro σ H5 ⟨ks, cnt5, y3, y4, rfl, S5, hc5, k5, gp5, lk, hk⟩
      exact ⟨_, rfl, q p ks cnt5 H5 hp S5 (by omega) k5 gp5 (by omega) hk⟩
end
end Sq
set_option Elab.async false
set_option linter.all false
set_option maxRecDepth 100000
set_option maxHeartbeats 4000000
set_option exponentiation.threshold 2000
namespace Sq
open PySem PySem.Spec PyProof.Rows L2
/-! ### what is due -/
def chkL (ks : List Int) (n : Option (Bool × Int)) : Option (Bool × Int) := match lowAt ks with
  | some j => some (true, (j : Int))
  | none => n
def chkN (v l : Int) (n : Option (Bool × Int)) : Option (Bool × Int) := if v < l then some (false, v) else n
theorem chkL1 {ks : List Int} {n : Option (Bool × Int)} {j : Nat} (h : lowAt ks = some j) : chkL ks n = some (true, (j : Int)) := by unfold chkL; rw [h]
theorem chkL0 {ks : List Int} {n : Option (Bool × Int)} (h : lowAt ks = none) : chkL ks n = n := by unfold chkL; rw [h]
theorem chkN1 {v l : Int} {n : Option (Bool × Int)} (h : v < l) : chkN v l n = some (false, v) := if_pos h
theorem chkN0 {v l : Int} {n : Option (Bool × Int)} (h : l ≤ v) : chkN v l n = n := if_neg (by omega)
def dueD (door : Int) (ks : List Int) (m st lg fr la : Int) : Option (Bool × Int) :=
  if door = 0 then chkL ks (chkN m 1 none) else if door = 1 then chkN st 0 (chkN m 1 none) else if door = 2 then chkN lg 0 (chkN m 1 none) else if door = 3 then chkN st 0 (chkN m 1 none) else if door = 4 then chkN lg 0 (chkL ks none) else
    if door = 5 then chkN fr 0 (chkL ks none) else chkN lg 0 (chkL ks (chkN la 0 none))
theorem pro20 {ks : List Int} (h : ∀ k ∈ ks, 2 ≤ k ∧ k ≤ 20) (hl : ks.length ≤ 5) : pro ks ≤ 4000000 := by
  have e : ((20 : Int) ^ ks.length) ≤ 20 ^ 5 := by
    have : ks.length = 0 ∨ ks.length = 1 ∨ ks.length = 2 ∨ ks.length = 3 ∨ ks.length = 4 ∨ ks.length = 5 := by omega
    rcases this with z | z | z | z | z | z <;> rw [z] <;> decide
  have := pro_le (m := 20) h
  have : (20 : Int) ^ 5 = 3200000 := by decide
  omega
def wrd (b : Bool) : Str := if b then "InvalidList" else "InvalidNumber"
section
variable {P : Program} {w : World} {K : PySem.W.Frag} {mg : Str → Option Value} {base : Heap} {c fI : Nat → Addr} {qn : Nat → Str} {cB : Addr}
def spRaised : Sp := fun vs H Q _ => ∃ (door : Int) (a b : Addr) (ks zs : List Int) (m st lg fr la : Int), vs = [.int door, .ref a, .ref b] ∧ H a = some (.lst (ks.map V.int)) ∧ H b = some (.lst (zs.map V.int)) ∧ zs[0]? = some m ∧ (door ≠ 0 → zs = [m, st, lg, fr, la]) ∧ ks.length ≤ 5 ∧ (∀ k ∈ ks, k ≤ 20) ∧
  m ≤ 10 ^ 30 ∧ st ≤ 8 ∧ lg ≤ 10 ^ 30 ∧ fr ≤ 1000 ∧ la ≤ 1000 ∧
  (dueD door ks m st lg fr la = none → ∀ H', Same H H' → Q .non H') ∧ (∀ wd z, dueD door ks m st lg fr la = some (wd, z) → ∀ p H', H p = none → Same H H' → H' p = some (.lst [.str (wrd wd), .int z, .bl true]) → Q (.ref p) H')
theorem ok_lawraised {f : Addr} {fd : FuncData} (F : Fun K "_law_raised" "_law_raised" s_lawraised f fd) (B : Bi mg) (Z : Errs P K mg c fI qn cB) (Z2 : Errs2 K c cB)
    (X_reach : Dn P w K mg base 2 "reach" ["replacements", "most"] (spReach K c)) (X_bestreach : Dn P w K mg base 3 "best_reach" ["steps", "most"] (spBestReach c)) (X_feweststeps : Dn P w K mg base 3 "fewest_steps" ["length", "most"] (spFewest c))
    (L_bestlists : Dl P w K mg base 4 "best_lists" ["steps", "most"] (spBestL c)) (X_greatestorigin : Dn P w K mg base 2 "greatest_origin" ["length", "replacements"] (spGreat K c)) (L_origins : Dl P w K mg base 3 "origins" ["length", "replacements"] (spOriginsL K c))
    (X_countorigins : Dn P w K mg base 2 "count_origins" ["length", "replacements", "last"] (spCount K c)) (Z_lawerror : Dz P w K mg base 1 "_law_error" ["e"] (spError c)) :
    FnOk P w K mg base CX0 6 f fd ["door", "row", "some"] spRaised := by
  refine F.ok sc_lawraised (fun vs H Q E h => ?_) (fun cdv A outer s H vs Q E hr h => ?_)
  · obtain ⟨door, a, b, ks, zs, m, st, lg, fr, la, rfl, _⟩ := h
    rfl
  · obtain ⟨door, a, b, ks, zs, m, st, lg, fr, la, rfl, ha, hb, hz, hzs, lk, sk, bm, bst, blg, bfr, bla, q0, q1⟩ := h
    refine ⟨_, (pss_cons (ps_par (i := 3) (j := 4) (by rfl) sc_lawraised.nd rfl rfl (by decide) rfl rfl (pa_cons pe_non (pa_cons (pe_lst pa_nil) pa_nil)) (by rfl))
 (pss_cons (L2N.ps_try_as (i := 6) rfl rfl sc_lawraised.nd rfl rfl ⟨by rfl, by decide, .inl Z.g5⟩ takesN0 (fun W_ pn_ xe_ tk_ own_ => (pss_one (ps_if (pt_cmpR op_eq (pv 0) pe_int (nomark _))
 (pss_one (ps_expr (pe_callN X_reach tk_ (hr.mono (by omega)) (by rfl) (pa_cons (pv 1) (pa_cons (pe_ix (r := rIxL K) ix_list (pv 2) pe_int (fun _ _ => rfl)) pa_nil)))))
 (pss_one (ps_if (pt_cmpR op_eq (pv 0) pe_int (nomark _))
 (pss_one (ps_expr (pe_callN X_bestreach tk_ (hr.mono (by omega)) (by rfl) (pa_cons (pe_ix (r := rIxL K) ix_list (pv 2) pe_int (fun _ _ => rfl)) (pa_cons (pe_ix (r := rIxL K) ix_list (pv 2) pe_int (fun _ _ => rfl)) pa_nil)))))
 (pss_one (ps_if (pt_cmpR op_eq (pv 0) pe_int (nomark _))
 (pss_one (ps_expr (pe_callN X_feweststeps tk_ (hr.mono (by omega)) (by rfl) (pa_cons (pe_ix (r := rIxL K) ix_list (pv 2) pe_int (fun _ _ => rfl)) (pa_cons (pe_ix (r := rIxL K) ix_list (pv 2) pe_int (fun _ _ => rfl)) pa_nil)))))
 (pss_one (ps_if (pt_cmpR op_eq (pv 0) pe_int (nomark _))
 (pss_one (ps_forLD (K0 := K) rfl L_bestlists tk_ (hr.mono (by omega)) (by rfl) (pa_cons (pe_ix (r := rIxL K) ix_list (pv 2) pe_int (fun _ _ => rfl)) (pa_cons (pe_ix (r := rIxL K) ix_list (pv 2) pe_int (fun _ _ => rfl)) pa_nil)) (gg_name (i := 5) sc_lawraised.nd rfl rfl)
 (gsts_cons (gst_expr (ge_appendK (K0 := K) rfl (ge_var (i := 4) rfl (Or.inl rfl)) (ge_var (i := 5) rfl (Or.inl rfl))))
 (gsts_one (gst_if (gt_eq (ge_callB (id := "len") (r := rLenK K) cg_len (by rfl) B.n_len (by decide +kernel) (ga_cons (ge_var (i := 4) rfl (Or.inl rfl)) ga_nil)) ge_int rfl)
 (gsts_one gst_break)
 gsts_nil))) own_))
 (pss_one (ps_if (pt_cmpR op_eq (pv 0) pe_int (nomark _))
 (pss_one (ps_expr (pe_callN X_greatestorigin tk_ (hr.mono (by omega)) (by rfl) (pa_cons (pe_ix (r := rIxL K) ix_list (pv 2) pe_int (fun _ _ => rfl)) (pa_cons (pv 1) pa_nil)))))
 (pss_one (ps_if (pt_cmpR op_eq (pv 0) pe_int (nomark _))
 (pss_one (ps_forLD (K0 := K) rfl L_origins tk_ (hr.mono (by omega)) (by rfl) (pa_cons (pe_ix (r := rIxL K) ix_list (pv 2) pe_int (fun _ _ => rfl)) (pa_cons (pv 1) pa_nil)) (gg_name (i := 5) sc_lawraised.nd rfl rfl)
 (gsts_cons (gst_expr (ge_appendK (K0 := K) rfl (ge_var (i := 4) rfl (Or.inl rfl)) (ge_var (i := 5) rfl (Or.inl rfl))))
 (gsts_one (gst_if (gt_eq (ge_callB (id := "len") (r := rLenK K) cg_len (by rfl) B.n_len (by decide +kernel) (ga_cons (ge_var (i := 4) rfl (Or.inl rfl)) ga_nil)) ge_int rfl)
 (gsts_one gst_break)
 gsts_nil))) own_))
 (pss_one (ps_expr (pe_callN X_countorigins tk_ (hr.mono (by omega)) (by rfl) (pa_cons (pe_ix (r := rIxL K) ix_list (pv 2) pe_int (fun _ _ => rfl)) (pa_cons (pv 1) (pa_cons (pe_ix (r := rIxL K) ix_list (pv 2) pe_int (fun _ _ => rfl)) pa_nil)))))))))))))))))))
 (fun a_ oe_ cls_ d_ pn_ hz_ hf_ => (pss_one (ps_set (i := 3) sc_lawraised.nd rfl (Or.inl rfl) (pe_op op_cat (pe_callHZ Z_lawerror hz_ hf_ (hr.mono (by omega)) (by rfl) (pa_cons (pv 6) pa_nil)) (pv 4))))))
 (pss_one (ps_ret (pv 3))))), ?_⟩
    refine ⟨Nat.zero_le _, fun q hq => ?_⟩
    have s1 : Same H (upd H q (.lst [])) := same_new hq
    have gq : (upd H q (.lst [])) q = some (.lst []) := upd_same
    generalize upd H q (.lst []) = H1 at s1 gq ⊢
    have ha1 := s1 _ _ ha
    have hb1 := s1 _ _ hb
    have fin : ∀ H', Same H H' → dueD door ks m st lg fr la = none → Q .non H' := fun H' s' e => q0 e H' s'
    have bad : ∀ (n : Nat) (wd : Bool) (z : Int), n < 5 → nmE n = wrd wd → dueD door ks m st lg fr la = some (wd, z) → ∀ H', Same H1 H' → Wish (WE (wAs K (Value.ref cB) 6 (fun a_ cls_ d_ => tAsg (tOp rCat (tCallS (spError c a_ cls_ d_) (fun _ => E0) (tCons (tVar 6) tNil)) (tVar 4)) (gName 3)) (fun _ _ _ _ => False) { nx := tRet (tVar 3) { nx := fun _ H' => Q .non H', rt := Q }, rt := Q }) [some (.int door), some (.ref a), some (.ref b), some .non, some (.ref q), none, none]) (c n) (.int z) H' := fun n wd z hn en ed H' s' d hd => by
      refine ⟨true, Z2.ma n hn, fun _ p hp => ?_, fun z => nomatch z⟩
      refine ⟨_, rfl, n, .int z, d, rfl, hn, rfl, rfl, upd_same, fun r H2 hr s2 gr => ?_⟩
      have s3 := (s'.trans (same_new hd)).trans s2
      refine ⟨_, rfl, r, q, _, _, rfl, rfl, gr, s3 _ _ gq, z3, fun r2 hr2 => ⟨_, rfl, ?_⟩⟩
      have s4 := s1.trans s3
      refine q1 wd z ed r2 _ (s4.free hr2) (s4.trans (same_new hr2)) ?_
      rw [← en]
      exact upd_same
    have m120 : m.natAbs < 2 ^ 120 ∨ m < 1 := by
      have e : ((10 : Int) ^ 30) < ((2 ^ 120 : Nat) : Int) := by decide
      omega
    have two : lowAt ks = none → ∀ k ∈ ks, 2 ≤ k ∧ k ≤ 20 := fun lo k h => ⟨lowAt_none lo k h, sk k h⟩
    have smk : SmallK ks := fun k h => by have := sk k h; omega
    refine ⟨_, _, rfl, _, rfl, rfl, _, rfl, ite2 (fun c0 => ?_) (fun c0 => ?_)⟩
    · have eD : dueD door ks m st lg fr la = chkL ks (chkN m 1 none) := if_pos (by simpa using c0)
      refine ⟨_, rfl, _, rfl, b, _, 0, .int m, rfl, rfl, SqL.of hb1, at_of (j := 0) rfl (by rw [List.getElem?_map, hz]; rfl), a, ks, m, rfl, SqL.of ha1, fun lo hm => ⟨rchok20 (two lo) hm bm lk, fun H' r s' => ⟨_, rfl, fin H' (s1.trans s') (by rw [eD, chkL0 lo, chkN0 hm])⟩⟩, fun j hj H' s' => bad 0 true _ (by decide) rfl (by rw [eD, chkL1 hj]) H' s', fun lo hm H' s' => bad 1 false _ (by decide) rfl (by rw [eD, chkL0 lo, chkN1 hm]) H' s'⟩
    have n0 : ¬ door = 0 := fun z => c0 (by simpa using z)
    obtain rfl := hzs n0
    refine ⟨_, rfl, rfl, _, rfl, ite2 (fun c1 => ?_) (fun c1 => ?_)⟩
    · have eD : dueD door ks m st lg fr la = chkN st 0 (chkN m 1 none) := by
        unfold dueD
        rw [if_neg n0]
        exact if_pos (by simpa using c1)
      refine ⟨_, rfl, b, _, 1, .int st, rfl, rfl, SqL.of hb1, rfl, _, rfl, b, _, 0, .int m, rfl, rfl, SqL.of hb1, rfl, st, m, rfl, fun h0 hm => ⟨by omega, ⟨120, by omega, ?_⟩, fun H' r s' => ⟨_, rfl, fin H' (s1.trans s') (by rw [eD, chkN0 h0, chkN0 hm])⟩⟩, fun lt => bad 1 false _ (by decide) rfl (by rw [eD, chkN1 lt]) H1 (Same.refl _), fun h0 lt => bad 1 false _ (by decide) rfl (by rw [eD, chkN0 h0, chkN1 lt]) H1 (Same.refl _)⟩
      have := Nat.pow_le_pow_right (show 0 < 2 by decide) (show st.toNat ≤ 8 by omega)
      omega
    have n1 : ¬ door = 1 := fun z => c1 (by simpa using z)
    refine ⟨_, rfl, rfl, _, rfl, ite2 (fun c2 => ?_) (fun c2 => ?_)⟩
    · have eD : dueD door ks m st lg fr la = chkN lg 0 (chkN m 1 none) := by
        unfold dueD
        rw [if_neg n0, if_neg n1]
        exact if_pos (by simpa using c2)
      exact ⟨_, rfl, b, _, 2, .int lg, rfl, rfl, SqL.of hb1, rfl, _, rfl, b, _, 0, .int m, rfl, rfl, SqL.of hb1, rfl, lg, m, rfl, fun h0 hm => ⟨blg, bm, fun H' r s' => ⟨_, rfl, fin H' (s1.trans s') (by rw [eD, chkN0 h0, chkN0 hm])⟩⟩, fun lt => bad 1 false _ (by decide) rfl (by rw [eD, chkN1 lt]) H1 (Same.refl _), fun h0 lt => bad 1 false _ (by decide) rfl (by rw [eD, chkN0 h0, chkN1 lt]) H1 (Same.refl _)⟩
    have n2 : ¬ door = 2 := fun z => c2 (by simpa using z)
    refine ⟨_, rfl, rfl, _, rfl, ite2 (fun c3 => ?_) (fun c3 => ?_)⟩
    · have eD : dueD door ks m st lg fr la = chkN st 0 (chkN m 1 none) := by
        unfold dueD
        rw [if_neg n0, if_neg n1, if_neg n2]
        exact if_pos (by simpa using c3)
      by_cases ok : 0 ≤ st ∧ 1 ≤ m
      · have eN : dueD door ks m st lg fr la = none := by rw [eD, chkN0 ok.1, chkN0 ok.2]
        refine ⟨_, rfl, b, _, 1, .int st, rfl, rfl, SqL.of hb1, rfl, _, rfl, b, _, 0, .int m, rfl, rfl, SqL.of hb1, rfl, (fun x => x = q), (lens (chs st.toNat m)).toNat, (fun _ _ _ => True), (fun i σ H' => ∃ (xs : List V) (y5 : Option V), xs.length = i ∧ i < 2 ∧ σ = [some (.int door), some (.ref a), some (.ref b), some .non, some (.ref q), y5, none] ∧ H' q = some (.lst xs) ∧ ∀ b o, H1 b = some o → b ≠ q → H' b = some o),
          ⟨st, m, rfl, fun b' e => ⟨_, (congrArg H1 (show b' = q from e)).trans gq⟩, fun _ _ => ⟨bst, ⟨120, by omega, by have := Nat.pow_le_pow_right (show 0 < 2 by decide) (show st.toNat ≤ 8 by omega); omega⟩, rfl, fun _ _ _ => trivial⟩, fun lt => absurd ok.1 (by omega), fun _ lt => absurd ok.2 (by omega)⟩, ⟨[], none, rfl, by decide, rfl, gq, fun _ _ e _ => e⟩, ?_, ?_⟩
        · rintro i c' Hb H2 x P' Hh hi ⟨xs, y5, hx, i2, rfl, gqb, keep⟩ sm _ hP hN
          have gq2 := sm _ _ gqb
          have nPq : ¬ P' q := fun z => by
            rw [(hP q z).1] at gq2
            cases gq2
          have gqh : Hh q = some (.lst xs) := (hN q nPq).trans gq2
          have safe : ∀ b o, H1 b = some o → b ≠ q → Hh b = some o := fun b o e ne => by
            have z := sm _ _ (keep b o e ne)
            rw [hN b fun p => by rw [(hP b p).1] at z; cases z]
            exact z
          refine ⟨_, rfl, .inl ⟨rfl, _, SqL.of gqh⟩, _, rfl, q, _, _, rfl, rfl, gqh, small1000 (by omega), ?_⟩
          refine ⟨_, rfl, q, _, rfl, .inl (SqL.of upd_same), _, _, rfl, rfl, ite2 (fun cc => ?_) (fun cc => ?_)⟩
          · refine ⟨_, rfl, fin _ (fun b o e => ?_) eN⟩
            have ne : b ≠ q := ne_of_none e hq
            rw [upd_ne ne]
            exact safe b o (s1 _ _ e) ne
          · have lx : ¬ xs.length + 1 = 2 := fun z => cc (decide_eq_true (by rw [List.length_append, List.length_singleton]; omega))
            refine ⟨fun b hb => upd_ne fun z => nPq (z ▸ hb), fun H'' hn hk => ⟨fun b o e nM nx => ?_, xs ++ [x], some x, by rw [List.length_append, hx]; rfl, by omega, rfl, by rw [hk q nPq]; exact upd_same, fun b o e ne => ?_⟩⟩
            · have nP : ¬ P' b := fun p => by
                rw [(hP b p).1] at e
                cases e
              rw [hk b nP, upd_ne nM, hN b nP]
              exact e
            · have z := sm _ _ (keep b o e ne)
              have nP : ¬ P' b := fun p => by
                rw [(hP b p).1] at z
                cases z
              rw [hk b nP, upd_ne ne]
              exact safe b o e ne
        · rintro c' Hb H2 ⟨xs, y5, hx, i2, rfl, gqb, keep⟩ sm
          exact ⟨_, rfl, fin _ (fun b o e => sm _ _ (keep b o (s1 _ _ e) (ne_of_none e hq))) eN⟩
      · refine ⟨_, rfl, b, _, 1, .int st, rfl, rfl, SqL.of hb1, rfl, _, rfl, b, _, 0, .int m, rfl, rfl, SqL.of hb1, rfl, (fun x => x = q), 1, (fun _ _ _ => False), (fun i σ H' => i = 0), ⟨st, m, rfl, fun b' e => ⟨_, (congrArg H1 (show b' = q from e)).trans gq⟩, fun h0 hm => absurd ⟨h0, hm⟩ ok, fun lt => fun d hd => ⟨bad 1 false _ (by decide) rfl (by rw [eD, chkN1 lt]) H1 (Same.refl _) d hd, Z2.st 1 (by decide)⟩, fun h0 lt => fun d hd => ⟨bad 1 false _ (by decide) rfl (by rw [eD, chkN0 h0, chkN1 lt]) H1 (Same.refl _) d hd, Z2.st 1 (by decide)⟩⟩, rfl, fun i c' Hb H2 x P' Hh hi _ _ it _ _ => it.elim, fun c' Hb H2 (e : 1 = 0) _ => by cases e⟩
    have n3 : ¬ door = 3 := fun z => c3 (by simpa using z)
    refine ⟨_, rfl, rfl, _, rfl, ite2 (fun c4 => ?_) (fun c4 => ?_)⟩
    · have eD : dueD door ks m st lg fr la = chkN lg 0 (chkL ks none) := by
        unfold dueD
        rw [if_neg n0, if_neg n1, if_neg n2, if_neg n3]
        exact if_pos (by simpa using c4)
      exact ⟨_, rfl, b, _, 2, .int lg, rfl, rfl, SqL.of hb1, rfl, _, rfl, lg, a, ks, rfl, SqL.of ha1, smk, fun h0 lo H' s' => ⟨_, rfl, fin H' (s1.trans s') (by rw [eD, chkN0 h0, chkL0 lo])⟩, fun lt => bad 1 false _ (by decide) rfl (by rw [eD, chkN1 lt]) H1 (Same.refl _), fun h0 j hj H' s' => bad 0 true _ (by decide) rfl (by rw [eD, chkN0 h0, chkL1 hj]) H' s'⟩
    have n4 : ¬ door = 4 := fun z => c4 (by simpa using z)
    refine ⟨_, rfl, rfl, _, rfl, ite2 (fun c5 => ?_) (fun c5 => ?_)⟩
    · have eD : dueD door ks m st lg fr la = chkN fr 0 (chkL ks none) := by
        unfold dueD
        rw [if_neg n0, if_neg n1, if_neg n2, if_neg n3, if_neg n4]
        exact if_pos (by simpa using c5)
      by_cases ok : 0 ≤ fr ∧ lowAt ks = none
      · have eN : dueD door ks m st lg fr la = none := by rw [eD, chkN0 ok.1, chkL0 ok.2]
        refine ⟨_, rfl, b, _, 3, .int fr, rfl, rfl, SqL.of hb1, rfl, _, rfl, (fun x => x = q), (orgs fr.toNat ks).length, (fun _ _ _ => True), (fun i σ H' => ∃ (xs : List V) (y5 : Option V), xs.length = i ∧ i < 2 ∧ σ = [some (.int door), some (.ref a), some (.ref b), some .non, some (.ref q), y5, none] ∧ H' q = some (.lst xs) ∧ ∀ b o, H1 b = some o → b ≠ q → H' b = some o),
          ⟨fr, a, ks, rfl, SqL.of ha1, fun b' e => ⟨_, (congrArg H1 (show b' = q from e)).trans gq⟩, fun _ lo => ⟨fun k h => ⟨(two lo k h).1, by have := (two lo k h).2; omega⟩, pro20 (two lo) lk, rfl, fun _ _ _ => trivial⟩, fun lt => absurd ok.1 (by omega), fun _ j hj => by rw [ok.2] at hj; cases hj⟩, ⟨[], none, rfl, by decide, rfl, gq, fun _ _ e _ => e⟩, ?_, ?_⟩
        · rintro i c' Hb H2 x P' Hh hi ⟨xs, y5, hx, i2, rfl, gqb, keep⟩ sm _ hP hN
          have gq2 := sm _ _ gqb
          have nPq : ¬ P' q := fun z => by
            rw [(hP q z).1] at gq2
            cases gq2
          have gqh : Hh q = some (.lst xs) := (hN q nPq).trans gq2
          have safe : ∀ b o, H1 b = some o → b ≠ q → Hh b = some o := fun b o e ne => by
            have z := sm _ _ (keep b o e ne)
            rw [hN b fun p => by rw [(hP b p).1] at z; cases z]
            exact z
          refine ⟨_, rfl, .inl ⟨rfl, _, SqL.of gqh⟩, _, rfl, q, _, _, rfl, rfl, gqh, small1000 (by omega), ?_⟩
          refine ⟨_, rfl, q, _, rfl, .inl (SqL.of upd_same), _, _, rfl, rfl, ite2 (fun cc => ?_) (fun cc => ?_)⟩
          · refine ⟨_, rfl, fin _ (fun b o e => ?_) eN⟩
            have ne : b ≠ q := ne_of_none e hq
            rw [upd_ne ne]
            exact safe b o (s1 _ _ e) ne
          · have lx : ¬ xs.length + 1 = 2 := fun z => cc (decide_eq_true (by rw [List.length_append, List.length_singleton]; omega))
            refine ⟨fun b hb => upd_ne fun z => nPq (z ▸ hb), fun H'' hn hk => ⟨fun b o e nM nx => ?_, xs ++ [x], some x, by rw [List.length_append, hx]; rfl, by omega, rfl, by rw [hk q nPq]; exact upd_same, fun b o e ne => ?_⟩⟩
            · have nP : ¬ P' b := fun p => by
                rw [(hP b p).1] at e
                cases e
              rw [hk b nP, upd_ne nM, hN b nP]
              exact e
            · have z := sm _ _ (keep b o e ne)
              have nP : ¬ P' b := fun p => by
                rw [(hP b p).1] at z
                cases z
              rw [hk b nP, upd_ne ne]
              exact safe b o e ne
        · rintro c' Hb H2 ⟨xs, y5, hx, i2, rfl, gqb, keep⟩ sm
          exact ⟨_, rfl, fin _ (fun b o e => sm _ _ (keep b o (s1 _ _ e) (ne_of_none e hq))) eN⟩
      · refine ⟨_, rfl, b, _, 3, .int fr, rfl, rfl, SqL.of hb1, rfl, _, rfl, (fun x => x = q), 1, (fun _ _ _ => False), (fun i σ H' => i = 0), ⟨fr, a, ks, rfl, SqL.of ha1, fun b' e => ⟨_, (congrArg H1 (show b' = q from e)).trans gq⟩, fun h0 lo => absurd ⟨h0, lo⟩ ok, fun lt => fun d hd => ⟨bad 1 false _ (by decide) rfl (by rw [eD, chkN1 lt]) H1 (Same.refl _) d hd, Z2.st 1 (by decide)⟩, fun h0 j hj H' s' => fun d hd => ⟨bad 0 true _ (by decide) rfl (by rw [eD, chkN0 h0, chkL1 hj]) H' s' d hd, Z2.st 0 (by decide)⟩⟩, rfl, fun i c' Hb H2 x P' Hh hi _ _ it _ _ => it.elim, fun c' Hb H2 (e : 1 = 0) _ => by cases e⟩
    have n5 : ¬ door = 5 := fun z => c5 (by simpa using z)
    have eD : dueD door ks m st lg fr la = chkN lg 0 (chkL ks (chkN la 0 none)) := by
      unfold dueD
      rw [if_neg n0, if_neg n1, if_neg n2, if_neg n3, if_neg n4, if_neg n5]
    exact ⟨_, rfl, b, _, 2, .int lg, rfl, rfl, SqL.of hb1, rfl, _, rfl, _, rfl, b, _, 4, .int la, rfl, rfl, SqL.of hb1, rfl, lg, la, a, ks, rfl, SqL.of ha1, fun h0 lo h1 => ⟨fun k h => ⟨(two lo k h).1, by have := (two lo k h).2; omega⟩, fun H' r s' => ⟨_, rfl, fin H' (s1.trans s') (by rw [eD, chkN0 h0, chkL0 lo, chkN0 h1])⟩⟩, fun lt => bad 1 false _ (by decide) rfl (by rw [eD, chkN1 lt]) H1 (Same.refl _), fun h0 j hj H' s' => bad 0 true _ (by decide) rfl (by rw [eD, chkN0 h0, chkL1 hj]) H' s', fun h0 lo lt H' s' => bad 1 false _ (by decide) rfl (by rw [eD, chkN0 h0, chkL0 lo, chkN1 lt]) H' s'⟩
end
end Sq
set_option Elab.async false
set_option linter.all false
set_option maxRecDepth 100000
set_option maxHeartbeats 4000000
set_option exponentiation.threshold 2000
namespace Sq
open PySem PySem.Spec PyProof.Rows L2
/-- a check: the word, the value that it holds, whether it fails -/
def vO : Option Int → V
  | none => .non
  | some z => .int z
def dO : Option Int → PyData
  | none => .none
  | some z => .int z
theorem dp_vO {K : PySem.W.Frag} {H : Hp} (o : Option Int) : Dp K H (vO o) (dO o) := by
  cases o with
  | none => exact .non
  | some z => exact .int z
abbrev Chk := Bool × Option Int × Bool
def dF (c : Chk) : PyData := .list [.str (wrd c.1), dO c.2.1, .bool true]
def ChkAt (H : Hp) : List Addr → List Chk → Prop
  | [], [] => True
  | a :: as, c :: cs => H a = some (.tup [.str (wrd c.1), vO c.2.1, .bl c.2.2]) ∧ ChkAt H as cs
  | _, _ => False
theorem ChkAt.same {H H' : Hp} (s : Same H H') : ∀ {as : List Addr} {cs : List Chk}, ChkAt H as cs → ChkAt H' as cs
  | [], [], _ => trivial
  | _ :: _, _ :: _, h => ⟨s _ _ h.1, ChkAt.same s h.2⟩
  | [], _ :: _, h => h.elim
  | _ :: _, [], h => h.elim
theorem ChkAt.len {H : Hp} : ∀ {as : List Addr} {cs : List Chk}, ChkAt H as cs → as.length = cs.length
  | [], [], _ => rfl
  | _ :: _, _ :: _, h => congrArg (· + 1) (ChkAt.len h.2)
  | [], _ :: _, h => h.elim
  | _ :: _, [], h => h.elim
theorem ChkAt.get {H : Hp} : ∀ {as : List Addr} {cs : List Chk} {i : Nat} {a : Addr}, ChkAt H as cs → as[i]? = some a → ∃ c, cs[i]? = some c ∧ H a = some (.tup [.str (wrd c.1), vO c.2.1, .bl c.2.2])
  | _ :: _, c :: _, 0, _, h, e => by cases e; exact ⟨c, rfl, h.1⟩
  | _ :: as, _ :: cs, i + 1, _, h, e => ChkAt.get (as := as) (cs := cs) (i := i) h.2 e
  | [], _, i, _, _, e => by simp at e
  | _ :: _, [], _, _, h, _ => h.elim
def failC (cs : List Chk) : List Chk := cs.filter (·.2.2)
def dueC (cs : List Chk) : Option (Bool × Option Int) := (failC cs)[0]?.map fun c => (c.1, c.2.1)
/-- what has failed, listed -/
def FndAt (H : Hp) : List Addr → List Chk → Prop
  | [], [] => True
  | a :: as, c :: cs => H a = some (.lst [.str (wrd c.1), vO c.2.1, .bl true]) ∧ FndAt H as cs
  | _, _ => False
theorem FndAt.same {H H' : Hp} (s : Same H H') : ∀ {as : List Addr} {cs : List Chk}, FndAt H as cs → FndAt H' as cs
  | [], [], _ => trivial
  | _ :: _, _ :: _, h => ⟨s _ _ h.1, FndAt.same s h.2⟩
  | [], _ :: _, h => h.elim
  | _ :: _, [], h => h.elim
theorem FndAt.app {H : Hp} {a : Addr} {c : Chk} : ∀ {as : List Addr} {cs : List Chk}, FndAt H as cs → H a = some (.lst [.str (wrd c.1), vO c.2.1, .bl true]) → FndAt H (as ++ [a]) (cs ++ [c])
  | [], [], _, e => ⟨e, trivial⟩
  | _ :: _, _ :: _, h, e => ⟨h.1, FndAt.app h.2 e⟩
  | [], _ :: _, h, _ => h.elim
  | _ :: _, [], h, _ => h.elim
theorem FndAt.len {H : Hp} : ∀ {as : List Addr} {cs : List Chk}, FndAt H as cs → as.length = cs.length
  | [], [], _ => rfl
  | _ :: _, _ :: _, h => congrArg (· + 1) (FndAt.len h.2)
  | [], _ :: _, h => h.elim
  | _ :: _, [], h => h.elim
theorem FndAt.dp {K : PySem.W.Frag} {H : Hp} : ∀ {as : List Addr} {cs : List Chk}, FndAt H as cs → DpAll K H (as.map V.ref) (cs.map dF)
  | [], [], _ => .nil
  | _ :: _, _ :: _, h => .cons (.lst (SqL.of h.1) (.cons (.str _) (.cons (dp_vO _) (.cons (.bl _) .nil)))) (FndAt.dp h.2)
  | [], _ :: _, h => h.elim
  | _ :: _, [], h => h.elim
theorem lay_dO (o : Option Int) : PyData.canLay0 (dO o) = true := by cases o <;> rfl
theorem lay_wrd (b : Bool) : PyData.canLay0 (.str (wrd b)) = true := by
  cases b
  · exact (by decide +kernel : PyData.canLay0 (.str "InvalidNumber") = true)
  · exact (by decide +kernel : PyData.canLay0 (.str "InvalidList") = true)
theorem lay_dF (c : Chk) : PyData.canLay0 (dF c) = true := by
  show (PyData.canLay0 (.str (wrd c.1)) && (PyData.canLay0 (dO c.2.1) && (true && true))) = true
  rw [lay_wrd, lay_dO]
  rfl
theorem dep_dO (o : Option Int) : (dO o).depth = 0 := by cases o <;> rfl
theorem dep_dF (c : Chk) : (dF c).depth ≤ 1 := by
  have e : (dF c).depth = max 0 (max (dO c.2.1).depth (max 0 0)) + 1 := rfl
  rw [e, dep_dO]
  exact Nat.le_refl _
theorem lay_fnd : ∀ cs : List Chk, PyData.canLayAll0 (cs.map dF) = true
  | [] => rfl
  | c :: cs => by
    show (PyData.canLay0 (dF c) && PyData.canLayAll0 (cs.map dF)) = true
    rw [lay_dF, lay_fnd cs]
    rfl
theorem deep_fnd : ∀ cs : List Chk, PyData.depthAll (cs.map dF) ≤ 1
  | [] => Nat.zero_le _
  | c :: cs => Nat.max_le.mpr ⟨dep_dF c, deep_fnd cs⟩
theorem shaped_fnd (cs : List Chk) : SeqAt.shaped (.list (cs.map dF)) = true := shaped_il (lay_fnd cs) (Nat.le_trans (Nat.add_le_add_right (deep_fnd cs) 1) (by decide))
theorem failC_succ {cs : List Chk} {i : Nat} {c : Chk} (h : cs[i]? = some c) : failC (cs.take (i + 1)) = if c.2.2 = true then failC (cs.take i) ++ [c] else failC (cs.take i) := by
  unfold failC
  rw [List.take_add_one, h, List.filter_append]
  show _ ++ List.filter (·.2.2) [c] = _
  have e : List.filter (fun x : Chk => x.2.2) [c] = if c.2.2 = true then [c] else [] := by
    by_cases z : c.2.2 = true
    · simp [z]
    · simp [z]
  rw [e]
  by_cases z : c.2.2 = true
  · rw [if_pos z, if_pos z]
  · rw [if_neg z, if_neg z]
    exact List.append_nil _
section
variable {P : Program} {w : World} {K : PySem.W.Frag} {mg : Str → Option Value} {base : Heap} {c fI : Nat → Addr} {qn : Nat → Str} {cB : Addr}
def spDue (K : PySem.W.Frag) : Sp := fun vs H Q _ => ∃ (a : Addr) (ts : List Addr) (cs : List Chk), vs = [.ref a] ∧ SqL K H a (ts.map V.ref) ∧ ChkAt H ts cs ∧ cs.length ≤ 3 ∧
  (dueC cs = none → ∀ H', Same H H' → Q .non H') ∧ (∀ wd o, dueC cs = some (wd, o) → ∀ p H', H p = none → Same H H' → H' p = some (.lst [.str (wrd wd), vO o, .bl true]) → Q (.ref p) H')
theorem ok_lawdue {f : Addr} {fd : FuncData} (F : Fun K "_law_due" "_law_due" s_lawdue f fd) (B : Bi mg) : FnOk P w K mg base CX0 1 f fd ["checks"] (spDue K) := by
  refine F.ok sc_lawdue (fun vs H Q E h => ?_) (fun cdv A outer s H vs Q E hr h => ?_)
  · obtain ⟨a, ts, cs, rfl, _⟩ := h
    rfl
  · obtain ⟨a, ts, cs, rfl, hS, ch, hl, q0, q1⟩ := h
    refine ⟨_, (pss_cons (ps_setLc (own := [("word", 2), ("value", 3), ("fails", 4)]) (g := gTup K 3 (gCons (gName 2) (gCons (gName 3) (gCons (gName 4) gNil)))) (i := 1) rfl sc_lawdue.nd rfl rfl (sw_true rfl rfl rfl (by decide +kernel)) (pi_list (pv 0)) (blkOk_by (own := [("word", 2), ("value", 3), ("fails", 4)]) (N := ["checks", "found", "word", "value", "fails"]) (sc := defScope s_lawdue) (by decide +kernel)) (fun _ _ _ _ _ => (pg_tup rfl (pgs_cons (pg_name (i := 2) sc_lawdue.nd rfl (Or.inl rfl)) (pgs_cons (pg_name (i := 3) sc_lawdue.nd rfl (Or.inl rfl)) (pgs_cons (pg_name (i := 4) sc_lawdue.nd rfl (Or.inl rfl)) pgs_nil))))) (fun _ _ _ _ _ => pts_one (pt_val (pv 4))) (fun _ _ _ _ _ => (pe_lst (pa_cons (pv 2) (pa_cons (pv 3) (pa_cons pe_bl pa_nil))))))
 (pss_one (ps_ret (pe_ifExp (pt_cmpR (op_neD hr.units) (pv 1) (pe_lst pa_nil) (nomark _)) (pe_ix (r := rIxL K) ix_list (pv 1) pe_int (fun _ _ => rfl)) pe_non)))), ?_⟩
    refine ⟨_, rfl, a, rfl, ⟨_, hS⟩, fun D hD => lc_list (K := K) (a := a) (xs := ts.map V.ref) (fun i H' => ∃ as : List Addr, Same H (wo H' D) ∧ H' D = some (.lst (as.map V.ref)) ∧ (∀ a ∈ as, H a = none) ∧ FndAt (wo H' D) as (failC (cs.take i))) ⟨[], by rw [wo_upd]; exact same_wo (Same.refl _) hD, upd_same, (fun _ z => nomatch z), trivial⟩ (fun i H' _ h => ?_) ?_ ?_⟩
    · obtain ⟨as, sm, _, _, _⟩ := h
      exact Same.seq (sm.trans wo_same) hS
    · rintro i x H' hi ⟨as, sm, hDD, nas, fn⟩
      obtain ⟨t, ht, rfl⟩ := map_ref hi
      obtain ⟨cc, hc, gt⟩ := ch.get ht
      have il : i < 3 := by
        have := (List.getElem?_eq_some_iff.mp hc).1
        omega
      have lf : as.length ≤ i := by
        rw [fn.len]
        exact Nat.le_trans (List.length_filter_le _ _) (List.length_take_le _ _)
      have fs := failC_succ hc
      refine ⟨t, _, rfl, .inl (.inl (wo_same _ _ (sm _ _ gt))), rfl, _, _, rfl, _, _, rfl, _, _, rfl, rfl, rfl, ?_⟩
      refine ⟨_, rfl, _, rfl, ite2 (fun c1 => ?_) (fun c1 => ?_)⟩
      · refine ⟨_, rfl, _, rfl, z3, fun u hu => ?_⟩
        have nu : u ≠ D := fun z => by
          rw [z, hDD] at hu
          cases hu
        have sw : Same (wo H' D) (wo (upd H' u (.lst [.str (wrd cc.1), vO cc.2.1, .bl true])) D) := same_wo (wo_same.trans (same_new hu)) wo_self
        refine ⟨as.map V.ref, same_new hu _ _ hDD, by rw [List.length_map]; exact small1000 (by omega), as ++ [u], ?_, ?_, fun z hz => ?_, ?_⟩
        · rw [wo_upd]
          exact sm.trans sw
        · rw [upd_same, List.map_append]
          rfl
        · rcases List.mem_append.mp hz with hz | hz
          · exact nas z hz
          · rw [List.mem_singleton.mp hz]
            refine sm.free ?_
            rw [wo_ne nu]
            exact hu
        · rw [wo_upd, fs, if_pos c1]
          exact FndAt.app (fn.same sw) (by rw [wo_ne nu]; exact upd_same)
      · refine ⟨as, sm, hDD, nas, ?_⟩
        rw [fs, if_neg c1]
        exact fn
    · rintro H' ⟨as, sm, hDD, nas, fn⟩
      have e0 : cs.take (ts.map V.ref).length = cs := List.take_of_length_le (by rw [List.length_map, ch.len]; exact Nat.le_refl _)
      rw [e0] at fn
      have fn' := fn.same wo_same
      have sm' := sm.trans wo_same
      refine ⟨_, rfl, Nat.zero_le _, fun t6 ht6 => ⟨.list ((failC cs).map dF), .list [], .lst (SqL.of (same_new ht6 _ _ hDD)) (fn'.same (same_new ht6)).dp, .lst (SqL.of upd_same) .nil, shaped_fnd _, rfl, _, rfl, ?_⟩⟩
      have s6 := sm'.trans (same_new (o := .lst []) ht6)
      cases ef : failC cs with
      | nil => exact iteF (q0 (by unfold dueC; rw [ef]; rfl) _ s6)
      | cons x xs =>
        rw [ef] at fn'
        match as, fn' with
        | a0 :: as, fn' =>
          refine iteT ⟨_, rfl, D, _, 0, .ref a0, rfl, rfl, SqL.of (same_new ht6 _ _ hDD), at_of (by rfl) rfl, ?_⟩
          exact q1 x.1 x.2.1 (by unfold dueC; rw [ef]; rfl) a0 _ (nas a0 List.mem_cons_self) s6 (same_new ht6 _ _ fn'.1)
end
end Sq
set_option Elab.async false
set_option linter.all false
set_option maxRecDepth 100000
set_option maxHeartbeats 4000000
namespace Sq
open PySem PySem.Spec PyProof.Rows L2
def csOf (lo : Option Int) (m st lg fr la : Int) : List (List Chk) :=
  [[(true, lo, lo.isSome), (false, some m, decide (m < 1))], [(false, some st, decide (st < 0)), (false, some m, decide (m < 1))], [(false, some lg, decide (lg < 0)), (false, some m, decide (m < 1))], [(false, some st, decide (st < 0)), (false, some m, decide (m < 1))],
    [(false, some lg, decide (lg < 0)), (true, lo, lo.isSome)], [(false, some fr, decide (fr < 0)), (true, lo, lo.isSome)], [(false, some lg, decide (lg < 0)), (true, lo, lo.isSome), (false, some la, decide (la < 0))]]
def up1 (o : Option (Bool × Int)) : Option (Bool × Option Int) := o.map fun p => (p.1, some p.2)
theorem dueC_F {c : Chk} {cs : List Chk} (h : c.2.2 = false) : dueC (c :: cs) = dueC cs := by
  unfold dueC failC
  have e : List.filter (fun x : Chk => x.2.2) (c :: cs) = List.filter (fun x : Chk => x.2.2) cs := by simp [h]
  rw [e]
theorem dueC_T {c : Chk} {cs : List Chk} (h : c.2.2 = true) : dueC (c :: cs) = some (c.1, c.2.1) := by
  unfold dueC failC
  have e : List.filter (fun x : Chk => x.2.2) (c :: cs) = c :: List.filter (fun x : Chk => x.2.2) cs := by simp [h]
  rw [e]
  rfl
theorem due_chkN {v l : Int} {cs : List Chk} {n : Option (Bool × Int)} (h : dueC cs = up1 n) : dueC ((false, some v, decide (v < l)) :: cs) = up1 (chkN v l n) := by
  by_cases c : v < l
  · rw [dueC_T (decide_eq_true c), chkN1 c]
    rfl
  · rw [dueC_F (decide_eq_false c), chkN0 (by omega), h]
theorem due_chkL {ks : List Int} {cs : List Chk} {n : Option (Bool × Int)} (h : dueC cs = up1 n) : dueC ((true, (lowAt ks).map (fun j : Nat => (j : Int)), ((lowAt ks).map (fun j : Nat => (j : Int))).isSome) :: cs) = up1 (chkL ks n) := by
  cases e : lowAt ks with
  | none => rw [dueC_F rfl, chkL0 e, h]
  | some j =>
    rw [dueC_T rfl, chkL1 e]
    rfl
theorem due_eq {ks : List Int} {m st lg fr la : Int} : ∀ (i : Nat) (cs : List Chk), (csOf ((lowAt ks).map fun j : Nat => (j : Int)) m st lg fr la)[i]? = some cs → dueC cs = up1 (dueD (i : Int) ks m st lg fr la)
  | 0, _, e => by cases e; exact due_chkL (due_chkN rfl)
  | 1, _, e => by cases e; exact due_chkN (due_chkN rfl)
  | 2, _, e => by cases e; exact due_chkN (due_chkN rfl)
  | 3, _, e => by cases e; exact due_chkN (due_chkN rfl)
  | 4, _, e => by cases e; exact due_chkN (due_chkL rfl)
  | 5, _, e => by cases e; exact due_chkN (due_chkL rfl)
  | 6, _, e => by cases e; exact due_chkN (due_chkL (due_chkN rfl))
  | i + 7, _, e => by cases e
def dlD : Option (Bool × Int) → PyData
  | none => .none
  | some (b, z) => .list [.str (wrd b), .int z, .bool true]
theorem ld_dlD (o : Option (Bool × Int)) : ld (dlD o) = true ∧ (dlD o).depth ≤ 1 := by
  match o with
  | none => exact ⟨rfl, Nat.zero_le _⟩
  | some (b, z) =>
    refine ⟨?_, Nat.le_refl _⟩
    show (decide (3 ≤ 1000) && (PyData.canLay0 (.str (wrd b)) && (true && (true && true)))) = true
    rw [lay_wrd]
    rfl
def allD (ks : List Int) (m st lg fr la : Int) (n : Nat) : List PyData := (List.range n).map fun i : Nat => dlD (dueD (i : Int) ks m st lg fr la)
theorem allD_succ (ks : List Int) (m st lg fr la : Int) (n : Nat) : allD ks m st lg fr la (n + 1) = allD ks m st lg fr la n ++ [dlD (dueD (n : Int) ks m st lg fr la)] := by
  unfold allD
  rw [List.range_succ, List.map_append]
  rfl
theorem ld_all (ks : List Int) (m st lg fr la : Int) : ld (.list (allD ks m st lg fr la 7)) = true ∧ (PyData.list (allD ks m st lg fr la 7)).depth < 3 := by
  have g : ∀ ds : List PyData, (∀ d ∈ ds, ld d = true ∧ d.depth ≤ 1) → ldAll ds = true ∧ PyData.depthAll ds ≤ 1 := fun ds => by
    induction ds with
    | nil => exact fun _ => ⟨rfl, Nat.zero_le _⟩
    | cons d ds ih =>
      intro h
      obtain ⟨a, b⟩ := ih fun x hx => h x (List.mem_cons_of_mem _ hx)
      obtain ⟨c, e⟩ := h d List.mem_cons_self
      refine ⟨?_, Nat.max_le.mpr ⟨e, b⟩⟩
      show (ld d && ldAll ds) = true
      rw [c, a]
      rfl
  obtain ⟨a, b⟩ := g (allD ks m st lg fr la 7) fun d hd => by
    obtain ⟨i, _, rfl⟩ := List.mem_map.mp hd
    exact ld_dlD _
  refine ⟨?_, Nat.lt_of_le_of_lt (Nat.add_le_add_right b 1) (by decide)⟩
  show (decide ((allD ks m st lg fr la 7).length ≤ 1000) && ldAll (allD ks m st lg fr la 7)) = true
  rw [a]
  rfl
/-- the checks of each door, in the heap -/
theorem rows_chk {H : Hp} {lo : Option Int} {m st lg fr la : Int} {T T1 T2 T3 T4 T5 L0 L1 L2 L3 L4 L5 L6 : Addr} (fT : H T = some (.tup [.str (wrd true), vO lo, .bl lo.isSome])) (f1 : H T1 = some (.tup [.str (wrd false), .int m, .bl (decide (m < 1))])) (f2 : H T2 = some (.tup [.str (wrd false), .int st, .bl (decide (st < 0))]))
    (f3 : H T3 = some (.tup [.str (wrd false), .int lg, .bl (decide (lg < 0))])) (f4 : H T4 = some (.tup [.str (wrd false), .int fr, .bl (decide (fr < 0))])) (f5 : H T5 = some (.tup [.str (wrd false), .int la, .bl (decide (la < 0))]))
    (e0 : H L0 = some (.lst ([T, T1].map V.ref))) (e1 : H L1 = some (.lst ([T2, T1].map V.ref))) (e2 : H L2 = some (.lst ([T3, T1].map V.ref))) (e3 : H L3 = some (.lst ([T2, T1].map V.ref))) (e4 : H L4 = some (.lst ([T3, T].map V.ref))) (e5 : H L5 = some (.lst ([T4, T].map V.ref))) (e6 : H L6 = some (.lst ([T3, T, T5].map V.ref))) :
    ∀ (i : Nat) (L : Addr), [L0, L1, L2, L3, L4, L5, L6][i]? = some L → ∃ (ts : List Addr) (cs : List Chk), H L = some (.lst (ts.map V.ref)) ∧ ChkAt H ts cs ∧ cs.length ≤ 3 ∧ (csOf lo m st lg fr la)[i]? = some cs
  | 0, _, e => by cases e; exact ⟨_, (csOf lo m st lg fr la).getD 0 [], e0, ⟨fT, f1, trivial⟩, Nat.le_succ 2, rfl⟩
  | 1, _, e => by cases e; exact ⟨_, (csOf lo m st lg fr la).getD 1 [], e1, ⟨f2, f1, trivial⟩, Nat.le_succ 2, rfl⟩
  | 2, _, e => by cases e; exact ⟨_, (csOf lo m st lg fr la).getD 2 [], e2, ⟨f3, f1, trivial⟩, Nat.le_succ 2, rfl⟩
  | 3, _, e => by cases e; exact ⟨_, (csOf lo m st lg fr la).getD 3 [], e3, ⟨f2, f1, trivial⟩, Nat.le_succ 2, rfl⟩
  | 4, _, e => by cases e; exact ⟨_, (csOf lo m st lg fr la).getD 4 [], e4, ⟨f3, fT, trivial⟩, Nat.le_succ 2, rfl⟩
  | 5, _, e => by cases e; exact ⟨_, (csOf lo m st lg fr la).getD 5 [], e5, ⟨f4, fT, trivial⟩, Nat.le_succ 2, rfl⟩
  | 6, _, e => by cases e; exact ⟨_, (csOf lo m st lg fr la).getD 6 [], e6, ⟨f3, fT, f5, trivial⟩, Nat.le_refl 3, rfl⟩
  | i + 7, _, e => by cases e
end Sq
set_option Elab.async false
set_option linter.all false
set_option maxRecDepth 100000
set_option maxHeartbeats 4000000
set_option exponentiation.threshold 2000
namespace Sq
open PySem PySem.Spec PyProof.Rows L2
section
variable {P : Program} {w : World} {K : PySem.W.Frag} {mg : Str → Option Value} {base : Heap} {c fI : Nat → Addr} {qn : Nat → Str} {cB : Addr}
def spLaw (K : PySem.W.Frag) : Sp := fun vs H Q _ => ∃ (a : Addr) (ns : List Int), vs = [.ref a] ∧ SqL K H a (ns.map V.int) ∧ ns.length ≤ 63 ∧ ∀ H', Q (.bl true) H'
theorem ok_law {f : Addr} {fd : FuncData} (F : Fun K "law" "law" s_law f fd) (B : Bi mg)
    (D_lawsource : Df P w K mg base 1 "_law_source" ["script"] (spSource K)) (D_lawdraw : Df P w K mg base 1 "_law_draw" ["source", "many"] spDraw) (D_lawrow : Df P w K mg base 2 "_law_row" ["source", "many", "wide"] spRow)
    (D_lawspoilt : Df P w K mg base 2 "_law_spoilt" ["source", "row"] (spSpoilt K)) (D_lawdue : Df P w K mg base 1 "_law_due" ["checks"] (spDue K)) (D_lawraised : Df P w K mg base 6 "_law_raised" ["door", "row", "some"] spRaised)
    (D_lawsame : Df P w K mg base 4 "_law_same" ["found", "wanted"] (spSame K 3)) : Top P w K mg base 6 f fd "script" (spLaw K) := by
  refine atTop F sc_law ⟨rfl, by decide, by decide⟩ (fun vs H Q E h => ?_) (fun cdv outer s H vs Q E hr h => ?_)
  · obtain ⟨a, ns, rfl, _⟩ := h
    rfl
  · obtain ⟨a, ns, rfl, hS, hn, q⟩ := h
    refine ⟨_, (pss_cons (ps_set (i := 1) sc_law.nd rfl (Or.inl rfl) (pe_callD D_lawsource (hr.mono (by omega)) (by rfl) (pa_cons (pv 0) pa_nil)))
 (pss_cons (ps_for PassesOwn.never rfl (pi_range1 (by rfl) B.n_range (pa_cons (pe_op op_add pe_int (pe_callB (id := "min") (call_min2 rfl) (by rfl) B.n_min (by decide +kernel) (pa_cons pe_int (pa_cons (pe_callB (id := "len") (r := rLenK K) call_lenK (by rfl) B.n_len (by decide +kernel) (pa_cons (pv 0) pa_nil)) pa_nil)))) pa_nil)) (pg_name (i := 2) sc_law.nd rfl (Or.inl rfl))
 (pss_one (ps_for PassesOwn.never rfl (pi_range1 (by rfl) B.n_range (pa_cons pe_int pa_nil)) (pg_name (i := 3) sc_law.nd rfl (Or.inl rfl))
 (pss_cons (ps_set (i := 4) sc_law.nd rfl (Or.inr rfl) (pe_callD D_lawspoilt (hr.mono (by omega)) (by rfl) (pa_cons (pv 1) (pa_cons (pe_callD D_lawrow (hr.mono (by omega)) (by rfl) (pa_cons (pv 1) (pa_cons pe_int (pa_cons pe_int pa_nil)))) pa_nil))))
 (pss_cons (ps_setLc (own := [("spot", 16), ("one", 17)]) (g := gTup K 2 (gCons (gName 16) (gCons (gName 17) gNil))) (i := 5) rfl sc_law.nd rfl rfl (sw_true rfl rfl rfl (by decide +kernel)) (pi_enum (by rfl) B.n_enumerate (pa_cons (pv 4) pa_nil)) (blkOk_by (own := [("spot", 16), ("one", 17)]) (N := ["script", "source", "k", "turn", "row", "low", "listed", "some", "most_low", "steps_low", "long_low", "far_low", "last_low", "dues", "saved", "told", "spot", "one", "door", "checks"]) (sc := defScope s_law) (by decide +kernel)) (fun _ _ _ _ _ => (pg_tup rfl (pgs_cons (pg_name (i := 16) sc_law.nd rfl (Or.inl rfl)) (pgs_cons (pg_name (i := 17) sc_law.nd rfl (Or.inl rfl)) pgs_nil)))) (fun _ _ _ _ _ => pts_one (pt_cmpR op_lt (pv 17) pe_int (nomark _))) (fun _ _ _ _ _ => (pv 16)))
 (pss_cons (ps_set (i := 6) sc_law.nd rfl (Or.inl rfl) (pe_tup (pa_cons pe_str (pa_cons (pe_ifExp (pt_cmpR (op_neD hr.units) (pv 5) (pe_lst pa_nil) (nomark _)) (pe_ix (r := rIxL K) ix_list (pv 5) pe_int (fun _ _ => rfl)) pe_non) (pa_cons (pe_cmpR (op_neD hr.units) (pv 5) (pe_lst pa_nil) (nomark _)) pa_nil)))))
 (pss_cons (ps_set (i := 7) sc_law.nd rfl (Or.inr rfl) (pe_lst (pa_cons (pe_ix (r := rIxL K) ix_list (pe_lst (pa_cons pe_int (pa_cons pe_int (pa_cons (pe_un un_neg pe_int) (pa_cons (pe_op op_add pe_int (pe_callD D_lawdraw (hr.mono (by omega)) (by rfl) (pa_cons (pv 1) (pa_cons (pe_op op_pow pe_int pe_int) pa_nil)))) pa_nil))))) (pe_callD D_lawdraw (hr.mono (by omega)) (by rfl) (pa_cons (pv 1) (pa_cons pe_int pa_nil))) (fun _ _ => rfl)) (pa_cons (pe_op op_sub (pe_callD D_lawdraw (hr.mono (by omega)) (by rfl) (pa_cons (pv 1) (pa_cons pe_int pa_nil))) pe_int) pa_nil))))
 (pss_cons (ps_set (i := 7) sc_law.nd rfl (Or.inr rfl) (pe_op op_cat (pv 7) (pe_lst (pa_cons (pe_ix (r := rIxL K) ix_list (pe_lst (pa_cons (pe_callD D_lawdraw (hr.mono (by omega)) (by rfl) (pa_cons (pv 1) (pa_cons (pe_op op_pow pe_int pe_int) pa_nil))) (pa_cons pe_int (pa_cons (pe_un un_neg pe_int) (pa_cons (pe_un un_neg pe_int) pa_nil))))) (pe_callD D_lawdraw (hr.mono (by omega)) (by rfl) (pa_cons (pv 1) (pa_cons pe_int pa_nil))) (fun _ _ => rfl)) pa_nil))))
 (pss_cons (ps_set (i := 7) sc_law.nd rfl (Or.inr rfl) (pe_op op_cat (pv 7) (pe_lst (pa_cons (pe_ix (r := rIxL K) ix_list (pe_lst (pa_cons (pe_callD D_lawdraw (hr.mono (by omega)) (by rfl) (pa_cons (pv 1) (pa_cons pe_int pa_nil))) (pa_cons (pe_un un_neg pe_int) pa_nil))) (pe_callD D_lawdraw (hr.mono (by omega)) (by rfl) (pa_cons (pv 1) (pa_cons pe_int pa_nil))) (fun _ _ => rfl)) (pa_cons (pe_ix (r := rIxL K) ix_list (pe_lst (pa_cons pe_int (pa_cons pe_int (pa_cons (pe_un un_neg pe_int) (pa_cons (pe_un un_neg pe_int) pa_nil))))) (pe_callD D_lawdraw (hr.mono (by omega)) (by rfl) (pa_cons (pv 1) (pa_cons pe_int pa_nil))) (fun _ _ => rfl)) pa_nil)))))
 (pss_cons (ps_par (i := 8) (j := 9) (by rfl) sc_law.nd rfl rfl (by decide) rfl rfl (pa_cons (pe_tup (pa_cons pe_str (pa_cons (pe_ix (r := rIxL K) ix_list (pv 7) pe_int (fun _ _ => rfl)) (pa_cons (pe_cmpR op_lt (pe_ix (r := rIxL K) ix_list (pv 7) pe_int (fun _ _ => rfl)) pe_int (nomark _)) pa_nil)))) (pa_cons (pe_tup (pa_cons pe_str (pa_cons (pe_ix (r := rIxL K) ix_list (pv 7) pe_int (fun _ _ => rfl)) (pa_cons (pe_cmpR op_lt (pe_ix (r := rIxL K) ix_list (pv 7) pe_int (fun _ _ => rfl)) pe_int (nomark _)) pa_nil)))) pa_nil)) (by rfl))
 (pss_cons (ps_par (i := 10) (j := 11) (by rfl) sc_law.nd rfl rfl (by decide) rfl rfl (pa_cons (pe_tup (pa_cons pe_str (pa_cons (pe_ix (r := rIxL K) ix_list (pv 7) pe_int (fun _ _ => rfl)) (pa_cons (pe_cmpR op_lt (pe_ix (r := rIxL K) ix_list (pv 7) pe_int (fun _ _ => rfl)) pe_int (nomark _)) pa_nil)))) (pa_cons (pe_tup (pa_cons pe_str (pa_cons (pe_ix (r := rIxL K) ix_list (pv 7) pe_int (fun _ _ => rfl)) (pa_cons (pe_cmpR op_lt (pe_ix (r := rIxL K) ix_list (pv 7) pe_int (fun _ _ => rfl)) pe_int (nomark _)) pa_nil)))) pa_nil)) (by rfl))
 (pss_cons (ps_set (i := 12) sc_law.nd rfl (Or.inl rfl) (pe_tup (pa_cons pe_str (pa_cons (pe_ix (r := rIxL K) ix_list (pv 7) pe_int (fun _ _ => rfl)) (pa_cons (pe_cmpR op_lt (pe_ix (r := rIxL K) ix_list (pv 7) pe_int (fun _ _ => rfl)) pe_int (nomark _)) pa_nil)))))
 (pss_cons (ps_set (i := 13) sc_law.nd rfl (Or.inl rfl) (pe_lst (pa_cons (pe_lst (pa_cons (pv 6) (pa_cons (pv 8) pa_nil))) (pa_cons (pe_lst (pa_cons (pv 9) (pa_cons (pv 8) pa_nil))) (pa_cons (pe_lst (pa_cons (pv 10) (pa_cons (pv 8) pa_nil))) (pa_cons (pe_lst (pa_cons (pv 9) (pa_cons (pv 8) pa_nil))) pa_nil))))))
 (pss_cons (ps_set (i := 13) sc_law.nd rfl (Or.inl rfl) (pe_op op_cat (pv 13) (pe_lst (pa_cons (pe_lst (pa_cons (pv 10) (pa_cons (pv 6) pa_nil))) (pa_cons (pe_lst (pa_cons (pv 11) (pa_cons (pv 6) pa_nil))) (pa_cons (pe_lst (pa_cons (pv 10) (pa_cons (pv 6) (pa_cons (pv 12) pa_nil)))) pa_nil))))))
 (pss_cons (ps_set (i := 14) sc_law.nd rfl (Or.inl rfl) (pe_callB (id := "repr") (call_reprV rfl hr.units) (by rfl) B.n_repr (by decide +kernel) (pa_cons (pv 4) pa_nil)))
 (pss_cons (ps_setLc (own := [("door", 18)]) (g := gName 18) (i := 15) rfl sc_law.nd rfl rfl (sw_true rfl rfl rfl (by decide +kernel)) (pi_range1 (by rfl) B.n_range (pa_cons pe_int pa_nil)) (blkOk_by (own := [("door", 18)]) (N := ["script", "source", "k", "turn", "row", "low", "listed", "some", "most_low", "steps_low", "long_low", "far_low", "last_low", "dues", "saved", "told", "spot", "one", "door", "checks"]) (sc := defScope s_law) (by decide +kernel)) (fun _ _ _ _ _ => (pg_name (i := 18) sc_law.nd rfl (Or.inl rfl))) (fun _ _ _ _ _ => pts_nil) (fun _ _ _ _ _ => (pe_callD D_lawraised (hr.mono (by omega)) (by rfl) (pa_cons (pv 18) (pa_cons (pv 4) (pa_cons (pv 7) pa_nil))))))
 (pss_one (ps_if (PW.pt (pw_or (pt_not (pt_val (pe_callD D_lawsame (hr.mono (by omega)) (by rfl) (pa_cons (pv 15) (pa_cons (pe_lc (own := [("checks", 19)]) (g := gName 19) rfl sc_law.nd (pi_list (pv 13)) (blkOk_by (own := [("checks", 19)]) (N := ["script", "source", "k", "turn", "row", "low", "listed", "some", "most_low", "steps_low", "long_low", "far_low", "last_low", "dues", "saved", "told", "spot", "one", "door", "checks"]) (sc := defScope s_law) (by decide +kernel)) (fun _ _ _ _ _ => (pg_name (i := 19) sc_law.nd rfl (Or.inl rfl))) (fun _ _ _ _ _ => pts_nil) (fun _ _ _ _ _ => (pe_callD D_lawdue (hr.mono (by omega)) (by rfl) (pa_cons (pv 19) pa_nil)))) pa_nil))))) (pw_or1 (pt_cmpR op_ne (pe_callB (id := "repr") (call_reprV rfl hr.units) (by rfl) B.n_repr (by decide +kernel) (pa_cons (pv 4) pa_nil)) (pv 14) (nomark _)))))
 (pss_one (ps_ret pe_bl))
 pss_nil))))))))))))))))))
 (pss_one (ps_ret (pe_callD D_lawsame (hr.mono (by omega)) (by rfl) (pa_cons (pe_callD D_lawraised (hr.mono (by omega)) (by rfl) (pa_cons pe_int (pa_cons (pe_lst (pa_cons pe_int (pa_cons pe_int pa_nil))) (pa_cons (pe_lst (pa_cons pe_int pa_nil)) pa_nil)))) (pa_cons (pe_lst (pa_cons pe_str (pa_cons pe_int (pa_cons pe_bl pa_nil)))) pa_nil))))))), ?_⟩
    refine ⟨_, rfl, a, ns, rfl, hS, hn, fun l d mix H1 hl hd s1 S1 => ?_⟩
    refine ⟨_, rfl, a, _, rfl, .inl (s1.seq hS), 8, _, rfl, 3, _, rfl, rfl, ?_⟩
    rw [List.length_map]
    have hN : 3 + (if (ns.length : Int) < 8 then (ns.length : Int) else 8) ≤ 11 ∧ 0 ≤ 3 + (if (ns.length : Int) < 8 then (ns.length : Int) else 8) := by
      split <;> omega
    obtain ⟨N, eN⟩ : ∃ N, N = 3 + (if (ns.length : Int) < 8 then (ns.length : Int) else 8) := ⟨_, rfl⟩
    rw [← eN] at hN
    refine ⟨N, by subst eN; rfl, by omega, by omega, for_range (lo := 0) (n := N.toNat) (fun i σ H' => ∃ (cnt : Int) (ys : List (Option V)), ys.length = 18 ∧ σ = some (.ref a) :: some (.ref l) :: ys ∧ Src H' l d mix cnt ∧ cnt ≤ 800 * i)
      ⟨0, _, rfl, rfl, S1, by omega⟩ ?_ ?_⟩
    · rintro i σ H2 hi ⟨cnt, ys, hy, rfl, S2, hc2⟩
      match ys, hy with
      | [y2, y3, y4, y5, y6, y7, y8, y9, y10, y11, y12, y13, y14, y15, y16, y17, y18, y19], _ =>
      refine ⟨8, rfl, by decide, by decide, for_range (lo := 0) (n := 8) (fun j σ H' => ∃ (cnt : Int) (ys : List (Option V)), ys.length = 17 ∧ σ = some (.ref a) :: some (.ref l) :: some (.int (0 + (i : Int))) :: ys ∧ Src H' l d mix cnt ∧ cnt ≤ 800 * i + 100 * j)
        ⟨cnt, _, rfl, rfl, S2, by omega⟩ ?_ ?_⟩
      · rintro j σ H3 hj ⟨cnt, ys, hy, rfl, S3, hc3⟩
        match ys, hy with
        | [y3, y4, y5, y6, y7, y8, y9, y10, y11, y12, y13, y14, y15, y16, y17, y18, y19], _ =>
        -- row = _law_spoilt(source, _law_row(source, 3, 20))
        refine ⟨_, rfl, _, rfl, l, d, mix, cnt, 3, 20, rfl, S3, by omega, by decide, by decide, by decide, by decide, fun p0 k0 cnt4 H4 hp0 S4 hc4 kp4 hg0 hlen0 hks0 => ?_⟩
        refine ⟨l, d, p0, mix, cnt4, 20, k0, rfl, S4, by omega, SqL.of hg0, by omega, by decide, hks0, fun p ks cnt5 H5 hp S5 hc5 kp5 gp5 lk hk => ?_⟩
        have npl := S4.nel hp
        have npd := S4.ned hp
        -- low
        refine ⟨_, rfl, p, _, rfl, SqL.of gp5, fun D hD => lc_it walk_enum (fun i H' => Same H5 H' ∧ H' D = some (.lst ((lowIx ks i).map V.int))) ⟨same_new hD, upd_same⟩ (fun i H' _ h => SqL.of (h.1 _ _ gp5)) ?_ ?_⟩
        · rintro m v H' H2 hm ⟨sm, hDD⟩ ⟨T, x1, x2, rfl, nT, rfl, e1, e2⟩
          obtain ⟨k, hk', rfl⟩ := map_at e2
          cases e1
          have nDT : D ≠ T := ne_of_none hDD nT
          refine ⟨T, _, rfl, .inl (.inl upd_same), rfl, _, _, rfl, _, _, rfl, rfl, rfl, ?_⟩
          have em : ks.getD m 2 = k := by rw [List.getD_eq_getElem?_getD, hk']; rfl
          refine ⟨_, rfl, _, _, rfl, rfl, _, rfl, ite2 (fun c => ?_) (fun c => ?_)⟩
          · have c' : k < 2 := of_decide_eq_true c
            refine ⟨_, rfl, _, same_new nT _ _ hDD, by rw [List.length_map]; exact small1000 (by have := lowIx_len ks m; rw [List.length_map] at hm; omega), fun b o z => ?_, ?_⟩
            · rw [upd_ne (ne_of_none z hD)]
              exact same_new nT _ _ (sm _ _ z)
            · rw [upd_same, lowIx_succ, if_pos (by rw [em]; exact c'), List.map_append]
              rfl
          · refine ⟨sm.trans (same_new nT), ?_⟩
            rw [lowIx_succ, if_neg (by rw [em]; exact fun z => c (decide_eq_true z))]
            exact same_new nT _ _ hDD
        · rintro Hc ⟨sc, hDD⟩
          rw [List.length_map] at hDD
          have Sc := S5.same sc
          have gpc := sc _ _ gp5
          obtain ⟨lo, elo⟩ : ∃ lo : Option Int, lo = (lowAt ks).map fun j : Nat => (j : Int) := ⟨_, rfl⟩
          -- listed
          refine tellNx (fun σ2 H2 => ∃ T, σ2 = [some (.ref a), some (.ref l), some (.int (0 + (i : Int))), some (.int (0 + (j : Int))), some (.ref p), some (.ref D), some (.ref T), y7, y8, y9, y10, y11, y12, y13, y14, y15, y16, y17, y18, y19] ∧ Same Hc H2 ∧ H2 T = some (.tup [.str (wrd true), vO lo, .bl lo.isSome])) (fun N hN => ?_) (fun σ2 H2 h => ?_)
          · refine ⟨_, rfl, Nat.zero_le _, fun t6 ht6 => ⟨.list ((lowIx ks ks.length).map PyData.int), .list [], .lst (SqL.of (same_new ht6 _ _ hDD)) (dp_ints _), .lst (SqL.of upd_same) .nil, shaped_ints _, rfl, _, rfl, ?_⟩⟩
            cases eL : lowAt ks with
            | none =>
              rw [eL] at elo
              subst elo
              rw [low_none eL] at hDD ⊢
              refine iteF ?_
              refine ⟨_, rfl, Nat.zero_le _, fun t7 ht7 => ⟨.list ([].map PyData.int), .list [], .lst (SqL.of (same_new ht7 _ _ (same_new ht6 _ _ hDD))) (dp_ints []), .lst (SqL.of upd_same) .nil, shaped_ints [], rfl, z3, fun T hT => ?_⟩⟩
              exact hN _ _ ⟨T, rfl, ((same_new ht6).trans (same_new ht7)).trans (same_new hT), upd_same⟩
            | some j0 =>
              rw [eL] at elo
              subst elo
              obtain ⟨r, er⟩ := low_some eL
              rw [er] at hDD ⊢
              refine iteT ?_
              refine ⟨_, rfl, D, _, 0, .int (j0 : Int), rfl, rfl, SqL.of (same_new ht6 _ _ hDD), at_of (by rfl) rfl, ?_⟩
              refine ⟨_, rfl, Nat.zero_le _, fun t7 ht7 => ⟨.list (((j0 : Int) :: r).map PyData.int), .list [], .lst (SqL.of (same_new ht7 _ _ (same_new ht6 _ _ hDD))) (dp_ints _), .lst (SqL.of upd_same) .nil, shaped_ints _, rfl, z3, fun T hT => ?_⟩⟩
              exact hN _ _ ⟨T, rfl, ((same_new ht6).trans (same_new ht7)).trans (same_new hT), upd_same⟩
          · obtain ⟨T, rfl, s6, gT⟩ := h
            have S6 := Sc.same s6
            have gp6 := s6 _ _ gpc
            clear s6 hDD sc gpc Sc
            have w4 : 4 ≤ sizeLine := Nat.le_of_lt (small1000 (show 4 ≤ 1000 by decide))
            have e29 : (10 : Int) ^ (29 : Int).toNat = 100000000000000000000000000000 := by decide
            -- some = [[1, 0, -1, 1 + ..][..], .. - 2]
            refine ⟨1, rfl, _, rfl, 10, 29, rfl, rfl, ⟨by decide, by decide, by decide⟩, l, d, mix, cnt5, _, rfl, S6, by omega, by decide, by decide, fun zb cnt7 H7 zb0 zb1 S7 hc7 k7 => ⟨1, zb, rfl, rfl, w4, fun t8 ht8 => ?_⟩⟩
            refine ⟨_, rfl, l, d, mix, cnt7, 4, rfl, S7.same (same_new ht8), by omega, by decide, by decide, fun zc cnt8 H8 zc0 zc1 S8 hc8 k8 => ?_⟩
            obtain ⟨m, mm, ma⟩ := nth_of (xs := [1, 0, -1, 1 + zb]) (z := zc) zc0 zc1
            have bm : m ≤ 10 ^ 30 := by
              rw [e29] at zb1
              simp at mm
              omega
            refine ⟨t8, _, zc, .int m, rfl, rfl, SqL.of (k8 _ _ upd_same (S7.nel ht8) (S7.ned ht8)), ma, ?_⟩
            refine ⟨_, rfl, l, d, mix, cnt8, 9, rfl, S8, by omega, by decide, by decide, fun z9 cnt9 H9 z90 z91 S9 hc9 k9 => ⟨z9, 2, rfl, rfl, z2, fun q1 hq1 => ?_⟩⟩
            have K1 : Keep H2 (upd H9 q1 (.lst [.int m, .int (z9 - 2)])) l d := (((k7.new ht8).trans k8).trans k9).new hq1
            have gq1 : (upd H9 q1 (.lst [.int m, .int (z9 - 2)])) q1 = some (.lst [.int m, .int (z9 - 2)]) := upd_same
            have S10 := S9.same (same_new (o := .lst [.int m, .int (z9 - 2)]) hq1)
            have nq1 := S9.nel hq1
            have mq1 := S9.ned hq1
            generalize upd H9 q1 (.lst [.int m, .int (z9 - 2)]) = H10 at K1 gq1 S10 ⊢
            clear k7 k8 k9 S7 S8 S9 ma mm ht8 hq1
            -- some = some + [[.., 0, -1, -2][..]]
            refine ⟨_, rfl, _, rfl, 10, 29, rfl, rfl, ⟨by decide, by decide, by decide⟩, l, d, mix, cnt9, _, rfl, S10, by omega, by decide, by decide, fun zd cnt11 H11 zd0 zd1 S11 hc11 k11 => ⟨1, rfl, 2, rfl, w4, fun t12 ht12 => ?_⟩⟩
            refine ⟨_, rfl, l, d, mix, cnt11, 4, rfl, S11.same (same_new ht12), by omega, by decide, by decide, fun ze cnt12 H12 ze0 ze1 S12 hc12 k12 => ?_⟩
            obtain ⟨lg, lm, la0⟩ := nth_of (xs := [zd, 0, -1, -2]) (z := ze) ze0 ze1
            have blg : lg ≤ 10 ^ 30 := by
              rw [e29] at zd1
              simp at lm
              omega
            refine ⟨t12, _, ze, .int lg, rfl, rfl, SqL.of (k12 _ _ upd_same (S11.nel ht12) (S11.ned ht12)), la0, z1, fun u13 hu13 => ?_⟩
            have gq13 := same_new (o := .lst [.int lg]) hu13 _ _ (k12 _ _ (same_new ht12 _ _ (k11 _ _ gq1 nq1 mq1)) nq1 mq1)
            refine ⟨q1, u13, _, _, rfl, rfl, gq13, upd_same, z3, fun q2 hq2 => ?_⟩
            have K2 := (((K1.trans k11).new ht12).trans k12).trans (Keep.of ((same_new (o := .lst [.int lg]) hu13).trans (same_new (o := .lst ([.int m, .int (z9 - 2)] ++ [.int lg])) hq2)))
            have S14 := S12.same ((same_new (o := .lst [.int lg]) hu13).trans (same_new (o := .lst ([.int m, .int (z9 - 2)] ++ [.int lg])) hq2))
            have gq2 : (upd (upd H12 u13 (.lst [.int lg])) q2 (.lst ([.int m, .int (z9 - 2)] ++ [.int lg]))) q2 = some (.lst [.int m, .int (z9 - 2), .int lg]) := upd_same
            have nq2 := (S12.same (same_new (o := .lst [.int lg]) hu13)).nel hq2
            have mq2 := (S12.same (same_new (o := .lst [.int lg]) hu13)).ned hq2
            generalize upd (upd H12 u13 (.lst [.int lg])) q2 (.lst ([.int m, .int (z9 - 2)] ++ [.int lg])) = H14 at K2 S14 gq2 ⊢
            clear k11 k12 S11 S12 la0 lm ht12 hu13 hq2 gq13 K1 gq1 S10 nq1 mq1
            -- some = some + [[.., -1][..], [0, 5, -1, -9][..]]
            refine ⟨_, rfl, _, rfl, l, d, mix, cnt12, 60, rfl, S14, by omega, by decide, by decide, fun zf cnt15 H15 zf0 zf1 S15 hc15 k15 => ⟨1, rfl, z2, fun t16 ht16 => ?_⟩⟩
            refine ⟨_, rfl, l, d, mix, cnt15, 2, rfl, S15.same (same_new ht16), by omega, by decide, by decide, fun zg cnt16 H16 zg0 zg1 S16 hc16 k16 => ?_⟩
            obtain ⟨fr, fm, fa⟩ := nth_of (xs := [zf, -1]) (z := zg) zg0 zg1
            have bfr : fr ≤ 1000 := by
              simp at fm
              omega
            refine ⟨t16, _, zg, .int fr, rfl, rfl, SqL.of (k16 _ _ upd_same (S15.nel ht16) (S15.ned ht16)), fa, 1, rfl, 9, rfl, w4, fun t17 ht17 => ?_⟩
            refine ⟨_, rfl, l, d, mix, cnt16, 4, rfl, S16.same (same_new ht17), by omega, by decide, by decide, fun zh cnt18 H18 zh0 zh1 S18 hc18 k18 => ?_⟩
            obtain ⟨la, lm, la0⟩ := nth_of (xs := [0, 5, -1, -9]) (z := zh) zh0 zh1
            have bla : la ≤ 1000 := by
              simp at lm
              omega
            refine ⟨t17, _, zh, .int la, rfl, rfl, SqL.of (k18 _ _ upd_same (S16.nel ht17) (S16.ned ht17)), la0, z2, fun u19 hu19 => ?_⟩
            have gq19 := same_new (o := .lst [.int fr, .int la]) hu19 _ _ (k18 _ _ (same_new ht17 _ _ (k16 _ _ (same_new ht16 _ _ (k15 _ _ gq2 nq2 mq2)) nq2 mq2)) nq2 mq2)
            refine ⟨q2, u19, _, _, rfl, rfl, gq19, upd_same, Nat.le_of_lt (small1000 (show 5 ≤ 1000 by decide)), fun q3 hq3 => ?_⟩
            have K3 := (((((K2.trans k15).new ht16).trans k16).new ht17).trans k18).trans (Keep.of ((same_new (o := .lst [.int fr, .int la]) hu19).trans (same_new (o := .lst ([.int m, .int (z9 - 2), .int lg] ++ [.int fr, .int la])) hq3)))
            have S20 := S18.same ((same_new (o := .lst [.int fr, .int la]) hu19).trans (same_new (o := .lst ([.int m, .int (z9 - 2), .int lg] ++ [.int fr, .int la])) hq3))
            have gq3 : (upd (upd H18 u19 (.lst [.int fr, .int la])) q3 (.lst ([.int m, .int (z9 - 2), .int lg] ++ [.int fr, .int la]))) q3 = some (.lst ([m, z9 - 2, lg, fr, la].map V.int)) := upd_same
            generalize upd (upd H18 u19 (.lst [.int fr, .int la])) q3 (.lst ([.int m, .int (z9 - 2), .int lg] ++ [.int fr, .int la])) = H20 at K3 S20 gq3 ⊢
            clear k15 k16 k18 S14 S15 S16 S18 fa fm la0 lm ht16 ht17 hu19 hq3 gq19 K2 gq2 nq2 mq2
            have gp20 := K3 _ _ gp6 npl npd
            have nTl : T ≠ l := fun z => by
              obtain ⟨_, _, e1, e2⟩ := S6.ob
              rw [z, e1] at gT
              cases gT
            have nTd : T ≠ d := fun z => by
              obtain ⟨_, _, e1, e2⟩ := S6.ob
              rw [z, e2] at gT
              cases gT
            have gT20 := K3 _ _ gT nTl nTd
            have hc20 : cnt18 ≤ 800 * i + 100 * j + 60 := by omega
            obtain ⟨st, est⟩ : ∃ st, st = z9 - 2 := ⟨_, rfl⟩
            have bst : st ≤ 8 := by omega
            rw [← est] at gq3
            have gq3c := gq3
            refine ⟨_, rfl, q3, _, 0, .int m, rfl, rfl, SqL.of gq3c, rfl, _, rfl, q3, _, 0, .int m, rfl, rfl, SqL.of gq3c, rfl, _, 1, rfl, rfl, z3, fun T1 hT1 => ?_⟩
            have s21 := same_new (o := .tup [.str "InvalidNumber", .int m, .bl (decide (m < 1))]) hT1
            have gT1 : (upd H20 T1 (.tup [.str "InvalidNumber", .int m, .bl (decide (m < 1))])) T1 = some (.tup [.str "InvalidNumber", .int m, .bl (decide (m < 1))]) := upd_same
            generalize upd H20 T1 (.tup [.str "InvalidNumber", .int m, .bl (decide (m < 1))]) = H21 at s21 gT1 ⊢
            have gq3c := s21 _ _ gq3c
            refine ⟨_, rfl, q3, _, 1, .int st, rfl, rfl, SqL.of gq3c, rfl, _, rfl, q3, _, 1, .int st, rfl, rfl, SqL.of gq3c, rfl, _, 0, rfl, rfl, z3, fun T2 hT2 => ?_⟩
            have s22 := same_new (o := .tup [.str "InvalidNumber", .int st, .bl (decide (st < 0))]) hT2
            have gT2 : (upd H21 T2 (.tup [.str "InvalidNumber", .int st, .bl (decide (st < 0))])) T2 = some (.tup [.str "InvalidNumber", .int st, .bl (decide (st < 0))]) := upd_same
            generalize upd H21 T2 (.tup [.str "InvalidNumber", .int st, .bl (decide (st < 0))]) = H22 at s22 gT2 ⊢
            have gq3c := s22 _ _ gq3c
            refine ⟨_, _, rfl, _, rfl, q3, _, 2, .int lg, rfl, rfl, SqL.of gq3c, rfl, _, rfl, q3, _, 2, .int lg, rfl, rfl, SqL.of gq3c, rfl, _, 0, rfl, rfl, z3, fun T3 hT3 => ?_⟩
            have s23 := same_new (o := .tup [.str "InvalidNumber", .int lg, .bl (decide (lg < 0))]) hT3
            have gT3 : (upd H22 T3 (.tup [.str "InvalidNumber", .int lg, .bl (decide (lg < 0))])) T3 = some (.tup [.str "InvalidNumber", .int lg, .bl (decide (lg < 0))]) := upd_same
            generalize upd H22 T3 (.tup [.str "InvalidNumber", .int lg, .bl (decide (lg < 0))]) = H23 at s23 gT3 ⊢
            have gq3c := s23 _ _ gq3c
            refine ⟨_, rfl, q3, _, 3, .int fr, rfl, rfl, SqL.of gq3c, rfl, _, rfl, q3, _, 3, .int fr, rfl, rfl, SqL.of gq3c, rfl, _, 0, rfl, rfl, z3, fun T4 hT4 => ?_⟩
            have s24 := same_new (o := .tup [.str "InvalidNumber", .int fr, .bl (decide (fr < 0))]) hT4
            have gT4 : (upd H23 T4 (.tup [.str "InvalidNumber", .int fr, .bl (decide (fr < 0))])) T4 = some (.tup [.str "InvalidNumber", .int fr, .bl (decide (fr < 0))]) := upd_same
            generalize upd H23 T4 (.tup [.str "InvalidNumber", .int fr, .bl (decide (fr < 0))]) = H24 at s24 gT4 ⊢
            have gq3c := s24 _ _ gq3c
            refine ⟨_, _, rfl, _, rfl, q3, _, 4, .int la, rfl, rfl, SqL.of gq3c, rfl, _, rfl, q3, _, 4, .int la, rfl, rfl, SqL.of gq3c, rfl, _, 0, rfl, rfl, z3, fun T5 hT5 => ?_⟩
            have s25 := same_new (o := .tup [.str "InvalidNumber", .int la, .bl (decide (la < 0))]) hT5
            have gT5 : (upd H24 T5 (.tup [.str "InvalidNumber", .int la, .bl (decide (la < 0))])) T5 = some (.tup [.str "InvalidNumber", .int la, .bl (decide (la < 0))]) := upd_same
            generalize upd H24 T5 (.tup [.str "InvalidNumber", .int la, .bl (decide (la < 0))]) = H25 at s25 gT5 ⊢
            have gq3c := s25 _ _ gq3c
            refine ⟨_, rfl, _, rfl, z2, fun L0 hL0 => ?_⟩
            have s26 := same_new (o := .lst [.ref T, .ref T1]) hL0
            have gL0 : (upd H25 L0 (.lst [.ref T, .ref T1])) L0 = some (.lst [.ref T, .ref T1]) := upd_same
            generalize upd H25 L0 (.lst [.ref T, .ref T1]) = H26 at s26 gL0 ⊢
            have gq3c := s26 _ _ gq3c
            refine ⟨_, rfl, _, rfl, z2, fun L1 hL1 => ?_⟩
            have s27 := same_new (o := .lst [.ref T2, .ref T1]) hL1
            have gL1 : (upd H26 L1 (.lst [.ref T2, .ref T1])) L1 = some (.lst [.ref T2, .ref T1]) := upd_same
            generalize upd H26 L1 (.lst [.ref T2, .ref T1]) = H27 at s27 gL1 ⊢
            have gq3c := s27 _ _ gq3c
            refine ⟨_, rfl, _, rfl, z2, fun L2 hL2 => ?_⟩
            have s28 := same_new (o := .lst [.ref T3, .ref T1]) hL2
            have gL2 : (upd H27 L2 (.lst [.ref T3, .ref T1])) L2 = some (.lst [.ref T3, .ref T1]) := upd_same
            generalize upd H27 L2 (.lst [.ref T3, .ref T1]) = H28 at s28 gL2 ⊢
            have gq3c := s28 _ _ gq3c
            refine ⟨_, rfl, _, rfl, z2, fun L3 hL3 => ?_⟩
            have s29 := same_new (o := .lst [.ref T2, .ref T1]) hL3
            have gL3 : (upd H28 L3 (.lst [.ref T2, .ref T1])) L3 = some (.lst [.ref T2, .ref T1]) := upd_same
            generalize upd H28 L3 (.lst [.ref T2, .ref T1]) = H29 at s29 gL3 ⊢
            have gq3c := s29 _ _ gq3c
            refine ⟨w4, fun A1 hA1 => ?_⟩
            have s30 := same_new (o := .lst [.ref L0, .ref L1, .ref L2, .ref L3]) hA1
            have gA1 : (upd H29 A1 (.lst [.ref L0, .ref L1, .ref L2, .ref L3])) A1 = some (.lst [.ref L0, .ref L1, .ref L2, .ref L3]) := upd_same
            generalize upd H29 A1 (.lst [.ref L0, .ref L1, .ref L2, .ref L3]) = H30 at s30 gA1 ⊢
            have gq3c := s30 _ _ gq3c
            refine ⟨_, rfl, _, rfl, _, rfl, z2, fun L4 hL4 => ?_⟩
            have s31 := same_new (o := .lst [.ref T3, .ref T]) hL4
            have gL4 : (upd H30 L4 (.lst [.ref T3, .ref T])) L4 = some (.lst [.ref T3, .ref T]) := upd_same
            generalize upd H30 L4 (.lst [.ref T3, .ref T]) = H31 at s31 gL4 ⊢
            have gq3c := s31 _ _ gq3c
            refine ⟨_, rfl, _, rfl, z2, fun L5 hL5 => ?_⟩
            have s32 := same_new (o := .lst [.ref T4, .ref T]) hL5
            have gL5 : (upd H31 L5 (.lst [.ref T4, .ref T])) L5 = some (.lst [.ref T4, .ref T]) := upd_same
            generalize upd H31 L5 (.lst [.ref T4, .ref T]) = H32 at s32 gL5 ⊢
            have gq3c := s32 _ _ gq3c
            refine ⟨_, rfl, _, rfl, _, rfl, z3, fun L6 hL6 => ?_⟩
            have s33 := same_new (o := .lst [.ref T3, .ref T, .ref T5]) hL6
            have gL6 : (upd H32 L6 (.lst [.ref T3, .ref T, .ref T5])) L6 = some (.lst [.ref T3, .ref T, .ref T5]) := upd_same
            generalize upd H32 L6 (.lst [.ref T3, .ref T, .ref T5]) = H33 at s33 gL6 ⊢
            have gq3c := s33 _ _ gq3c
            refine ⟨z3, fun A2 hA2 => ?_⟩
            have s34 := same_new (o := .lst [.ref L4, .ref L5, .ref L6]) hA2
            have gA2 : (upd H33 A2 (.lst [.ref L4, .ref L5, .ref L6])) A2 = some (.lst [.ref L4, .ref L5, .ref L6]) := upd_same
            generalize upd H33 A2 (.lst [.ref L4, .ref L5, .ref L6]) = H34 at s34 gA2 ⊢
            have gq3c := s34 _ _ gq3c
            refine ⟨A1, A2, _, _, rfl, rfl, ((((s31.trans s32).trans s33).trans s34) _ _ gA1), gA2, Nat.le_of_lt (small1000 (show 7 ≤ 1000 by decide)), fun A hA => ?_⟩
            have s35 := same_new (o := .lst ([.ref L0, .ref L1, .ref L2, .ref L3] ++ [.ref L4, .ref L5, .ref L6])) hA
            have gA : (upd H34 A (.lst ([.ref L0, .ref L1, .ref L2, .ref L3] ++ [.ref L4, .ref L5, .ref L6]))) A = some (.lst ([.ref L0, .ref L1, .ref L2, .ref L3] ++ [.ref L4, .ref L5, .ref L6])) := upd_same
            generalize upd H34 A (.lst ([.ref L0, .ref L1, .ref L2, .ref L3] ++ [.ref L4, .ref L5, .ref L6])) = H35 at s35 gA ⊢
            have gq3c := s35 _ _ gq3c
            have sAll := ((((((((((((((s21.trans s22).trans s23).trans s24).trans s25).trans s26).trans s27).trans s28).trans s29).trans s30).trans s31).trans s32).trans s33).trans s34).trans s35)
            have fT1 := ((((((((((((((s22.trans s23).trans s24).trans s25).trans s26).trans s27).trans s28).trans s29).trans s30).trans s31).trans s32).trans s33).trans s34).trans s35) _ _ gT1)
            have fT2 := (((((((((((((s23.trans s24).trans s25).trans s26).trans s27).trans s28).trans s29).trans s30).trans s31).trans s32).trans s33).trans s34).trans s35) _ _ gT2)
            have fT3 := ((((((((((((s24.trans s25).trans s26).trans s27).trans s28).trans s29).trans s30).trans s31).trans s32).trans s33).trans s34).trans s35) _ _ gT3)
            have fT4 := (((((((((((s25.trans s26).trans s27).trans s28).trans s29).trans s30).trans s31).trans s32).trans s33).trans s34).trans s35) _ _ gT4)
            have fT5 := ((((((((((s26.trans s27).trans s28).trans s29).trans s30).trans s31).trans s32).trans s33).trans s34).trans s35) _ _ gT5)
            have fL0 := (((((((((s27.trans s28).trans s29).trans s30).trans s31).trans s32).trans s33).trans s34).trans s35) _ _ gL0)
            have fL1 := ((((((((s28.trans s29).trans s30).trans s31).trans s32).trans s33).trans s34).trans s35) _ _ gL1)
            have fL2 := (((((((s29.trans s30).trans s31).trans s32).trans s33).trans s34).trans s35) _ _ gL2)
            have fL3 := ((((((s30.trans s31).trans s32).trans s33).trans s34).trans s35) _ _ gL3)
            have fL4 := ((((s32.trans s33).trans s34).trans s35) _ _ gL4)
            have fL5 := (((s33.trans s34).trans s35) _ _ gL5)
            have fL6 := ((s34.trans s35) _ _ gL6)
            have fT := sAll _ _ gT20
            have gA : H35 A = some (.lst ([L0, L1, L2, L3, L4, L5, L6].map V.ref)) := gA
            have gpF := sAll _ _ gp20
            have SF := S20.same sAll
            obtain ⟨HF, eHF⟩ : ∃ HF, HF = H35 := ⟨_, rfl⟩
            rw [← eHF] at fT fT1 fT2 fT3 fT4 fT5 fL0 fL1 fL2 fL3 fL4 fL5 fL6 gA gpF SF gq3c ⊢
            clear s21 s22 s23 s24 s25 s26 s27 s28 s29 s30 s31 s32 s33 s34 s35 sAll gT1 gT2 gT3 gT4 gT5 gL0 gL1 gL2 gL3 gL4 gL5 gL6 gA1 gA2 gT20 gp20 gq3 S20
            have hks := hk
            have gchk := rows_chk (lo := lo) (m := m) (st := st) (lg := lg) (fr := fr) (la := la) fT fT1 fT2 fT3 fT4 fT5 fL0 fL1 fL2 fL3 fL4 fL5 fL6
            clear fT fT1 fT2 fT3 fT4 fT5 fL0 fL1 fL2 fL3 fL4 fL5 fL6
            have lk5 : ks.length ≤ 5 := by omega
            have sk : ∀ k ∈ ks, k ≤ 20 := fun k h => (hk k h).2
            obtain ⟨gi, di⟩ := gda_ints ks (fun k h => by have := hk k h; omega)
            have shP : ∀ H', H' p = some (.lst (ks.map V.int)) → Shown K H' (.ref p) (.list (ks.map PyData.int)) := fun H' e' => gi.list.shown (by omega) (.lst (SqL.of e') (dp_ints ks))
            obtain ⟨KS, eKS⟩ : ∃ KS, KS = (PyData.list (ks.map PyData.int)).shown := ⟨_, rfl⟩
            refine ⟨_, rfl, .ref p, _, rfl, shP _ gpF, ?_⟩
            rw [← eKS]
            refine ⟨7, rfl, by decide, by decide, fun Dt hDt => lc_range (lo := 0) (n := 7) (fun mm H' => Same HF (wo H' Dt) ∧ ∃ vs, H' Dt = some (.lst vs) ∧ vs.length ≤ mm ∧ DpAll K (wo H' Dt) vs (allD ks m st lg fr la mm)) ⟨by rw [wo_upd]; exact same_wo (Same.refl _) hDt, [], upd_same, Nat.le_refl _, .nil⟩ ?_ ?_⟩
            · rintro mm Hm hm ⟨sm, vs, hv, vl, dvs⟩
              have s2m := sm.trans wo_same
              have fin : ∀ H3 y, Same Hm H3 → Dp K (wo H3 Dt) y (dlD (dueD (mm : Int) ks m st lg fr la)) → ∃ acc, H3 Dt = some (.lst acc) ∧ acc.length < sizeLine ∧ Same HF (wo (upd H3 Dt (.lst (acc ++ [y]))) Dt) ∧ ∃ vs, upd H3 Dt (.lst (acc ++ [y])) Dt = some (.lst vs) ∧ vs.length ≤ mm + 1 ∧ DpAll K (wo (upd H3 Dt (.lst (acc ++ [y]))) Dt) vs (allD ks m st lg fr la (mm + 1)) := fun H3 y s3 dy => by
                refine ⟨vs, s3 _ _ hv, small1000 (by omega), ?_, vs ++ [y], upd_same, by rw [List.length_append]; exact Nat.succ_le_succ vl, ?_⟩
                · rw [wo_upd]
                  exact sm.trans (same_wo (wo_same.trans s3) wo_self)
                · rw [wo_upd, allD_succ]
                  exact dp_snoc dy (DpAll.same (same_wo (wo_same.trans s3) wo_self) dvs)
              refine ⟨rfl, _, rfl, _, rfl, _, rfl, 0 + (mm : Int), p, q3, ks, [m, st, lg, fr, la], m, st, lg, fr, la, rfl, s2m _ _ gpF, s2m _ _ gq3c, rfl, fun _ => rfl, lk5, sk, bm, bst, blg, bfr, bla, fun e H3 s3 => ?_, fun wd z e p3 H3 hp3 s3 g3 => ?_⟩
              · rw [Int.zero_add] at e
                refine fin H3 _ s3 ?_
                rw [e]
                exact .non
              · rw [Int.zero_add] at e
                have np : p3 ≠ Dt := fun z => by
                  subst z
                  rw [hv] at hp3
                  cases hp3
                refine fin H3 _ s3 ?_
                rw [e]
                exact .lst (SqL.of (by rw [wo_ne np]; exact g3)) (.cons (.str _) (.cons (.int _) (.cons (.bl _) .nil)))
            · rintro H5 ⟨s5, vs, hv, _, dvs⟩
              have s25 := s5.trans wo_same
              have dvs' := DpAll.same wo_same dvs
              refine ⟨_, rfl, _, rfl, A, rfl, ⟨_, SqL.of (s25 _ _ gA)⟩, fun D2 hD2 => lc_list (K := K) (a := A) (xs := [L0, L1, L2, L3, L4, L5, L6].map V.ref) (fun mm H' => Same H5 (wo H' D2) ∧ ∃ vs, H' D2 = some (.lst vs) ∧ vs.length ≤ mm ∧ DpAll K (wo H' D2) vs (allD ks m st lg fr la mm)) ⟨by rw [wo_upd]; exact same_wo (Same.refl _) hD2, [], upd_same, Nat.le_refl _, .nil⟩ (fun mm H' _ h => SqL.of (wo_same _ _ (h.1 _ _ (s25 _ _ gA)))) ?_ ?_⟩
              · rintro mm x Hm hi' ⟨sm, vs2, hv2, vl, dvs2⟩
                obtain ⟨L, hL, rfl⟩ := map_ref hi'
                obtain ⟨ts, cs, eL, chk, l3, ecs⟩ := gchk mm L hL
                rw [elo] at ecs
                have du := due_eq mm cs ecs
                have m7 : mm < 7 := (List.getElem?_eq_some_iff.mp hL).1
                have s2m := s25.trans (sm.trans wo_same)
                have fin : ∀ H3 y, Same Hm H3 → Dp K (wo H3 D2) y (dlD (dueD (mm : Int) ks m st lg fr la)) → ∃ acc, H3 D2 = some (.lst acc) ∧ acc.length < sizeLine ∧ Same H5 (wo (upd H3 D2 (.lst (acc ++ [y]))) D2) ∧ ∃ vs, upd H3 D2 (.lst (acc ++ [y])) D2 = some (.lst vs) ∧ vs.length ≤ mm + 1 ∧ DpAll K (wo (upd H3 D2 (.lst (acc ++ [y]))) D2) vs (allD ks m st lg fr la (mm + 1)) := fun H3 y s3 dy => by
                  refine ⟨vs2, s3 _ _ hv2, small1000 (by omega), ?_, vs2 ++ [y], upd_same, by rw [List.length_append]; exact Nat.succ_le_succ vl, ?_⟩
                  · rw [wo_upd]
                    exact sm.trans (same_wo (wo_same.trans s3) wo_self)
                  · rw [wo_upd, allD_succ]
                    exact dp_snoc dy (DpAll.same (same_wo (wo_same.trans s3) wo_self) dvs2)
                refine ⟨rfl, _, rfl, L, ts, cs, rfl, SqL.of (s2m _ _ eL), chk.same s2m, l3, fun e H3 s3 => ?_, fun wd o e p3 H3 hp3 s3 g3 => ?_⟩
                · rw [du] at e
                  refine fin H3 _ s3 ?_
                  cases eD : dueD (mm : Int) ks m st lg fr la with
                  | none => exact .non
                  | some x =>
                    rw [eD] at e
                    cases e
                · rw [du] at e
                  have np : p3 ≠ D2 := fun z => by
                    subst z
                    rw [hv2] at hp3
                    cases hp3
                  refine fin H3 _ s3 ?_
                  cases eD : dueD (mm : Int) ks m st lg fr la with
                  | none =>
                    rw [eD] at e
                    cases e
                  | some x =>
                    rw [eD] at e
                    obtain ⟨b0, z0⟩ := x
                    cases e
                    exact .lst (SqL.of (by rw [wo_ne np]; exact g3)) (.cons (.str _) (.cons (.int _) (.cons (.bl _) .nil)))
              · rintro H6 ⟨s6, vs2, hv2, _, dvs2⟩
                have s56 := s6.trans wo_same
                obtain ⟨k1, k2⟩ := ld_all ks m st lg fr la
                refine ⟨.ref Dt, .ref D2, .list (allD ks m st lg fr la 7), rfl, .lst (SqL.of (s56 _ _ hv)) (DpAll.same s56 dvs'), .lst (SqL.of hv2) (DpAll.same wo_same dvs2), k1, k2, fun H7 s7 => ?_⟩
                have s27 := (s25.trans s56).trans s7
                refine ⟨_, rfl, iteF ?_⟩
                refine ⟨_, rfl, .ref p, _, rfl, shP _ (s27 _ _ gpF), _, rfl, ?_⟩
                rw [← eKS]
                refine ⟨rfl, _, rfl, iteNS rfl ?_⟩
                exact ⟨cnt18, _, by rfl, rfl, SF.same s27, by omega⟩
      · rintro σ H3 ⟨cnt, ys, hy, rfl, S3, hc3⟩
        exact ⟨cnt, _, (by rw [List.length_cons, hy]), rfl, S3, by omega⟩
    · rintro σ H2 ⟨cnt, ys, hy, rfl, S2, hc2⟩
      have d2 : dueD 0 [3, 1] 0 0 0 0 0 = some (true, 1) := rfl
      refine ⟨z2, fun u1 hu1 => ⟨z1, fun u2 hu2 => ⟨0, u1, u2, [3, 1], [0], 0, 0, 0, 0, 0, rfl, same_new hu2 _ _ upd_same, upd_same, rfl, fun z => absurd rfl z, by decide, by decide, by decide, by decide, by decide, by decide, by decide, fun e => (by rw [d2] at e; cases e), fun wd z e p3 H3 hp3 s3 g3 => ?_⟩⟩⟩
      rw [d2] at e
      cases e
      refine ⟨z3, fun u4 hu4 => ⟨.ref p3, .ref u4, .list [.str "InvalidList", .int 1, .bool true], rfl, .lst (SqL.of (same_new hu4 _ _ g3)) (.cons (.str _) (.cons (.int _) (.cons (.bl _) .nil))), .lst (SqL.of upd_same) (.cons (.str _) (.cons (.int _) (.cons (.bl _) .nil))), (by decide +kernel), (by decide), fun H6 s6 => ?_⟩⟩
      exact q _
end
end Sq
set_option Elab.async false
set_option linter.all false
set_option maxRecDepth 100000
set_option maxHeartbeats 4000000
namespace Sq
open PySem PySem.Spec PyProof.Rows L2
theorem all_mk {l : PySem.W.OpenLaw} {w : World} {K : PySem.W.Frag} {h : Heap} {mg : Str → Option Value} {fa : Addr} (X : K.In h) (G : h.Ns mainGlobals mg) (hfa : mg "law" = some (.ref fa))
    {f_checklist : Addr} {od_checklist an_checklist : Option Addr} {sl_checklist : Array (Option Value)} {oc_checklist kV_checklist dc_checklist pm_checklist cd_checklist ct_checklist : Value}
    (a_checklist : PySem.W.nsIn K mainGlobals "check_list" = some (some (.ref f_checklist)))
    (l_checklist : K.lookup f_checklist = some ⟨oc_checklist, od_checklist, .func (PySem.W.fnOf "check_list" "check_list" (defArgs s_checklist) (defBody s_checklist) (defScope s_checklist) .none kV_checklist dc_checklist pm_checklist an_checklist cd_checklist ct_checklist), sl_checklist⟩)
    (c_checklist : PySem.W.codeIn K cd_checklist "check_list" = true) (k_checklist : PySem.W.keepIn K (.ref f_checklist) = true)
    {f_checknumber : Addr} {od_checknumber an_checknumber : Option Addr} {sl_checknumber : Array (Option Value)} {oc_checknumber kV_checknumber dc_checknumber pm_checknumber cd_checknumber ct_checknumber : Value}
    (a_checknumber : PySem.W.nsIn K mainGlobals "check_number" = some (some (.ref f_checknumber)))
    (l_checknumber : K.lookup f_checknumber = some ⟨oc_checknumber, od_checknumber, .func (PySem.W.fnOf "check_number" "check_number" (defArgs s_checknumber) (defBody s_checknumber) (defScope s_checknumber) .none kV_checknumber dc_checknumber pm_checknumber an_checknumber cd_checknumber ct_checknumber), sl_checknumber⟩)
    (c_checknumber : PySem.W.codeIn K cd_checknumber "check_number" = true) (k_checknumber : PySem.W.keepIn K (.ref f_checknumber) = true)
    {f_greatestorigin : Addr} {od_greatestorigin an_greatestorigin : Option Addr} {sl_greatestorigin : Array (Option Value)} {oc_greatestorigin kV_greatestorigin dc_greatestorigin pm_greatestorigin cd_greatestorigin ct_greatestorigin : Value}
    (a_greatestorigin : PySem.W.nsIn K mainGlobals "greatest_origin" = some (some (.ref f_greatestorigin)))
    (l_greatestorigin : K.lookup f_greatestorigin = some ⟨oc_greatestorigin, od_greatestorigin, .func (PySem.W.fnOf "greatest_origin" "greatest_origin" (defArgs s_greatestorigin) (defBody s_greatestorigin) (defScope s_greatestorigin) .none kV_greatestorigin dc_greatestorigin pm_greatestorigin an_greatestorigin cd_greatestorigin ct_greatestorigin), sl_greatestorigin⟩)
    (c_greatestorigin : PySem.W.codeIn K cd_greatestorigin "greatest_origin" = true) (k_greatestorigin : PySem.W.keepIn K (.ref f_greatestorigin) = true)
    {f_origins : Addr} {od_origins an_origins : Option Addr} {sl_origins : Array (Option Value)} {oc_origins kV_origins dc_origins pm_origins cd_origins ct_origins : Value}
    (a_origins : PySem.W.nsIn K mainGlobals "origins" = some (some (.ref f_origins)))
    (l_origins : K.lookup f_origins = some ⟨oc_origins, od_origins, .func (PySem.W.fnOf "origins" "origins" (defArgs s_origins) (defBody s_origins) (defScope s_origins) .none kV_origins dc_origins pm_origins an_origins cd_origins ct_origins), sl_origins⟩)
    (c_origins : PySem.W.codeIn K cd_origins "origins" = true) (k_origins : PySem.W.keepIn K (.ref f_origins) = true)
    {f_countorigins : Addr} {od_countorigins an_countorigins : Option Addr} {sl_countorigins : Array (Option Value)} {oc_countorigins kV_countorigins dc_countorigins pm_countorigins cd_countorigins ct_countorigins : Value}
    (a_countorigins : PySem.W.nsIn K mainGlobals "count_origins" = some (some (.ref f_countorigins)))
    (l_countorigins : K.lookup f_countorigins = some ⟨oc_countorigins, od_countorigins, .func (PySem.W.fnOf "count_origins" "count_origins" (defArgs s_countorigins) (defBody s_countorigins) (defScope s_countorigins) .none kV_countorigins dc_countorigins pm_countorigins an_countorigins cd_countorigins ct_countorigins), sl_countorigins⟩)
    (c_countorigins : PySem.W.codeIn K cd_countorigins "count_origins" = true) (k_countorigins : PySem.W.keepIn K (.ref f_countorigins) = true)
    {f_manyforone : Addr} {od_manyforone an_manyforone : Option Addr} {sl_manyforone : Array (Option Value)} {oc_manyforone kV_manyforone dc_manyforone pm_manyforone cd_manyforone ct_manyforone : Value}
    (a_manyforone : PySem.W.nsIn K mainGlobals "many_for_one" = some (some (.ref f_manyforone)))
    (l_manyforone : K.lookup f_manyforone = some ⟨oc_manyforone, od_manyforone, .func (PySem.W.fnOf "many_for_one" "many_for_one" (defArgs s_manyforone) (defBody s_manyforone) (defScope s_manyforone) .none kV_manyforone dc_manyforone pm_manyforone an_manyforone cd_manyforone ct_manyforone), sl_manyforone⟩)
    (c_manyforone : PySem.W.codeIn K cd_manyforone "many_for_one" = true) (k_manyforone : PySem.W.keepIn K (.ref f_manyforone) = true)
    {f_originsforone : Addr} {od_originsforone an_originsforone : Option Addr} {sl_originsforone : Array (Option Value)} {oc_originsforone kV_originsforone dc_originsforone pm_originsforone cd_originsforone ct_originsforone : Value}
    (a_originsforone : PySem.W.nsIn K mainGlobals "origins_for_one" = some (some (.ref f_originsforone)))
    (l_originsforone : K.lookup f_originsforone = some ⟨oc_originsforone, od_originsforone, .func (PySem.W.fnOf "origins_for_one" "origins_for_one" (defArgs s_originsforone) (defBody s_originsforone) (defScope s_originsforone) .none kV_originsforone dc_originsforone pm_originsforone an_originsforone cd_originsforone ct_originsforone), sl_originsforone⟩)
    (c_originsforone : PySem.W.codeIn K cd_originsforone "origins_for_one" = true) (k_originsforone : PySem.W.keepIn K (.ref f_originsforone) = true)
    {f_limitsafter : Addr} {od_limitsafter an_limitsafter : Option Addr} {sl_limitsafter : Array (Option Value)} {oc_limitsafter kV_limitsafter dc_limitsafter pm_limitsafter cd_limitsafter ct_limitsafter : Value}
    (a_limitsafter : PySem.W.nsIn K mainGlobals "limits_after" = some (some (.ref f_limitsafter)))
    (l_limitsafter : K.lookup f_limitsafter = some ⟨oc_limitsafter, od_limitsafter, .func (PySem.W.fnOf "limits_after" "limits_after" (defArgs s_limitsafter) (defBody s_limitsafter) (defScope s_limitsafter) .none kV_limitsafter dc_limitsafter pm_limitsafter an_limitsafter cd_limitsafter ct_limitsafter), sl_limitsafter⟩)
    (c_limitsafter : PySem.W.codeIn K cd_limitsafter "limits_after" = true) (k_limitsafter : PySem.W.keepIn K (.ref f_limitsafter) = true)
    {f_reach : Addr} {od_reach an_reach : Option Addr} {sl_reach : Array (Option Value)} {oc_reach kV_reach dc_reach pm_reach cd_reach ct_reach : Value}
    (a_reach : PySem.W.nsIn K mainGlobals "reach" = some (some (.ref f_reach)))
    {T_reach : Addr} {oT_reach : Value} {dT_reach : Option Addr} {nT_reach : Nat} {sT_reach : Array (Option Value)} {t_reach0 : Tok}
    (l_reach : K.lookup f_reach = some ⟨oc_reach, od_reach, .func (PySem.W.fnOf "reach" "reach" (defArgs s_reach) (defBody s_reach) (defScope s_reach) (.ref T_reach) kV_reach dc_reach pm_reach an_reach cd_reach ct_reach), sl_reach⟩)
    (c_reach : PySem.W.codeIn K cd_reach "reach" = true) (k_reach : PySem.W.keepIn K (.ref f_reach) = true)
    (lT_reach : K.lookup T_reach = some ⟨oT_reach, dT_reach, .seq #[.int 1 t_reach0] nT_reach, sT_reach⟩)
    {f_bestreach : Addr} {od_bestreach an_bestreach : Option Addr} {sl_bestreach : Array (Option Value)} {oc_bestreach kV_bestreach dc_bestreach pm_bestreach cd_bestreach ct_bestreach : Value}
    (a_bestreach : PySem.W.nsIn K mainGlobals "best_reach" = some (some (.ref f_bestreach)))
    {T_bestreach : Addr} {oT_bestreach : Value} {dT_bestreach : Option Addr} {nT_bestreach : Nat} {sT_bestreach : Array (Option Value)} {t_bestreach0 : Tok}
    (l_bestreach : K.lookup f_bestreach = some ⟨oc_bestreach, od_bestreach, .func (PySem.W.fnOf "best_reach" "best_reach" (defArgs s_bestreach) (defBody s_bestreach) (defScope s_bestreach) (.ref T_bestreach) kV_bestreach dc_bestreach pm_bestreach an_bestreach cd_bestreach ct_bestreach), sl_bestreach⟩)
    (c_bestreach : PySem.W.codeIn K cd_bestreach "best_reach" = true) (k_bestreach : PySem.W.keepIn K (.ref f_bestreach) = true)
    (lT_bestreach : K.lookup T_bestreach = some ⟨oT_bestreach, dT_bestreach, .seq #[.int 1 t_bestreach0] nT_bestreach, sT_bestreach⟩)
    {f_feweststeps : Addr} {od_feweststeps an_feweststeps : Option Addr} {sl_feweststeps : Array (Option Value)} {oc_feweststeps kV_feweststeps dc_feweststeps pm_feweststeps cd_feweststeps ct_feweststeps : Value}
    (a_feweststeps : PySem.W.nsIn K mainGlobals "fewest_steps" = some (some (.ref f_feweststeps)))
    {T_feweststeps : Addr} {oT_feweststeps : Value} {dT_feweststeps : Option Addr} {nT_feweststeps : Nat} {sT_feweststeps : Array (Option Value)} {t_feweststeps0 : Tok}
    (l_feweststeps : K.lookup f_feweststeps = some ⟨oc_feweststeps, od_feweststeps, .func (PySem.W.fnOf "fewest_steps" "fewest_steps" (defArgs s_feweststeps) (defBody s_feweststeps) (defScope s_feweststeps) (.ref T_feweststeps) kV_feweststeps dc_feweststeps pm_feweststeps an_feweststeps cd_feweststeps ct_feweststeps), sl_feweststeps⟩)
    (c_feweststeps : PySem.W.codeIn K cd_feweststeps "fewest_steps" = true) (k_feweststeps : PySem.W.keepIn K (.ref f_feweststeps) = true)
    (lT_feweststeps : K.lookup T_feweststeps = some ⟨oT_feweststeps, dT_feweststeps, .seq #[.int 1 t_feweststeps0] nT_feweststeps, sT_feweststeps⟩)
    {f_bestlists : Addr} {od_bestlists an_bestlists : Option Addr} {sl_bestlists : Array (Option Value)} {oc_bestlists kV_bestlists dc_bestlists pm_bestlists cd_bestlists ct_bestlists : Value}
    (a_bestlists : PySem.W.nsIn K mainGlobals "best_lists" = some (some (.ref f_bestlists)))
    {T_bestlists : Addr} {oT_bestlists : Value} {dT_bestlists : Option Addr} {nT_bestlists : Nat} {sT_bestlists : Array (Option Value)} {t_bestlists0 : Tok}
    (l_bestlists : K.lookup f_bestlists = some ⟨oc_bestlists, od_bestlists, .func (PySem.W.fnOf "best_lists" "best_lists" (defArgs s_bestlists) (defBody s_bestlists) (defScope s_bestlists) (.ref T_bestlists) kV_bestlists dc_bestlists pm_bestlists an_bestlists cd_bestlists ct_bestlists), sl_bestlists⟩)
    (c_bestlists : PySem.W.codeIn K cd_bestlists "best_lists" = true) (k_bestlists : PySem.W.keepIn K (.ref f_bestlists) = true)
    (lT_bestlists : K.lookup T_bestlists = some ⟨oT_bestlists, dT_bestlists, .seq #[.int 1 t_bestlists0] nT_bestlists, sT_bestlists⟩)
    {f_reachwith : Addr} {od_reachwith an_reachwith : Option Addr} {sl_reachwith : Array (Option Value)} {oc_reachwith kV_reachwith dc_reachwith pm_reachwith cd_reachwith ct_reachwith : Value}
    (a_reachwith : PySem.W.nsIn K mainGlobals "reach_with" = some (some (.ref f_reachwith)))
    (l_reachwith : K.lookup f_reachwith = some ⟨oc_reachwith, od_reachwith, .func (PySem.W.fnOf "reach_with" "reach_with" (defArgs s_reachwith) (defBody s_reachwith) (defScope s_reachwith) .none kV_reachwith dc_reachwith pm_reachwith an_reachwith cd_reachwith ct_reachwith), sl_reachwith⟩)
    (c_reachwith : PySem.W.codeIn K cd_reachwith "reach_with" = true) (k_reachwith : PySem.W.keepIn K (.ref f_reachwith) = true)
    {f_bestnumbers : Addr} {od_bestnumbers an_bestnumbers : Option Addr} {sl_bestnumbers : Array (Option Value)} {oc_bestnumbers kV_bestnumbers dc_bestnumbers pm_bestnumbers cd_bestnumbers ct_bestnumbers : Value}
    (a_bestnumbers : PySem.W.nsIn K mainGlobals "best_numbers" = some (some (.ref f_bestnumbers)))
    (l_bestnumbers : K.lookup f_bestnumbers = some ⟨oc_bestnumbers, od_bestnumbers, .func (PySem.W.fnOf "best_numbers" "best_numbers" (defArgs s_bestnumbers) (defBody s_bestnumbers) (defScope s_bestnumbers) .none kV_bestnumbers dc_bestnumbers pm_bestnumbers an_bestnumbers cd_bestnumbers ct_bestnumbers), sl_bestnumbers⟩)
    (c_bestnumbers : PySem.W.codeIn K cd_bestnumbers "best_numbers" = true) (k_bestnumbers : PySem.W.keepIn K (.ref f_bestnumbers) = true)
    {f_greatestreachwithone : Addr} {od_greatestreachwithone an_greatestreachwithone : Option Addr} {sl_greatestreachwithone : Array (Option Value)} {oc_greatestreachwithone kV_greatestreachwithone dc_greatestreachwithone pm_greatestreachwithone cd_greatestreachwithone ct_greatestreachwithone : Value}
    (a_greatestreachwithone : PySem.W.nsIn K mainGlobals "greatest_reach_with_one" = some (some (.ref f_greatestreachwithone)))
    (l_greatestreachwithone : K.lookup f_greatestreachwithone = some ⟨oc_greatestreachwithone, od_greatestreachwithone, .func (PySem.W.fnOf "greatest_reach_with_one" "greatest_reach_with_one" (defArgs s_greatestreachwithone) (defBody s_greatestreachwithone) (defScope s_greatestreachwithone) .none kV_greatestreachwithone dc_greatestreachwithone pm_greatestreachwithone an_greatestreachwithone cd_greatestreachwithone ct_greatestreachwithone), sl_greatestreachwithone⟩)
    (c_greatestreachwithone : PySem.W.codeIn K cd_greatestreachwithone "greatest_reach_with_one" = true) (k_greatestreachwithone : PySem.W.keepIn K (.ref f_greatestreachwithone) = true)
    {f_bestchoices : Addr} {od_bestchoices an_bestchoices : Option Addr} {sl_bestchoices : Array (Option Value)} {oc_bestchoices kV_bestchoices dc_bestchoices pm_bestchoices cd_bestchoices ct_bestchoices : Value}
    (a_bestchoices : PySem.W.nsIn K mainGlobals "best_choices" = some (some (.ref f_bestchoices)))
    (l_bestchoices : K.lookup f_bestchoices = some ⟨oc_bestchoices, od_bestchoices, .func (PySem.W.fnOf "best_choices" "best_choices" (defArgs s_bestchoices) (defBody s_bestchoices) (defScope s_bestchoices) .none kV_bestchoices dc_bestchoices pm_bestchoices an_bestchoices cd_bestchoices ct_bestchoices), sl_bestchoices⟩)
    (c_bestchoices : PySem.W.codeIn K cd_bestchoices "best_choices" = true) (k_bestchoices : PySem.W.keepIn K (.ref f_bestchoices) = true)
    {f_listat : Addr} {od_listat an_listat : Option Addr} {sl_listat : Array (Option Value)} {oc_listat kV_listat dc_listat pm_listat cd_listat ct_listat : Value}
    (a_listat : PySem.W.nsIn K mainGlobals "list_at" = some (some (.ref f_listat)))
    (l_listat : K.lookup f_listat = some ⟨oc_listat, od_listat, .func (PySem.W.fnOf "list_at" "list_at" (defArgs s_listat) (defBody s_listat) (defScope s_listat) .none kV_listat dc_listat pm_listat an_listat cd_listat ct_listat), sl_listat⟩)
    (c_listat : PySem.W.codeIn K cd_listat "list_at" = true) (k_listat : PySem.W.keepIn K (.ref f_listat) = true)
    {f_lawsource : Addr} {od_lawsource an_lawsource : Option Addr} {sl_lawsource : Array (Option Value)} {oc_lawsource kV_lawsource dc_lawsource pm_lawsource cd_lawsource ct_lawsource : Value}
    (a_lawsource : PySem.W.nsIn K mainGlobals "_law_source" = some (some (.ref f_lawsource)))
    (l_lawsource : K.lookup f_lawsource = some ⟨oc_lawsource, od_lawsource, .func (PySem.W.fnOf "_law_source" "_law_source" (defArgs s_lawsource) (defBody s_lawsource) (defScope s_lawsource) .none kV_lawsource dc_lawsource pm_lawsource an_lawsource cd_lawsource ct_lawsource), sl_lawsource⟩)
    (c_lawsource : PySem.W.codeIn K cd_lawsource "_law_source" = true) (k_lawsource : PySem.W.keepIn K (.ref f_lawsource) = true)
    {f_lawdraw : Addr} {od_lawdraw an_lawdraw : Option Addr} {sl_lawdraw : Array (Option Value)} {oc_lawdraw kV_lawdraw dc_lawdraw pm_lawdraw cd_lawdraw ct_lawdraw : Value}
    (a_lawdraw : PySem.W.nsIn K mainGlobals "_law_draw" = some (some (.ref f_lawdraw)))
    (l_lawdraw : K.lookup f_lawdraw = some ⟨oc_lawdraw, od_lawdraw, .func (PySem.W.fnOf "_law_draw" "_law_draw" (defArgs s_lawdraw) (defBody s_lawdraw) (defScope s_lawdraw) .none kV_lawdraw dc_lawdraw pm_lawdraw an_lawdraw cd_lawdraw ct_lawdraw), sl_lawdraw⟩)
    (c_lawdraw : PySem.W.codeIn K cd_lawdraw "_law_draw" = true) (k_lawdraw : PySem.W.keepIn K (.ref f_lawdraw) = true)
    {f_lawsame : Addr} {od_lawsame an_lawsame : Option Addr} {sl_lawsame : Array (Option Value)} {oc_lawsame kV_lawsame dc_lawsame pm_lawsame cd_lawsame ct_lawsame : Value}
    (a_lawsame : PySem.W.nsIn K mainGlobals "_law_same" = some (some (.ref f_lawsame)))
    (l_lawsame : K.lookup f_lawsame = some ⟨oc_lawsame, od_lawsame, .func (PySem.W.fnOf "_law_same" "_law_same" (defArgs s_lawsame) (defBody s_lawsame) (defScope s_lawsame) .none kV_lawsame dc_lawsame pm_lawsame an_lawsame cd_lawsame ct_lawsame), sl_lawsame⟩)
    (c_lawsame : PySem.W.codeIn K cd_lawsame "_law_same" = true) (k_lawsame : PySem.W.keepIn K (.ref f_lawsame) = true)
    {f_lawrow : Addr} {od_lawrow an_lawrow : Option Addr} {sl_lawrow : Array (Option Value)} {oc_lawrow kV_lawrow dc_lawrow pm_lawrow cd_lawrow ct_lawrow : Value}
    (a_lawrow : PySem.W.nsIn K mainGlobals "_law_row" = some (some (.ref f_lawrow)))
    (l_lawrow : K.lookup f_lawrow = some ⟨oc_lawrow, od_lawrow, .func (PySem.W.fnOf "_law_row" "_law_row" (defArgs s_lawrow) (defBody s_lawrow) (defScope s_lawrow) .none kV_lawrow dc_lawrow pm_lawrow an_lawrow cd_lawrow ct_lawrow), sl_lawrow⟩)
    (c_lawrow : PySem.W.codeIn K cd_lawrow "_law_row" = true) (k_lawrow : PySem.W.keepIn K (.ref f_lawrow) = true)
    {f_lawerror : Addr} {od_lawerror an_lawerror : Option Addr} {sl_lawerror : Array (Option Value)} {oc_lawerror kV_lawerror dc_lawerror pm_lawerror cd_lawerror ct_lawerror : Value}
    (a_lawerror : PySem.W.nsIn K mainGlobals "_law_error" = some (some (.ref f_lawerror)))
    (l_lawerror : K.lookup f_lawerror = some ⟨oc_lawerror, od_lawerror, .func (PySem.W.fnOf "_law_error" "_law_error" (defArgs s_lawerror) (defBody s_lawerror) (defScope s_lawerror) .none kV_lawerror dc_lawerror pm_lawerror an_lawerror cd_lawerror ct_lawerror), sl_lawerror⟩)
    (c_lawerror : PySem.W.codeIn K cd_lawerror "_law_error" = true) (k_lawerror : PySem.W.keepIn K (.ref f_lawerror) = true)
    {f_lawspoilt : Addr} {od_lawspoilt an_lawspoilt : Option Addr} {sl_lawspoilt : Array (Option Value)} {oc_lawspoilt kV_lawspoilt dc_lawspoilt pm_lawspoilt cd_lawspoilt ct_lawspoilt : Value}
    (a_lawspoilt : PySem.W.nsIn K mainGlobals "_law_spoilt" = some (some (.ref f_lawspoilt)))
    (l_lawspoilt : K.lookup f_lawspoilt = some ⟨oc_lawspoilt, od_lawspoilt, .func (PySem.W.fnOf "_law_spoilt" "_law_spoilt" (defArgs s_lawspoilt) (defBody s_lawspoilt) (defScope s_lawspoilt) .none kV_lawspoilt dc_lawspoilt pm_lawspoilt an_lawspoilt cd_lawspoilt ct_lawspoilt), sl_lawspoilt⟩)
    (c_lawspoilt : PySem.W.codeIn K cd_lawspoilt "_law_spoilt" = true) (k_lawspoilt : PySem.W.keepIn K (.ref f_lawspoilt) = true)
    {f_lawraised : Addr} {od_lawraised an_lawraised : Option Addr} {sl_lawraised : Array (Option Value)} {oc_lawraised kV_lawraised dc_lawraised pm_lawraised cd_lawraised ct_lawraised : Value}
    (a_lawraised : PySem.W.nsIn K mainGlobals "_law_raised" = some (some (.ref f_lawraised)))
    (l_lawraised : K.lookup f_lawraised = some ⟨oc_lawraised, od_lawraised, .func (PySem.W.fnOf "_law_raised" "_law_raised" (defArgs s_lawraised) (defBody s_lawraised) (defScope s_lawraised) .none kV_lawraised dc_lawraised pm_lawraised an_lawraised cd_lawraised ct_lawraised), sl_lawraised⟩)
    (c_lawraised : PySem.W.codeIn K cd_lawraised "_law_raised" = true) (k_lawraised : PySem.W.keepIn K (.ref f_lawraised) = true)
    {f_lawdue : Addr} {od_lawdue an_lawdue : Option Addr} {sl_lawdue : Array (Option Value)} {oc_lawdue kV_lawdue dc_lawdue pm_lawdue cd_lawdue ct_lawdue : Value}
    (a_lawdue : PySem.W.nsIn K mainGlobals "_law_due" = some (some (.ref f_lawdue)))
    (l_lawdue : K.lookup f_lawdue = some ⟨oc_lawdue, od_lawdue, .func (PySem.W.fnOf "_law_due" "_law_due" (defArgs s_lawdue) (defBody s_lawdue) (defScope s_lawdue) .none kV_lawdue dc_lawdue pm_lawdue an_lawdue cd_lawdue ct_lawdue), sl_lawdue⟩)
    (c_lawdue : PySem.W.codeIn K cd_lawdue "_law_due" = true) (k_lawdue : PySem.W.keepIn K (.ref f_lawdue) = true)
    {f_law : Addr} {od_law an_law : Option Addr} {sl_law : Array (Option Value)} {oc_law kV_law dc_law pm_law cd_law ct_law : Value}
    (a_law : PySem.W.nsIn K mainGlobals "law" = some (some (.ref f_law)))
    (l_law : K.lookup f_law = some ⟨oc_law, od_law, .func (PySem.W.fnOf "law" "law" (defArgs s_law) (defBody s_law) (defScope s_law) .none kV_law dc_law pm_law an_law cd_law ct_law), sl_law⟩)
    (c_law : PySem.W.codeIn K cd_law "law" = true) (k_law : PySem.W.keepIn K (.ref f_law) = true)
    (z_len : PySem.W.nsIn K mainGlobals "len" = some none)
    (z_min : PySem.W.nsIn K mainGlobals "min" = some none)
    (z_max : PySem.W.nsIn K mainGlobals "max" = some none)
    (z_abs : PySem.W.nsIn K mainGlobals "abs" = some none)
    (z_range : PySem.W.nsIn K mainGlobals "range" = some none)
    (z_isinstance : PySem.W.nsIn K mainGlobals "isinstance" = some none)
    (z_repr : PySem.W.nsIn K mainGlobals "repr" = some none)
    (z_enumerate : PySem.W.nsIn K mainGlobals "enumerate" = some none)
    (z_reversed : PySem.W.nsIn K mainGlobals "reversed" = some none)
    (z_sorted : PySem.W.nsIn K mainGlobals "sorted" = some none)
    (z_bool : PySem.W.nsIn K mainGlobals "bool" = some none)
    (z_int : PySem.W.nsIn K mainGlobals "int" = some none)
    (z_str : PySem.W.nsIn K mainGlobals "str" = some none)
    (z_list : PySem.W.nsIn K mainGlobals "list" = some none)
    (z_tuple : PySem.W.nsIn K mainGlobals "tuple" = some none)
    (z_set : PySem.W.nsIn K mainGlobals "set" = some none)
    (z_sum : PySem.W.nsIn K mainGlobals "sum" = some none)
    (z_zip : PySem.W.nsIn K mainGlobals "zip" = some none)
    (z_all : PySem.W.nsIn K mainGlobals "all" = some none)
    (z_any : PySem.W.nsIn K mainGlobals "any" = some none)
    (z_ValueError : PySem.W.nsIn K mainGlobals "ValueError" = some none)
    (z_divmod : PySem.W.nsIn K mainGlobals "divmod" = some none)
    {CB : Addr} (aCB : PySem.W.nsIn K mainGlobals "SqueezeError" = some (some (.ref CB))) (iCB : PySem.W.isClsIn K CB = true) (tCB : PySem.W.typeIn K (.ref CB) = some (.type "type"))
    (third : PySem.W.nsIn K cStatics "thirdparty.any" = some none) (zSup : PySem.W.nsIn K mainGlobals "super" = some none) (hTop : (l.prog.main.scope.names.lookup ("super" : Str)).isSome = false)
    (spC : PySem.W.specialIn K (.builtin "object.__class__") "__get__" = some (some (.builtin "getset_descriptor.__get__"))) (tkC : PySem.W.takesIn K (.builtin "object.__class__") = some true)
    {C0 I0 N0 cda0 cc0 : Addr} {nm0 qn0 msg0 file0 : Str} {bs0 sub0 : List Value} {sn0 : List Str} {ab0 : Bool} {col0 : Option Bool} {dd0 od0 an0 cdd0 cld0 : Option Addr} {ka0 kb0 kc0 kd0 ke0 : Option Value}
    {oc0 doc0 pm0 ct0 ccl0 cl0 : Value} {osl0 ccs0 csl0 : Array (Option Value)} {vs0 : Array Value} {tf0 : Tok} {j0 : Nat} {p0_1 p0_2 q0_0 q0_1 q0_2 q0_3 q0_4 q0_5 r0_1 r0_2 r0_3 r0_4 : Pos}
    (aC0 : PySem.W.nsIn K mainGlobals "InvalidList" = some (some (.ref C0)))
    (xL0 : K.lookup C0 = some (excClassObj nm0 qn0 C0 N0 bs0 [.ref CB, .type "ValueError", .type "Exception", .type "BaseException", .type "object"] true sn0 sub0 ab0 col0 dd0 ka0 kb0 kc0 kd0 ke0 "ValueError.__new__"))
    (sa0 : PySem.W.findIn K (.ref C0) "__setattr__" = some (some (.builtin "object.__setattr__")))
    (nv0 : PySem.W.findIn K (.ref C0) "value" = some none)
    (iC0 : PySem.W.findIn K (.ref C0) "__init__" = some (some (.ref I0)))
    (tI0 : PySem.W.typeIn K (.ref I0) = some (.type "function"))
    (kC0 : PySem.W.keepIn K (.ref C0) = true)
    (eC0 : PySem.W.subIn K (.ref C0) (.type "BaseException") = some true)
    (vC0 : PySem.W.subIn K (.ref C0) (.type "ValueError") = some true)
    (tC0 : PySem.W.typeIn K (.ref C0) = some (.type "type"))
    (mC0 : PySem.W.mroIn K C0 (.ref C0) = some true)
    (su0 : PySem.W.ks_superIn K C0 C0 "__init__" = some (some (.builtin "ValueError.__init__")))
    (fI0 : K.lookup I0 = some ⟨oc0, od0, .func (PySem.W.ksFn "__init__" "InvalidList.__init__" (SqX.xA p0_1 p0_2) (SqX.xB msg0 j0 q0_0 q0_1 q0_2 q0_3 q0_4 q0_5 r0_1 r0_2 r0_3 r0_4) SqX.xS .none .none doc0 pm0 an0 (.ref cda0) ct0 cc0), osl0⟩)
    (cI0 : PySem.W.codeIn K (.ref cda0) "InvalidList.__init__" = true)
    (lc0 : K.lookup cda0 = some ⟨ccl0, cdd0, .fields vs0, ccs0⟩)
    (vf0 : vs0[2]? = some (.str file0 tf0))
    (mf0 : ((l.prog.main.file : Str) == file0) = true)
    (lk0 : K.lookup cc0 = some ⟨cl0, cld0, .cell (some (.ref C0)), csl0⟩)
    (ln0 : (q0_2.endLine == q0_4.line) = true)
    (ga0 : PySem.W.findIn K (.ref C0) "__getattribute__" = some (some (.builtin "BaseException.__getattribute__")))
    (gg0 : PySem.W.findIn K (.ref C0) "__getattr__" = some none)
    (hd0 : PySem.W.hasDictIn K C0 = true)
    (ha0 : PySem.W.findIn K (.ref C0) "__class__" = some (some (.builtin "object.__class__")))
    (mo0 : PySem.W.mroIn K C0 (.type "object") = some true)
    (ic0 : PySem.W.isClsIn K C0 = true)
    (sB0 : PySem.W.subIn K (.ref C0) (.ref CB) = some true)
    {C1 I1 N1 cda1 cc1 : Addr} {nm1 qn1 msg1 file1 : Str} {bs1 sub1 : List Value} {sn1 : List Str} {ab1 : Bool} {col1 : Option Bool} {dd1 od1 an1 cdd1 cld1 : Option Addr} {ka1 kb1 kc1 kd1 ke1 : Option Value}
    {oc1 doc1 pm1 ct1 ccl1 cl1 : Value} {osl1 ccs1 csl1 : Array (Option Value)} {vs1 : Array Value} {tf1 : Tok} {j1 : Nat} {p1_1 p1_2 q1_0 q1_1 q1_2 q1_3 q1_4 q1_5 r1_1 r1_2 r1_3 r1_4 : Pos}
    (aC1 : PySem.W.nsIn K mainGlobals "InvalidNumber" = some (some (.ref C1)))
    (xL1 : K.lookup C1 = some (excClassObj nm1 qn1 C1 N1 bs1 [.ref CB, .type "ValueError", .type "Exception", .type "BaseException", .type "object"] true sn1 sub1 ab1 col1 dd1 ka1 kb1 kc1 kd1 ke1 "ValueError.__new__"))
    (sa1 : PySem.W.findIn K (.ref C1) "__setattr__" = some (some (.builtin "object.__setattr__")))
    (nv1 : PySem.W.findIn K (.ref C1) "value" = some none)
    (iC1 : PySem.W.findIn K (.ref C1) "__init__" = some (some (.ref I1)))
    (tI1 : PySem.W.typeIn K (.ref I1) = some (.type "function"))
    (kC1 : PySem.W.keepIn K (.ref C1) = true)
    (eC1 : PySem.W.subIn K (.ref C1) (.type "BaseException") = some true)
    (vC1 : PySem.W.subIn K (.ref C1) (.type "ValueError") = some true)
    (tC1 : PySem.W.typeIn K (.ref C1) = some (.type "type"))
    (mC1 : PySem.W.mroIn K C1 (.ref C1) = some true)
    (su1 : PySem.W.ks_superIn K C1 C1 "__init__" = some (some (.builtin "ValueError.__init__")))
    (fI1 : K.lookup I1 = some ⟨oc1, od1, .func (PySem.W.ksFn "__init__" "InvalidNumber.__init__" (SqX.xA p1_1 p1_2) (SqX.xB msg1 j1 q1_0 q1_1 q1_2 q1_3 q1_4 q1_5 r1_1 r1_2 r1_3 r1_4) SqX.xS .none .none doc1 pm1 an1 (.ref cda1) ct1 cc1), osl1⟩)
    (cI1 : PySem.W.codeIn K (.ref cda1) "InvalidNumber.__init__" = true)
    (lc1 : K.lookup cda1 = some ⟨ccl1, cdd1, .fields vs1, ccs1⟩)
    (vf1 : vs1[2]? = some (.str file1 tf1))
    (mf1 : ((l.prog.main.file : Str) == file1) = true)
    (lk1 : K.lookup cc1 = some ⟨cl1, cld1, .cell (some (.ref C1)), csl1⟩)
    (ln1 : (q1_2.endLine == q1_4.line) = true)
    (ga1 : PySem.W.findIn K (.ref C1) "__getattribute__" = some (some (.builtin "BaseException.__getattribute__")))
    (gg1 : PySem.W.findIn K (.ref C1) "__getattr__" = some none)
    (hd1 : PySem.W.hasDictIn K C1 = true)
    (ha1 : PySem.W.findIn K (.ref C1) "__class__" = some (some (.builtin "object.__class__")))
    (mo1 : PySem.W.mroIn K C1 (.type "object") = some true)
    (ic1 : PySem.W.isClsIn K C1 = true)
    (sB1 : PySem.W.subIn K (.ref C1) (.ref CB) = some true)
    {C2 I2 N2 cda2 cc2 : Addr} {nm2 qn2 msg2 file2 : Str} {bs2 sub2 : List Value} {sn2 : List Str} {ab2 : Bool} {col2 : Option Bool} {dd2 od2 an2 cdd2 cld2 : Option Addr} {ka2 kb2 kc2 kd2 ke2 : Option Value}
    {oc2 doc2 pm2 ct2 ccl2 cl2 : Value} {osl2 ccs2 csl2 : Array (Option Value)} {vs2 : Array Value} {tf2 : Tok} {j2 : Nat} {p2_1 p2_2 q2_0 q2_1 q2_2 q2_3 q2_4 q2_5 r2_1 r2_2 r2_3 r2_4 : Pos}
    (aC2 : PySem.W.nsIn K mainGlobals "InvalidCharacter" = some (some (.ref C2)))
    (xL2 : K.lookup C2 = some (excClassObj nm2 qn2 C2 N2 bs2 [.ref CB, .type "ValueError", .type "Exception", .type "BaseException", .type "object"] true sn2 sub2 ab2 col2 dd2 ka2 kb2 kc2 kd2 ke2 "ValueError.__new__"))
    (sa2 : PySem.W.findIn K (.ref C2) "__setattr__" = some (some (.builtin "object.__setattr__")))
    (nv2 : PySem.W.findIn K (.ref C2) "value" = some none)
    (iC2 : PySem.W.findIn K (.ref C2) "__init__" = some (some (.ref I2)))
    (tI2 : PySem.W.typeIn K (.ref I2) = some (.type "function"))
    (kC2 : PySem.W.keepIn K (.ref C2) = true)
    (eC2 : PySem.W.subIn K (.ref C2) (.type "BaseException") = some true)
    (vC2 : PySem.W.subIn K (.ref C2) (.type "ValueError") = some true)
    (tC2 : PySem.W.typeIn K (.ref C2) = some (.type "type"))
    (mC2 : PySem.W.mroIn K C2 (.ref C2) = some true)
    (su2 : PySem.W.ks_superIn K C2 C2 "__init__" = some (some (.builtin "ValueError.__init__")))
    (fI2 : K.lookup I2 = some ⟨oc2, od2, .func (PySem.W.ksFn "__init__" "InvalidCharacter.__init__" (SqX.xA p2_1 p2_2) (SqX.xB msg2 j2 q2_0 q2_1 q2_2 q2_3 q2_4 q2_5 r2_1 r2_2 r2_3 r2_4) SqX.xS .none .none doc2 pm2 an2 (.ref cda2) ct2 cc2), osl2⟩)
    (cI2 : PySem.W.codeIn K (.ref cda2) "InvalidCharacter.__init__" = true)
    (lc2 : K.lookup cda2 = some ⟨ccl2, cdd2, .fields vs2, ccs2⟩)
    (vf2 : vs2[2]? = some (.str file2 tf2))
    (mf2 : ((l.prog.main.file : Str) == file2) = true)
    (lk2 : K.lookup cc2 = some ⟨cl2, cld2, .cell (some (.ref C2)), csl2⟩)
    (ln2 : (q2_2.endLine == q2_4.line) = true)
    (ga2 : PySem.W.findIn K (.ref C2) "__getattribute__" = some (some (.builtin "BaseException.__getattribute__")))
    (gg2 : PySem.W.findIn K (.ref C2) "__getattr__" = some none)
    (hd2 : PySem.W.hasDictIn K C2 = true)
    (ha2 : PySem.W.findIn K (.ref C2) "__class__" = some (some (.builtin "object.__class__")))
    (mo2 : PySem.W.mroIn K C2 (.type "object") = some true)
    (ic2 : PySem.W.isClsIn K C2 = true)
    (sB2 : PySem.W.subIn K (.ref C2) (.ref CB) = some true)
    {C3 I3 N3 cda3 cc3 : Addr} {nm3 qn3 msg3 file3 : Str} {bs3 sub3 : List Value} {sn3 : List Str} {ab3 : Bool} {col3 : Option Bool} {dd3 od3 an3 cdd3 cld3 : Option Addr} {ka3 kb3 kc3 kd3 ke3 : Option Value}
    {oc3 doc3 pm3 ct3 ccl3 cl3 : Value} {osl3 ccs3 csl3 : Array (Option Value)} {vs3 : Array Value} {tf3 : Tok} {j3 : Nat} {p3_1 p3_2 q3_0 q3_1 q3_2 q3_3 q3_4 q3_5 r3_1 r3_2 r3_3 r3_4 : Pos}
    (aC3 : PySem.W.nsIn K mainGlobals "NothingToUndo" = some (some (.ref C3)))
    (xL3 : K.lookup C3 = some (excClassObj nm3 qn3 C3 N3 bs3 [.ref CB, .type "ValueError", .type "Exception", .type "BaseException", .type "object"] true sn3 sub3 ab3 col3 dd3 ka3 kb3 kc3 kd3 ke3 "ValueError.__new__"))
    (sa3 : PySem.W.findIn K (.ref C3) "__setattr__" = some (some (.builtin "object.__setattr__")))
    (nv3 : PySem.W.findIn K (.ref C3) "value" = some none)
    (iC3 : PySem.W.findIn K (.ref C3) "__init__" = some (some (.ref I3)))
    (tI3 : PySem.W.typeIn K (.ref I3) = some (.type "function"))
    (kC3 : PySem.W.keepIn K (.ref C3) = true)
    (eC3 : PySem.W.subIn K (.ref C3) (.type "BaseException") = some true)
    (vC3 : PySem.W.subIn K (.ref C3) (.type "ValueError") = some true)
    (tC3 : PySem.W.typeIn K (.ref C3) = some (.type "type"))
    (mC3 : PySem.W.mroIn K C3 (.ref C3) = some true)
    (su3 : PySem.W.ks_superIn K C3 C3 "__init__" = some (some (.builtin "ValueError.__init__")))
    (fI3 : K.lookup I3 = some ⟨oc3, od3, .func (PySem.W.ksFn "__init__" "NothingToUndo.__init__" (SqX.xA p3_1 p3_2) (SqX.xB msg3 j3 q3_0 q3_1 q3_2 q3_3 q3_4 q3_5 r3_1 r3_2 r3_3 r3_4) SqX.xS .none .none doc3 pm3 an3 (.ref cda3) ct3 cc3), osl3⟩)
    (cI3 : PySem.W.codeIn K (.ref cda3) "NothingToUndo.__init__" = true)
    (lc3 : K.lookup cda3 = some ⟨ccl3, cdd3, .fields vs3, ccs3⟩)
    (vf3 : vs3[2]? = some (.str file3 tf3))
    (mf3 : ((l.prog.main.file : Str) == file3) = true)
    (lk3 : K.lookup cc3 = some ⟨cl3, cld3, .cell (some (.ref C3)), csl3⟩)
    (ln3 : (q3_2.endLine == q3_4.line) = true)
    (ga3 : PySem.W.findIn K (.ref C3) "__getattribute__" = some (some (.builtin "BaseException.__getattribute__")))
    (gg3 : PySem.W.findIn K (.ref C3) "__getattr__" = some none)
    (hd3 : PySem.W.hasDictIn K C3 = true)
    (ha3 : PySem.W.findIn K (.ref C3) "__class__" = some (some (.builtin "object.__class__")))
    (mo3 : PySem.W.mroIn K C3 (.type "object") = some true)
    (ic3 : PySem.W.isClsIn K C3 = true)
    (sB3 : PySem.W.subIn K (.ref C3) (.ref CB) = some true)
    {C4 I4 N4 cda4 cc4 : Addr} {nm4 qn4 msg4 file4 : Str} {bs4 sub4 : List Value} {sn4 : List Str} {ab4 : Bool} {col4 : Option Bool} {dd4 od4 an4 cdd4 cld4 : Option Addr} {ka4 kb4 kc4 kd4 ke4 : Option Value}
    {oc4 doc4 pm4 ct4 ccl4 cl4 : Value} {osl4 ccs4 csl4 : Array (Option Value)} {vs4 : Array Value} {tf4 : Tok} {j4 : Nat} {p4_1 p4_2 q4_0 q4_1 q4_2 q4_3 q4_4 q4_5 r4_1 r4_2 r4_3 r4_4 : Pos}
    (aC4 : PySem.W.nsIn K mainGlobals "Unreadable" = some (some (.ref C4)))
    (xL4 : K.lookup C4 = some (excClassObj nm4 qn4 C4 N4 bs4 [.ref CB, .type "ValueError", .type "Exception", .type "BaseException", .type "object"] true sn4 sub4 ab4 col4 dd4 ka4 kb4 kc4 kd4 ke4 "ValueError.__new__"))
    (sa4 : PySem.W.findIn K (.ref C4) "__setattr__" = some (some (.builtin "object.__setattr__")))
    (nv4 : PySem.W.findIn K (.ref C4) "value" = some none)
    (iC4 : PySem.W.findIn K (.ref C4) "__init__" = some (some (.ref I4)))
    (tI4 : PySem.W.typeIn K (.ref I4) = some (.type "function"))
    (kC4 : PySem.W.keepIn K (.ref C4) = true)
    (eC4 : PySem.W.subIn K (.ref C4) (.type "BaseException") = some true)
    (vC4 : PySem.W.subIn K (.ref C4) (.type "ValueError") = some true)
    (tC4 : PySem.W.typeIn K (.ref C4) = some (.type "type"))
    (mC4 : PySem.W.mroIn K C4 (.ref C4) = some true)
    (su4 : PySem.W.ks_superIn K C4 C4 "__init__" = some (some (.builtin "ValueError.__init__")))
    (fI4 : K.lookup I4 = some ⟨oc4, od4, .func (PySem.W.ksFn "__init__" "Unreadable.__init__" (SqX.xA p4_1 p4_2) (SqX.xB msg4 j4 q4_0 q4_1 q4_2 q4_3 q4_4 q4_5 r4_1 r4_2 r4_3 r4_4) SqX.xS .none .none doc4 pm4 an4 (.ref cda4) ct4 cc4), osl4⟩)
    (cI4 : PySem.W.codeIn K (.ref cda4) "Unreadable.__init__" = true)
    (lc4 : K.lookup cda4 = some ⟨ccl4, cdd4, .fields vs4, ccs4⟩)
    (vf4 : vs4[2]? = some (.str file4 tf4))
    (mf4 : ((l.prog.main.file : Str) == file4) = true)
    (lk4 : K.lookup cc4 = some ⟨cl4, cld4, .cell (some (.ref C4)), csl4⟩)
    (ln4 : (q4_2.endLine == q4_4.line) = true)
    (ga4 : PySem.W.findIn K (.ref C4) "__getattribute__" = some (some (.builtin "BaseException.__getattribute__")))
    (gg4 : PySem.W.findIn K (.ref C4) "__getattr__" = some none)
    (hd4 : PySem.W.hasDictIn K C4 = true)
    (ha4 : PySem.W.findIn K (.ref C4) "__class__" = some (some (.builtin "object.__class__")))
    (mo4 : PySem.W.mroIn K C4 (.type "object") = some true)
    (ic4 : PySem.W.isClsIn K C4 = true)
    (sB4 : PySem.W.subIn K (.ref C4) (.ref CB) = some true)
    (s0_0 : PySem.W.subIn K (.ref C0) (.ref C0) = some true)
    (s0_1 : PySem.W.subIn K (.ref C0) (.ref C1) = some false)
    (s0_2 : PySem.W.subIn K (.ref C0) (.ref C2) = some false)
    (s0_3 : PySem.W.subIn K (.ref C0) (.ref C3) = some false)
    (s0_4 : PySem.W.subIn K (.ref C0) (.ref C4) = some false)
    (s1_0 : PySem.W.subIn K (.ref C1) (.ref C0) = some false)
    (s1_1 : PySem.W.subIn K (.ref C1) (.ref C1) = some true)
    (s1_2 : PySem.W.subIn K (.ref C1) (.ref C2) = some false)
    (s1_3 : PySem.W.subIn K (.ref C1) (.ref C3) = some false)
    (s1_4 : PySem.W.subIn K (.ref C1) (.ref C4) = some false)
    (s2_0 : PySem.W.subIn K (.ref C2) (.ref C0) = some false)
    (s2_1 : PySem.W.subIn K (.ref C2) (.ref C1) = some false)
    (s2_2 : PySem.W.subIn K (.ref C2) (.ref C2) = some true)
    (s2_3 : PySem.W.subIn K (.ref C2) (.ref C3) = some false)
    (s2_4 : PySem.W.subIn K (.ref C2) (.ref C4) = some false)
    (s3_0 : PySem.W.subIn K (.ref C3) (.ref C0) = some false)
    (s3_1 : PySem.W.subIn K (.ref C3) (.ref C1) = some false)
    (s3_2 : PySem.W.subIn K (.ref C3) (.ref C2) = some false)
    (s3_3 : PySem.W.subIn K (.ref C3) (.ref C3) = some true)
    (s3_4 : PySem.W.subIn K (.ref C3) (.ref C4) = some false)
    (s4_0 : PySem.W.subIn K (.ref C4) (.ref C0) = some false)
    (s4_1 : PySem.W.subIn K (.ref C4) (.ref C1) = some false)
    (s4_2 : PySem.W.subIn K (.ref C4) (.ref C2) = some false)
    (s4_3 : PySem.W.subIn K (.ref C4) (.ref C3) = some false)
    (s4_4 : PySem.W.subIn K (.ref C4) (.ref C4) = some true)
    (eCB : PySem.W.subIn K (.ref CB) (.type "BaseException") = some true) (hdB : PySem.W.hasDictIn K CB = true)
    (st0 : PySem.W.subIn K (.ref C0) (.type "StopIteration") = some false)
    (st1 : PySem.W.subIn K (.ref C1) (.type "StopIteration") = some false)
    (st2 : PySem.W.subIn K (.ref C2) (.type "StopIteration") = some false)
    (st3 : PySem.W.subIn K (.ref C3) (.type "StopIteration") = some false)
    (st4 : PySem.W.subIn K (.ref C4) (.type "StopIteration") = some false)
    : ∃ fd : FuncData, (∀ (s : Shared) (v : Value), BindsTo s fd ⟨[v], []⟩ [("script", v)]) ∧ ∀ base : Heap, K.In base → base.Ns mainGlobals mg → Top l.prog w K mg base 6 fa fd "script" (spLaw K) := by
  have e := hfa.symm.trans (PySem.W.mg_of X G a_law)
  cases e
  have B : Bi mg := ⟨PySem.W.mg_none_of X G z_len, PySem.W.mg_none_of X G z_min, PySem.W.mg_none_of X G z_max, PySem.W.mg_none_of X G z_abs, PySem.W.mg_none_of X G z_range, PySem.W.mg_none_of X G z_isinstance, PySem.W.mg_none_of X G z_repr, PySem.W.mg_none_of X G z_enumerate, PySem.W.mg_none_of X G z_reversed, PySem.W.mg_none_of X G z_sorted, PySem.W.mg_none_of X G z_bool, PySem.W.mg_none_of X G z_int, PySem.W.mg_none_of X G z_str, PySem.W.mg_none_of X G z_list, PySem.W.mg_none_of X G z_tuple, PySem.W.mg_none_of X G z_set, PySem.W.mg_none_of X G z_sum, PySem.W.mg_none_of X G z_zip, PySem.W.mg_none_of X G z_all, PySem.W.mg_none_of X G z_any, PySem.W.mg_none_of X G z_ValueError, PySem.W.mg_none_of X G z_divmod⟩
  have F_checklist := fun_mk (st := s_checklist) l_checklist c_checklist k_checklist
  have b_checklist := F_checklist.binds (ps := ["replacements"]) fun _ _ _ _ _ _ us hl => match us, hl with | [_], _ => rfl
  have g_checklist := PySem.W.mg_of X G a_checklist
  have F_checknumber := fun_mk (st := s_checknumber) l_checknumber c_checknumber k_checknumber
  have b_checknumber := F_checknumber.binds (ps := ["number", "least"]) fun _ _ _ _ _ _ us hl => match us, hl with | [_, _], _ => rfl
  have g_checknumber := PySem.W.mg_of X G a_checknumber
  have F_greatestorigin := fun_mk (st := s_greatestorigin) l_greatestorigin c_greatestorigin k_greatestorigin
  have b_greatestorigin := F_greatestorigin.binds (ps := ["length", "replacements"]) fun _ _ _ _ _ _ us hl => match us, hl with | [_, _], _ => rfl
  have g_greatestorigin := PySem.W.mg_of X G a_greatestorigin
  have F_origins := fun_mk (st := s_origins) l_origins c_origins k_origins
  have b_origins := F_origins.binds (ps := ["length", "replacements"]) fun _ _ _ _ _ _ us hl => match us, hl with | [_, _], _ => rfl
  have g_origins := PySem.W.mg_of X G a_origins
  have F_countorigins := fun_mk (st := s_countorigins) l_countorigins c_countorigins k_countorigins
  have b_countorigins := F_countorigins.binds (ps := ["length", "replacements", "last"]) fun _ _ _ _ _ _ us hl => match us, hl with | [_, _, _], _ => rfl
  have g_countorigins := PySem.W.mg_of X G a_countorigins
  have F_manyforone := fun_mk (st := s_manyforone) l_manyforone c_manyforone k_manyforone
  have b_manyforone := F_manyforone.binds (ps := ["length", "number"]) fun _ _ _ _ _ _ us hl => match us, hl with | [_, _], _ => rfl
  have g_manyforone := PySem.W.mg_of X G a_manyforone
  have F_originsforone := fun_mk (st := s_originsforone) l_originsforone c_originsforone k_originsforone
  have b_originsforone := F_originsforone.binds (ps := ["length", "number"]) fun _ _ _ _ _ _ us hl => match us, hl with | [_, _], _ => rfl
  have g_originsforone := PySem.W.mg_of X G a_originsforone
  have F_limitsafter := fun_mk (st := s_limitsafter) l_limitsafter c_limitsafter k_limitsafter
  have b_limitsafter := F_limitsafter.binds (ps := ["limits", "number"]) fun _ _ _ _ _ _ us hl => match us, hl with | [_, _], _ => rfl
  have g_limitsafter := PySem.W.mg_of X G a_limitsafter
  have F_reach : FunD K "reach" "reach" (defArgs s_reach) (defBody s_reach) (defScope s_reach) [.int 1] [] f_reach _ := ⟨⟨_, _, _, _, _, _, _, _, _, _, rfl, l_reach, c_reach, .inr ⟨by simp, T_reach, _, _, _, rfl, lT_reach, rfl, .cons ⟨_, rfl⟩ (.nil)⟩, .inl rfl⟩, k_reach⟩
  have g_reach := PySem.W.mg_of X G a_reach
  have F_bestreach : FunD K "best_reach" "best_reach" (defArgs s_bestreach) (defBody s_bestreach) (defScope s_bestreach) [.int 1] [] f_bestreach _ := ⟨⟨_, _, _, _, _, _, _, _, _, _, rfl, l_bestreach, c_bestreach, .inr ⟨by simp, T_bestreach, _, _, _, rfl, lT_bestreach, rfl, .cons ⟨_, rfl⟩ (.nil)⟩, .inl rfl⟩, k_bestreach⟩
  have g_bestreach := PySem.W.mg_of X G a_bestreach
  have F_feweststeps : FunD K "fewest_steps" "fewest_steps" (defArgs s_feweststeps) (defBody s_feweststeps) (defScope s_feweststeps) [.int 1] [] f_feweststeps _ := ⟨⟨_, _, _, _, _, _, _, _, _, _, rfl, l_feweststeps, c_feweststeps, .inr ⟨by simp, T_feweststeps, _, _, _, rfl, lT_feweststeps, rfl, .cons ⟨_, rfl⟩ (.nil)⟩, .inl rfl⟩, k_feweststeps⟩
  have g_feweststeps := PySem.W.mg_of X G a_feweststeps
  have F_bestlists : FunD K "best_lists" "best_lists" (defArgs s_bestlists) (defBody s_bestlists) (defScope s_bestlists) [.int 1] [] f_bestlists _ := ⟨⟨_, _, _, _, _, _, _, _, _, _, rfl, l_bestlists, c_bestlists, .inr ⟨by simp, T_bestlists, _, _, _, rfl, lT_bestlists, rfl, .cons ⟨_, rfl⟩ (.nil)⟩, .inl rfl⟩, k_bestlists⟩
  have g_bestlists := PySem.W.mg_of X G a_bestlists
  have F_reachwith := fun_mk (st := s_reachwith) l_reachwith c_reachwith k_reachwith
  have b_reachwith := F_reachwith.binds (ps := ["number", "longest"]) fun _ _ _ _ _ _ us hl => match us, hl with | [_, _], _ => rfl
  have g_reachwith := PySem.W.mg_of X G a_reachwith
  have F_bestnumbers := fun_mk (st := s_bestnumbers) l_bestnumbers c_bestnumbers k_bestnumbers
  have b_bestnumbers := F_bestnumbers.binds (ps := ["longest"]) fun _ _ _ _ _ _ us hl => match us, hl with | [_], _ => rfl
  have g_bestnumbers := PySem.W.mg_of X G a_bestnumbers
  have F_greatestreachwithone := fun_mk (st := s_greatestreachwithone) l_greatestreachwithone c_greatestreachwithone k_greatestreachwithone
  have b_greatestreachwithone := F_greatestreachwithone.binds (ps := ["longest"]) fun _ _ _ _ _ _ us hl => match us, hl with | [_], _ => rfl
  have g_greatestreachwithone := PySem.W.mg_of X G a_greatestreachwithone
  have F_bestchoices := fun_mk (st := s_bestchoices) l_bestchoices c_bestchoices k_bestchoices
  have b_bestchoices := F_bestchoices.binds (ps := ["steps", "most"]) fun _ _ _ _ _ _ us hl => match us, hl with | [_, _], _ => rfl
  have g_bestchoices := PySem.W.mg_of X G a_bestchoices
  have F_listat := fun_mk (st := s_listat) l_listat c_listat k_listat
  have b_listat := F_listat.binds (ps := ["choices", "place"]) fun _ _ _ _ _ _ us hl => match us, hl with | [_, _], _ => rfl
  have g_listat := PySem.W.mg_of X G a_listat
  have F_lawsource := fun_mk (st := s_lawsource) l_lawsource c_lawsource k_lawsource
  have b_lawsource := F_lawsource.binds (ps := ["script"]) fun _ _ _ _ _ _ us hl => match us, hl with | [_], _ => rfl
  have g_lawsource := PySem.W.mg_of X G a_lawsource
  have F_lawdraw := fun_mk (st := s_lawdraw) l_lawdraw c_lawdraw k_lawdraw
  have b_lawdraw := F_lawdraw.binds (ps := ["source", "many"]) fun _ _ _ _ _ _ us hl => match us, hl with | [_, _], _ => rfl
  have g_lawdraw := PySem.W.mg_of X G a_lawdraw
  have F_lawsame := fun_mk (st := s_lawsame) l_lawsame c_lawsame k_lawsame
  have b_lawsame := F_lawsame.binds (ps := ["found", "wanted"]) fun _ _ _ _ _ _ us hl => match us, hl with | [_, _], _ => rfl
  have g_lawsame := PySem.W.mg_of X G a_lawsame
  have F_lawrow := fun_mk (st := s_lawrow) l_lawrow c_lawrow k_lawrow
  have b_lawrow := F_lawrow.binds (ps := ["source", "many", "wide"]) fun _ _ _ _ _ _ us hl => match us, hl with | [_, _, _], _ => rfl
  have g_lawrow := PySem.W.mg_of X G a_lawrow
  have F_lawerror := fun_mk (st := s_lawerror) l_lawerror c_lawerror k_lawerror
  have b_lawerror := F_lawerror.binds (ps := ["e"]) fun _ _ _ _ _ _ us hl => match us, hl with | [_], _ => rfl
  have g_lawerror := PySem.W.mg_of X G a_lawerror
  have F_lawspoilt := fun_mk (st := s_lawspoilt) l_lawspoilt c_lawspoilt k_lawspoilt
  have b_lawspoilt := F_lawspoilt.binds (ps := ["source", "row"]) fun _ _ _ _ _ _ us hl => match us, hl with | [_, _], _ => rfl
  have g_lawspoilt := PySem.W.mg_of X G a_lawspoilt
  have F_lawraised := fun_mk (st := s_lawraised) l_lawraised c_lawraised k_lawraised
  have b_lawraised := F_lawraised.binds (ps := ["door", "row", "some"]) fun _ _ _ _ _ _ us hl => match us, hl with | [_, _, _], _ => rfl
  have g_lawraised := PySem.W.mg_of X G a_lawraised
  have F_lawdue := fun_mk (st := s_lawdue) l_lawdue c_lawdue k_lawdue
  have b_lawdue := F_lawdue.binds (ps := ["checks"]) fun _ _ _ _ _ _ us hl => match us, hl with | [_], _ => rfl
  have g_lawdue := PySem.W.mg_of X G a_lawdue
  have F_law := fun_mk (st := s_law) l_law c_law k_law
  exact ⟨_, fun s v => .of_eq rfl, fun base _ _ => by
    have bmV : PySem.HandSPX.refsVE [.ref CB, .type "ValueError", .type "Exception", .type "BaseException", .type "object"] = true := (show PySem.HandSPX.refsVE [.type "ValueError", .type "Exception", .type "BaseException", .type "object"] = true by decide +kernel)
    have neB : ∀ C : Addr, PySem.W.subIn K (.ref C) (.ref CB) = some true → C = CB → true = true := fun _ _ _ => rfl
    have Er0 : SqX.Er K l.prog C0 I0 "InvalidList.__init__" := ⟨⟨_, _, _, _, _, _, _, _, _, _, _, _, _, _, _, xL0, bmV⟩, sa0, nv0, iC0, tI0, kC0, eC0, vC0, tC0, mC0, su0, third, zSup, hTop, ⟨_, _, _, _, _, _, _, _, _, _, _, _, _, _, _, _, _, _, _, _, _, _, _, _, _, _, _, _, _, _, _, _, fI0, cI0, lc0, vf0, mf0, lk0, ln0⟩⟩
    have Ex0 : ExcC K C0 := ⟨ga0, gg0, eC0, hd0, ha0, spC, tkC, mo0⟩
    have Xf0 : XfC K C0 := ⟨ga0, gg0, eC0, hd0⟩
    have Er1 : SqX.Er K l.prog C1 I1 "InvalidNumber.__init__" := ⟨⟨_, _, _, _, _, _, _, _, _, _, _, _, _, _, _, xL1, bmV⟩, sa1, nv1, iC1, tI1, kC1, eC1, vC1, tC1, mC1, su1, third, zSup, hTop, ⟨_, _, _, _, _, _, _, _, _, _, _, _, _, _, _, _, _, _, _, _, _, _, _, _, _, _, _, _, _, _, _, _, fI1, cI1, lc1, vf1, mf1, lk1, ln1⟩⟩
    have Ex1 : ExcC K C1 := ⟨ga1, gg1, eC1, hd1, ha1, spC, tkC, mo1⟩
    have Xf1 : XfC K C1 := ⟨ga1, gg1, eC1, hd1⟩
    have Er2 : SqX.Er K l.prog C2 I2 "InvalidCharacter.__init__" := ⟨⟨_, _, _, _, _, _, _, _, _, _, _, _, _, _, _, xL2, bmV⟩, sa2, nv2, iC2, tI2, kC2, eC2, vC2, tC2, mC2, su2, third, zSup, hTop, ⟨_, _, _, _, _, _, _, _, _, _, _, _, _, _, _, _, _, _, _, _, _, _, _, _, _, _, _, _, _, _, _, _, fI2, cI2, lc2, vf2, mf2, lk2, ln2⟩⟩
    have Ex2 : ExcC K C2 := ⟨ga2, gg2, eC2, hd2, ha2, spC, tkC, mo2⟩
    have Xf2 : XfC K C2 := ⟨ga2, gg2, eC2, hd2⟩
    have Er3 : SqX.Er K l.prog C3 I3 "NothingToUndo.__init__" := ⟨⟨_, _, _, _, _, _, _, _, _, _, _, _, _, _, _, xL3, bmV⟩, sa3, nv3, iC3, tI3, kC3, eC3, vC3, tC3, mC3, su3, third, zSup, hTop, ⟨_, _, _, _, _, _, _, _, _, _, _, _, _, _, _, _, _, _, _, _, _, _, _, _, _, _, _, _, _, _, _, _, fI3, cI3, lc3, vf3, mf3, lk3, ln3⟩⟩
    have Ex3 : ExcC K C3 := ⟨ga3, gg3, eC3, hd3, ha3, spC, tkC, mo3⟩
    have Xf3 : XfC K C3 := ⟨ga3, gg3, eC3, hd3⟩
    have Er4 : SqX.Er K l.prog C4 I4 "Unreadable.__init__" := ⟨⟨_, _, _, _, _, _, _, _, _, _, _, _, _, _, _, xL4, bmV⟩, sa4, nv4, iC4, tI4, kC4, eC4, vC4, tC4, mC4, su4, third, zSup, hTop, ⟨_, _, _, _, _, _, _, _, _, _, _, _, _, _, _, _, _, _, _, _, _, _, _, _, _, _, _, _, _, _, _, _, fI4, cI4, lc4, vf4, mf4, lk4, ln4⟩⟩
    have Ex4 : ExcC K C4 := ⟨ga4, gg4, eC4, hd4, ha4, spC, tkC, mo4⟩
    have Xf4 : XfC K C4 := ⟨ga4, gg4, eC4, hd4⟩
    have ne : ∀ {i j : Nat} {A B : Addr}, PySem.W.subIn K (.ref A) (.ref A) = some true → PySem.W.subIn K (.ref A) (.ref B) = some false → A = B → false = true := fun a b e => by subst e; rw [a] at b; cases b
    have Z : Errs l.prog K mg (fun n => [C0, C1, C2, C3, C4].getD n C0) (fun n => [I0, I1, I2, I3, I4].getD n I0) (fun n => (["InvalidList.__init__", "InvalidNumber.__init__", "InvalidCharacter.__init__", "NothingToUndo.__init__", "Unreadable.__init__"] : List Str).getD n "InvalidList.__init__") CB := {
      er := fun n hn => match n, hn with | 0, _ => ⟨trivial, Er0⟩ | 1, _ => ⟨trivial, Er1⟩ | 2, _ => ⟨trivial, Er2⟩ | 3, _ => ⟨trivial, Er3⟩ | 4, _ => ⟨trivial, Er4⟩
      g0 := PySem.W.mg_of X G aC0
      g1 := PySem.W.mg_of X G aC1
      g2 := PySem.W.mg_of X G aC2
      g3 := PySem.W.mg_of X G aC3
      g4 := PySem.W.mg_of X G aC4
      g5 := PySem.W.mg_of X G aCB
      is := fun n m hn hm => match n, m, hn, hm with | 0, 0, _, _ => kit_own ic0 tC0 s0_0 (fun _ => rfl) | 0, 1, _, _ => kit_own ic1 tC1 s0_1 (ne (i := 0) (j := 0) s0_0 s0_1) | 0, 2, _, _ => kit_own ic2 tC2 s0_2 (ne (i := 0) (j := 0) s0_0 s0_2) | 0, 3, _, _ => kit_own ic3 tC3 s0_3 (ne (i := 0) (j := 0) s0_0 s0_3) | 0, 4, _, _ => kit_own ic4 tC4 s0_4 (ne (i := 0) (j := 0) s0_0 s0_4) | 1, 0, _, _ => kit_own ic0 tC0 s1_0 (ne (i := 0) (j := 0) s1_1 s1_0) | 1, 1, _, _ => kit_own ic1 tC1 s1_1 (fun _ => rfl) | 1, 2, _, _ => kit_own ic2 tC2 s1_2 (ne (i := 0) (j := 0) s1_1 s1_2) | 1, 3, _, _ => kit_own ic3 tC3 s1_3 (ne (i := 0) (j := 0) s1_1 s1_3) | 1, 4, _, _ => kit_own ic4 tC4 s1_4 (ne (i := 0) (j := 0) s1_1 s1_4) | 2, 0, _, _ => kit_own ic0 tC0 s2_0 (ne (i := 0) (j := 0) s2_2 s2_0) | 2, 1, _, _ => kit_own ic1 tC1 s2_1 (ne (i := 0) (j := 0) s2_2 s2_1) | 2, 2, _, _ => kit_own ic2 tC2 s2_2 (fun _ => rfl) | 2, 3, _, _ => kit_own ic3 tC3 s2_3 (ne (i := 0) (j := 0) s2_2 s2_3) | 2, 4, _, _ => kit_own ic4 tC4 s2_4 (ne (i := 0) (j := 0) s2_2 s2_4) | 3, 0, _, _ => kit_own ic0 tC0 s3_0 (ne (i := 0) (j := 0) s3_3 s3_0) | 3, 1, _, _ => kit_own ic1 tC1 s3_1 (ne (i := 0) (j := 0) s3_3 s3_1) | 3, 2, _, _ => kit_own ic2 tC2 s3_2 (ne (i := 0) (j := 0) s3_3 s3_2) | 3, 3, _, _ => kit_own ic3 tC3 s3_3 (fun _ => rfl) | 3, 4, _, _ => kit_own ic4 tC4 s3_4 (ne (i := 0) (j := 0) s3_3 s3_4) | 4, 0, _, _ => kit_own ic0 tC0 s4_0 (ne (i := 0) (j := 0) s4_4 s4_0) | 4, 1, _, _ => kit_own ic1 tC1 s4_1 (ne (i := 0) (j := 0) s4_4 s4_1) | 4, 2, _, _ => kit_own ic2 tC2 s4_2 (ne (i := 0) (j := 0) s4_4 s4_2) | 4, 3, _, _ => kit_own ic3 tC3 s4_3 (ne (i := 0) (j := 0) s4_4 s4_3) | 4, 4, _, _ => kit_own ic4 tC4 s4_4 (fun _ => rfl)
      isB := fun n hn => match n, hn with | 0, _ => kit_own iCB tCB sB0 (fun _ => rfl) | 1, _ => kit_own iCB tCB sB1 (fun _ => rfl) | 2, _ => kit_own iCB tCB sB2 (fun _ => rfl) | 3, _ => kit_own iCB tCB sB3 (fun _ => rfl) | 4, _ => kit_own iCB tCB sB4 (fun _ => rfl)
      isV := fun n hn => match n, hn with | 0, _ => kit_base (by decide +kernel) vC0 | 1, _ => kit_base (by decide +kernel) vC1 | 2, _ => kit_base (by decide +kernel) vC2 | 3, _ => kit_base (by decide +kernel) vC3 | 4, _ => kit_base (by decide +kernel) vC4
      ex := fun n hn => match n, hn with | 0, _ => Ex0 | 1, _ => Ex1 | 2, _ => Ex2 | 3, _ => Ex3 | 4, _ => Ex4
      xf := fun n hn => match n, hn with | 0, _ => Xf0 | 1, _ => Xf1 | 2, _ => Xf2 | 3, _ => Xf3 | 4, _ => Xf4 }
    have Z2 : Errs2 K (fun n => [C0, C1, C2, C3, C4].getD n C0) CB := {
      ma := fun n hn => match n, hn with | 0, _ => PySem.W.exm_ref eCB hdB tCB sB0 | 1, _ => PySem.W.exm_ref eCB hdB tCB sB1 | 2, _ => PySem.W.exm_ref eCB hdB tCB sB2 | 3, _ => PySem.W.exm_ref eCB hdB tCB sB3 | 4, _ => PySem.W.exm_ref eCB hdB tCB sB4
      st := fun n hn => match n, hn with | 0, _ => st0 | 1, _ => st1 | 2, _ => st2 | 3, _ => st3 | 4, _ => st4
      nv := fun n hn => match n, hn with | 0, _ => nv0 | 1, _ => nv1 | 2, _ => nv2 | 3, _ => nv3 | 4, _ => nv4 }
    have X_checknumber : Dn l.prog w K mg base 1 "check_number" ["number", "least"] (spCheckNumber (fun n => [C0, C1, C2, C3, C4].getD n C0)) := .mk' F_checknumber (ok_checknumber F_checknumber Z) g_checknumber b_checknumber
    have X_checklist : Dn l.prog w K mg base 1 "check_list" ["replacements"] (spCheckList K (fun n => [C0, C1, C2, C3, C4].getD n C0)) := .mk' F_checklist (ok_checklist F_checklist B Z) g_checklist b_checklist
    have X_greatestorigin : Dn l.prog w K mg base 2 "greatest_origin" ["length", "replacements"] (spGreat K (fun n => [C0, C1, C2, C3, C4].getD n C0)) := .mk' F_greatestorigin (ok_greatestorigin F_greatestorigin X_checknumber X_checklist) g_greatestorigin b_greatestorigin
    have D_reachwith : Df l.prog w K mg base 1 "reach_with" ["number", "longest"] spReachWith := .mk' F_reachwith (ok_reachwith F_reachwith) g_reachwith b_reachwith
    have D_bestnumbers : Df l.prog w K mg base 1 "best_numbers" ["longest"] spBestNumbers := .mk' F_bestnumbers (ok_bestnumbers F_bestnumbers) g_bestnumbers b_bestnumbers
    have D_grow : Df l.prog w K mg base 2 "greatest_reach_with_one" ["longest"] spGrow := .mk' F_greatestreachwithone (ok_grow F_greatestreachwithone D_reachwith D_bestnumbers) g_greatestreachwithone b_greatestreachwithone
    have X_reach : Dn l.prog w K mg base 2 "reach" ["replacements", "most"] (spReach K (fun n => [C0, C1, C2, C3, C4].getD n C0)) := both_x F_reach (ok_reach F_reach B X_checklist X_checknumber D_reachwith) g_reach (reach_b F_reach)
    have X_bestreach : Dn l.prog w K mg base 3 "best_reach" ["steps", "most"] (spBestReach (fun n => [C0, C1, C2, C3, C4].getD n C0)) := both_x F_bestreach (ok_bestreach F_bestreach B X_checknumber D_grow) g_bestreach (bestreach_b F_bestreach)
    have X_feweststeps : Dn l.prog w K mg base 3 "fewest_steps" ["length", "most"] (spFewest (fun n => [C0, C1, C2, C3, C4].getD n C0)) := both_x F_feweststeps (ok_feweststeps F_feweststeps B X_checknumber D_grow) g_feweststeps (fewest_b F_feweststeps)
    have D_bestchoices : Df l.prog w K mg base 3 "best_choices" ["steps", "most"] spBestChoices := .mk' F_bestchoices (ok_bestchoices F_bestchoices B D_bestnumbers D_grow) g_bestchoices b_bestchoices
    have D_listat : Df l.prog w K mg base 1 "list_at" ["choices", "place"] spListAt := .mk' F_listat (ok_listat F_listat B) g_listat b_listat
    have L_bestlists : Dl l.prog w K mg base 4 "best_lists" ["steps", "most"] (spBestL (fun n => [C0, C1, C2, C3, C4].getD n C0)) := ⟨⟨_, _, ok_bestlists F_bestlists B X_checknumber D_bestchoices D_listat, g_bestlists, F_bestlists.kp, bestlists_b F_bestlists⟩⟩
    have D_manyforone : Df l.prog w K mg base 1 "many_for_one" ["length", "number"] spMany := .mk' F_manyforone (ok_many F_manyforone B) g_manyforone b_manyforone
    have D_originsforone : Df l.prog w K mg base 2 "origins_for_one" ["length", "number"] spOne := .mk' F_originsforone (ok_one F_originsforone B D_manyforone) g_originsforone b_originsforone
    have L_origins : Dl l.prog w K mg base 3 "origins" ["length", "replacements"] (spOriginsL K (fun n => [C0, C1, C2, C3, C4].getD n C0)) := ⟨⟨_, _, ok_origins F_origins B X_checknumber X_checklist D_originsforone, g_origins, F_origins.kp, b_origins⟩⟩
    have D_limitsafter : Df l.prog w K mg base 1 "limits_after" ["limits", "number"] spLimits := .mk' F_limitsafter (ok_limits F_limitsafter B) g_limitsafter b_limitsafter
    have X_countorigins : Dn l.prog w K mg base 2 "count_origins" ["length", "replacements", "last"] (spCount K (fun n => [C0, C1, C2, C3, C4].getD n C0)) := .mk' F_countorigins (ok_count F_countorigins B X_checknumber X_checklist D_limitsafter) g_countorigins b_countorigins
    have D_lawsource : Df l.prog w K mg base 1 "_law_source" ["script"] (spSource K) := .mk' F_lawsource (ok_lawsource F_lawsource B) g_lawsource b_lawsource
    have D_lawdraw : Df l.prog w K mg base 1 "_law_draw" ["source", "many"] spDraw := .mk' F_lawdraw (ok_lawdraw F_lawdraw) g_lawdraw b_lawdraw
    have D_lawrow : Df l.prog w K mg base 2 "_law_row" ["source", "many", "wide"] spRow := .mk' F_lawrow (ok_lawrow F_lawrow B D_lawdraw) g_lawrow b_lawrow
    have D_lawspoilt : Df l.prog w K mg base 2 "_law_spoilt" ["source", "row"] (spSpoilt K) := .mk' F_lawspoilt (ok_lawspoilt F_lawspoilt B D_lawdraw) g_lawspoilt b_lawspoilt
    have D_lawdue : Df l.prog w K mg base 1 "_law_due" ["checks"] (spDue K) := .mk' F_lawdue (ok_lawdue F_lawdue B) g_lawdue b_lawdue
    have Z_lawerror : Dz l.prog w K mg base 1 "_law_error" ["e"] (spError (fun n => [C0, C1, C2, C3, C4].getD n C0)) := .mk' F_lawerror (ok_lawerror F_lawerror B Z Z2) g_lawerror b_lawerror
    have D_lawraised : Df l.prog w K mg base 6 "_law_raised" ["door", "row", "some"] spRaised := .mk' F_lawraised (ok_lawraised F_lawraised B Z Z2 X_reach X_bestreach X_feweststeps L_bestlists X_greatestorigin L_origins X_countorigins Z_lawerror) g_lawraised b_lawraised
    have D_lawsame : Df l.prog w K mg base 4 "_law_same" ["found", "wanted"] (spSame K 3) := .mk' F_lawsame (ok_lawsame F_lawsame B g_lawsame b_lawsame 3) g_lawsame b_lawsame
    exact ok_law F_law B D_lawsource D_lawdraw D_lawrow D_lawspoilt D_lawdue D_lawraised D_lawsame⟩
end Sq
open PySem PySem.W PyProof.Rows
set_option maxRecDepth 100000 in
set_option maxHeartbeats 0 in
theorem PySem.Challenge.cw_squeezelists_k11_errors_of_reaches_and_o_holds : PySem.Challenge.rw_squeezelists_k11_errors_of_reaches_and_o.Holds := by
  w_on; o_law; k_head; (case hw => w_witness2)
  k_fill
  refine Sq.walkAt (l := PySem.Challenge.rw_squeezelists_k11_errors_of_reaches_and_o) (n := 63) (k := 6) (x := "script") (sp := fun w => Sq.spLaw _) rfl (by decide) rfl (fun w h Y => PySem.W.kIn_of Y) ?F (fun _ _ a ns hl _ hS => ⟨a, ns, rfl, hS, hl, fun _ => rfl⟩)
  case F =>
    intro w mg fa h KX G hmg
    refine' Sq.all_mk KX G hmg ?a_checklist ?l_checklist ?c_checklist ?k_checklist ?a_checknumber ?l_checknumber ?c_checknumber ?k_checknumber ?a_greatestorigin ?l_greatestorigin ?c_greatestorigin ?k_greatestorigin ?a_origins ?l_origins ?c_origins ?k_origins ?a_countorigins ?l_countorigins ?c_countorigins ?k_countorigins ?a_manyforone ?l_manyforone ?c_manyforone ?k_manyforone ?a_originsforone ?l_originsforone ?c_originsforone ?k_originsforone ?a_limitsafter ?l_limitsafter ?c_limitsafter ?k_limitsafter ?a_reach ?l_reach ?c_reach ?k_reach ?lT_reach ?a_bestreach ?l_bestreach ?c_bestreach ?k_bestreach ?lT_bestreach ?a_feweststeps ?l_feweststeps ?c_feweststeps ?k_feweststeps ?lT_feweststeps ?a_bestlists ?l_bestlists ?c_bestlists ?k_bestlists ?lT_bestlists ?a_reachwith ?l_reachwith ?c_reachwith ?k_reachwith ?a_bestnumbers ?l_bestnumbers ?c_bestnumbers ?k_bestnumbers ?a_greatestreachwithone ?l_greatestreachwithone ?c_greatestreachwithone ?k_greatestreachwithone ?a_bestchoices ?l_bestchoices ?c_bestchoices ?k_bestchoices ?a_listat ?l_listat ?c_listat ?k_listat ?a_lawsource ?l_lawsource ?c_lawsource ?k_lawsource ?a_lawdraw ?l_lawdraw ?c_lawdraw ?k_lawdraw ?a_lawsame ?l_lawsame ?c_lawsame ?k_lawsame ?a_lawrow ?l_lawrow ?c_lawrow ?k_lawrow ?a_lawerror ?l_lawerror ?c_lawerror ?k_lawerror ?a_lawspoilt ?l_lawspoilt ?c_lawspoilt ?k_lawspoilt ?a_lawraised ?l_lawraised ?c_lawraised ?k_lawraised ?a_lawdue ?l_lawdue ?c_lawdue ?k_lawdue ?a_law ?l_law ?c_law ?k_law ?z_len ?z_min ?z_max ?z_abs ?z_range ?z_isinstance ?z_repr ?z_enumerate ?z_reversed ?z_sorted ?z_bool ?z_int ?z_str ?z_list ?z_tuple ?z_set ?z_sum ?z_zip ?z_all ?z_any ?z_ValueError ?z_divmod ?aCB ?iCB ?tCB ?third ?zSup ?hTop ?spC ?tkC ?aC0 ?xL0 ?sa0 ?nv0 ?iC0 ?tI0 ?kC0 ?eC0 ?vC0 ?tC0 ?mC0 ?su0 ?fI0 ?cI0 ?lc0 ?vf0 ?mf0 ?lk0 ?ln0 ?ga0 ?gg0 ?hd0 ?ha0 ?mo0 ?ic0 ?sB0 ?aC1 ?xL1 ?sa1 ?nv1 ?iC1 ?tI1 ?kC1 ?eC1 ?vC1 ?tC1 ?mC1 ?su1 ?fI1 ?cI1 ?lc1 ?vf1 ?mf1 ?lk1 ?ln1 ?ga1 ?gg1 ?hd1 ?ha1 ?mo1 ?ic1 ?sB1 ?aC2 ?xL2 ?sa2 ?nv2 ?iC2 ?tI2 ?kC2 ?eC2 ?vC2 ?tC2 ?mC2 ?su2 ?fI2 ?cI2 ?lc2 ?vf2 ?mf2 ?lk2 ?ln2 ?ga2 ?gg2 ?hd2 ?ha2 ?mo2 ?ic2 ?sB2 ?aC3 ?xL3 ?sa3 ?nv3 ?iC3 ?tI3 ?kC3 ?eC3 ?vC3 ?tC3 ?mC3 ?su3 ?fI3 ?cI3 ?lc3 ?vf3 ?mf3 ?lk3 ?ln3 ?ga3 ?gg3 ?hd3 ?ha3 ?mo3 ?ic3 ?sB3 ?aC4 ?xL4 ?sa4 ?nv4 ?iC4 ?tI4 ?kC4 ?eC4 ?vC4 ?tC4 ?mC4 ?su4 ?fI4 ?cI4 ?lc4 ?vf4 ?mf4 ?lk4 ?ln4 ?ga4 ?gg4 ?hd4 ?ha4 ?mo4 ?ic4 ?sB4 ?s0_0 ?s0_1 ?s0_2 ?s0_3 ?s0_4 ?s1_0 ?s1_1 ?s1_2 ?s1_3 ?s1_4 ?s2_0 ?s2_1 ?s2_2 ?s2_3 ?s2_4 ?s3_0 ?s3_1 ?s3_2 ?s3_3 ?s3_4 ?s4_0 ?s4_1 ?s4_2 ?s4_3 ?s4_4 ?eCB ?hdB ?st0 ?st1 ?st2 ?st3 ?st4
    (case a_checklist => k_is); (case l_checklist => k_is); (case c_checklist => k_is); (case k_checklist => k_is); (case a_checknumber => k_is); (case l_checknumber => k_is); (case c_checknumber => k_is); (case k_checknumber => k_is); (case a_greatestorigin => k_is); (case l_greatestorigin => k_is); (case c_greatestorigin => k_is); (case k_greatestorigin => k_is); (case a_origins => k_is); (case l_origins => k_is); (case c_origins => k_is); (case k_origins => k_is); (case a_countorigins => k_is); (case l_countorigins => k_is); (case c_countorigins => k_is); (case k_countorigins => k_is); (case a_manyforone => k_is); (case l_manyforone => k_is); (case c_manyforone => k_is); (case k_manyforone => k_is); (case a_originsforone => k_is); (case l_originsforone => k_is); (case c_originsforone => k_is); (case k_originsforone => k_is); (case a_limitsafter => k_is); (case l_limitsafter => k_is); (case c_limitsafter => k_is); (case k_limitsafter => k_is); (case a_reach => k_is); (case l_reach => k_is); (case c_reach => k_is); (case k_reach => k_is); (case lT_reach => k_is); (case a_bestreach => k_is); (case l_bestreach => k_is); (case c_bestreach => k_is); (case k_bestreach => k_is); (case lT_bestreach => k_is); (case a_feweststeps => k_is); (case l_feweststeps => k_is); (case c_feweststeps => k_is); (case k_feweststeps => k_is); (case lT_feweststeps => k_is); (case a_bestlists => k_is); (case l_bestlists => k_is); (case c_bestlists => k_is); (case k_bestlists => k_is); (case lT_bestlists => k_is); (case a_reachwith => k_is); (case l_reachwith => k_is); (case c_reachwith => k_is); (case k_reachwith => k_is); (case a_bestnumbers => k_is); (case l_bestnumbers => k_is); (case c_bestnumbers => k_is); (case k_bestnumbers => k_is); (case a_greatestreachwithone => k_is); (case l_greatestreachwithone => k_is); (case c_greatestreachwithone => k_is); (case k_greatestreachwithone => k_is); (case a_bestchoices => k_is); (case l_bestchoices => k_is); (case c_bestchoices => k_is); (case k_bestchoices => k_is); (case a_listat => k_is); (case l_listat => k_is); (case c_listat => k_is); (case k_listat => k_is); (case a_lawsource => k_is); (case l_lawsource => k_is); (case c_lawsource => k_is); (case k_lawsource => k_is); (case a_lawdraw => k_is); (case l_lawdraw => k_is); (case c_lawdraw => k_is); (case k_lawdraw => k_is); (case a_lawsame => k_is); (case l_lawsame => k_is); (case c_lawsame => k_is); (case k_lawsame => k_is); (case a_lawrow => k_is); (case l_lawrow => k_is); (case c_lawrow => k_is); (case k_lawrow => k_is); (case a_lawerror => k_is); (case l_lawerror => k_is); (case c_lawerror => k_is); (case k_lawerror => k_is); (case a_lawspoilt => k_is); (case l_lawspoilt => k_is); (case c_lawspoilt => k_is); (case k_lawspoilt => k_is); (case a_lawraised => k_is); (case l_lawraised => k_is); (case c_lawraised => k_is); (case k_lawraised => k_is); (case a_lawdue => k_is); (case l_lawdue => k_is); (case c_lawdue => k_is); (case k_lawdue => k_is); (case a_law => k_is); (case l_law => k_is); (case c_law => k_is); (case k_law => k_is); (case z_len => k_is); (case z_min => k_is); (case z_max => k_is); (case z_abs => k_is); (case z_range => k_is); (case z_isinstance => k_is); (case z_repr => k_is); (case z_enumerate => k_is); (case z_reversed => k_is); (case z_sorted => k_is); (case z_bool => k_is); (case z_int => k_is); (case z_str => k_is); (case z_list => k_is); (case z_tuple => k_is); (case z_set => k_is); (case z_sum => k_is); (case z_zip => k_is); (case z_all => k_is); (case z_any => k_is); (case z_ValueError => k_is); (case z_divmod => k_is); (case aCB => k_is); (case iCB => k_is); (case tCB => k_is); (case third => k_is); (case zSup => k_is); (case hTop => decide +kernel); (case spC => k_is); (case tkC => k_is); (case aC0 => k_is); (case xL0 => k_is); (case sa0 => k_is); (case nv0 => k_is); (case iC0 => k_is); (case tI0 => k_is); (case kC0 => k_is); (case eC0 => k_is); (case vC0 => k_is); (case tC0 => k_is); (case mC0 => k_is); (case su0 => ks_is); (case fI0 => k_is); (case cI0 => k_is); (case lc0 => k_is); (case vf0 => rfl); (case mf0 => decide +kernel); (case lk0 => k_is); (case ln0 => rfl); (case ga0 => k_is); (case gg0 => k_is); (case hd0 => k_is); (case ha0 => k_is); (case mo0 => k_is); (case ic0 => k_is); (case sB0 => k_is); (case aC1 => k_is); (case xL1 => k_is); (case sa1 => k_is); (case nv1 => k_is); (case iC1 => k_is); (case tI1 => k_is); (case kC1 => k_is); (case eC1 => k_is); (case vC1 => k_is); (case tC1 => k_is); (case mC1 => k_is); (case su1 => ks_is); (case fI1 => k_is); (case cI1 => k_is); (case lc1 => k_is); (case vf1 => rfl); (case mf1 => decide +kernel); (case lk1 => k_is); (case ln1 => rfl); (case ga1 => k_is); (case gg1 => k_is); (case hd1 => k_is); (case ha1 => k_is); (case mo1 => k_is); (case ic1 => k_is); (case sB1 => k_is); (case aC2 => k_is); (case xL2 => k_is); (case sa2 => k_is); (case nv2 => k_is); (case iC2 => k_is); (case tI2 => k_is); (case kC2 => k_is); (case eC2 => k_is); (case vC2 => k_is); (case tC2 => k_is); (case mC2 => k_is); (case su2 => ks_is); (case fI2 => k_is); (case cI2 => k_is); (case lc2 => k_is); (case vf2 => rfl); (case mf2 => decide +kernel); (case lk2 => k_is); (case ln2 => rfl); (case ga2 => k_is); (case gg2 => k_is); (case hd2 => k_is); (case ha2 => k_is); (case mo2 => k_is); (case ic2 => k_is); (case sB2 => k_is); (case aC3 => k_is); (case xL3 => k_is); (case sa3 => k_is); (case nv3 => k_is); (case iC3 => k_is); (case tI3 => k_is); (case kC3 => k_is); (case eC3 => k_is); (case vC3 => k_is); (case tC3 => k_is); (case mC3 => k_is); (case su3 => ks_is); (case fI3 => k_is); (case cI3 => k_is); (case lc3 => k_is); (case vf3 => rfl); (case mf3 => decide +kernel); (case lk3 => k_is); (case ln3 => rfl); (case ga3 => k_is); (case gg3 => k_is); (case hd3 => k_is); (case ha3 => k_is); (case mo3 => k_is); (case ic3 => k_is); (case sB3 => k_is); (case aC4 => k_is); (case xL4 => k_is); (case sa4 => k_is); (case nv4 => k_is); (case iC4 => k_is); (case tI4 => k_is); (case kC4 => k_is); (case eC4 => k_is); (case vC4 => k_is); (case tC4 => k_is); (case mC4 => k_is); (case su4 => ks_is); (case fI4 => k_is); (case cI4 => k_is); (case lc4 => k_is); (case vf4 => rfl); (case mf4 => decide +kernel); (case lk4 => k_is); (case ln4 => rfl); (case ga4 => k_is); (case gg4 => k_is); (case hd4 => k_is); (case ha4 => k_is); (case mo4 => k_is); (case ic4 => k_is); (case sB4 => k_is); (case s0_0 => k_is); (case s0_1 => k_is); (case s0_2 => k_is); (case s0_3 => k_is); (case s0_4 => k_is); (case s1_0 => k_is); (case s1_1 => k_is); (case s1_2 => k_is); (case s1_3 => k_is); (case s1_4 => k_is); (case s2_0 => k_is); (case s2_1 => k_is); (case s2_2 => k_is); (case s2_3 => k_is); (case s2_4 => k_is); (case s3_0 => k_is); (case s3_1 => k_is); (case s3_2 => k_is); (case s3_3 => k_is); (case s3_4 => k_is); (case s4_0 => k_is); (case s4_1 => k_is); (case s4_2 => k_is); (case s4_3 => k_is); (case s4_4 => k_is); (case eCB => k_is); (case hdB => k_is); (case st0 => k_is); (case st1 => k_is); (case st2 => k_is); (case st3 => k_is); (case st4 => k_is)
