import PyProof.Rows.All
import Wide.All
import OpenK.AllK
import Wide.FinOn
import HandS.ForMost
import HandS.IsInst
import HandS.Walk
import HandS.Defaults
import HandS.RaiseMore
import HandS.Wide
import HandS.Exc
import HandS.ExcOwn
import HandS.ExcInit
import HandS.ExcSuper
import KE.KExcSuper
import HandS.ExcValue
import HandS.ExcIs
import HandS.ExcField
import HandS.GenList
import HandS.WordsExc
import HandS.HotCalls
import HandS.Comp
import HandS.Deep
import HandS.SortInts
import HandS.Strs
import HandS.Set
import HandS.SetBool
import HandS.Style
import HandS.GenBody
import HandS.GenYield
import PyProof.GenComp
import PyProof.ForAny
import HandS.SetFor
import HandS.Zip
import HandS.More
import HandS.Conv
import HandS.Iter
import HandS.SetTxt0
import PySem.Challenge.RW_squeezelists_k14_whole_no_two_lists_alik
set_option Elab.async false
set_option linter.all false
set_option maxRecDepth 100000
set_option maxHeartbeats 2000000
/-! The layer for the laws: a def of the law run at the outermost call (where no repr is under way), repr of data, calls by keywords alone. -/
namespace Sq
open PySem PySem.Spec PyProof.Rows L2
/-! ### the law's own def, at one given surrounding -/
theorem fnAt {CX : CXT} {P : Program} {w : World} {K : PySem.W.Frag} {mg : Str → Option Value} {base : Heap} {k : Nat} {f : Addr} {nmF qualF : Str} {prm : Arguments} {bd : List Stmt} {scp : Scope}
    {dflt kwd docv pmv cdv ctv ocv : Value} {anv odv : Option Addr} {slv : Array (Option Value)} {names prs : List Str} {sp : Sp} {A : Around}
    (stands : K.lookup f = some ⟨ocv, odv, .func (PySem.W.fnOf nmF qualF prm bd scp dflt kwd docv pmv anv cdv ctv), slv⟩)
    (code : PySem.W.codeIn K cdv qualF = true) (sc : FnScope names prs scp)
    (count : ∀ vs H Q E, sp vs H Q E → vs.length = prs.length)
    (inner : ∀ (outer : List Env) (s : Shared) (H : Hp) (vs : List V) (Q : VK) (E : XK), Room k (A.deeper (envOfC qualF scp s.heap.objs.size f cdv)) → sp vs H Q E →
      ∃ t, PSs (cxOf CX P w K mg base names qualF scp f cdv A outer s H E) bd t ∧ t { nx := fun _ H' => Q .non H', rt := Q } (start names vs) H)
    {outer : List Env} {s : Shared} {H : Hp} {ag : Args} {us : List Value} {vs : List V} {Q : VK} {E : XK}
    (room : Room (k + 1) A) (entry : Env0 P w K mg base A outer s H)
    (bound : BindsTo s (PySem.W.fnOf nmF qualF prm bd scp dflt kwd docv pmv anv cdv ctv) ag (prs.zip us)) (rel : Vals vs us) (wish : sp vs H Q E) :
    codeAny (model P w) A (.call (.ref f) ag) (CR CX outer P w H s Q E) s := by
  have written : K.In s.heap := entry.mod.kin.keeps (fun b o e => (entry.bs b o e).1)
  have roomy : s.heap.NoLimit := entry.mod.nolimit.keeps (fun b o e => (entry.bs b o e).1)
  refine codeAny_call_function room.depth (written _ _ stands) rfl sc.co sc.gen rfl (PySem.W.codeRec_of written code) (bound _ _ _ _ ?_)
  refine wpAny_newFunctionEnv_cells sc.kind ?kinds ?body
  case kinds =>
    rintro ⟨n, v⟩ hn
    have inP := (List.of_mem_zip hn).1
    cases sc.par n inP with
    | inl q => exact Or.inl q
    | inr q => exact Or.inr ⟨q, PySem.W.cellsFrom_some _ _ _ (Or.inl q)⟩
  case body =>
    intro env eqn s1 fresh
    subst eqn
    refine ⟨roomy.keeps fresh.toInCall.keep, codeAny_func ?_⟩
    obtain ⟨t, steps, holds⟩ := inner outer s H vs Q E (room.deeper _) wish
    have inv := inv_start (CX := CX) (mg := mg) (base := base) (E := E) sc room.hd entry (count _ _ _ _ wish) rel fresh
    refine wpAny_mono (steps.run [] s1 (start names vs) H _ inv holds) ?_ (fun _ _ q => q)
    intro flow s' got
    cases flow with
    | ret u =>
      obtain ⟨v, σ', H', J, rv, q⟩ := got
      exact ⟨v, H', J.os, J.bare, J.base, J.hok, rv, q⟩
    | next =>
      obtain ⟨σ', H', J, q⟩ := got
      exact ⟨V.non, H', J.os, J.bare, J.base, J.hok, rfl, q⟩
    | brk => exact got.elim fun _ h => h.elim fun _ h => False.elim h.2
    | cont => exact got.elim fun _ h => h.elim fun _ h => False.elim h.2
/-- what the top's def promises at the outermost call alone -/
def Top (P : Program) (w : World) (K : PySem.W.Frag) (mg : Str → Option Value) (base : Heap) (k : Nat) (f : Addr) (fd : FuncData) (x : Str) (sp : Sp) : Prop :=
  ∀ (s : Shared) (H : Hp) (ag : Args) (u : Value) (v : V) (Q : VK), Env0 P w K mg base callerA [] s H → BindsTo s fd ag [(x, u)] → RelV v u → sp [v] H Q (fun _ _ _ => False) →
    codeAny (model P w) callerA (.call (.ref f) ag) (CR CX0 [] P w H s Q (fun _ _ _ => False)) s
theorem atTop {P : Program} {w : World} {K : PySem.W.Frag} {mg : Str → Option Value} {base : Heap} {k : Nat} {f : Addr} {fd : FuncData} {x y qual : Str} {st : Stmt} {names : List Str} {sp : Sp}
    (F : Fun K y qual st f fd) (sc : FnScope names [x] (defScope st)) (room : Room (k + 1) callerA) (count : ∀ vs H Q E, sp vs H Q E → vs.length = 1)
    (inner : ∀ (cdv : Value) (outer : List Env) (s : Shared) (H : Hp) (vs : List V) (Q : VK) (E : XK), Room k (callerA.deeper (envOfC qual (defScope st) s.heap.objs.size f cdv)) → sp vs H Q E →
      ∃ t, PSs (cxOf CX0 P w K mg base names qual (defScope st) f cdv callerA outer s H E).nox (defBody st) t ∧ t { nx := fun _ H' => Q .non H', rt := Q } (start names vs) H) :
    Top P w K mg base k f fd x sp := by
  intro s H ag u v Q e0 hb hv hs
  obtain ⟨oc, od, kV, doc, pm, an, cdv, ct, osl, rfl, lk, hcd⟩ := F.ex
  refine fnAt (us := [u]) (vs := [v]) lk hcd sc count (fun outer s' H' vs' Q' E' room' wish => ?_) room e0 hb (.cons hv .nil) hs
  obtain ⟨t, h, q⟩ := inner cdv outer s' H' vs' Q' E' room' wish
  exact ⟨t, h.nox, q⟩
/-- from the def's promise at the outermost call to the row's claim about that call -/
theorem lawAt {P : Program} {w : World} {K : PySem.W.Frag} {mg mb : Str → Option Value} {k : Nat} {fa a : Addr} {fd : FuncData} {x : Str} {sp : Sp} {s₁ : Shared} {cells : List Value} {nums : List Int}
    (inK : K.In s₁.heap) (nsM : s₁.heap.Ns mainGlobals mg) (nsB : s₁.heap.Ns builtinsNs mb) (boot : ∀ y : Str, y ≠ "__name__" → mb y = bootBuiltins y) (lim : s₁.heap.NoLimit) (gens : s₁.gens = #[])
    (script : s₁.heap.get? a = some { cls := .type "list", data := .seq cells.toArray }) (are : IntsAre cells nums) (few : nums.length ≤ sizeLine)
    (main : ∀ base : Heap, K.In base → base.Ns mainGlobals mg → Top P w K mg base k fa fd x sp) (binds : ∀ (s : Shared) (u : Value), BindsTo s fd ⟨[u], []⟩ [(x, u)])
    (told : ∀ H : Hp, Only H → SqL K H a (nums.map V.int) → sp [.ref a] H (fun v _ => v = .bl true) fun _ _ _ => False) :
    codeAny (model P w) callerA (.call (.ref fa) ⟨[.ref a], []⟩) (fun r s' => r = .ok (.ret (.bool true)) ∧ OldK s₁.heap s'.heap ∧ s'.os = s₁.os ∧ AllBare s'.gens) s₁ := by
  have rel := vals_ints are
  have same := are.length
  suffices goal : ∀ H : Hp, Only H → SqL K H a (nums.map V.int) → HOk P w H s₁.heap → (∀ b o, H b = some o → b = a ∧ K.lookup a = none) →
      codeAny (model P w) callerA (.call (.ref fa) ⟨[.ref a], []⟩) (fun r s' => r = .ok (.ret (.bool true)) ∧ OldK s₁.heap s'.heap ∧ s'.os = s₁.os ∧ AllBare s'.gens) s₁ by
    cases look : K.lookup a with
    | some o =>
      have here := inK a o look
      rw [script] at here
      cases here
      exact goal (fun _ => none) (fun _ => Or.inl rfl) (Or.inr ⟨_, cells.toArray, _, look, rfl, rfl, rfl, (by rw [List.size_toArray, same]; exact few), (by simpa using rel)⟩) (fun b u z => by cases (show (none : Option HO) = some u from z)) (fun b o z => by cases (show (none : Option HO) = some o from z))
    | none =>
      let Ha : Hp := fun b => if b = a then some (.frz { cls := .type "list", data := .seq cells.toArray } (.lst (nums.map V.int))) else none
      have at_a : Ha a = some (.frz { cls := .type "list", data := .seq cells.toArray } (.lst (nums.map V.int))) := if_pos rfl
      have off : ∀ b o, Ha b = some o → b = a := fun b o z => by
        by_cases hb : b = a
        · exact hb
        · rw [show Ha b = none from if_neg hb] at z
          cases z
      refine goal Ha (fun b => ?_) (Or.inl (Or.inr ⟨_, at_a⟩)) (fun b u z => ?_) (fun b o z => ⟨off b o z, look⟩)
      · by_cases hb : b = a
        · exact Or.inr ⟨_, _, if_pos hb⟩
        · exact Or.inl (if_neg hb)
      · obtain rfl := off b u z
        rw [at_a] at z
        cases z
        exact ⟨script, by rw [List.length_map]; exact few, cells, _, rel, script⟩
  intro H only seq hok apart
  have free : ∀ {b : Addr} {o : Obj}, s₁.heap.get? b = some o → (∀ u, H b = some u → False) → (hidT s₁.heap H).get? b = some o := fun {b o} e n =>
    hidT_get e (by
      cases q : H b with
      | none => rfl
      | some u => exact (n u q).elim)
  have nsH : ∀ {b : Addr} {m : Str → Option Value}, s₁.heap.Ns b m → (hidT s₁.heap H).Ns b m := by
    rintro b m ⟨o, es, ep, e, d, r⟩
    refine ⟨o, es, ep, free e fun u z => ?_, d, r⟩
    obtain ⟨rfl, _⟩ := apart b u z
    rw [script] at e
    cases e
    cases (show Data.seq cells.toArray _ = Data.dict es ep from d)
  have kH : K.In (hidT s₁.heap H) := fun b o e => free (inK b o e) fun u z => by
    obtain ⟨rfl, n⟩ := apart b u z
    rw [n] at e
    cases e
  have mod : Mod K mg (hidT s₁.heap H) := ⟨kH, nsH nsM, ⟨mb, nsH nsB, boot⟩, let ⟨mc, h1, h2⟩ := lim; ⟨mc, nsH h1, h2⟩⟩
  have entry : Env0 P w K mg (hidT s₁.heap H) callerA [] s₁ H :=
    ⟨rfl, mod, fun b o e => of_hidT e, Nat.le_of_eq (hidT_size _ _), trivial, fun b hb => absurd (show b ∈ ([] : List Addr) from hb) (by simp), hok, .of_eq gens⟩
  refine codeAny_mono (main _ kH (nsH nsM) s₁ H ⟨[.ref a], []⟩ (.ref a) (.ref a) _ entry (binds s₁ (.ref a)) rfl (told H only seq)) ?_
  intro r s' got
  match r, got with
  | .ok (.ret u), got =>
    obtain ⟨v, H', os, bare, un, hok', rv, q⟩ := got
    obtain rfl : v = .bl true := q
    obtain rfl : u = Value.bool true := rv
    refine ⟨rfl, OldK.of_keep fun b o e => ?_, os, bare⟩
    rcases only b with z | ⟨ob, xs, z⟩
    · exact un.keep b o e z (by intro y; exact absurd (show b ∈ ([] : List Addr) from y) (by simp)) (by simp)
    · obtain ⟨e1, _⟩ := hok b _ z
      obtain ⟨e2, _⟩ := hok' b _ (un.frzs b ob _ z)
      rw [e] at e1
      cases e1
      exact e2
/-- the goal that k_head leaves, from the law's promise at the outermost call -/
theorem walkAt {l : PySem.W.OpenLaw} {n k : Nat} {q : Program} {loose : List Str} {XP : (Str → Option Value) → Heap → Prop} {YP : World → Heap → Prop} {d : DefRec} {K : Params → PySem.W.Frag} {sp : World → Sp} {x : Str}
    (most : l.most = some n) (line : n ≤ sizeLine) (plain : d.params.defaults = []) (inK : ∀ (w : World) (h : Heap), YP w h → (K w.params).In h)
    (F : ∀ (w : World) (mg : Str → Option Value) (fa : Addr) (h : Heap), (K w.params).In h → h.Ns mainGlobals mg → mg d.name = some (.ref fa) →
      ∃ fd : FuncData, (∀ (s : Shared) (u : Value), BindsTo s fd ⟨[u], []⟩ [(x, u)]) ∧ ∀ base : Heap, (K w.params).In base → base.Ns mainGlobals mg → Top l.prog w (K w.params) mg base k fa fd x (sp w))
    (told : ∀ (w : World) (H : Hp) (a : Addr) (ns : List Int), ns.length ≤ n → Only H → SqL (K w.params) H a (ns.map V.int) → sp w [.ref a] H (fun v _ => v = .bl true) fun _ _ _ => False) :
    PySem.W.WalkO q loose XP YP l.row.toRowW d [] (fun f vs => PySem.call f vs) := by
  refine Att.attach_call most plain ?_
  intro w s₀ s₁ mg mb fa o pm cd doc a vs ns G Y ho hd hcd hmg hobj hints hlen hg
  obtain ⟨fd, hb, hF⟩ := F w mg fa _ (inK w _ Y) G.T.g hmg
  exact lawAt (inK w _ Y) G.T.g G.T.b G.T.builtins G.T.nolimit hg hobj hints (Nat.le_trans hlen line) hF hb fun H hO hS => told w H a ns hlen hO hS
/-! ### repr of data, where no repr is under way -/
def rReprD (K : PySem.W.Frag) : List V → Hp → VK → Prop := fun xs H Q => ∃ a d, xs = [.ref a] ∧ Dp K H (.ref a) d ∧ d.showable = true ∧ d.hasDict = false ∧ d.depth ≤ 40 ∧ d.shown.length ≤ sizeLine ∧ Q (.str d.shown) H
theorem call_reprD {X : Cx} (hg : X.A.guards = some []) (hu : X.A.units + 64 < cLine) : CallR X (.builtin "repr") (rReprD X.K) := by
  intro pins s σ H xs us Q I r h
  obtain ⟨a, d, rfl, hd, sh, nd, dep, sz, q⟩ := h
  obtain ⟨u, rfl, rv⟩ := vals1 r
  obtain rfl : u = Value.ref a := rv
  obtain ⟨as, rd⟩ := Dp.reads I d _ _ hd (show RelV (.ref a) (.ref a) from rfl)
  refine repr_of_reads' rd sh (by rw [nd]; exact fun z => nomatch z) hg (by omega) (fun b o e => e) (fun h' u tk keep => ?_) sz
  exact ⟨.str _, H, I.kept keep, ⟨_, rfl⟩, q⟩
/-! ### f(k = v, ..): keywords alone -/
end Sq
namespace Sq
open PySem PySem.Spec PyProof.Rows L2
/-- what a caller wants of a def of the text: it stands at its name and keeps its promise -/
structure Df (P : Program) (w : World) (K : PySem.W.Frag) (mg : Str → Option Value) (base : Heap) (k : Nat) (x : Str) (ps : List Str) (sp : Sp) : Prop where
  ex : ∃ f fd, FnOk P w K mg base CX0 k f fd ps sp ∧ mg x = some (.ref f) ∧ PySem.W.keepIn K (.ref f) = true ∧ Binds K fd ps []
section
variable {X : Cx} {k : Nat} {ps : List Str} {sp : Sp} {x : Str} {p pos : Pos} {e : Expr} {es : List Expr} {t : TA}
theorem pe_callD (D : Df X.prog X.w X.K X.mg X.base k x ps sp) (hr : Room k X.A) (hg : Gl X x) (ha : PA X (e :: es) t) (hdb : (x == ("__debug__" : Str)) = false := by decide)
    (he : starEach (e :: es) X.env = (false, eval e X.env) :: starEach es X.env := by rfl) (hpl : (backTo pos (starEach es X.env)).any (·.1) = false := by rfl) :
    PE X (.Call (.Name x p) (e :: es) [] pos) (tCall sp [] E0 t) := by
  obtain ⟨f, fd, F, g, kp, b⟩ := D.ex
  exact pe_call F hr hg g kp b .nil pass0 ha hdb he hpl
end
section
variable {P : Program} {w : World} {K : PySem.W.Frag} {mg : Str → Option Value} {base : Heap}
/-- a def without defaults, from its place in the text and its promise -/
theorem Df.mk' {k : Nat} {x : Str} {st : Stmt} {ps : List Str} {sp : Sp} {f : Addr} {fd : FuncData} (F : Fun K x x st f fd) (G : FnOk P w K mg base CX0 k f fd ps sp) (g : mg x = some (.ref f)) (b : Binds K fd ps []) : Df P w K mg base k x ps sp :=
  ⟨⟨f, fd, G, g, F.kp, b⟩⟩
end
end Sq
namespace Sq
open PySem PySem.Spec PyProof.Rows L2
/-- a test whose ways are told apart from what follows -/
theorem tell {c : TT} {σ : L2.St} {H : Hp} {Q : Bool → Hp → Prop} (T F : Hp → Prop) (h : ∀ Q' : Bool → Hp → Prop, (∀ H2, T H2 → Q' true H2) → (∀ H2, F H2 → Q' false H2) → c σ H Q') (hT : ∀ H2, T H2 → Q true H2) (hF : ∀ H2, F H2 → Q false H2) : c σ H Q := h Q hT hF
end Sq
set_option Elab.async false
set_option linter.all false
set_option maxRecDepth 100000
set_option maxHeartbeats 2000000
/-! Own errors whose __init__ says super().__init__(..) and stores its argument as value. -/
namespace SqX
open PySem PySem.W PySem.Calls PyProof.Rows PySem.HandSPX
def xA (p1 p2 : Pos) : Arguments := { posonlyargs := [], args := [{ arg := "self", annotation := none, pos := p1 }, { arg := "value", annotation := none, pos := p2 }], vararg := none, kwonlyargs := [], kw_defaults := [], kwarg := none, defaults := [] }
def xB (msg : Str) (j : Nat) (q0 q1 q2 q3 q4 q5 r1 r2 r3 r4 : Pos) : List Stmt :=
  [.Expr (.Call (.Attribute (.Call (.Name "super" q0) [] [] q1) "__init__" q2) [.Constant (.str msg) j q3] [] q4) q5, .Assign [.Attribute (.Name "self" r1) "value" r2] (.Name "value" r3) r4]
def xS : Scope := { kind := .function, names := [(PySem.Str.ofString "self", .local), (PySem.Str.ofString "value", .local), (PySem.Str.ofString "__class__", .free), (PySem.Str.ofString "super", .globalImplicit)], isGenerator := false, isCoroutine := false, more := [] }
/-- what the written part says of such a class at C, of its __init__ at fI -/
structure Er (K : Frag) (prog : Program) (C fI : Addr) (q : Str) : Prop where
  cls : ∃ nm qn N bs bm sn sub ab col dd k0 k1 k2 k3 k5, K.lookup C = some (excClassObj nm qn C N bs bm true sn sub ab col dd k0 k1 k2 k3 k5 "ValueError.__new__") ∧ refsVE bm = true
  sa : findIn K (.ref C) "__setattr__" = some (some (.builtin "object.__setattr__"))
  noV : findIn K (.ref C) "value" = some none
  iC : findIn K (.ref C) "__init__" = some (some (.ref fI))
  tC : typeIn K (.ref fI) = some (.type "function")
  kC : keepIn K (.ref C) = true
  exC : subIn K (.ref C) (.type "BaseException") = some true
  veC : subIn K (.ref C) (.type "ValueError") = some true
  tyC : typeIn K (.ref C) = some (.type "type")
  mC : mroIn K C (.ref C) = some true
  suC : ks_superIn K C C "__init__" = some (some (.builtin "ValueError.__init__"))
  third : nsIn K cStatics "thirdparty.any" = some none
  super : nsIn K mainGlobals "super" = some none
  top : (prog.main.scope.names.lookup ("super" : Str)).isSome = false
  fn : ∃ (oc : Value) (od : Option Addr) (doc pm : Value) (an : Option Addr) (ct : Value) (osl : Array (Option Value)) (cda cc : Addr) (msg : Str) (j : Nat) (p1 p2 q0 q1 q2 q3 q4 q5 r1 r2 r3 r4 : Pos) (ccl : Value) (cdd : Option Addr) (vs : Array Value) (ccs : Array (Option Value)) (file : Str) (tf : Tok) (cl : Value) (cld : Option Addr) (csl : Array (Option Value)),
    K.lookup fI = some ⟨oc, od, .func (ksFn "__init__" q (xA p1 p2) (xB msg j q0 q1 q2 q3 q4 q5 r1 r2 r3 r4) xS .none .none doc pm an (.ref cda) ct cc), osl⟩ ∧ codeIn K (.ref cda) q = true ∧
    K.lookup cda = some ⟨ccl, cdd, .fields vs, ccs⟩ ∧ vs[2]? = some (.str file tf) ∧ ((prog.main.file : Str) == file) = true ∧ K.lookup cc = some ⟨cl, cld, .cell (some (.ref C)), csl⟩ ∧ (q2.endLine == q4.line) = true
/-- what __init__ leaves of a fresh exception at x -/
structure Inited (h h' : Heap) (x C dx t1 : Addr) (v : Value) : Prop where
  keep : ∀ b o, b ≠ x → h.get? b = some o → h'.get? b = some o
  obj : h'.get? x = some { cls := .ref C, dict := some dx, data := .fields #[.ref t1, .none, .none, .none, .bool false, .none] }
  dbig : h.objs.size ≤ dx
  dne : dx ≠ x
  ns : h'.Ns1 dx (fun y => if y = "value" then some v else none)
theorem one_size (v : Value) : [v].length ≤ sizeLine := by
  rw [sizeLine_eq]
  exact (by decide : 1 ≤ 16777216)
theorem call_is {o e : Expr} {name : Str} {apos pos : Pos} {env : Env} (hline : (apos.endLine == pos.line) = true) (he : starEach [e] env = [(false, eval e env)]) :
    eval (.Call (.Attribute o name apos) [e] [] pos) env = (do
      let ov ← attributeBase o name env (eval o env)
      standAt apos.atName
      let (f, first) ← holding [ov] (getMethod ov name (do return (← importBound o env).getD true))
      callWith pos f first (backTo pos (starEach [e] env)) []) := by
  rw [arm_eval_Call]
  have hf : methodCallForm 1 (backTo pos (starEach [e] env)) (backToKw pos (keywordEach [] env)) = true := by
    rw [he]
    rfl
  have hp : methodCallPos true o env apos pos = pure pos := by
    unfold methodCallPos
    simp [hline]
  refine congrArg _ (funext fun ov => congrArg _ (funext fun _ => ?_))
  show methodCall o name apos pos env ov 1 (backTo pos (starEach [e] env)) (backToKw pos (keywordEach [] env)) = _
  unfold methodCall
  rw [hf, hp]
  rfl
/-- the bound ValueError.__init__ called: the args are laid anew -/
theorem call_mw {prog : Program} {w : World} {A : Around} {E : Value → Shared → Prop} {h : Heap} {g : Array GenState} {d : Drawn} {t : Nat} {os : OsState}
    {nm qn : Str} {C N : Addr} {bs bm : List Value} {hdct : Bool} {sn : List Str} {sub : List Value} {ab : Bool} {col : Option Bool} {dd : Option Addr} {k0 k1 k2 k3 k5 : Option Value} {u e t0 : Addr} {rest : List Value} {Q : Value → Shared → Prop}
    (atC : h.get? C = some (excClassObj nm qn C N bs bm hdct sn sub ab col dd k0 k1 k2 k3 k5 "ValueError.__new__")) (atE : h.get? e = some (excO C t0)) (atU : h.get? u = some (kxs_mw "ValueError.__init__" e)) (line : rest.length ≤ sizeLine)
    (fin : ∀ h' t1, (∀ b o, b ≠ e → h.get? b = some o → h'.get? b = some o) → h'.get? e = some (excO C t1) → Q .none ⟨h', g, d, t, os⟩) :
    wpAny (model prog w) A (call (.ref u) rest) Q E ⟨h, g, d, t, os⟩ := by
  refine wpAny_call (codeAny_of_tree ?_)
  show wpAny _ A.in1 (callAny (.ref u) ⟨rest, []⟩) _ _ _
  simp only [callAny]
  refine wpAny_bind (wpAny_load atU ?_)
  simp only [kxs_mw, show (Value.type "method-wrapper" == Value.type "method" || Value.type "method-wrapper" == Value.type "builtin_function_or_method" || Value.type "method-wrapper" == Value.type "method-wrapper") = true by decide, if_true]
  refine W.KFB.if_so (by decide) ?_
  refine wpAny_bind (ESX.check_bound F.excBase_ValueError atC atE rfl ?_)
  refine wpAny_bind (wpAny_pure (wpAny_pure ?_))
  refine ⟨Code.quiet_builtin _ (by decide +kernel), codeAny_builtin F.excBase_ValueError.initEntry ?_⟩
  rw [Around.under_plainId F.excBase_ValueError.init.plain _]
  wp_walk
  refine fin _ h.objs.size (fun b o nb hb => ?_) ?_
  · exact (Heap.get?_update_other _ _ (Ne.symm nb)).trans (Heap.get?_push_of_some _ hb)
  · exact (Heap.get?_update_self _ (Heap.get?_push_of_some _ atE) rfl).trans rfl
section
variable {prog : Program} {w : World} {A : Around} {E : Value → Shared → Prop} {R : Result → Shared → Prop} {s : Shared} {K : Frag} {mg : Str → Option Value} {base : Heap} {C fI : Addr} {q : Str}
theorem init (T : Er K prog C fI q) {x t0 : Addr} {v : Value} {args : Args} (X : K.In s.heap) (hg : s.heap.Ns mainGlobals mg) (hlim : s.heap.NoLimit) {mb : Str → Option Value} (hb : s.heap.Ns builtinsNs mb) (boot : ∀ y : Str, y ≠ "__name__" → mb y = bootBuiltins y)
    (hx : s.heap.get? x = some (excO C t0)) (hnx : K.lookup x = none) (hroom : A.depth < recursionLimit)
    (hargs : ∀ fd : FuncData, (∃ p1 p2 bd doc pm an cda ct cc, fd = ksFn "__init__" q (xA p1 p2) bd xS .none .none doc pm an (.ref cda) ct cc) → BindsTo s fd args [("self", .ref x), ("value", v)])
    (hq : ∀ h' tk dx t1, Inited s.heap h' x C dx t1 v → R (.ok (.ret .none)) { s with heap := h', toks := tk }) :
    codeAny (model prog w) A (.call (.ref fI) args) R s := by
  obtain ⟨oc, od, doc, pm, an, ct, osl, cda, cc, msg, j, p1, p2, q0, q1, q2, q3, q4, q5, r1, r2, r3, r4, ccl, cdd, vs, ccs, file, tf, cl, cld, csl, ho, hcd, hcode, hvs, hfile, hcell, hline⟩ := T.fn
  obtain ⟨nm, qn, N, bs, bm, sn, sub, ab, col, dd, k0, k1, k2, k3, k5, hC, hbm⟩ := T.cls
  have hcl : clsIn K C = some { name := nm, bases := bs, mro := .ref C :: bm, ns := N, qualname := qn, hasDict := true, slotNames := sn, subclasses := sub, abstract := ab, collection := col, hasDel := false } := by unfold clsIn; rw [hC] <;> rfl
  refine ks_codeAny_call_defAt (fd := ksFn "__init__" q (xA p1 p2) (xB msg j q0 q1 q2 q3 q4 q5 r1 r2 r3 r4) xS .none .none doc pm an (.ref cda) ct cc) (binds := [("self", .ref x), ("value", v)]) hroom (X _ _ ho) rfl hlim (codeRec_of X hcd) rfl
    (hargs _ ⟨_, _, _, _, _, _, _, _, _, rfl⟩) (show ∀ x ∈ xS.names, x.2 ≠ .cell by decide) (fun y hy => ?loc) (fun h₁ hns k => ?_)
  case loc =>
    rcases List.mem_cons.mp hy with rfl | hy
    · exact (show xS.names.lookup ("self" : Str) = some .local by decide)
    · obtain rfl := List.mem_singleton.mp hy
      exact (show xS.names.lookup ("value" : Str) = some .local by decide)
  have X₁ : K.In h₁ := X.keeps k
  have hx₁ := k _ _ hx
  obtain ⟨hh, g, d, t, os⟩ := s
  show _root_.PySem.wpAt _ _ _ (execs (xB msg j q0 q1 q2 q3 q4 q5 r1 r2 r3 r4) _) _ _ _
  refine ks_wpAt_execs_cons (ks_wpAt_Expr_any (ks_wpAt_MethodCall ?_ (call_is hline rfl)))
  obtain ⟨oD, hD1, hD2⟩ : ∃ oD, h₁.get? C = some oD ∧ ∃ cdD, oD.data = .cls cdD := ⟨_, X₁ _ _ hC, _, rfl⟩
  obtain ⟨cdD, hD2⟩ := hD2
  have I₁ : InstAt h₁ x (excO C t0) C none := ⟨hx₁, rfl, rfl, trivial⟩
  refine ks_wpAt_super_base (f := fI) (cc := cda) rfl rfl rfl rfl (X₁ _ _ ho) rfl rfl rfl (X₁ _ _ hcode) rfl hvs hfile T.top ?_
  refine ks_loadName_global rfl rfl (loadGlobal_builtin (hg.keeps k) (mg_none_of X hg T.super) (hb.keeps k) ((boot _ (by decide +kernel)).trans (by decide +kernel)) ⟨rfl, ?_⟩)
  refine wpAny_loadName_free rfl rfl rfl ⟨_, X₁ _ _ hcell, rfl⟩ ?_
  refine wpAny_loadName_local (v := .ref x) rfl rfl hns rfl ?_
  refine ks_wpAny_isType_cls hD1 hD2 ⟨rfl, ?_⟩
  refine ks_wpAny_call_super hD1 hD2 I₁.at_ I₁.cls (fun c e => by cases e) (looks_mroIn X₁ T.mC) (fun h₂ e₂ k₂ => ?_)
  have X₂ : K.In h₂ := X₁.keeps k₂
  have hx₂ := k₂ _ _ hx₁
  have I₂ : InstAt h₂ x (excO C t0) C none := ⟨hx₂, rfl, rfl, trivial⟩
  have al := T.suC
  unfold ks_superIn at al
  rw [hcl] at al
  refine kxs_getMethod kxs_ValueError e₂ (looks_opaque X₂ T.third) (l₀ := .ref C :: bm) ((looks_clsIn X₂ hcl).andThen .now) rfl X₂ al (I₂.type.andThen (looks_subIn X₂ T.veC)) (ks_ne X₂ I₂ hcl) (by decide) ?_
  have k₃ : ∀ b o, h₂.get? b = some o → (h₂.push (kxs_mw "ValueError.__init__" x)).get? b = some o := fun b o e => Heap.get?_push_of_some _ e
  have hu : (h₂.push (kxs_mw "ValueError.__init__" x)).get? h₂.objs.size = some (kxs_mw "ValueError.__init__" x) := Heap.get?_push_at rfl rfl
  refine kxs_callWith (i := "ValueError.__init__") (x := x) rfl (evalArgs_plain ?_)
  refine Calls.spliced_cons ?_
  show wpAny _ _ (eval (.Constant (.str msg) j q3) _) _ _ _
  refine Calls.Constant_str ?_
  refine Calls.spliced_nil ⟨hu, ?_⟩
  refine call_mw (k₃ _ _ (X₂ _ _ hC)) (k₃ _ _ hx₂) hu (one_size _) (fun h₄ t1 k₄ hx₄ => ?_)
  have kk : ∀ b o, b ≠ x → hh.get? b = some o → h₄.get? b = some o := fun b o nb e => k₄ b o nb (k₃ _ _ (k₂ _ _ (k _ _ e)))
  have X₄ : K.In h₄ := fun a o e => kk a o (fun z => by rw [z, hnx] at e; cases e) (X a o e)
  have nx : hh.objs.size ≠ x := fun z => by
    have := Heap.lt_size hx
    rw [← z] at this
    exact absurd this (Nat.lt_irrefl _)
  have ns₄ : h₄.Ns hh.objs.size (fun y => List.lookup y [(("self" : Str), Value.ref x), ("value", v)].reverse) :=
    hns.at fun o e => k₄ _ _ nx (k₃ _ _ (k₂ _ _ e))
  -- self.value = value
  refine ks_wpAt_execs_cons (wpAt_of_wpAny (plainObj_wpAny_Assign_Attribute ?_))
  refine wpAny_Name (wpAny_loadName_local (v := v) rfl rfl ns₄ rfl ?_) (by decide)
  refine wpAny_Name (wpAny_loadName_local (v := .ref x) rfl rfl ns₄ rfl ?_) (by decide)
  refine set_plain X₄ (ox := excO C t1) (od := none) ⟨hx₄, rfl, rfl, trivial⟩ T.sa ?_
  refine exc_osa X₄ hx₄ hcl (show refsVE (.ref C :: bm) = true from hbm) rfl T.noV (fun h₅ tk₅ dx k₅ dn dne hx₅ hn₅ => ?_)
  have big : hh.objs.size ≤ dx := by
    have l1 : hh.objs.size < h₁.objs.size := hns.lt
    have l2 : h₁.objs.size < h₂.objs.size := Heap.lt_size e₂
    have nu : h₂.objs.size ≠ x := Nat.ne_of_gt (Heap.lt_size hx₂)
    have l4 : h₂.objs.size < h₄.objs.size := Heap.lt_size (k₄ _ _ nu hu)
    have l5 : h₄.objs.size ≤ dx := dn
    exact Nat.le_trans (Nat.le_of_lt (Nat.lt_trans l1 (Nat.lt_trans l2 l4))) l5
  refine wpAt_of_wpAny (wpAny_execs_nil ?_)
  exact hq h₅ tk₅ dx t1 ⟨fun b o nb e => k₅ b o nb (kk b o nb e), hx₅, big, dne, hn₅⟩
end
end SqX
set_option Elab.async false
set_option linter.all false
set_option maxRecDepth 100000
set_option maxHeartbeats 2000000
namespace SqX
open PySem PySem.W PySem.Calls PyProof.Rows PySem.HandSPX
/-- a new error at e, its dict at d -/
structure New (h h' : Heap) (e C d t1 : Addr) (v : Value) : Prop where
  keep : ∀ b o, h.get? b = some o → h'.get? b = some o
  big : h.objs.size ≤ e
  obj : h'.get? e = some { cls := .ref C, dict := some d, data := .fields #[.ref t1, .none, .none, .none, .bool false, .none] }
  dbig : h.objs.size ≤ d
  dne : d ≠ e
  ns : h'.Ns1 d (fun y => if y = "value" then some v else none)
section
variable {prog : Program} {w : World} {A : Around} {E : Value → Shared → Prop} {R : Result → Shared → Prop} {K : Frag} {mg mb : Str → Option Value} {C fI : Addr} {q : Str}
theorem bind2 {s : Shared} {q : Str} {x v : Value} : ∀ fd : FuncData, (∃ p1 p2 bd doc pm an cda ct cc, fd = ksFn "__init__" q (xA p1 p2) bd xS .none .none doc pm an (.ref cda) ct cc) → BindsTo s fd ⟨[x, v], []⟩ [("self", x), ("value", v)] := by
  rintro fd ⟨p1, p2, bd, doc, pm, an, cda, ct, cc, rfl⟩
  exact BindsTo.of_eq (by first | rfl | with_unfolding_all rfl)
theorem made {s : Shared} (T : Er K prog C fI q) {v : Value} (X : K.In s.heap) (hg : s.heap.Ns mainGlobals mg) (hlim : s.heap.NoLimit) (hb : s.heap.Ns builtinsNs mb) (boot : ∀ y : Str, y ≠ "__name__" → mb y = bootBuiltins y)
    (hroom : A.depth + 1 < recursionLimit)
    (fin : ∀ h' tk e d t1, New s.heap h' e C d t1 v → R (.ok (.ret (.ref e))) { s with heap := h', toks := tk }) :
    codeAny (model prog w) A (.call (.ref C) ⟨[v], []⟩) R s := by
  obtain ⟨nm, qn, N, bs, bm, sn, sub, ab, col, dd, k0, k1, k2, k3, k5, hC, hbm⟩ := T.cls
  obtain ⟨hp, g, dr, tk, os⟩ := s
  have k : ∀ b o, hp.get? b = some o → ((hp.push (kdv_tup [v])).push (excO C hp.objs.size)).get? b = some o := fun b o e => Heap.get?_push_of_some _ (Heap.get?_push_of_some _ e)
  have atE : ((hp.push (kdv_tup [v])).push (excO C hp.objs.size)).get? (hp.objs.size + 1) = some (excO C hp.objs.size) := by heap_get
  have off : K.lookup (hp.objs.size + 1) = none := by
    cases e : K.lookup (hp.objs.size + 1) with
    | none => rfl
    | some o => exact absurd (Nat.lt_of_succ_lt (Heap.lt_size (X _ _ e))) (Nat.lt_irrefl _)
  refine call_own F.excBase_ValueError (fun Y => refsVE_contains Y bm hbm) (X _ _ hC) (looks_findIn X T.iC) (fun self => bind_fn X self T.tC) (one_size v) ?_
  refine init (s := ⟨(hp.push (kdv_tup [v])).push (excO C hp.objs.size), g, dr, tk, os⟩) T (X.keeps k) (hg.keeps k) (hlim.keeps k) (hb.keeps k) boot atE off (show A.depth + 1 < recursionLimit from hroom) bind2 ?_
  rintro h' tk' dx t1 ⟨kp, ob, dn, dne, ns⟩
  have old : ∀ b o, hp.get? b = some o → h'.get? b = some o := fun b o e => kp b o (Nat.ne_of_lt (Nat.lt_succ_of_lt (Heap.lt_size e))) (k b o e)
  have z : hp.objs.size + 1 + 1 ≤ dx := by
    first
      | (simpa only [Heap.size_push] using dn)
      | exact dn
      | (have y := dn; rw [Heap.size_push, Heap.size_push] at y; exact y)
  exact ⟨rfl, fin h' tk' (hp.objs.size + 1) dx t1 ⟨old, Nat.le_succ _, ob, Nat.le_trans (Nat.le_trans (Nat.le_succ _) (Nat.le_succ _)) z, dne, ns⟩⟩
end
end SqX
set_option Elab.async false
set_option linter.all false
set_option maxRecDepth 100000
set_option maxHeartbeats 4000000
/-! The same by keyword. -/
set_option Elab.async false
set_option linter.all false
set_option maxRecDepth 100000
set_option maxHeartbeats 2000000
/-! Own errors as values of the layer: made by position and by name, isinstance of them, their value. -/
namespace Sq
open PySem PySem.Spec PyProof.Rows L2
/-- an error of the class at C stands at a, its dict at d; it holds v -/
def ErrAt (H : Hp) (a d C : Addr) (v : V) : Prop := H a = some (exo a C (some d)) ∧ H d = some (exd d [(("value" : Str), v)])
theorem ErrAt.same {H H' : Hp} {a d C : Addr} {v : V} (s : Same H H') (e : ErrAt H a d C v) : ErrAt H' a d C v := ⟨s _ _ e.1, s _ _ e.2⟩
end Sq
set_option Elab.async false
set_option linter.all false
set_option maxRecDepth 100000
set_option maxHeartbeats 2000000
set_option Elab.async false
set_option linter.all false
set_option maxRecDepth 100000
set_option maxHeartbeats 2000000
/-! Own errors raised; a caught one kept behind its suite. -/
namespace Sq
open PySem PySem.Spec PyProof.Rows L2
/-- an error that was raised: its class and its dict are known -/
def exq (a C : Addr) (d : Option Addr) : HO := .ext fun h => ∃ (oe : Obj) (vs : Array Value), h.get? a = some oe ∧ Zc (.ref C) d oe ∧ oe.data = .fields vs
end Sq
set_option Elab.async false
set_option linter.all false
set_option maxRecDepth 100000
set_option maxHeartbeats 4000000
/-! try: .. except X as n: suite, where the caught error is still known behind it. -/
namespace Sq
open PySem PySem.Spec PyProof.Rows L2
/-! ### what is asked of a caught error -/
/-- an error of the class at C was caught at a, its dict at d; it holds v -/
def CaughtAt (H : Hp) (a d C : Addr) (v : V) : Prop := H a = some (exq a C (some d)) ∧ H d = some (exd d [(("value" : Str), v)])
theorem CaughtAt.same {H H' : Hp} {a d C : Addr} {v : V} (s : Same H H') (e : CaughtAt H a d C v) : CaughtAt H' a d C v := ⟨s _ _ e.1, s _ _ e.2⟩
end Sq
set_option Elab.async false
set_option linter.all false
set_option maxRecDepth 100000
set_option maxHeartbeats 2000000
/-! A walk that is left at its first item: for x in g(..): break. -/
set_option Elab.async false
set_option linter.all false
set_option maxRecDepth 100000
set_option maxHeartbeats 2000000
/-! Calls that may raise. -/
namespace Sq
open PySem PySem.Spec PyProof.Rows L2
structure Dx (P : Program) (w : World) (K : PySem.W.Frag) (mg : Str → Option Value) (base : Heap) (k : Nat) (x : Str) (ps : List Str) (sp : Sp) : Prop where
  ex : ∃ f fd, FnOk P w K mg base (L2.CX P w) k f fd ps sp ∧ mg x = some (.ref f) ∧ PySem.W.keepIn K (.ref f) = true ∧ Binds K fd ps []
theorem Dx.mk' {P : Program} {w : World} {K : PySem.W.Frag} {mg : Str → Option Value} {base : Heap} {k : Nat} {x : Str} {st : Stmt} {ps : List Str} {sp : Sp} {f : Addr} {fd : FuncData} (F : Fun K x x st f fd) (G : FnOk P w K mg base (L2.CX P w) k f fd ps sp) (g : mg x = some (.ref f)) (b : Binds K fd ps []) : Dx P w K mg base k x ps sp :=
  ⟨⟨f, fd, G, g, F.kp, b⟩⟩
/-- what is wanted of an error of the class at C that holds v -/
def Wish (E : XK) (C : Addr) (v : V) (H : Hp) : Prop := ∀ d, H d = none → E (.ref C) (some d) (upd H d (exd d [(("value" : Str), v)]))
end Sq
set_option Elab.async false
set_option linter.all false
set_option maxRecDepth 100000
set_option maxHeartbeats 4000000
/-! A def called within an except suite: walks over lists, pairs unpacked, comprehensions, the handled error asked. -/
namespace Sq
open PySem PySem.Spec PyProof.Rows L2 HotX L2H
/-! ### hot contexts -/
/-- wherever the context's invariant holds an error is handled whose context is None -/
def HotW (X : Cx) : Prop := ∀ (pins : List (Addr × Obj)) (σ : L2.St) (H : Hp) (s : Shared), Inv X pins σ H s → ∃ x1, HotAt X.A x1 s.heap
theorem HotC.w {X : Cx} (c : HotC X) : HotW X := fun _ _ _ _ I => c.at I
end Sq
set_option Elab.async false
set_option linter.all false
set_option maxRecDepth 100000
set_option maxHeartbeats 4000000
/-! A def of the law called within an except suite with the caught error. -/
namespace Sq
open PySem PySem.Spec PyProof.Rows L2 HotX L2H
/-- what a def promises there: e the handled error, its class, its dict -/
abbrev SpZ := Addr → Value → Option Addr → Sp
structure FnHZ (P : Program) (w : World) (K : PySem.W.Frag) (mg : Str → Option Value) (base : Heap) (CX : CXT) (k : Nat) (f : Addr) (fd : FuncData) (ps : List Str) (sp : SpZ) : Prop where
  len : ∀ a c d vs H Q E, sp a c d vs H Q E → vs.length = ps.length
  run : ∀ (A : Around) (outer : List Env) (s : Shared) (H : Hp) (args : Args) (us : List Value) (vs : List V) (Q : VK) (E : XK) (p : Addr × Obj) (cls : Value) (d : Option Addr), RoomH k A → Hot1 A p → L2N.Zn cls d p.2 → PinOk outer H s p → Env0 P w K mg base A outer s H → BindsTo s fd args (ps.zip us) → Vals vs us → sp p.1 cls d vs H Q E →
    codeAny (model P w) A (.call (.ref f) args) (CR CX outer P w H s Q E) s
/-- it stands at its name -/
structure Dz (P : Program) (w : World) (K : PySem.W.Frag) (mg : Str → Option Value) (base : Heap) (k : Nat) (x : Str) (ps : List Str) (sp : SpZ) : Prop where
  ex : ∃ f fd, FnHZ P w K mg base CX0 k f fd ps sp ∧ mg x = some (.ref f) ∧ PySem.W.keepIn K (.ref f) = true ∧ Binds K fd ps []
/-! ### what is asked of the handled error -/
end Sq
set_option Elab.async false
set_option linter.all false
set_option maxRecDepth 100000
set_option maxHeartbeats 4000000
/-! Calls that may raise, where the error's context is known to be None. -/
namespace Sq
open PySem PySem.Spec PyProof.Rows L2
theorem okN {P : Program} {w : World} {K : PySem.W.Frag} {mg : Str → Option Value} {base : Heap} {x qual : Str} {st : Stmt} {f : Addr} {fd : FuncData} {N ps : List Str} {k : Nat} {sp : Sp} (F : Fun K x qual st f fd) (S : FnScope N ps (defScope st)) (len : ∀ vs H Q E, sp vs H Q E → vs.length = ps.length)
    (walk : ∀ (cdv : Value) (A : Around) (outer : List Env) (s : Shared) (H : Hp) (vs : List V) (Q : VK) (E : XK), Room k (A.deeper (envOfC qual (defScope st) s.heap.objs.size f cdv)) → sp vs H Q E →
      ∃ t, PSs (cxOf (L2N.CX P w) P w K mg base N qual (defScope st) f cdv A outer s H E) (defBody st) t ∧ t { nx := fun _ H' => Q .non H', rt := Q } (L2.start N vs) H) : FnOk P w K mg base (L2N.CX P w) (k + 1) f fd ps sp := by
  obtain ⟨oc, od, kV, doc, pm, an, cdv, ct, osl, rfl, lk, hcd⟩ := F.ex
  exact fn_of lk hcd S len fun A outer s H vs Q E hr h => walk cdv A outer s H vs Q E hr h
structure Dn (P : Program) (w : World) (K : PySem.W.Frag) (mg : Str → Option Value) (base : Heap) (k : Nat) (x : Str) (ps : List Str) (sp : Sp) : Prop where
  ex : ∃ f fd, FnOk P w K mg base (L2N.CX P w) k f fd ps sp ∧ mg x = some (.ref f) ∧ PySem.W.keepIn K (.ref f) = true ∧ Binds K fd ps []
theorem Dn.mk' {P : Program} {w : World} {K : PySem.W.Frag} {mg : Str → Option Value} {base : Heap} {k : Nat} {x : Str} {st : Stmt} {ps : List Str} {sp : Sp} {f : Addr} {fd : FuncData} (F : Fun K x x st f fd) (G : FnOk P w K mg base (L2N.CX P w) k f fd ps sp) (g : mg x = some (.ref f)) (b : Binds K fd ps []) : Dn P w K mg base k x ps sp :=
  ⟨⟨f, fd, G, g, F.kp, b⟩⟩
theorem Dz.mk' {P : Program} {w : World} {K : PySem.W.Frag} {mg : Str → Option Value} {base : Heap} {k : Nat} {x : Str} {st : Stmt} {ps : List Str} {sp : SpZ} {f : Addr} {fd : FuncData} (F : Fun K x x st f fd) (G : FnHZ P w K mg base CX0 k f fd ps sp) (g : mg x = some (.ref f)) (b : Binds K fd ps []) : Dz P w K mg base k x ps sp :=
  ⟨⟨f, fd, G, g, F.kp, b⟩⟩
section
variable {P : Program} {w : World} {K : PySem.W.Frag} {mg : Str → Option Value} {base : Heap} {N : List Str} {qual : Str} {scope : Scope} {f : Addr} {cd : Value} {A : Around} {outer : List Env} {s : Shared} {H : Hp} {E : XK}
theorem takesN : L2N.Takes (cxOf (L2N.CX P w) P w K mg base N qual scope f cd A outer s H E) (fun cls d _ H' => E cls d H') := L2N.takes_of rfl rfl rfl rfl
theorem ownsN : PassesOwn (model P w) (cxOf (L2N.CX P w) P w K mg base N qual scope f cd A outer s H E).A (cxOf (L2N.CX P w) P w K mg base N qual scope f cd A outer s H E).env (cxOf (L2N.CX P w) P w K mg base N qual scope f cd A outer s H E).xe := passes_of rfl
end
section
variable {X : Cx} {k : Nat} {ps ks : List Str} {sp : Sp} {x : Str} {p pos : Pos} {e : Expr} {es : List Expr} {t tk : TA} {W : WX}
theorem pe_callN (D : Dn X.prog X.w X.K X.mg X.base k x ps sp) (takes : L2N.Takes X W) (hr : Room k X.A) (hg : Gl X x) (ha : PA X (e :: es) t) (hdb : (x == ("__debug__" : Str)) = false := by decide)
    (he : starEach (e :: es) X.env = (false, eval e X.env) :: starEach es X.env := by rfl) (hpl : (backTo pos (starEach es X.env)).any (·.1) = false := by rfl) :
    PE X (.Call (.Name x p) (e :: es) [] pos) (tCallS sp (WE W) t) := by
  obtain ⟨f, fd, F, g, kp, b⟩ := D.ex
  exact pe_callS F hr hg g kp b (L2N.passAt takes) ha hdb he hpl
/-- raise X(e): what is made, its context None -/
theorem pmk_erN {C fI : Addr} {q : Str} {te : TE} (T : SqX.Er X.K X.prog C fI q) (gC : X.mg x = some (.ref C)) (hr : Room k X.A) (hg : Gl X x) (he : PE X e te)
    (hs : starEach [e] X.env = (false, eval e X.env) :: starEach [] X.env := by rfl) (hdb : (x == ("__debug__" : Str)) = false := by decide) :
    L2N.PMk X (.Call (.Name x p) [e] [] pos) (fun σ H Q => te σ H fun v H1 => ∀ d, H1 d = none → Q (.ref C) (some d) (upd H1 d (exd d [(("value" : Str), v)]))) := by
  intro pins s σ H Q I h
  refine wpAny_Call_Name_kw (ld_glob I hg gC ?_ hdb)
  refine PySem.W.callWith_K (h₀ := X.base) I.ok.mod.kin T.kC ?_ hs (by rfl)
  rw [hs]
  show wpAny _ _ (spliced ((false, eval e X.env) :: backTo pos (starEach [] X.env))) _ _ s
  refine Calls.spliced_cons (thn (he.run pins s σ H _ I h) fun u s1 hh => ?_)
  obtain ⟨v, H1, I1, r1, q1⟩ := hh
  refine Calls.spliced_nil ⟨I1.kIn, ?_⟩
  show wpAny _ _ (call (.ref C) [u]) _ _ _
  obtain ⟨mb, hb, boot⟩ := I1.ok.mod.blt
  refine wpAny_call (SqX.made T I1.kIn (I1.ok.mod.glob.keeps I1.bk) I1.nolimit (hb.keeps I1.bk) boot (by have := hr.dp; omega) fun h' tk a d t1 M => ?_)
  have na : H1 a = none := I1.hok.fresh M.big
  have nd : H1 d = none := I1.hok.fresh M.dbig
  obtain ⟨G, g1, g2⟩ := restrict h' fun b => decide (b ≠ a)
  have gk : ∀ b, b ≠ a → G.get? b = h'.get? b := fun b hb => g1 b (decide_eq_true hb)
  have ga : G.get? a = none := g2 a (by simp)
  have old : ∀ b o, s1.heap.get? b = some o → G.get? b = some o := fun b o z => (gk b (Nat.ne_of_lt (Nat.lt_of_lt_of_le (Heap.lt_size z) M.big))).trans (M.keep b o z)
  have nsG : G.Ns1 d (fun y => if y = "value" then some u else none) := M.ns.at fun o z => (gk d M.dne).trans z
  have rel : ∀ f, RelO (List.lookup f [(("value" : Str), v)]) (if f = "value" then some u else none) := relO_put (fs := []) (mA := fun _ => none) r1 fun g => True.intro
  have J : Inv X pins σ (upd H1 d (exd d [(("value" : Str), v)])) { s1 with heap := G, toks := tk } := I1.laid (t' := tk) old M.dbig (exd_ok nsG rel)
  refine ⟨a, _, _, { s1 with heap := G, toks := tk }, _, .ref C, some d, rfl, J, fun b o z => ?_, ga, M.obj, ⟨rfl, rfl, fun vs e => by cases e; rfl⟩, rfl, rfl, by rw [upd_ne (Ne.symm M.dne)]; exact na, rfl, I1.bare, raises_own T.exC T.tyC, q1 d nd⟩
  by_cases hb : b = a
  · rw [hb, ga] at z
    cases z
  · rw [← gk b hb]
    exact z
end
end Sq
set_option Elab.async false
set_option linter.all false
set_option maxRecDepth 100000
set_option maxHeartbeats 2000000
/-! Data read off the layer's heap. -/
namespace Sq
open PySem PySem.Spec PyProof.Rows L2
theorem same_new {H : Hp} {p : Addr} {o : HO} (h : H p = none) : Same H (upd H p o) := fun b x e => by
  rw [upd_ne (ne_of_none e h)]
  exact e
theorem map_at {ks : List Int} {i : Nat} {x : V} (h : (ks.map V.int)[i]? = some x) : ∃ k, ks[i]? = some k ∧ V.int k = x := by
  rw [List.getElem?_map] at h
  exact Option.map_eq_some_iff.mp h
section
variable {K : PySem.W.Frag}
theorem dp_ints {H : Hp} : ∀ (ds : List Int), DpAll K H (ds.map V.int) (ds.map PyData.int)
  | [] => .nil
  | d :: ds => .cons (.int d) (dp_ints ds)
theorem lays_ints : ∀ (ds : List Int), PyData.canLayAll0 (ds.map PyData.int) = true
  | [] => rfl
  | d :: ds => by
    show (PyData.canLay0 (.int d) && PyData.canLayAll0 (ds.map PyData.int)) = true
    rw [lays_ints ds]
    rfl
theorem deep_ints : ∀ (ds : List Int), PyData.depthAll (ds.map PyData.int) ≤ 1
  | [] => Nat.zero_le _
  | _ :: ds => Nat.max_le.mpr ⟨Nat.zero_le _, deep_ints ds⟩
theorem shaped_ints (ds : List Int) : SeqAt.shaped (.list (ds.map PyData.int)) = true :=
  Bool.and_eq_true_iff.mpr ⟨lays_ints ds, decide_eq_true (Nat.le_trans (Nat.add_le_add_right (deep_ints ds) 1) (by decide))⟩
end
/-! ### data of ints and short lists -/
mutual
def il : PyData → Bool
  | .int _ => true
  | .list xs => decide (xs.length ≤ 1000) && ilAll xs
  | _ => false
def ilAll : List PyData → Bool
  | [] => true
  | x :: xs => il x && ilAll xs
end
mutual
theorem Dp.same {K : PySem.W.Frag} {H H' : Hp} (s : Same H H') : ∀ {d : PyData} {x : V}, Dp K H x d → Dp K H' x d
  | .none, _, .non => .non
  | .bool b, _, .bl _ => .bl b
  | .int i, _, .int _ => .int i
  | .str x, _, .str _ => .str x
  | .list ds, _, .lst h a => .lst (s.seq h) (DpAll.same s a)
  | .tuple ds, _, .tup h a => .tup (by
      rcases h with (h | ⟨o, h⟩) | h
      · exact .inl (.inl (s _ _ h))
      · exact .inl (.inr ⟨o, s _ _ h⟩)
      · exact .inr h) (DpAll.same s a)
theorem DpAll.same {K : PySem.W.Frag} {H H' : Hp} (s : Same H H') : ∀ {ds : List PyData} {xs : List V}, DpAll K H xs ds → DpAll K H' xs ds
  | [], _, .nil => .nil
  | _ :: _, _, .cons h t => .cons (Dp.same s h) (DpAll.same s t)
end
/-! ### the text of a list of ints -/
theorem heavy_ints : ∀ (ks : List Int), (∀ k ∈ ks, k.natAbs < 10 ^ 12) → PyData.weightAll (ks.map PyData.int) ≤ 64 * ks.length
  | [], _ => Nat.le_refl _
  | k :: ks, h => by
    have ih := heavy_ints ks fun x hx => h x (List.mem_cons_of_mem _ hx)
    have hk := h k (List.mem_cons_self ..)
    have w1 : PyData.weight (.int k) ≤ 41 := by
      show (if k == 0 then 0 else k.natAbs.log2 + 1) ≤ 41
      split
      · omega
      · have : k.natAbs.log2 < 40 := PySem.Flt.log2_lt_of (by decide) (Nat.lt_of_lt_of_le hk (by decide))
        omega
    show PyData.weight (.int k) + 1 + PyData.weightAll (ks.map PyData.int) ≤ 64 * (ks.length + 1)
    omega
theorem shows_ints : ∀ (ks : List Int), (∀ k ∈ ks, k.natAbs < 10 ^ 12) → PyData.showableAll (ks.map PyData.int) = true
  | [], _ => rfl
  | k :: ks, h => by
    have ih := shows_ints ks fun x hx => h x (List.mem_cons_of_mem _ hx)
    have hk := h k (List.mem_cons_self ..)
    have : k.natAbs.log2 < 40 := PySem.Flt.log2_lt_of (by decide) (Nat.lt_of_lt_of_le hk (by decide))
    show (decide (k.natAbs.log2 < 1920) && PyData.showableAll (ks.map PyData.int)) = true
    rw [ih, decide_eq_true (by omega)]
    rfl
theorem nodict_ints : ∀ (ks : List Int), PyData.hasDictAll (ks.map PyData.int) = false
  | [] => rfl
  | _ :: ks => nodict_ints ks
theorem short_ints {ks : List Int} (h : ∀ k ∈ ks, k.natAbs < 10 ^ 12) (hl : ks.length ≤ 1000) : (PyData.list (ks.map PyData.int)).shown.length ≤ sizeLine := by
  have w1 : PyData.weight (.list (ks.map PyData.int)) ≤ 64 * ks.length := heavy_ints ks h
  have lv := PyData.leavesShort_of_canLay0 13 (.list (ks.map PyData.int)) (lays_ints ks) (PyData.intsShortAll_ints ks h)
  refine PyData.shown_fits (B := 13) (by decide) (by decide) lv (Nat.le_trans w1 ?_)
  have e : (2 : Nat) ^ 20 = 1048576 := by decide
  omega
theorem dep40 (ks : List Int) : (PyData.list (ks.map PyData.int)).depth ≤ 40 := Nat.le_trans (Nat.add_le_add_right (deep_ints ks) 1) (by decide)
end Sq
namespace Sq
open PySem PySem.Spec PyProof.Rows L2
/-! ### repr of any value whose data is known -/
structure Shown (K : PySem.W.Frag) (H : Hp) (x : V) (d : PyData) : Prop where
  dp : Dp K H x d
  sh : d.showable = true
  nd : d.hasDict = false
  dep : d.depth ≤ 40
  fit : d.shown.length ≤ sizeLine
theorem Shown.same {K : PySem.W.Frag} {H H' : Hp} {x : V} {d : PyData} (S : Shown K H x d) (s : Same H H') : Shown K H' x d := ⟨Dp.same s S.dp, S.sh, S.nd, S.dep, S.fit⟩
theorem fits40 {d : PyData} (h : d.leavesShort 40 = true) (hw : d.weight ≤ 100000) : d.shown.length ≤ sizeLine := by
  have e := PyData.shown_le 40 (by decide) d h
  rw [sizeLine_eq]
  omega
/-! ### powers of greater numbers -/
end Sq
set_option Elab.async false
set_option linter.all false
/-! Squeezing and reaches in plain Lean. -/
namespace Sq
def once (n k : Int) : Int := n / k + n % k
def sq (n : Int) (ks : List Int) : Int := ks.foldl once n
def rw1 (k R : Int) : Int := if k > R + 1 then R else (R + 3 - k) * k - 2
theorem once_nonneg {k n : Int} (hk : 2 ≤ k) (h0 : 0 ≤ n) : 0 ≤ once n k := by
  unfold once
  have h1 := Int.ediv_nonneg h0 (by omega : 0 ≤ k)
  have h2 := Int.emod_nonneg n (by omega : k ≠ 0)
  omega
theorem sq_concat (n : Int) (ks : List Int) (k : Int) : sq n (ks ++ [k]) = once (sq n ks) k := by
  unfold sq
  rw [List.foldl_append]
  rfl
end Sq
set_option Elab.async false
set_option linter.all false
set_option maxRecDepth 100000
set_option maxHeartbeats 2000000
/-! What the laws share: the built-in names, the error classes, low numbers, data that can be shown, keeping heaps. -/
namespace Sq
open PySem PySem.Spec PyProof.Rows L2
structure Bi (mg : Str → Option Value) : Prop where
  n_len : mg "len" = none
  n_min : mg "min" = none
  n_max : mg "max" = none
  n_abs : mg "abs" = none
  n_range : mg "range" = none
  n_isinstance : mg "isinstance" = none
  n_repr : mg "repr" = none
  n_enumerate : mg "enumerate" = none
  n_reversed : mg "reversed" = none
  n_sorted : mg "sorted" = none
  n_bool : mg "bool" = none
  n_int : mg "int" = none
  n_str : mg "str" = none
  n_list : mg "list" = none
  n_tuple : mg "tuple" = none
  n_set : mg "set" = none
  n_sum : mg "sum" = none
  n_zip : mg "zip" = none
  n_all : mg "all" = none
  n_any : mg "any" = none
  n_ValueError : mg "ValueError" = none
  n_divmod : mg "divmod" = none
/-- the first number less than 2 -/
def lowAt : List Int → Option Nat
  | [] => none
  | k :: ks => if k < 2 then some 0 else (lowAt ks).map (· + 1)
theorem lowAt_none : ∀ {ks : List Int}, lowAt ks = none → ∀ k ∈ ks, 2 ≤ k
  | k :: ks, h, x, hx => by
    unfold lowAt at h
    by_cases c : k < 2
    · rw [if_pos c] at h
      cases h
    · rw [if_neg c] at h
      rcases List.mem_cons.mp hx with e | e
      · omega
      · cases q : lowAt ks with
        | none => exact lowAt_none q x e
        | some j => rw [q] at h; cases h
theorem lowAt_take : ∀ (ks : List Int) (i : Nat), (∀ k ∈ ks.take i, 2 ≤ k) → (∀ k, ks[i]? = some k → k < 2 → lowAt ks = some i) ∧ (ks.length ≤ i → lowAt ks = none)
  | [], i, _ => ⟨fun k e => by simp at e, fun _ => rfl⟩
  | k :: ks, 0, _ => ⟨fun x e c => by
      cases e
      show (if k < 2 then some 0 else (lowAt ks).map (· + 1)) = some 0
      rw [if_pos c], fun z => by simp at z⟩
  | k :: ks, i + 1, h => by
    have hk := h k (by simp)
    obtain ⟨a, b⟩ := lowAt_take ks i fun x hx => h x (by simp [hx])
    refine ⟨fun x e c => ?_, fun z => ?_⟩
    · show (if k < 2 then some 0 else (lowAt ks).map (· + 1)) = some (i + 1)
      rw [if_neg (by omega), a x e c]
      rfl
    · show (if k < 2 then some 0 else (lowAt ks).map (· + 1)) = none
      rw [if_neg (by omega), b (by simpa using z)]
      rfl
/-! ### data that can be shown -/
structure Gd (n : Nat) (d : PyData) : Prop where
  sh : d.showable = true
  nd : d.hasDict = false
  dep : d.depth ≤ 4
  lf : d.leavesShort 40 = true
  wt : d.weight ≤ n
structure GdA (n : Nat) (ds : List PyData) : Prop where
  sh : PyData.showableAll ds = true
  nd : PyData.hasDictAll ds = false
  dep : PyData.depthAll ds ≤ 3
  lf : PyData.leavesShortAll 40 ds = true
  wt : PyData.weightAll ds ≤ n
theorem GdA.nil : GdA 0 [] := ⟨rfl, rfl, Nat.zero_le _, rfl, Nat.le_refl _⟩
theorem GdA.cons {n m : Nat} {d : PyData} {ds : List PyData} (h : Gd n d) (dp : d.depth ≤ 3) (t : GdA m ds) : GdA (n + 1 + m) (d :: ds) := by
  refine ⟨?_, ?_, Nat.max_le.mpr ⟨dp, t.dep⟩, ?_, ?_⟩
  · show (d.showable && PyData.showableAll ds) = true
    rw [h.sh, t.sh]; rfl
  · show (d.hasDict || PyData.hasDictAll ds) = false
    rw [h.nd, t.nd]; rfl
  · show (d.leavesShort 40 && PyData.leavesShortAll 40 ds) = true
    rw [h.lf, t.lf]; rfl
  · have a := h.wt
    have b := t.wt
    show d.weight + 1 + PyData.weightAll ds ≤ n + 1 + m
    omega
theorem GdA.list {n : Nat} {ds : List PyData} (t : GdA n ds) : Gd n (.list ds) := ⟨t.sh, t.nd, Nat.add_le_add_right t.dep 1, t.lf, t.wt⟩
theorem Gd.shown {n : Nat} {K : PySem.W.Frag} {H : Hp} {x : V} {d : PyData} (h : Gd n d) (l : n ≤ 100000) (dp : Dp K H x d) : Shown K H x d :=
  ⟨dp, h.sh, h.nd, Nat.le_trans h.dep (by decide), fits40 h.lf (Nat.le_trans h.wt l)⟩
/-! ### the low numbers -/
/-- the heap without one cell -/
def wo (H : Hp) (D : Addr) : Hp := fun b => if b = D then none else H b
theorem wo_upd {H : Hp} {D : Addr} {o : HO} : wo (upd H D o) D = wo H D := by
  funext b
  unfold wo
  by_cases h : b = D
  · rw [if_pos h, if_pos h]
  · rw [if_neg h, if_neg h, upd_ne h]
theorem wo_ne {H : Hp} {D b : Addr} (h : b ≠ D) : wo H D b = H b := by
  unfold wo
  rw [if_neg h]
theorem wo_same {H : Hp} {D : Addr} : Same (wo H D) H := fun b o e => by
  unfold wo at e
  by_cases h : b = D
  · rw [if_pos h] at e; cases e
  · rw [if_neg h] at e; exact e
theorem same_wo {G H : Hp} {D : Addr} (s : Same G H) (h : G D = none) : Same G (wo H D) := fun b o e => by
  rw [wo_ne (fun z => by subst z; rw [h] at e; cases e)]
  exact s b o e
theorem wo_self {H : Hp} {D : Addr} : wo H D D = none := by
  unfold wo
  rw [if_pos rfl]
end Sq
set_option Elab.async false
set_option linter.all false
set_option maxHeartbeats 1000000
/-! Two lists part at the run between their greatest origins of 1. -/
namespace Sq
theorem sq_cons (n k : Int) (ks : List Int) : sq n (k :: ks) = sq (once n k) ks := rfl
def pro (ks : List Int) : Int := ks.foldl (· * ·) 1
theorem pro_from : ∀ (ks : List Int) (n : Int), ks.foldl (· * ·) n = n * pro ks
  | [], n => (Int.mul_one n).symm
  | k :: ks, n => by
    show ks.foldl (· * ·) (n * k) = n * (ks.foldl (· * ·) (1 * k))
    rw [pro_from ks (n * k), pro_from ks (1 * k), Int.one_mul, Int.mul_assoc]
theorem pro_cons (k : Int) (ks : List Int) : pro (k :: ks) = k * pro ks := by
  show ks.foldl (· * ·) (1 * k) = _
  rw [pro_from, Int.one_mul]
theorem pro_pos : ∀ {ks : List Int}, (∀ k ∈ ks, 2 ≤ k) → 1 ≤ pro ks
  | [], _ => by decide
  | k :: ks, h => by
    rw [pro_cons]
    have a := h k (List.mem_cons_self ..)
    have b := pro_pos (ks := ks) fun x hx => h x (List.mem_cons_of_mem _ hx)
    have := Int.mul_le_mul a b (by decide) (by omega)
    omega
theorem once_mul {k m : Int} (h : 2 ≤ k) : once (k * m) k = m := by
  unfold once
  rw [Int.mul_ediv_cancel_left m (by omega), Int.mul_emod_right, Int.add_zero]
/-- a multiple of the product -/
theorem sq_mul : ∀ (ks : List Int) (m : Int), (∀ k ∈ ks, 2 ≤ k) → sq (pro ks * m) ks = m
  | [], m, _ => Int.one_mul m
  | k :: ks, m, h => by
    rw [sq_cons, pro_cons, Int.mul_assoc, once_mul (h k (List.mem_cons_self ..))]
    exact sq_mul ks m fun x hx => h x (List.mem_cons_of_mem _ hx)
theorem once_grow {n k : Int} (hk : 2 ≤ k) (h0 : 0 ≤ n) : n ≤ k * once n k := by
  unfold once
  have e := Int.mul_ediv_add_emod n k
  have m0 := Int.emod_nonneg n (by omega : k ≠ 0)
  have : n % k ≤ k * (n % k) := by
    have := Int.mul_le_mul_of_nonneg_right (show 1 ≤ k by omega) m0
    rwa [Int.one_mul] at this
  rw [Int.mul_add]
  omega
/-- what is longer than the product isn't single -/
theorem sq_grow : ∀ (ks : List Int) (n : Int), (∀ k ∈ ks, 2 ≤ k) → 0 ≤ n → n ≤ pro ks * sq n ks
  | [], n, _, _ => Int.le_of_eq (Int.one_mul n).symm
  | k :: ks, n, h, h0 => by
    have k2 := h k (List.mem_cons_self ..)
    have hs : ∀ x ∈ ks, 2 ≤ x := fun x hx => h x (List.mem_cons_of_mem _ hx)
    have a := once_grow k2 h0
    have b := sq_grow ks (once n k) hs (once_nonneg k2 h0)
    rw [sq_cons, pro_cons, Int.mul_assoc]
    exact Int.le_trans a (Int.mul_le_mul_of_nonneg_left b (by omega))
theorem sq_two {ks : List Int} {n : Int} (h : ∀ k ∈ ks, 2 ≤ k) (h0 : pro ks < n) : 2 ≤ sq n ks := by
  have p := pro_pos h
  have g := sq_grow ks n h (by omega)
  by_cases c : sq n ks ≤ 1
  · have := Int.mul_le_mul_of_nonneg_left c (show 0 ≤ pro ks by omega)
    omega
  · omega
/-- the first place where they part -/
def parts : Int → Int → List Int → List Int → Option Int
  | p, b, k :: ks, l :: ls => if k ≠ l then some (p - b * (min k l - 1)) else parts p (b * k) ks ls
  | _, _, _, _ => none
theorem less_single {k : Int} {ks : List Int} (hk : 2 ≤ k) (h : ∀ x ∈ ks, 2 ≤ x) : sq (pro (k :: ks) - (k - 1)) (k :: ks) = 1 := by
  rw [sq_cons, pro_cons]
  have e : k * pro ks - (k - 1) = 1 + k * (pro ks - 1) := by
    rw [Int.mul_sub, Int.mul_one]
    omega
  have o : once (k * pro ks - (k - 1)) k = pro ks * 1 := by
    unfold once
    rw [e, Int.add_mul_ediv_left _ _ (by omega : k ≠ 0), Int.add_mul_emod_self_left, Int.ediv_eq_zero_of_lt (by decide) (by omega), Int.emod_eq_of_lt (by decide) (by omega)]
    omega
  rw [o, sq_mul ks 1 h]
theorem more_not {k l : Int} {ls : List Int} (hk : 2 ≤ k) (kl : k < l) (h : ∀ x ∈ ls, 2 ≤ x) : 2 ≤ sq (pro (l :: ls) - (k - 1)) (l :: ls) := by
  rw [sq_cons, pro_cons]
  have e : l * pro ls - (k - 1) = (l - k + 1) + l * (pro ls - 1) := by
    rw [Int.mul_sub, Int.mul_one]
    omega
  have o : once (l * pro ls - (k - 1)) l = pro ls + (l - k) := by
    unfold once
    rw [e, Int.add_mul_ediv_left _ _ (by omega : l ≠ 0), Int.add_mul_emod_self_left, Int.ediv_eq_zero_of_lt (by omega) (by omega), Int.emod_eq_of_lt (by omega) (by omega)]
    omega
  rw [o]
  exact sq_two h (by omega)
/-- lists with one product: they part exactly if they are different -/
theorem parts_ok : ∀ (ks ls : List Int) (b : Int), (∀ k ∈ ks, 2 ≤ k) → (∀ k ∈ ls, 2 ≤ k) → pro ks = pro ls → 1 ≤ b →
    (parts (b * pro ks) b ks ls = none ↔ ks = ls) ∧ ∀ r, parts (b * pro ks) b ks ls = some r → ∃ m, r = b * m ∧ 1 ≤ m ∧ sq m ks ≠ sq m ls
  | [], [], _, _, _, _, _ => ⟨⟨fun _ => rfl, fun _ => rfl⟩, fun _ h => nomatch h⟩
  | [], l :: ls, _, _, h2, e, _ => by
    exfalso
    rw [pro_cons] at e
    have a := h2 l (List.mem_cons_self ..)
    have p := pro_pos fun x hx => h2 x (List.mem_cons_of_mem _ hx)
    have := Int.mul_le_mul a p (by decide) (by omega)
    rw [← e] at this
    exact absurd this (by decide)
  | k :: ks, [], _, h1, _, e, _ => by
    exfalso
    rw [pro_cons] at e
    have a := h1 k (List.mem_cons_self ..)
    have p := pro_pos fun x hx => h1 x (List.mem_cons_of_mem _ hx)
    have := Int.mul_le_mul a p (by decide) (by omega)
    rw [e] at this
    exact absurd this (by decide)
  | k :: ks, l :: ls, b, h1, h2, e, hb => by
    have k2 := h1 k (List.mem_cons_self ..)
    have l2 := h2 l (List.mem_cons_self ..)
    have hk : ∀ x ∈ ks, 2 ≤ x := fun x hx => h1 x (List.mem_cons_of_mem _ hx)
    have hl : ∀ x ∈ ls, 2 ≤ x := fun x hx => h2 x (List.mem_cons_of_mem _ hx)
    unfold parts
    by_cases c : k = l
    · subst c
      rw [if_neg (fun z => z rfl)]
      have e2 : pro ks = pro ls := by
        rw [pro_cons, pro_cons] at e
        exact Int.eq_of_mul_eq_mul_left (by omega) e
      have bk : 1 ≤ b * k := by
        have := Int.mul_le_mul hb (show 1 ≤ k by omega) (by decide) (by omega)
        omega
      have ih := parts_ok ks ls (b * k) hk hl e2 bk
      rw [pro_cons, ← Int.mul_assoc]
      refine ⟨⟨fun z => by rw [ih.1.mp z], fun z => ih.1.mpr (List.cons.inj z).2⟩, fun r hr => ?_⟩
      obtain ⟨m, em, m1, d⟩ := ih.2 r hr
      refine ⟨k * m, by rw [em, Int.mul_assoc], ?_, ?_⟩
      · have := Int.mul_le_mul (show 1 ≤ k by omega) m1 (by decide) (by omega)
        omega
      · rw [sq_cons, sq_cons, once_mul k2]
        exact d
    · rw [if_pos c]
      refine ⟨⟨fun z => (nomatch z), fun z => absurd (List.cons.inj z).1 c⟩, fun r hr => ?_⟩
      have er : r = b * (pro (k :: ks) - (min k l - 1)) := by
        rw [Int.mul_sub]
        exact (Option.some.inj hr).symm
      have pk := pro_pos hk
      have grow : k - 1 < pro (k :: ks) := by
        rw [pro_cons]
        have := Int.mul_le_mul_of_nonneg_left pk (show 0 ≤ k by omega)
        omega
      refine ⟨_, er, ?_, ?_⟩
      · omega
      · rcases Int.lt_or_gt_of_ne c with d | d
        · rw [show min k l = k by omega, less_single k2 hk, e]
          have := more_not k2 d hl
          omega
        · rw [show min k l = l by omega]
          have a := more_not l2 d hk
          have b := less_single l2 hl
          rw [← e] at b
          omega
end Sq
set_option Elab.async false
set_option linter.all false
set_option maxHeartbeats 1000000
/-! What parting_run returns. -/
namespace Sq
open PySem PySem.Spec PyProof.Rows L2
def prodF (n : Int) (ks : List Int) : Int := ks.foldl (· * ·) n
def part (L b : Int) : List Int → List Int → V
  | x :: xs, y :: ys => if x = y then part L (b * x) xs ys else .int (L - b * ((if y < x then y else x) - 1))
  | _, _ => .non
def prun (ks ls : List Int) : V := if prodF 1 ks = prodF 1 ls then part (prodF 1 ks) 1 ks ls else .int (if prodF 1 ls > prodF 1 ks then prodF 1 ls else prodF 1 ks)
theorem part_parts (L : Int) : ∀ (b : Int) (ks ls : List Int), part L b ks ls = match parts L b ks ls with | none => .non | some r => .int r
  | _, [], _ => rfl
  | _, _ :: _, [] => rfl
  | b, x :: xs, y :: ys => by
    unfold part parts
    by_cases c : x = y
    · rw [if_pos c, if_neg (fun z => z c)]
      exact part_parts L (b * x) xs ys
    · rw [if_neg c, if_pos c]
      show V.int _ = V.int _
      congr 3
      by_cases d : y < x
      · rw [if_pos d]
        omega
      · rw [if_neg d]
        omega
theorem prun_ok {ks ls : List Int} (h1 : ∀ k ∈ ks, 2 ≤ k) (h2 : ∀ k ∈ ls, 2 ≤ k) : (prun ks ls = .non ∧ ks = ls) ∨ (∃ r, prun ks ls = .int r ∧ ks ≠ ls ∧ 1 ≤ r ∧ sq r ks ≠ sq r ls) := by
  have p1 := pro_pos h1
  have p2 := pro_pos h2
  have s1 := sq_mul ks 1 h1
  have s2 := sq_mul ls 1 h2
  rw [Int.mul_one] at s1 s2
  unfold prun
  show ((if pro ks = pro ls then part (pro ks) 1 ks ls else .int (if pro ls > pro ks then pro ls else pro ks)) = V.non ∧ _) ∨ _
  by_cases e : pro ks = pro ls
  · have ok := parts_ok ks ls 1 h1 h2 e (by decide)
    rw [Int.one_mul] at ok
    rw [if_pos e]
    cases q : parts (pro ks) 1 ks ls with
    | none => exact .inl ⟨by rw [part_parts, q], ok.1.mp q⟩
    | some r =>
      obtain ⟨m, em, m1, d⟩ := ok.2 r q
      rw [Int.one_mul] at em
      refine .inr ⟨r, ?_, fun z => ?_, by omega, by rw [em]; exact d⟩
      · show (if pro ks = pro ls then part (pro ks) 1 ks ls else _) = _
        rw [if_pos e, part_parts, q]
      · rw [ok.1.mpr z] at q
        cases q
  · refine .inr ⟨if pro ls > pro ks then pro ls else pro ks, ?_, fun z => e (by rw [z]), ?_, ?_⟩
    · show (if pro ks = pro ls then _ else V.int (if pro ls > pro ks then pro ls else pro ks)) = _
      rw [if_neg e]
    · split <;> omega
    · split
      · rw [s2]
        have := sq_two h1 (show pro ks < pro ls by omega)
        omega
      · rw [s1]
        have := sq_two h2 (show pro ls < pro ks by omega)
        omega
end Sq
set_option Elab.async false
set_option linter.all false
set_option maxRecDepth 100000
set_option maxHeartbeats 1000000
/-! What is asked of the handled error in its suite, whatever its class. -/
set_option Elab.async false
set_option linter.all false
set_option maxRecDepth 100000
set_option maxHeartbeats 1000000
/-! A def that may raise, called where it doesn't; keywords of such a def. -/
namespace Sq
open PySem PySem.Spec PyProof.Rows L2
/-- as a def that lets nothing out -/
theorem calmly {P : Program} {w : World} {K : PySem.W.Frag} {mg : Str → Option Value} {base : Heap} {k : Nat} {f : Addr} {fd : FuncData} {ps : List Str} {sp : Sp} (G : FnOk P w K mg base (L2N.CX P w) k f fd ps sp) :
    FnOk P w K mg base CX0 k f fd ps (fun vs H Q _ => sp vs H Q fun _ _ _ => False) := by
  refine ⟨fun vs H Q E h => G.len _ _ _ _ h, fun A outer s H args us vs Q E hr e0 hb hv h => ?_⟩
  refine codeAny_mono (G.run A outer s H args us vs Q (fun _ _ _ => False) hr e0 hb hv h) fun r s' hq => ?_
  cases r with
  | error u =>
    obtain ⟨_, _, _, _, _, _, _, _, _, _, _, _, z⟩ := (show L2N.CX P w outer H s (fun _ _ _ => False) u s' from hq)
    exact z.elim
  | ok fl =>
    cases fl with
    | ret u => exact hq
    | next => exact hq
    | brk => exact hq
    | cont => exact hq
end Sq
set_option Elab.async false
set_option linter.all false
set_option maxRecDepth 100000
set_option maxHeartbeats 2000000
/-! sorted of a set of ints, any number of members. -/
namespace Sq
open PySem PySem.Spec PyProof.Rows L2
theorem set_sorted {P : Program} {w : World} {A : Around} {E : Value → Shared → Prop} {s : Shared} {a : Addr} {S : Int → Bool} {n : Nat} {Q : Value → Shared → Prop} (R : SetR w s.heap a S n) (quiet : A.handled = none) (few : n ≤ sizeLine)
    (fin : ∀ s' p (got : List Value) (ep : Nat) (ns : List Int), (∀ b o, s.heap.get? b = some o → s'.heap.get? b = some o) → s'.gens = s.gens → s'.os = s.os → s.heap.objs.size ≤ p → s'.heap.get? p = some (seqObj "list" got.toArray ep) →
      IntsAre got ns → ns.Pairwise (· < ·) → (∀ k, k ∈ ns ↔ S k = true) → ns.length = n → Q (.ref p) s') : wpAny (model P w) A (call (.builtin "sorted") [.ref a]) Q E s := by
  obtain ⟨o, es, ep, t, get, exact', data, good, once, mem, bound, fits, size, ris, led⟩ := R
  apply Calls.call_function_entry kind_sorted plain_sorted entry_sorted (args_sorted1 _)
  unfold Builtin.«sorted»
  apply wpAny_bind (m := checkCount "sorted" 1 1 _)
  apply wpAny_pure
  apply wpAny_bind
  refine collect_set (A := A.in1) quiet ⟨o, get, exact'.1, data⟩ fits bound ris led fun s1 vs kept grown gens os perm => ?_
  have len : vs.length = n := by
    rw [perm.length_eq, List.length_map, Array.length_toList]
    exact size
  have areInts : IntsAre vs (vs.map Builtin.Re.reRawOf) := ints_of vs fun v hv => by
    obtain ⟨e, he, q⟩ := List.mem_map.mp (perm.mem_iff.mp hv)
    obtain ⟨k, tk, h1, _⟩ := good e he
    exact ⟨k, tk, q ▸ h1⟩
  have keys : (vs.map Builtin.Re.reRawOf).Perm (es.toList.map keyOf) := by
    have := perm.map Builtin.Re.reRawOf
    rwa [List.map_map] at this
  apply wpAny_bind
  refine wpAny_newList ?_ (by omega)
  have fresh : (s1.heap.push (seqObj "list" vs.toArray 0)).get? s1.heap.objs.size = some (seqObj "list" vs.toArray 0) := Heap.get?_push_size _ rfl
  apply wpAny_bind
  apply wpAny_holding
  refine wpAny_call_entry slot_list_sort ⟨_, fresh, rfl⟩ entry_list_sort ?_ (args_list_sort _)
  refine SrtO.list_sort_ord SrtO.swo_int fresh (by omega) (fun two => SrtO.ints_sortable areInts two) fun out up stable => ⟨_, rfl, ?_⟩
  obtain ⟨i1, i2, i3⟩ := SrtO.ints_out areInts up stable
  obtain ⟨c, hc⟩ := sortedHeap_at (vs := vs) (out := out.toArray) fresh
  have all := i2.trans keys
  apply wpAny_pure
  refine ⟨_, rfl, fin _ s1.heap.objs.size out c (out.map SrtO.iv) (fun b u e => ?_) gens os grown hc i1 (lt_of_le_nodup _ i3 (all.nodup_iff.mpr once)) (fun k => by rw [all.mem_iff, ← mem k]) ?_⟩
  · have old := kept b u e
    have lt := Heap.lt_size old
    refine (sortedHeap_old (Nat.ne_of_lt lt) ?_).trans (Heap.get?_push_of_some _ old)
    rw [size_push']
    exact Nat.lt_succ_of_lt lt
  · rw [all.length_eq, List.length_map, Array.length_toList, size]
def rSortedSetI (w : World) : List V → Hp → VK → Prop := fun vs H Q => ∃ (a : Addr) (S : Int → Bool) (n : Nat), vs = [V.ref a] ∧ H a = some (SetO w a S n) ∧ n ≤ sizeLine ∧
  ∀ (ns : List Int) (p : Addr), ns.Pairwise (· < ·) → (∀ k : Int, k ∈ ns ↔ S k = true) → ns.length = n → H p = none → Q (.ref p) (upd H p (.lst (ns.map V.int)))
theorem cr_sortedSetI {X : Cx} (hc : X.calm = true) : CallR X (.builtin "sorted") (rSortedSetI X.w) := by
  intro pins s σ H vs us Q I r h
  obtain ⟨a, S, n, rfl, ha, few, q⟩ := h
  rw [Vals.ref1 r]
  refine set_sorted (setO_get I ha) (I.ok.hd hc) few fun s' p got ep ns kept g os lp hg areI up mem len => ?_
  have free : H p = none := I.hok.fresh lp
  have sz : (ns.map V.int).length ≤ sizeLine := by
    rw [List.length_map]
    omega
  have same : s' = { s with heap := s'.heap, gens := s'.gens, drawn := s'.drawn, toks := s'.toks } := by
    cases s'
    cases s
    cases os
    rfl
  rw [same]
  exact ⟨.ref p, upd H p (.lst (ns.map V.int)), I.call (ch := []) (Un.laid kept lp free) (I.hok.laid kept lp ⟨sz, got, ep, vals_of_ints areI, hg⟩) (by rw [g]; exact I.bare) (fun _ z => nomatch z), rfl, q ns p up mem len free⟩
end Sq
set_option Elab.async false
set_option linter.all false
set_option maxRecDepth 100000
set_option maxHeartbeats 4000000
/-! {e for a in xs for b in ys}, e an int: over the library's rules of the same with a list. -/
namespace Sq
open PySem PySem.Spec PyProof.Rows L2
section
variable {X : Cx}
theorem addI_ok {pins : List (Addr × Obj)} {σ : L2.St} {H : Hp} {s : Shared} {E : Value → Shared → Prop} {D : Addr} {S : Int → Bool} {n : Nat} {y : Int} {ty : Tok} {Q : Value → Shared → Prop} (I : Inv X pins σ H s) (at_ : H D = some (SetO X.w D S n)) (room : n + 1 < scanBound)
    (h : ∀ s', Inv X pins σ (upd H D (SetO X.w D (fun j => S j || decide (j = y)) (if S y = true then n else n + 1))) s' → Q .none s') : wpAny (model X.prog X.w) X.A (call (.builtin "set.add") [.ref D, .int y ty]) Q E s := by
  refine setR_add (setO_get I at_) room fun h' same made => ?_
  have there : ∃ u, h'.get? D = some u := by
    have ⟨o, _, _, _, ho, _⟩ := made
    exact ⟨o, ho⟩
  exact h _ (I.write (e := D) (t' := s.toks + 1) (by rw [at_]; trivial) (.inl rfl) (fun b u hb hu => (same.2 b hb).trans hu) there (setO_new made))
end
end Sq
set_option Elab.async false
set_option linter.all false
set_option maxRecDepth 100000
set_option maxHeartbeats 4000000
/-! {e for a in xs}, e an int. -/
namespace Sq
open PySem PySem.Spec PyProof.Rows L2
section
variable {X : Cx}
/-- {elt for tg in iter if ..}: D the new set of ints -/
def tSc1 (w : World) (wi : TI) (g : TG) (tt : TT) (te : TE) (vs : List Nat) : TE := fun σ H Q => wi σ H fun J H1 => ∀ D, H1 D = none → ∃ W : Nat → Nat → Hp → Prop, (∃ m, W 0 m (upd H1 D (SetO w D (fun _ => false) 0))) ∧ ∀ i m H, W i m H →
  (J.stop i H ∧ Q (.ref D) H) ∨ (J.go i H ∧ ∃ NxA : Hp → Prop, (∀ H', NxA H' → ∃ m', m' < m ∧ W (i + 1) m' H') ∧ ∀ x H', J.yld i H x H' → g x (wipe σ vs) H' fun σa HB => wipe σa vs = wipe σ vs ∧ tt σa HB fun b HF =>
    if b = true then te σa HF fun y HG => ∃ (c : Int) (S : Int → Bool) (n : Nat), y = .int c ∧ HG D = some (SetO w D S n) ∧ n + 1 < scanBound ∧ NxA (upd HG D (SetO w D (fun j => S j || decide (j = c)) (if S c = true then n else n + 1))) else NxA HF)
theorem sc1_core {pins : List (Addr × Obj)} {s : Shared} {σ : L2.St} {H : Hp} {Q : VK} {elt tg iter : Expr} {ifs : List Expr} {scope : Scope} {own : List (Str × Nat)} {pos pos' : Pos} {wi : TI} {g : TG} {tt : TT} {te : TE} {use : Option (Value → Sem Unit)} {Qf : Value → Shared → Prop}
    (mood : X.calm = true) (nodupN : X.N.Nodup) (I : Inv X pins σ H s) (sourceA : PI X tg iter wi) (ok : BlkOk X.N X.env.scope scope own)
    (targetA : ∀ (s : Shared) (H : Hp) (C : Addr) (cl : List (Str × Addr)) (fp : List Addr), PG (X.blk s H scope (compEnvC scope cl C X.env) fp) tg g) (testsA : ∀ (s : Shared) (H : Hp) (C : Addr) (cl : List (Str × Addr)) (fp : List Addr), PTs (X.blk s H scope (compEnvC scope cl C X.env) fp) ifs tt)
    (elemA : ∀ (s : Shared) (H : Hp) (C : Addr) (cl : List (Str × Addr)) (fp : List Addr), PE (X.blk s H scope (compEnvC scope cl C X.env) fp) elt te) (plainA : ∀ x, foldedSetIterable iter X.env x = pure x)
    (h : tSc1 X.w wi g tt te (own.map (·.2)) σ H Q)
    (back : ∀ D C s' m H', Inv X pins σ H' s' → Q (.ref D) H' → s'.heap.Ns C m → FpOk X pins H' C → compPost (model X.prog X.w) X.A X.xe use Qf (.ref D) C (.ok .next) s') :
    wpAny (model X.prog X.w) X.A (comprehension (.SetComp elt [⟨tg, iter, ifs, 0⟩] scope pos) scope X.env pos' (newSet (.type "set")) false (eval iter X.env) use) Qf X.xe s := by
  have captured : ∀ y ∈ scope.names, y.2 = .free → ∃ c, X.env.cells.lookup y.1 = some c := fun y hy e => by
    rcases ok.free y hy e with k | k
    · exact I.ok.has _ (.inl k)
    · exact I.ok.has _ (.inr k)
  refine wpAny_comprehension_free (use := use) rfl plainA (closure_ok captured) ok.kind (fun y hy e => by rw [ok.uniq y hy, e])
    (thn (sourceA.run pins s σ H _ I h) fun srcV sA gotX => thn gotX fun itV sB h2 => ?_)
  obtain ⟨it, fp, tn, J, HB, e, I2, T, st2, f2, q⟩ := h2
  subst e
  refine PpSet.newSet_ok (newEnv_comp ?_)
  generalize atD : sB.heap.objs.size = D
  have freshD : HB D = none := I2.hok.fresh (Nat.le_of_eq atD)
  obtain ⟨W, ⟨mes0, inv0⟩, walk0⟩ := q D freshD
  -- the new set
  generalize laid3 : ({ sB with heap := sB.heap.push { cls := .type "set", dict := none, data := .set #[] 0 (.fresh 0 0 (!X.w.params.followText "set-order")) } } : Shared) = sC
  have J3 : Inv X pins σ (upd HB D (SetO X.w D (fun _ => false) 0)) sC := by
    rw [← laid3]
    refine I2.laid (t' := sB.toks) (fun b o e => Heap.get?_push_of_some _ e) (Nat.le_of_eq atD) ?_
    rw [← atD]
    exact setO_new (setR_fresh X.w)
  have heap3 : sC.heap = sB.heap.push { cls := .type "set", dict := none, data := .set #[] 0 (.fresh 0 0 (!X.w.params.followText "set-order")) } := by rw [← laid3]
  have below : ∀ b ∈ fp, b < sB.heap.objs.size := fun b hb => by
    obtain ⟨o, e, _⟩ := T.obj _ _ st2 b hb
    exact Heap.lt_size e
  have roam3 : ∀ b ∈ fp, FpOk X pins (upd HB D (SetO X.w D (fun _ => false) 0)) b ∧ b < sC.heap.objs.size := fun b hb => by
    have hlt := below b hb
    refine ⟨⟨?_, (f2 b hb).2⟩, by rw [heap3, Heap.size_push]; exact Nat.lt_succ_of_lt hlt⟩
    rw [upd_ne (by rw [← atD]; exact Nat.ne_of_lt hlt)]
    exact (f2 b hb).1
  have turn3 : tn 0 sC.heap := T.keep _ _ _ st2 fun b _ o e => by rw [heap3]; exact Heap.get?_push_of_some _ e
  have J4 := block_start J3 ok nodupN roam3
  have tgt := targetA sC (upd HB D (SetO X.w D (fun _ => false) 0)) sC.heap.objs.size (cellsFrom (sC.heap.objs.size + 1) scope.names (cloFrom X.env.cells scope.names [])) fp
  have tst := testsA sC (upd HB D (SetO X.w D (fun _ => false) 0)) sC.heap.objs.size (cellsFrom (sC.heap.objs.size + 1) scope.names (cloFrom X.env.cells scope.names [])) fp
  have elm := elemA sC (upd HB D (SetO X.w D (fun _ => false) 0)) sC.heap.objs.size (cellsFrom (sC.heap.objs.size + 1) scope.names (cloFrom X.env.cells scope.names [])) fp
  show codeAny _ _ (.compStart (.SetComp elt [⟨tg, iter, ifs, 0⟩] scope pos) 0 (.ref it) (.ref D) (compEnvC scope (cellsFrom (sC.heap.objs.size + 1) scope.names (cloFrom X.env.cells scope.names [])) sC.heap.objs.size X.env)) (compPost (model X.prog X.w) X.A X.xe use Qf (.ref D) sC.heap.objs.size) { sC with heap := pushCells (sC.heap.push { cls := .type "dict", data := .dict #[] }) scope.names }
  have untr : ∀ b ∈ fp, (upd HB D (SetO X.w D (fun _ => false) 0)) b = none := fun b hb => (roam3 b hb).1.1
  generalize blkE : compEnvC scope (cellsFrom (sC.heap.objs.size + 1) scope.names (cloFrom X.env.cells scope.names [])) sC.heap.objs.size X.env = ce at J4 tgt tst elm ⊢
  have locE : ce.locals = sC.heap.objs.size := by subst blkE; rfl
  generalize heapE : upd HB D (SetO X.w D (fun _ => false) 0) = HC at J3 J4 tgt tst elm inv0 untr roam3
  generalize laid4 : ({ sC with heap := pushCells (sC.heap.push { cls := .type "dict", data := .dict #[] }) scope.names } : Shared) = sD at J4 ⊢
  have turn4 : tn 0 sD.heap := T.keep _ _ _ turn3 fun b _ o e => by rw [← laid4]; exact pushCells_keeps _ _ _ _ (Heap.get?_push_of_some _ e)
  have roams : ∀ {σ' : L2.St} {H' : Hp} {s' : Shared}, Inv (X.blk sC HC scope ce fp) [] σ' H' s' → (∀ b ∈ fp, H' b = none) → ∀ b ∈ fp, FpOk (X.blk sC HC scope ce fp) [] H' b := fun {σ' H' s'} I' nsC b hb =>
    ⟨nsC b hb, (I'.ok.exf b hb).1, I'.ok.exfs b hb, .inl hb, fun x c e => (I'.ok.exf b hb).2 x c e, fun p hp => absurd (show p ∈ ([] : List (Addr × Obj)) ++ [] from hp) (by simp)⟩
  have outer0 : codeAny (model X.prog X.w) X.A (.compLoop (.SetComp elt [⟨tg, iter, ifs, 0⟩] scope pos) 0 (.ref it) (.ref D) ce) (compPost (model X.prog X.w) X.A X.xe use Qf (.ref D) sC.heap.objs.size) sD := by
    refine PpSet.compLoopS_any (fun n s' => ∃ i H', Inv (X.blk sC HC scope ce fp) [] (wipe σ (own.map (·.2))) H' s' ∧ tn i s'.heap ∧ (∀ b ∈ fp, H' b = none) ∧ W i n H') ?_ mes0 ⟨0, HC, J4, turn4, untr, inv0⟩
    rintro n sE ⟨i, HE, J5, turn5, un5, inv5⟩
    rcases walk0 i n HE inv5 with ⟨atEnd, done0⟩ | ⟨more, NxA, reach, body0⟩
    · have ended := T.done (X.blk sC HC scope ce fp) rfl rfl rfl mood i [] sE _ HE (fun _ _ => False) J5 (roams J5 un5) turn5 atEnd
      refine thnF ended fun r sF ⟨hr, J6⟩ => ?_
      subst hr
      have J7 : Inv X pins σ HE sF := J3.call' (ch := fp) J6.os J6.base J6.hok J6.bare fun b hb => ⟨(roam3 b hb).1.2.2.2.1, (roam3 b hb).1.2.1, (roam3 b hb).1.2.2.2.2.1, (roam3 b hb).1.2.2.2.2.2⟩
      have freeC : HE sC.heap.objs.size = none := by
        have z : HE ce.locals = none := J6.free
        rw [locE] at z
        exact z
      obtain ⟨m, nsC, _⟩ := J6.loc
      have nsC : sF.heap.Ns ce.locals m := nsC
      rw [locE] at nsC
      exact back D sC.heap.objs.size sF m HE J7 done0 nsC (J3.fpOk (Nat.le_refl _) freeC)
    · have given := T.item (X.blk sC HC scope ce fp) rfl rfl rfl mood i [] sE _ HE (fun _ _ => False) J5 (roams J5 un5) turn5 more
      refine thnF given fun r sF ⟨u, hr, got6⟩ => ?_
      subst hr
      refine thnF got6 fun _ sG ⟨x, HG, J7, rel7, yld7, turn7, un7⟩ => ?_
      have J7p := J7.pinned (roams J7 un7) (T.obj _ _ turn7)
      refine thnF (tgt.run _ sG _ HG x u _ J7p rel7 (body0 x HG yld7)) fun _ sH ⟨τ, HH, J8, wip8, go8⟩ => ?_
      refine thnF (tst.run _ sH τ HH _ J8 go8) fun b sI ⟨HI, J9, go9⟩ => ?_
      have close : ∀ {s' : Shared} {H' : Hp}, Inv (X.blk sC HC scope ce fp) ([] ++ pinsAt fp sG.heap) τ H' s' → NxA H' →
          ∃ m, m < n ∧ ∃ i H', Inv (X.blk sC HC scope ce fp) [] (wipe σ (own.map (·.2))) H' s' ∧ tn i s'.heap ∧ (∀ b ∈ fp, H' b = none) ∧ W i m H' := fun {s' H'} I' nextW => by
        obtain ⟨m', lessM, invM⟩ := reach H' nextW
        have kept : ∀ b ∈ fp, ∀ o, sG.heap.get? b = some o → s'.heap.get? b = some o ∧ H' b = none := fun b hb o e =>
          let z := I'.pin (b, o) (List.mem_append_right _ (List.mem_append_right _ (mem_pinsAt hb e)))
          ⟨z.1, z.2.1⟩
        refine ⟨m', lessM, i + 1, H', (I'.unpinned (pins := [])).weak (by rw [← wip8, wipe_length]) (fun j v e => by rw [← wip8] at e; exact (wipe_some e).1), T.keep _ _ _ turn7 fun b hb o e => (kept b hb o e).1, fun b hb => ?_, invM⟩
        obtain ⟨o, e, _⟩ := T.obj _ _ turn7 b hb
        exact (kept b hb o e).2
      cases b with
      | false =>
        simp only [Bool.false_eq_true, if_false] at go9 ⊢
        exact close J9 go9
      | true =>
        simp only [if_true] at go9 ⊢
        refine thnF (elm.run _ sI τ HI _ J9 go9) fun z sQ ⟨yv, HQ, J17, rel17, cb, S0, n0, ey, acc17, room17, nextW⟩ => ?_
        subst ey
        obtain ⟨tz, rfl⟩ := (show ∃ t, z = Value.int cb t from rel17)
        exact addI_ok (X := X.blk sC HC scope ce fp) J17 acc17 room17 fun sR J18 => close J18 nextW
  exact PpSet.codeAny_compStart_set outer0 (T.self X.A 0 _ _ _ turn4 outer0)
/-- as a value -/
theorem pe_sc1 {elt tg iter : Expr} {ifs : List Expr} {scope : Scope} {own : List (Str × Nat)} {pos : Pos} {wi : TI} {g : TG} {tt : TT} {te : TE} (mood : X.calm = true) (nodupN : X.N.Nodup) (sourceA : PI X tg iter wi) (ok : BlkOk X.N X.env.scope scope own)
    (targetA : ∀ (s : Shared) (H : Hp) (C : Addr) (cl : List (Str × Addr)) (fp : List Addr), PG (X.blk s H scope (compEnvC scope cl C X.env) fp) tg g) (testsA : ∀ (s : Shared) (H : Hp) (C : Addr) (cl : List (Str × Addr)) (fp : List Addr), PTs (X.blk s H scope (compEnvC scope cl C X.env) fp) ifs tt)
    (elemA : ∀ (s : Shared) (H : Hp) (C : Addr) (cl : List (Str × Addr)) (fp : List Addr), PE (X.blk s H scope (compEnvC scope cl C X.env) fp) elt te) (plainA : ∀ x, foldedSetIterable iter X.env x = pure x := by intro _; rfl) :
    PE X (.SetComp elt [⟨tg, iter, ifs, 0⟩] scope pos) (tSc1 X.w wi g tt te (own.map (·.2))) := by
  refine ⟨fun pins s σ H Q I h => ?_⟩
  rw [PpSet.eval_SetComp]
  refine sc1_core mood nodupN I sourceA ok targetA testsA elemA plainA h fun D C s' m H' I' q nsC f => ⟨m, nsC, fun h'' sb => ?_⟩
  obtain ⟨f0, f1, f2, roam3, f4, f5⟩ := f
  exact ⟨.ref D, H', I'.turned (t' := s'.toks) (fun b o hb e => (sb.2 b hb).trans e) f0 f1 roam3 f4 f5, rfl, q⟩
end
end Sq
set_option Elab.async false
set_option linter.all false
set_option maxHeartbeats 1000000
/-! The runs that a list makes single: the greatest two, and how many runs one replacement makes equal. -/
namespace Sq
def Single (ks : List Int) (n : Int) : Prop := 1 ≤ n ∧ sq n ks = 1
theorem single_top {ks : List Int} (h : ∀ k ∈ ks, 2 ≤ k) : Single ks (pro ks) := by
  refine ⟨pro_pos h, ?_⟩
  have := sq_mul ks 1 h
  rwa [Int.mul_one] at this
theorem single_le {ks : List Int} {n : Int} (h : ∀ k ∈ ks, 2 ≤ k) (s : Single ks n) : n ≤ pro ks := by
  by_cases c : n ≤ pro ks
  · exact c
  · have := sq_two h (show pro ks < n by omega)
    have e := s.2
    omega
/-- the second greatest one -/
theorem single_next {k : Int} {ks : List Int} (hk : 2 ≤ k) (h : ∀ x ∈ ks, 2 ≤ x) : Single (k :: ks) (pro (k :: ks) - (k - 1)) := by
  refine ⟨?_, less_single hk h⟩
  have p := pro_pos h
  rw [pro_cons]
  have := Int.mul_le_mul_of_nonneg_left p (show 0 ≤ k by omega)
  omega
theorem single_gap {k n : Int} {ks : List Int} (hk : 2 ≤ k) (h : ∀ x ∈ ks, 2 ≤ x) (s : Single (k :: ks) n) (lt : n < pro (k :: ks)) : n ≤ pro (k :: ks) - (k - 1) := by
  by_cases c : n ≤ pro (k :: ks) - (k - 1)
  · exact c
  · exfalso
    rw [pro_cons] at lt c
    have e : n = (n - k * (pro ks - 1)) + k * (pro ks - 1) := by omega
    have m : k * (pro ks - 1) = k * pro ks - k := by rw [Int.mul_sub, Int.mul_one]
    have o : once n k = pro ks - 1 + (n - k * (pro ks - 1)) := by
      unfold once
      rw [e, Int.add_mul_ediv_left _ _ (by omega : k ≠ 0), Int.add_mul_emod_self_left, Int.ediv_eq_zero_of_lt (by omega) (by omega), Int.emod_eq_of_lt (by omega) (by omega)]
      omega
    have b := sq_two (n := once n k) h (by omega)
    have s2 := s.2
    rw [sq_cons] at s2
    omega
theorem once_pos {k n : Int} (hk : 2 ≤ k) (h1 : 1 ≤ n) : 1 ≤ once n k := by
  by_cases c : 1 ≤ once n k
  · exact c
  · have g := once_grow hk (show 0 ≤ n by omega)
    have z := once_nonneg hk (show 0 ≤ n by omega)
    rw [show once n k = 0 by omega, Int.mul_zero] at g
    omega
/-- what is single behind the first replacement -/
theorem single_step {k n : Int} {ks : List Int} (hk : 2 ≤ k) (h1 : 1 ≤ n) : Single (k :: ks) n ↔ Single ks (once n k) := by
  constructor
  · intro s
    exact ⟨once_pos hk h1, s.2⟩
  · intro s
    exact ⟨h1, s.2⟩
/-- all runs of one length behind a replacement -/
theorem once_all {k m n : Int} (hk : 2 ≤ k) (h1 : 1 ≤ n) : once n k = m ↔ ∃ r, 0 ≤ r ∧ r < k ∧ r ≤ m ∧ n = k * (m - r) + r := by
  constructor
  · intro e
    have d := Int.mul_ediv_add_emod n k
    have r0 := Int.emod_nonneg n (by omega : k ≠ 0)
    have r1 := Int.emod_lt_of_pos n (by omega : 0 < k)
    have q0 := Int.ediv_nonneg (by omega : 0 ≤ n) (by omega : 0 ≤ k)
    unfold once at e
    refine ⟨n % k, r0, r1, by omega, ?_⟩
    rw [show m - n % k = n / k by omega]
    omega
  · rintro ⟨r, r0, r1, rm, e⟩
    unfold once
    rw [e, Int.add_comm (k * (m - r)) r, Int.add_mul_ediv_left _ _ (by omega : k ≠ 0), Int.add_mul_emod_self_left, Int.ediv_eq_zero_of_lt r0 r1, Int.emod_eq_of_lt r0 r1]
    omega
/-- two lists with the same single runs are equal -/
theorem single_same : ∀ (ks ls : List Int), (∀ k ∈ ks, 2 ≤ k) → (∀ k ∈ ls, 2 ≤ k) → (∀ n, Single ks n ↔ Single ls n) → ks = ls
  | [], [], _, _, _ => rfl
  | [], l :: ls, _, h2, e => by
    exfalso
    have a := single_le (ks := []) (fun _ z => absurd z List.not_mem_nil) ((e _).mpr (single_top h2))
    have p := pro_pos (ks := ls) fun x hx => h2 x (List.mem_cons_of_mem _ hx)
    have l2 := h2 l (List.mem_cons_self ..)
    rw [pro_cons] at a
    have := Int.mul_le_mul l2 p (by decide) (by omega)
    have z : pro [] = 1 := rfl
    omega
  | k :: ks, [], h1, _, e => by
    exfalso
    have a := single_le (ks := []) (fun _ z => absurd z List.not_mem_nil) ((e _).mp (single_top h1))
    have p := pro_pos (ks := ks) fun x hx => h1 x (List.mem_cons_of_mem _ hx)
    have k2 := h1 k (List.mem_cons_self ..)
    rw [pro_cons] at a
    have := Int.mul_le_mul k2 p (by decide) (by omega)
    have z : pro [] = 1 := rfl
    omega
  | k :: ks, l :: ls, h1, h2, e => by
    have k2 := h1 k (List.mem_cons_self ..)
    have l2 := h2 l (List.mem_cons_self ..)
    have hk : ∀ x ∈ ks, 2 ≤ x := fun x hx => h1 x (List.mem_cons_of_mem _ hx)
    have hl : ∀ x ∈ ls, 2 ≤ x := fun x hx => h2 x (List.mem_cons_of_mem _ hx)
    have t : pro (k :: ks) = pro (l :: ls) := by
      have a := single_le h2 ((e _).mp (single_top h1))
      have b := single_le h1 ((e _).mpr (single_top h2))
      omega
    have kl : k = l := by
      have a := single_gap l2 hl ((e _).mp (single_next k2 hk)) (by omega)
      have b := single_gap k2 hk ((e _).mpr (single_next l2 hl)) (by omega)
      omega
    subst kl
    congr 1
    refine single_same ks ls hk hl fun m => ?_
    constructor
    · intro s
      have n1 : 1 ≤ k * m := by
        have := Int.mul_le_mul (show 1 ≤ k by omega) s.1 (by decide) (by omega)
        omega
      have o := once_mul (k := k) (m := m) k2
      have := (single_step (ks := ls) k2 n1).mp ((e _).mp ((single_step (ks := ks) k2 n1).mpr (by rw [o]; exact s)))
      rwa [o] at this
    · intro s
      have n1 : 1 ≤ k * m := by
        have := Int.mul_le_mul (show 1 ≤ k by omega) s.1 (by decide) (by omega)
        omega
      have o := once_mul (k := k) (m := m) k2
      have := (single_step (ks := ks) k2 n1).mp ((e _).mpr ((single_step (ks := ls) k2 n1).mpr (by rw [o]; exact s)))
      rwa [o] at this
end Sq
set_option Elab.async false
set_option linter.all false
set_option maxHeartbeats 1000000
/-! Reading a list back: one step. -/
namespace Sq
theorem len_le_of {α : Type} [DecidableEq α] : ∀ {A B : List α}, A.Nodup → (∀ x ∈ A, x ∈ B) → A.length ≤ B.length
  | [], B, _, _ => Nat.zero_le _
  | a :: A, B, nd, sub => by
    have nd' := List.nodup_cons.mp nd
    have h := len_le_of (A := A) (B := B.erase a) nd'.2 fun x hx => (List.mem_erase_of_ne (fun z : x = a => nd'.1 (by rw [← z]; exact hx))).mpr (sub x (List.mem_cons_of_mem _ hx))
    have l := List.length_erase_of_mem (sub a (List.mem_cons_self ..))
    have p : 0 < B.length := List.length_pos_of_mem (sub a (List.mem_cons_self ..))
    rw [List.length_cons]
    omega
theorem sub_all {α : Type} [DecidableEq α] : ∀ {A B : List α}, A.Nodup → (∀ x ∈ A, x ∈ B) → B.length ≤ A.length → ∀ x ∈ B, x ∈ A
  | [], B, _, _, l, x, hx => by
    have := List.length_pos_of_mem hx
    rw [List.length_nil] at l
    omega
  | a :: A, B, nd, sub, l, x, hx => by
    have nd' := List.nodup_cons.mp nd
    by_cases c : x = a
    · rw [c]
      exact List.mem_cons_self ..
    · have p : 0 < B.length := List.length_pos_of_mem hx
      have le := List.length_erase_of_mem (sub a (List.mem_cons_self ..))
      rw [List.length_cons] at l
      exact List.mem_cons_of_mem _ (sub_all (A := A) (B := B.erase a) nd'.2 (fun y hy => (List.mem_erase_of_ne (fun z : y = a => nd'.1 (by rw [← z]; exact hy))).mpr (sub y (List.mem_cons_of_mem _ hy))) (by omega) x ((List.mem_erase_of_ne c).mpr hx))
/-- the runs of one length behind a replacement, and all of them -/
def manyOne (k m : Int) : Nat := (min (k - 1) m).toNat + 1
def backOne (k m : Int) : List Int := (List.range (manyOne k m)).map fun r : Nat => k * (m - r) + r
def backAll (k : Int) (after : List Int) : List Int := after.flatMap (backOne k)
theorem backAll_len (k : Int) : ∀ after : List Int, (backAll k after).length = (after.map (manyOne k)).sum
  | [] => rfl
  | m :: after => by
    show ((m :: after).flatMap (backOne k)).length = _
    rw [List.flatMap_cons, List.length_append, List.map_cons, List.sum_cons]
    have := backAll_len k after
    unfold backAll at this
    rw [this]
    unfold backOne
    rw [List.length_map, List.length_range]
theorem mem_backOne {k m n : Int} (hk : 2 ≤ k) (hm : 1 ≤ m) : n ∈ backOne k m ↔ 1 ≤ n ∧ once n k = m := by
  unfold backOne manyOne
  rw [List.mem_map]
  constructor
  · rintro ⟨r, hr, e⟩
    have hr' := List.mem_range.mp hr
    have rb : (r : Int) < k ∧ (r : Int) ≤ m := by omega
    have pos : 1 ≤ n := by
      by_cases c : (r : Int) = m
      · have z : m - (r : Int) = 0 := by omega
        rw [z, Int.mul_zero] at e
        omega
      · have := Int.mul_le_mul_of_nonneg_left (show (1 : Int) ≤ m - r by omega) (show 0 ≤ k by omega)
        omega
    exact ⟨pos, (once_all hk pos).mpr ⟨r, by omega, rb.1, rb.2, e.symm⟩⟩
  · rintro ⟨h1, h2⟩
    obtain ⟨r, r0, r1, rm, e⟩ := (once_all hk h1).mp h2
    refine ⟨r.toNat, List.mem_range.mpr (by omega), ?_⟩
    rw [show ((r.toNat : Nat) : Int) = r by omega]
    exact e.symm
theorem mem_backAll {k n : Int} {after : List Int} (hk : 2 ≤ k) (hm : ∀ m ∈ after, 1 ≤ m) : n ∈ backAll k after ↔ 1 ≤ n ∧ once n k ∈ after := by
  unfold backAll
  rw [List.mem_flatMap]
  constructor
  · rintro ⟨m, h1, h2⟩
    obtain ⟨a, b⟩ := (mem_backOne hk (hm m h1)).mp h2
    exact ⟨a, b ▸ h1⟩
  · rintro ⟨h1, h2⟩
    exact ⟨_, h2, (mem_backOne hk (hm _ h2)).mpr ⟨h1, rfl⟩⟩
theorem backAll_nodup {k : Int} (hk : 2 ≤ k) : ∀ {after : List Int}, (∀ m ∈ after, 1 ≤ m) → after.Nodup → (backAll k after).Nodup
  | [], _, _ => List.nodup_nil
  | m :: after, hm, nd => by
    have nd' := List.nodup_cons.mp nd
    have ih := backAll_nodup hk (after := after) (fun x hx => hm x (List.mem_cons_of_mem _ hx)) nd'.2
    have m1 := hm m (List.mem_cons_self ..)
    show ((m :: after).flatMap (backOne k)).Nodup
    rw [List.flatMap_cons]
    refine List.nodup_append.mpr ⟨?_, ih, fun x hx y hy e => ?_⟩
    · unfold backOne
      refine List.Pairwise.map _ (fun (r s : Nat) h => ?_) List.nodup_range
      intro z
      apply h
      have e1 : k * (m - (r : Int)) + r = k * m - (k - 1) * r := by
        rw [Int.mul_sub, Int.sub_mul, Int.one_mul]
        omega
      have e2 : k * (m - (s : Int)) + s = k * m - (k - 1) * s := by
        rw [Int.mul_sub, Int.sub_mul, Int.one_mul]
        omega
      rw [e1, e2] at z
      have z2 : (k - 1) * (r : Int) = (k - 1) * (s : Int) := by omega
      have := Int.eq_of_mul_eq_mul_left (by omega) z2
      omega
    · subst e
      have a := ((mem_backOne hk m1).mp hx).2
      have b := ((mem_backAll hk (fun x hx => hm x (List.mem_cons_of_mem _ hx))).mp hy).2
      rw [a] at b
      exact nd'.1 b
/-- the step that reads one replacement -/
theorem step_sound {k : Int} {P after rest : List Int} (hk : 2 ≤ k) (pos : ∀ n ∈ P, 1 ≤ n) (nd : P.Nodup) (img : ∀ m, m ∈ after ↔ ∃ n ∈ P, once n k = m) (cnt : (after.map (manyOne k)).sum = P.length)
    (ih : ∀ n, 1 ≤ n → (n ∈ after ↔ Single rest n)) (n : Int) (h1 : 1 ≤ n) : n ∈ P ↔ Single (k :: rest) n := by
  have apos : ∀ m ∈ after, 1 ≤ m := fun m hm => by
    obtain ⟨x, hx, e⟩ := (img m).mp hm
    rw [← e]
    exact once_pos hk (pos x hx)
  have sub : ∀ x ∈ P, x ∈ backAll k after := fun x hx => (mem_backAll hk apos).mpr ⟨pos x hx, (img _).mpr ⟨x, hx, rfl⟩⟩
  have all := sub_all nd sub (by rw [backAll_len, cnt]; exact Nat.le_refl _)
  rw [single_step hk h1, ← ih _ (once_pos hk h1)]
  constructor
  · exact fun h => (img _).mpr ⟨n, h, rfl⟩
  · exact fun h => all n ((mem_backAll hk apos).mpr ⟨h1, h⟩)
theorem step_full {k : Int} {P after rest : List Int} (hk : 2 ≤ k) (pos : ∀ n ∈ P, 1 ≤ n) (nd : P.Nodup) (and' : after.Nodup) (img : ∀ m, m ∈ after ↔ ∃ n ∈ P, once n k = m) (full : ∀ n, 1 ≤ n → (n ∈ P ↔ Single (k :: rest) n)) :
    (after.map (manyOne k)).sum = P.length ∧ ∀ n, 1 ≤ n → (n ∈ after ↔ Single rest n) := by
  have apos : ∀ m ∈ after, 1 ≤ m := fun m hm => by
    obtain ⟨x, hx, e⟩ := (img m).mp hm
    rw [← e]
    exact once_pos hk (pos x hx)
  have two : ∀ m, 1 ≤ m → (m ∈ after ↔ Single rest m) := fun m m1 => by
    constructor
    · intro h
      obtain ⟨x, hx, e⟩ := (img m).mp h
      have := (single_step hk (pos x hx)).mp ((full x (pos x hx)).mp hx)
      rwa [e] at this
    · intro s
      have n1 : 1 ≤ k * m := by
        have := Int.mul_le_mul (show 1 ≤ k by omega) m1 (by decide) (by omega)
        omega
      have o := once_mul (k := k) (m := m) hk
      exact (img m).mpr ⟨k * m, (full _ n1).mpr ((single_step hk n1).mpr (by rw [o]; exact s)), o⟩
  refine ⟨?_, two⟩
  rw [← backAll_len]
  refine Nat.le_antisymm (len_le_of (backAll_nodup hk apos and') fun x hx => ?_) (len_le_of nd fun x hx => (mem_backAll hk apos).mpr ⟨pos x hx, (img _).mpr ⟨x, hx, rfl⟩⟩)
  obtain ⟨x1, x2⟩ := (mem_backAll hk apos).mp hx
  exact (full x x1).mpr ((single_step hk x1).mpr ((two _ (once_pos hk x1)).mp x2))
end Sq
set_option Elab.async false
set_option linter.all false
set_option maxHeartbeats 1000000
/-! What list_of keeps from turn to turn. -/
namespace Sq
/-- a list that is right for these runs -/
def Right (S row : List Int) : Prop := (∀ k ∈ row, 2 ≤ k) ∧ ∀ n, 1 ≤ n → (n ∈ S ↔ Single row n)
theorem right_cong {S T row : List Int} (e : ∀ n, n ∈ S ↔ n ∈ T) : Right S row ↔ Right T row :=
  ⟨fun h => ⟨h.1, fun n h1 => (e n).symm.trans (h.2 n h1)⟩, fun h => ⟨h.1, fun n h1 => (e n).trans (h.2 n h1)⟩⟩
theorem right_uniq {S a b : List Int} (ha : Right S a) (hb : Right S b) : a = b :=
  single_same a b ha.1 hb.1 fun n => by
    constructor
    · exact fun s => (hb.2 n s.1).mp ((ha.2 n s.1).mpr s)
    · exact fun s => (ha.2 n s.1).mp ((hb.2 n s.1).mpr s)
/-- the first number of it, from the greatest two -/
theorem right_first {ps rest : List Int} {x y : Int} {zs : List Int} (e : ps = zs ++ [y, x]) (up : ps.Pairwise (· < ·)) (pos : ∀ n ∈ ps, 1 ≤ n) (R : Right ps rest) : ∃ r, rest = (x - y + 1) :: r := by
  have hx : x ∈ ps := by rw [e]; simp
  have hy : y ∈ ps := by rw [e]; simp
  have yx : y < x := by
    rw [e] at up
    have := (List.pairwise_append.mp up).2.1
    exact (List.pairwise_cons.mp this).1 x List.mem_cons_self
  have top : ∀ n ∈ ps, n = x ∨ n ≤ y := fun n hn => by
    rw [e] at hn up
    rcases List.mem_append.mp hn with z | z
    · exact .inr (Int.le_of_lt ((List.pairwise_append.mp up).2.2 n z y List.mem_cons_self))
    · simp only [List.mem_cons, List.not_mem_nil, or_false] at z
      rcases z with rfl | rfl
      · exact .inr (Int.le_refl _)
      · exact .inl rfl
  match rest, R with
  | [], R =>
    exfalso
    have a := ((R.2 x (pos x hx)).mp hx).2
    have b := ((R.2 y (pos y hy)).mp hy).2
    have a : x = 1 := a
    have b : y = 1 := b
    omega
  | k :: r, R =>
    have k2 := R.1 k List.mem_cons_self
    have hr : ∀ q ∈ r, 2 ≤ q := fun q hq => R.1 q (List.mem_cons_of_mem _ hq)
    have st := single_top R.1
    have sn := single_next k2 hr
    have m1 := (R.2 _ st.1).mpr st
    have m2 := (R.2 _ sn.1).mpr sn
    have sx := (R.2 x (pos x hx)).mp hx
    have sy := (R.2 y (pos y hy)).mp hy
    have lx := single_le R.1 sx
    have ex : x = pro (k :: r) := by
      rcases top _ m1 with z | z <;> omega
    have gy := single_gap k2 hr sy (by omega)
    have ey : y = pro (k :: r) - (k - 1) := by
      rcases top _ m2 with z | z <;> omega
    exact ⟨r, by rw [show x - y + 1 = k by omega]⟩
theorem right_step {k : Int} {ps after r : List Int} (hk : 2 ≤ k) (pos : ∀ n ∈ ps, 1 ≤ n) (nd : ps.Nodup) (nda : after.Nodup) (img : ∀ m, m ∈ after ↔ ∃ n ∈ ps, once n k = m) (cnt : (after.map (manyOne k)).sum = ps.length) : Right ps (k :: r) ↔ Right after r := by
  constructor
  · intro R
    exact ⟨fun q hq => R.1 q (List.mem_cons_of_mem _ hq), (step_full hk pos nd nda img R.2).2⟩
  · intro R
    refine ⟨fun q hq => ?_, fun n h1 => step_sound hk pos nd img cnt R.2 n h1⟩
    rcases List.mem_cons.mp hq with z | z
    · rw [z]; exact hk
    · exact R.1 q z
theorem right_none {k : Int} {ps after r : List Int} (hk : 2 ≤ k) (pos : ∀ n ∈ ps, 1 ≤ n) (nd : ps.Nodup) (nda : after.Nodup) (img : ∀ m, m ∈ after ↔ ∃ n ∈ ps, once n k = m) (cnt : (after.map (manyOne k)).sum ≠ ps.length) : ¬ Right ps (k :: r) :=
  fun R => cnt (step_full hk pos nd nda img R.2).1
theorem right_one (rest : List Int) : Right [1] rest ↔ rest = [] := by
  have h : Right [1] [] := ⟨fun k z => absurd z List.not_mem_nil, fun n h1 => by
    rw [List.mem_singleton]
    exact ⟨fun e => ⟨h1, e⟩, fun s => s.2⟩⟩
  exact ⟨fun R => right_uniq R h, fun e => e ▸ h⟩
theorem right_few {ps rest : List Int} (l : ps.length ≤ 1) (ne : ps ≠ [1]) : ¬ Right ps rest := fun R => by
  have st := single_top R.1
  have m1 := (R.2 _ st.1).mpr st
  match rest, R, m1 with
  | [], R, m1 =>
    have m1 : (1 : Int) ∈ ps := m1
    match ps, l, m1 with
    | [z], _, m1 =>
      have := List.mem_singleton.mp m1
      exact ne (by rw [this])
  | k :: r, R, m1 =>
    have k2 := R.1 k List.mem_cons_self
    have hr : ∀ q ∈ r, 2 ≤ q := fun q hq => R.1 q (List.mem_cons_of_mem _ hq)
    have sn := single_next k2 hr
    have m2 := (R.2 _ sn.1).mpr sn
    match ps, l, m1, m2 with
    | [z], _, m1, m2 =>
      have a := List.mem_singleton.mp m1
      have b := List.mem_singleton.mp m2
      omega
theorem many_two {k : Int} (hk : 2 ≤ k) : ∀ {after : List Int}, (∀ m ∈ after, 1 ≤ m) → 2 * after.length ≤ (after.map (manyOne k)).sum
  | [], _ => Nat.le_refl _
  | m :: after, h => by
    have hm := h m List.mem_cons_self
    have ih := many_two hk (after := after) fun q hq => h q (List.mem_cons_of_mem _ hq)
    rw [List.map_cons, List.sum_cons, List.length_cons]
    have : 2 ≤ manyOne k m := by
      unfold manyOne
      omega
    omega
end Sq
set_option Elab.async false
set_option linter.all false
/-! A statement told apart from what follows. -/
set_option Elab.async false
set_option linter.all false
set_option maxHeartbeats 1000000
/-! Lists of replacements in the heap; slices of them. -/
namespace Sq
open PySem PySem.Spec PyProof.Rows L2
/-- replacements, not too great -/
def Rpl (ks : List Int) : Prop := ∀ k ∈ ks, 2 ≤ k ∧ k < 1073741824
theorem Rpl.low {ks : List Int} (h : Rpl ks) : lowAt ks = none := (lowAt_take ks ks.length (by rw [List.take_length]; exact fun k hk => (h k hk).1)).2 (Nat.le_refl _)
theorem Rpl.app {ks ls : List Int} (h : Rpl ks) (g : Rpl ls) : Rpl (ks ++ ls) := fun k hk => by
  rcases List.mem_append.mp hk with z | z
  · exact h k z
  · exact g k z
/-- a list of at most n replacements -/
def RL (H : Hp) (p : Addr) (n : Nat) : Prop := ∃ ks : List Int, H p = some (.lst (ks.map V.int)) ∧ ks.length ≤ n ∧ Rpl ks
theorem RL.same {H H' : Hp} {p : Addr} {n : Nat} (h : RL H p n) (s : Same H H') : RL H' p n := by
  obtain ⟨ks, g, l, r⟩ := h
  exact ⟨ks, s _ _ g, l, r⟩
theorem wo_mon {G H : Hp} {D : Addr} (s : Same G H) : Same (wo G D) (wo H D) := fun b o e => by
  by_cases h : b = D
  · rw [h, wo_self] at e
    cases e
  · rw [wo_ne h] at e ⊢
    exact s b o e
end Sq
set_option Elab.async false
set_option linter.all false
set_option maxRecDepth 100000
set_option maxHeartbeats 2000000
/-! A def of the law that asks for a repr: run where no repr is under way. -/
namespace Sq
open PySem PySem.Spec PyProof.Rows L2
structure FnG (P : Program) (w : World) (K : PySem.W.Frag) (mg : Str → Option Value) (base : Heap) (k : Nat) (f : Addr) (fd : FuncData) (ps : List Str) (sp : Sp) : Prop where
  count : ∀ vs H Q E, sp vs H Q E → vs.length = ps.length
  go : ∀ (A : Around) (outer : List Env) (s : Shared) (H : Hp) (ag : Args) (us : List Value) (vs : List V) (Q : VK) (E : XK), Room k A → A.guards = some [] → Env0 P w K mg base A outer s H →
    BindsTo s fd ag (ps.zip us) → Vals vs us → sp vs H Q E → codeAny (model P w) A (.call (.ref f) ag) (CR CX0 outer P w H s Q E) s
structure Dgr (P : Program) (w : World) (K : PySem.W.Frag) (mg : Str → Option Value) (base : Heap) (k : Nat) (x : Str) (ps : List Str) (sp : Sp) : Prop where
  ex : ∃ f fd, FnG P w K mg base k f fd ps sp ∧ mg x = some (.ref f) ∧ PySem.W.keepIn K (.ref f) = true ∧ Binds K fd ps []
theorem Dgr.mk' {P : Program} {w : World} {K : PySem.W.Frag} {mg : Str → Option Value} {base : Heap} {k : Nat} {x : Str} {st : Stmt} {ps : List Str} {sp : Sp} {f : Addr} {fd : FuncData} (F : Fun K x x st f fd) (G : FnG P w K mg base k f fd ps sp) (g : mg x = some (.ref f)) (b : Binds K fd ps []) : Dgr P w K mg base k x ps sp :=
  ⟨⟨f, fd, G, g, F.kp, b⟩⟩
end Sq
set_option Elab.async false
set_option linter.all false
/-! The best replacements, in plain Lean. -/
namespace Sq
def low (R : Int) : Int := (R + 3) / 2
def grow (R : Int) : Int := rw1 (low R) R
def up : Nat → Int → Int
  | 0, v => v
  | n + 1, v => grow (up n v)
end Sq
set_option Elab.async false
set_option linter.all false
/-! One of each choice, by its place. -/
namespace Sq
def Full (cs : List (List Int)) : Prop := ∀ c ∈ cs, 0 < c.length
theorem Full.hd {c : List Int} {cs : List (List Int)} (h : Full (c :: cs)) : 0 < c.length := h c (List.mem_cons_self ..)
end Sq
set_option Elab.async false
set_option linter.all false
set_option maxRecDepth 100000
set_option maxHeartbeats 1000000
/-! `for` in a generator's body, with yields in its suite. -/
namespace PySem
open Sem (wp)
end PySem
namespace L2
open PySem PySem.Spec PyProof.Rows GenW
end L2
set_option Elab.async false
set_option linter.all false
set_option maxRecDepth 100000
set_option maxHeartbeats 2000000
/-! Lists of lists of ints; a walk in a generator. -/
namespace Sq
open PySem PySem.Spec PyProof.Rows L2
/-- at each of them stands its list of ints -/
def RowsAt (H : Hp) : List Addr → List (List Int) → Prop
  | [], [] => True
  | a :: as, c :: cs => H a = some (.lst (c.map V.int)) ∧ RowsAt H as cs
  | _, _ => False
theorem RowsAt.same {H H' : Hp} (s : Same H H') : ∀ {as : List Addr} {cs : List (List Int)}, RowsAt H as cs → RowsAt H' as cs
  | [], [], _ => trivial
  | _ :: _, _ :: _, h => ⟨s _ _ h.1, RowsAt.same s h.2⟩
  | [], _ :: _, h => h.elim
  | _ :: _, [], h => h.elim
theorem RowsAt.len {H : Hp} : ∀ {as : List Addr} {cs : List (List Int)}, RowsAt H as cs → as.length = cs.length
  | [], [], _ => rfl
  | _ :: _, _ :: _, h => congrArg Nat.succ (RowsAt.len h.2)
  | [], _ :: _, h => h.elim
  | _ :: _, [], h => h.elim
theorem RowsAt.app {H : Hp} : ∀ {as : List Addr} {cs : List (List Int)} {bs : List Addr} {ds : List (List Int)}, RowsAt H as cs → RowsAt H bs ds → RowsAt H (as ++ bs) (cs ++ ds)
  | [], [], _, _, _, h2 => h2
  | _ :: _, _ :: _, _, _, h, h2 => ⟨h.1, RowsAt.app h.2 h2⟩
  | [], _ :: _, _, _, h, _ => h.elim
  | _ :: _, [], _, _, h, _ => h.elim
theorem RowsAt.get {H : Hp} : ∀ {as : List Addr} {cs : List (List Int)} {i : Nat} {c : List Int}, RowsAt H as cs → cs[i]? = some c → ∃ a, as[i]? = some a ∧ H a = some (.lst (c.map V.int))
  | _ :: _, _ :: _, 0, _, h, e => by
    cases e
    exact ⟨_, rfl, h.1⟩
  | _ :: _, _ :: _, i + 1, _, h, e => RowsAt.get (i := i) h.2 e
  | [], _ :: _, _, _, h, _ => h.elim
  | _, [], _, _, _, e => by simp at e
theorem map_ref {as : List Addr} {i : Nat} {x : V} (h : (as.map V.ref)[i]? = some x) : ∃ a, as[i]? = some a ∧ V.ref a = x := by
  rw [List.getElem?_map] at h
  exact Option.map_eq_some_iff.mp h
end Sq
set_option Elab.async false
set_option linter.all false
set_option maxRecDepth 100000
set_option maxHeartbeats 1000000
/-! Lists of lists of ints as data. -/
namespace Sq
open PySem PySem.Spec PyProof.Rows L2
theorem eqvAll_ints : ∀ xs ys : List Int, PyData.eqvAll (xs.map PyData.int) (ys.map PyData.int) = decide (xs = ys)
  | [], [] => rfl
  | [], _ :: _ => rfl
  | _ :: _, [] => rfl
  | x :: xs, y :: ys => by
    show (PyData.eqv (.int x) (.int y) && PyData.eqvAll (xs.map PyData.int) (ys.map PyData.int)) = decide (x :: xs = y :: ys)
    rw [eqvAll_ints xs ys]
    have e : PyData.eqv (.int x) (.int y) = decide (x = y) := by
      show (x == y) = decide (x = y)
      by_cases h : x = y
      · rw [decide_eq_true h]; exact beq_iff_eq.mpr h
      · rw [decide_eq_false h]; exact beq_eq_false_iff_ne.mpr h
    rw [e]
    by_cases h1 : x = y
    · by_cases h2 : xs = ys
      · subst h1 h2
        simp
      · simp [h1, h2]
    · simp [h1]
theorem eqv_ints (xs ys : List Int) : PyData.eqv (.list (xs.map PyData.int)) (.list (ys.map PyData.int)) = decide (xs = ys) := eqvAll_ints xs ys
def rLenK (K : PySem.W.Frag) : List V → Hp → VK → Prop := fun xs H Q => ∃ p ys, xs = [V.ref p] ∧ (SqL K H p ys ∨ SqT K H p ys) ∧ Q (V.int (ys.length : Nat)) H
theorem call_lenK {X : Cx} : CallR X (.builtin "len") (rLenK X.K) := call_len_seq
/-- kept by what turns the source alone -/
theorem RowsAt.keep {H H' : Hp} {l d : Addr} (k : ∀ b o, H b = some o → b ≠ l → b ≠ d → H' b = some o) : ∀ {as : List Addr} {cs : List (List Int)}, RowsAt H as cs → l ∉ as → d ∉ as → RowsAt H' as cs
  | [], [], _, _, _ => trivial
  | a :: _, _ :: _, h, n1, n2 => ⟨k _ _ h.1 (fun z => n1 (by rw [z]; exact List.mem_cons_self ..)) (fun z => n2 (by rw [z]; exact List.mem_cons_self ..)), RowsAt.keep k h.2 (fun z => n1 (List.mem_cons_of_mem _ z)) (fun z => n2 (List.mem_cons_of_mem _ z))⟩
  | [], _ :: _, h, _, _ => h.elim
  | _ :: _, [], h, _, _ => h.elim
end Sq
set_option Elab.async false
set_option linter.all false
set_option maxRecDepth 100000
set_option maxHeartbeats 4000000
/-! set(l) of a list of ints, kept so that it may be sorted; its len. -/
namespace Sq
open PySem PySem.Spec PyProof.Rows L2
abbrev emptyS (w : World) : Obj := { cls := .type "set", dict := none, data := .set #[] 0 (.fresh 0 0 (!w.params.followText "set-order")) }
end Sq
set_option Elab.async false
set_option linter.all false
set_option maxHeartbeats 1000000
/-! Choices counted: the longest run after a replacement, and how many choices are good. -/
namespace Sq
def la (L k : Int) : Int := if k > L then L else (L + 1) / k + k - 2
/-- 2, 3, .., g -/
def cand (g : Int) : List Int := (List.range (g - 1).toNat).map fun i : Nat => 2 + (i : Int)
def cnt (g : Int) : Nat → Int → Nat
  | 0, L => if L ≤ 1 then 1 else 0
  | n + 1, L => ((cand g).map fun k => cnt g n (la L k)).sum
end Sq
set_option Elab.async false
set_option linter.all false
set_option maxRecDepth 100000
set_option maxHeartbeats 1000000
/-! Walks with an open step; members without doubles; the lengths by place. -/
namespace Sq
open PySem PySem.Spec PyProof.Rows L2
/-! ### without doubles -/
/-! ### the lengths by place -/
structure Lens (n : Nat) (g L : Int) (i : Nat) (rows : List (List Int)) : Prop where
  len : rows.length = i + 1
  zero : rows[0]? = some [L]
  asc : ∀ (p : Nat) (r : List Int), rows[p]? = some r → r.Pairwise (· < ·)
  mem : ∀ (p : Nat) (r : List Int), rows[p]? = some r → ∀ x ∈ r, 0 ≤ x ∧ x ≤ L
  next : ∀ (p : Nat) (r r' : List Int), rows[p]? = some r → rows[p + 1]? = some r' → ∀ x, x ∈ r' ↔ (∃ l ∈ r, ∃ k, 2 ≤ k ∧ k ≤ g ∧ x = la l k) ∧ x ≤ up (n - (p + 1)) 1
  short : L < 63 ∨ ∀ (p : Nat) (r : List Int), rows[p]? = some r → r.length ≤ 6
theorem Lens.start {n : Nat} {g L : Int} (h0 : 0 ≤ L) : Lens n g L 0 [[L]] where
  len := rfl
  zero := rfl
  asc := fun p r e => by
    match p, e with
    | 0, e => cases e; exact List.pairwise_singleton _ _
  mem := fun p r e x hx => by
    match p, e with
    | 0, e =>
      cases e
      rw [List.mem_singleton.mp hx]
      exact ⟨h0, Int.le_refl _⟩
  next := fun p r r' e e' => by
    match p, e' with
    | 0, e' => cases e'
    | p + 1, e' => cases e'
  short := .inr fun p r e => by
    match p, e with
    | 0, e => cases e; exact (show 1 ≤ 6 by decide)
end Sq
set_option Elab.async false
set_option linter.all false
set_option maxHeartbeats 1000000
/-! The least run with more, from the last replacement to the first; reaches of parts; how great they grow. -/
set_option Elab.async false
set_option linter.all false
set_option maxHeartbeats 1000000
/-! Small numbers as texts. -/
set_option Elab.async false
set_option linter.all false
set_option maxRecDepth 100000
set_option maxHeartbeats 4000000
set_option exponentiation.threshold 2000
namespace Sq
open PySem PySem.Spec PyProof.Rows L2
/-- what is known of the two error classes that the program of this law raises -/
structure Errs01 (P : Program) (K : PySem.W.Frag) (mg : Str → Option Value) (c fI : Nat → Addr) (qn : Nat → Str) (cB : Addr) : Prop where
  er : ∀ n, n < 2 → True ∧ SqX.Er K P (c n) (fI n) (qn n)
  g0 : mg "InvalidList" = some (.ref (c 0))
  g1 : mg "InvalidNumber" = some (.ref (c 1))
/-! ### the text -/
def topS (i : Nat) : Stmt := PySem.Challenge.pw_squeezelists_k14_whole_no_two_lists_alik.main.body.getD i (.Pass ⟨0, 0, 0, 0⟩)
abbrev s_checklist : Stmt := topS 5
theorem sc_checklist : FnScope ["replacements", "index", "number"] ["replacements"] (defScope s_checklist) := ⟨rfl, rfl, rfl, by decide +kernel, rfl, by decide +kernel, by decide +kernel⟩
abbrev s_checknumber : Stmt := topS 6
theorem sc_checknumber : FnScope ["number", "least"] ["number", "least"] (defScope s_checknumber) := ⟨rfl, rfl, rfl, by decide +kernel, rfl, by decide +kernel, by decide +kernel⟩
abbrev s_greatestorigin : Stmt := topS 8
theorem sc_greatestorigin : FnScope ["length", "replacements", "greatest", "number"] ["length", "replacements"] (defScope s_greatestorigin) := ⟨rfl, rfl, rfl, by decide +kernel, rfl, by decide +kernel, by decide +kernel⟩
abbrev s_manyforone : Stmt := topS 9
theorem sc_manyforone : FnScope ["length", "number"] ["length", "number"] (defScope s_manyforone) := ⟨rfl, rfl, rfl, by decide +kernel, rfl, by decide +kernel, by decide +kernel⟩
abbrev s_lengthafterone : Stmt := topS 11
theorem sc_lengthafterone : FnScope ["length", "number", "groups", "left"] ["length", "number"] (defScope s_lengthafterone) := ⟨rfl, rfl, rfl, by decide +kernel, rfl, by decide +kernel, by decide +kernel⟩
abbrev s_partingrun : Stmt := topS 13
theorem sc_partingrun : FnScope ["first", "second", "longest", "rival", "before", "number", "other"] ["first", "second"] (defScope s_partingrun) := ⟨rfl, rfl, rfl, by decide +kernel, rfl, by decide +kernel, by decide +kernel⟩
abbrev s_commute : Stmt := topS 14
theorem sc_commute : FnScope ["first", "second"] ["first", "second"] (defScope s_commute) := ⟨rfl, rfl, rfl, by decide +kernel, rfl, by decide +kernel, by decide +kernel⟩
abbrev s_listof : Stmt := topS 15
theorem sc_listof : FnScope ["singles", "found", "present", "number", "after", "length"] ["singles"] (defScope s_listof) := ⟨rfl, rfl, rfl, by decide +kernel, rfl, by decide +kernel, by decide +kernel⟩
abbrev s_lawsource : Stmt := topS 17
theorem sc_lawsource : FnScope ["script", "mix", "digits", "cell", "span"] ["script"] (defScope s_lawsource) := ⟨rfl, rfl, rfl, by decide +kernel, rfl, by decide +kernel, by decide +kernel⟩
abbrev s_lawdraw : Stmt := topS 18
theorem sc_lawdraw : FnScope ["source", "many", "drawn", "mixed"] ["source", "many"] (defScope s_lawdraw) := ⟨rfl, rfl, rfl, by decide +kernel, rfl, by decide +kernel, by decide +kernel⟩
abbrev s_lawonce : Stmt := topS 20
theorem sc_lawonce : FnScope ["run", "one"] ["run", "one"] (defScope s_lawonce) := ⟨rfl, rfl, rfl, by decide +kernel, rfl, by decide +kernel, by decide +kernel⟩
abbrev s_lawsqueezed : Stmt := topS 21
theorem sc_lawsqueezed : FnScope ["run", "row", "one"] ["run", "row"] (defScope s_lawsqueezed) := ⟨rfl, rfl, rfl, by decide +kernel, rfl, by decide +kernel, by decide +kernel⟩
abbrev s_lawlists : Stmt := topS 24
theorem sc_lawlists : FnScope ["found", "last", "time", "longer", "row", "one"] [] (defScope s_lawlists) := ⟨rfl, rfl, rfl, by decide +kernel, rfl, by decide +kernel, by decide +kernel⟩
abbrev s_lawsingles : Stmt := topS 25
theorem sc_lawsingles : FnScope ["row", "top", "one", "run"] ["row"] (defScope s_lawsingles) := ⟨rfl, rfl, rfl, by decide +kernel, rfl, by decide +kernel, by decide +kernel⟩
abbrev s_lawalike : Stmt := topS 26
theorem sc_lawalike : FnScope ["one", "other", "top", "both", "back", "number", "run"] ["one", "other"] (defScope s_lawalike) := ⟨rfl, rfl, rfl, by decide +kernel, rfl, by decide +kernel, by decide +kernel⟩
abbrev s_law : Stmt := topS 27
theorem sc_law : FnScope ["script", "source", "lists", "singles", "row", "some", "k", "turn", "one", "other", "run"] ["script"] (defScope s_law) := ⟨rfl, rfl, rfl, by decide +kernel, rfl, by decide +kernel, by decide +kernel⟩
end Sq
set_option Elab.async false
set_option linter.all false
set_option maxRecDepth 100000
set_option maxHeartbeats 4000000
namespace Sq
open PySem PySem.Spec PyProof.Rows L2
/-! ### the source of draws: at l, its digits at d -/
def M61 : Int := 2305843009213693951
structure Src (H : Hp) (l d : Addr) (mix cnt : Int) : Prop where
  ob : ∃ cur ds, H l = some (.lst [.ref d, .int cur, .int mix, .int cnt]) ∧ H d = some (.lst (List.map V.int ds))
  m0 : 0 ≤ mix
  m1 : mix < M61
  c0 : 0 ≤ cnt
  ne : l ≠ d
/-- all but the two lists is as it was -/
def Keep (H H' : Hp) (l d : Addr) : Prop := ∀ b o, H b = some o → b ≠ l → b ≠ d → H' b = some o
theorem Keep.refl (H : Hp) (l d : Addr) : Keep H H l d := fun _ _ h _ _ => h
theorem Keep.trans {H H1 H2 : Hp} {l d : Addr} (a : Keep H H1 l d) (b : Keep H1 H2 l d) : Keep H H2 l d := fun c o h n1 n2 => b c o (a c o h n1 n2) n1 n2
theorem Keep.of {H H' : Hp} {l d : Addr} (s : Same H H') : Keep H H' l d := fun b o h _ _ => s b o h
theorem Keep.l {H H' : Hp} {l d : Addr} {o : HO} (a : Keep H H' l d) : Keep H (upd H' l o) l d := fun c x h n1 n2 => by
  rw [upd_ne n1]
  exact a c x h n1 n2
theorem Keep.d {H H' : Hp} {l d : Addr} {o : HO} (a : Keep H H' l d) : Keep H (upd H' d o) l d := fun c x h n1 n2 => by
  rw [upd_ne n2]
  exact a c x h n1 n2
theorem Keep.seq {K : PySem.W.Frag} {H H' : Hp} {a l d : Addr} {xs : List V} (e : Keep H H' l d) (n1 : a ≠ l) (n2 : a ≠ d) (h : SqL K H a xs) : SqL K H' a xs := by
  rcases h with (h | ⟨o, h⟩) | h
  · exact .inl (.inl (e _ _ h n1 n2))
  · exact .inl (.inr ⟨o, e _ _ h n1 n2⟩)
  · exact .inr h
theorem Src.same {H H' : Hp} {l d : Addr} {mix cnt : Int} (S : Src H l d mix cnt) (s : Same H H') : Src H' l d mix cnt :=
  let ⟨cur, ds, h1, h2⟩ := S.ob
  ⟨⟨cur, ds, s _ _ h1, s _ _ h2⟩, S.m0, S.m1, S.c0, S.ne⟩
def spDraw : Sp := fun vs H Q _ => ∃ (l d : Addr) (mix cnt many : Int), vs = [.ref l, .int many] ∧ Src H l d mix cnt ∧ cnt < 1000000 ∧ 0 < many ∧ many.natAbs < 2 ^ 200 ∧
  ∀ z cnt' H', 0 ≤ z → z < many → Src H' l d mix cnt' → cnt' ≤ cnt + 1 → Keep H H' l d → Q (.int z) H'
theorem m61_small (x : Int) : (x % ((2 : Int) ^ (61 : Int).toNat - 1)).natAbs < 2 ^ 64 := by
  have h1 := Int.emod_nonneg x (show (2 : Int) ^ (61 : Int).toNat - 1 ≠ 0 by decide)
  have h2 := Int.emod_lt_of_pos x (show 0 < (2 : Int) ^ (61 : Int).toNat - 1 by decide)
  have e : (2 : Int) ^ (61 : Int).toNat - 1 = 2305843009213693951 := by decide
  rw [e] at h1 h2 ⊢
  omega
theorem Keep.free {H H' : Hp} {l d p : Addr} {mix cnt : Int} (k : Keep H H' l d) (S : Src H' l d mix cnt) (h : H' p = none) : H p = none := by
  obtain ⟨cur, ds, h1, h2⟩ := S.ob
  cases e : H p with
  | none => rfl
  | some o =>
    have := k p o e (fun z => by rw [z, h1] at h; cases h) (fun z => by rw [z, h2] at h; cases h)
    rw [h] at this
    cases this
theorem Src.nel {H : Hp} {l d p : Addr} {mix cnt : Int} (S : Src H l d mix cnt) (h : H p = none) : p ≠ l := fun z => by
  obtain ⟨cur, ds, h1, h2⟩ := S.ob
  rw [z, h1] at h
  cases h
theorem Src.ned {H : Hp} {l d p : Addr} {mix cnt : Int} (S : Src H l d mix cnt) (h : H p = none) : p ≠ d := fun z => by
  obtain ⟨cur, ds, h1, h2⟩ := S.ob
  rw [z, h2] at h
  cases h
section
variable {P : Program} {w : World} {K : PySem.W.Frag} {mg : Str → Option Value} {base : Heap}
theorem ok_lawdraw {f : Addr} {fd : FuncData} (F : Fun K "_law_draw" "_law_draw" s_lawdraw f fd) : FnOk P w K mg base CX0 1 f fd ["source", "many"] spDraw := by
  refine F.ok sc_lawdraw (fun vs H Q E h => ?_) (fun cdv A outer s H vs Q E hr h => ?_)
  · obtain ⟨l, d, mix, cnt, many, rfl, _⟩ := h
    rfl
  · obtain ⟨l, d, mix, cnt, many, rfl, S, hc, hm, hw, q⟩ := h
    refine ⟨_, (pss_cons (ps_while PassesOwn.never (PW.pt (pw_and (pt_cmpR op_lt (pe_ix (r := rIxL K) ix_list (pv 0) pe_int (fun _ _ => rfl)) pe_int (nomark _)) (pw_and1 (pt_cmpR (op_neD hr.units) (pe_ix (r := rIxL K) ix_list (pv 0) pe_int (fun _ _ => rfl)) (pe_lst pa_nil) (nomark _)))))
 (pss_one (ps_asg (pe_bm PySem.F.plainAttrs_list PySem.F.slot_list_pop PySem.F.type_list_pop mt_popAt (pe_ix (r := rIxL K) ix_list (pv 0) pe_int (fun _ _ => rfl)) (pa_cons pe_int pa_nil)) (pg_sub (pv 0) pe_int set_list))))
 (pss_cons (ps_if (pt_cmpR op_ge (pe_ix (r := rIxL K) ix_list (pv 0) pe_int (fun _ _ => rfl)) pe_int (nomark _))
 (pss_cons (ps_set (i := 2) sc_lawdraw.nd rfl (Or.inl rfl) (pe_op op_mod (pe_ix (r := rIxL K) ix_list (pv 0) pe_int (fun _ _ => rfl)) (pv 1)))
 (pss_cons (ps_asg (pe_op op_fdivW (pe_ix (r := rIxL K) ix_list (pv 0) pe_int (fun _ _ => rfl)) (pv 1)) (pg_sub (pv 0) pe_int set_list))
 (pss_one (ps_ret (pv 2)))))
 pss_nil)
 (pss_cons (ps_asg (pe_op op_add (pe_ix (r := rIxL K) ix_list (pv 0) pe_int (fun _ _ => rfl)) pe_int) (pg_sub (pv 0) pe_int set_list))
 (pss_cons (ps_set (i := 3) sc_lawdraw.nd rfl (Or.inl rfl) (pe_op op_mul (pe_op op_add (pe_ix (r := rIxL K) ix_list (pv 0) pe_int (fun _ _ => rfl)) pe_int) (pe_op op_pow (pe_op op_add (pe_ix (r := rIxL K) ix_list (pv 0) pe_int (fun _ _ => rfl)) pe_int) pe_int)))
 (pss_cons (ps_set (i := 3) sc_lawdraw.nd rfl (Or.inl rfl) (pe_op op_mod (pe_op op_add (pv 3) (pe_op op_mul pe_int (pe_ix (r := rIxL K) ix_list (pv 0) pe_int (fun _ _ => rfl)))) (pe_op op_sub (pe_op op_pow pe_int pe_int) pe_int)))
 (pss_one (ps_ret (pe_op op_mod (pe_op op_fdiv (pe_op op_mod (pe_op op_pow (pv 3) pe_int) (pe_op op_add (pe_op op_pow pe_int pe_int) pe_int)) pe_int) (pv 1))))))))), ?_⟩
    have c0 := S.c0
    have m0 := S.m0
    have m1 := S.m1
    have nld := S.ne
    -- while source[1] < 2 and source[0] != []
    obtain ⟨cur0, ds0, hl0, hd0⟩ := S.ob
    refine ⟨fun m σ H' => σ = [some (.ref l), some (.int many), none, none] ∧ Keep H H' l d ∧ ∃ cur ds, H' l = some (.lst [.ref d, .int cur, .int mix, .int cnt]) ∧ H' d = some (.lst (List.map V.int ds)) ∧ ds.length = m,
      ⟨_, rfl, Keep.refl H l d, cur0, ds0, hl0, hd0, rfl⟩, ?_⟩
    rintro m σ H' ⟨rfl, kp, cur, ds, hl, hd, hm2⟩
    refine tell (fun H2 => Same H' H2 ∧ ds ≠ []) (fun H2 => Same H' H2) (fun Q' hT hF => ?_) (fun H2 h => ?_) (fun H2 h => ?_)
    · refine ⟨_, rfl, l, _, 1, _, rfl, rfl, SqL.of hl, rfl, cur, 2, rfl, rfl, _, rfl, ite2 (fun c1 => ?_) (fun c1 => hF _ (Same.refl _))⟩
      refine ⟨_, rfl, l, _, 0, _, rfl, rfl, SqL.of hl, rfl, Nat.zero_le _, fun p hp => ?_⟩
      have npd : d ≠ p := ne_of_none hd hp
      refine ⟨_, _, .lst (SqL.of (show (upd H' p (.lst [])) d = _ by rw [upd_ne npd]; exact hd)) (dp_ints ds), .lst (SqL.of upd_same) .nil, shaped_ints ds, shaped_ints [], _, rfl, ?_⟩
      cases ds with
      | nil => exact hF _ (same_new hp)
      | cons x r => exact hT _ ⟨same_new hp, List.cons_ne_nil _ _⟩
    · refine iteT ?_
      obtain ⟨sm, nn⟩ := h
      obtain ⟨x, r, rfl⟩ : ∃ x r, ds = x :: r := by
        cases ds with
        | nil => exact absurd rfl nn
        | cons x r => exact ⟨x, r, rfl⟩
      have hl2 := sm _ _ hl
      have hd2 := sm _ _ hd
      refine ⟨fun σ' H'' => σ' = [some (.ref l), some (.int many), none, none] ∧ Keep H H'' l d ∧ H'' l = some (.lst [.ref d, .int x, .int mix, .int cnt]) ∧ H'' d = some (.lst (List.map V.int r)), ?_, ?_⟩
      · rintro σ' H'' ⟨e1, e2, e3, e4⟩
        exact ⟨r.length, by rw [← hm2, List.length_cons]; omega, e1, e2, _, _, e3, e4, rfl⟩
      refine ⟨_, rfl, l, _, 0, _, rfl, rfl, SqL.of hl2, rfl, .inl ⟨rfl, _, SqL.of hd2⟩, d, _, 0, 0, .int x, rfl, rfl, hd2, by decide, by decide, seqIndex_of (Int.le_refl 0) (by rw [List.length_map, List.length_cons]; omega), rfl, ?_⟩
      refine ⟨_, rfl, l, _, 1, 1, rfl, rfl, (show (upd H2 d _) l = _ by rw [upd_ne nld]; exact hl2), rfl, ?_⟩
      refine ⟨rfl, ((kp.trans (.of sm)).d).l, upd_same, ?_⟩
      rw [upd_ne nld.symm, upd_same]
      rfl
    · refine iteF ?_
      have kp2 := kp.trans (Keep.of h)
      have hl2 := h _ _ hl
      have hd2 := h _ _ hd
      clear hl hd hl0 hd0 hm2
      refine ⟨_, rfl, l, _, 1, _, rfl, rfl, SqL.of hl2, rfl, cur, 2, rfl, rfl, _, rfl, ite2 (fun c1 => ?_) (fun c1 => ?_)⟩
      · -- drawn = source[1] % many
        refine ⟨_, rfl, l, _, 1, _, rfl, rfl, SqL.of hl2, rfl, _, rfl, cur, many, rfl, rfl, hm, ?_⟩
        refine ⟨_, rfl, l, _, 1, _, rfl, rfl, SqL.of hl2, rfl, _, rfl, cur, many, rfl, rfl, wide_div hm hw (by decide) (by decide), ?_⟩
        refine ⟨_, rfl, l, _, 1, 1, rfl, rfl, hl2, rfl, _, rfl, ?_⟩
        refine q _ cnt _ (Int.emod_nonneg _ (by omega)) (Int.emod_lt_of_pos _ hm) ⟨⟨cur / many, ds, upd_same, by rw [upd_ne nld.symm]; exact hd2⟩, m0, m1, c0, nld⟩ (by omega) kp2.l
      · refine ⟨_, rfl, l, _, 3, _, rfl, rfl, SqL.of hl2, rfl, cnt, 1, rfl, rfl, _, rfl, l, _, 3, 3, rfl, rfl, hl2, rfl, ?_⟩
        have hl3 : (upd H2 l (.lst [.ref d, .int cur, .int mix, .int (cnt + 1)])) l = some (.lst [.ref d, .int cur, .int mix, .int (cnt + 1)]) := upd_same
        have cc : (cnt + 1 + 3).natAbs < 2 ^ 64 := by omega
        refine ⟨_, rfl, l, _, 2, _, rfl, rfl, SqL.of hl3, rfl, mix, 7, rfl, rfl, _, rfl, l, _, 3, _, rfl, rfl, SqL.of hl3, rfl, cnt + 1, 3, rfl, rfl, cnt + 1 + 3, 3, rfl, rfl, ⟨by decide, by decide, cc⟩, mix + 7, _, rfl, rfl, .inl ⟨by omega, by unfold M61 at m1; omega⟩, ?_⟩
        refine ⟨_, rfl, _, rfl, l, _, 3, _, rfl, rfl, SqL.of hl3, rfl, 1000081, cnt + 1, rfl, rfl, .inl ⟨by decide, by decide⟩, _, _, rfl, rfl, 2, 61, rfl, rfl, ⟨by decide, by decide, by decide⟩, _, 1, rfl, rfl, _, _, rfl, rfl, (by decide : (0 : Int) < 2 ^ Int.toNat 61 - 1), ?_⟩
        refine ⟨_, rfl, _, 5, rfl, rfl, ⟨by decide, by decide, m61_small _⟩, 10, 18, rfl, rfl, ⟨by decide, by decide, by decide⟩, _, 9, rfl, rfl, _, _, rfl, rfl, (by decide : (0 : Int) < 10 ^ Int.toNat 18 + 9), _, 128, rfl, rfl, ⟨by decide, by decide⟩, _, rfl, _, many, rfl, rfl, hm, ?_⟩
        exact q _ (cnt + 1) _ (Int.emod_nonneg _ (by omega)) (Int.emod_lt_of_pos _ hm) ⟨⟨cur, ds, hl3, by rw [upd_ne nld.symm]; exact hd2⟩, m0, m1, by omega, nld⟩ (by omega) kp2.l
theorem m61_is : (2 : Int) ^ (61 : Int).toNat - 1 = M61 := by decide
def spSource (K : PySem.W.Frag) : Sp := fun vs H Q _ => ∃ (a : Addr) (ns : List Int), vs = [.ref a] ∧ SqL K H a (ns.map V.int) ∧ ns.length ≤ 63 ∧ ∀ l d mix H', H l = none → H d = none → Same H H' → Src H' l d mix 0 → Q (.ref l) H'
theorem ok_lawsource {f : Addr} {fd : FuncData} (F : Fun K "_law_source" "_law_source" s_lawsource f fd) (B : Bi mg) : FnOk P w K mg base CX0 1 f fd ["script"] (spSource K) := by
  refine F.ok sc_lawsource (fun vs H Q E h => ?_) (fun cdv A outer s H vs Q E hr h => ?_)
  · obtain ⟨a, ns, rfl, _⟩ := h
    rfl
  · obtain ⟨a, ns, rfl, hS, hn, q⟩ := h
    refine ⟨_, (pss_cons (ps_set (i := 1) sc_lawsource.nd rfl (Or.inl rfl) pe_int)
 (pss_cons (ps_set (i := 2) sc_lawsource.nd rfl (Or.inl rfl) (pe_lst pa_nil))
 (pss_cons (ps_for PassesOwn.never rfl (pi_list (pv 0)) (pg_name (i := 3) sc_lawsource.nd rfl (Or.inl rfl))
 (pss_cons (ps_set (i := 1) sc_lawsource.nd rfl (Or.inl rfl) (pe_op op_mod (pe_op op_add (pe_op op_mul (pv 1) pe_int) (pv 3)) (pe_op op_sub (pe_op op_pow pe_int pe_int) pe_int)))
 (pss_cons (ps_set (i := 4) sc_lawsource.nd rfl (Or.inl rfl) (pe_callB (id := "max") (call_max2 rfl) (by rfl) B.n_max (by decide +kernel) (pa_cons (pv 3) (pa_cons (pe_op op_sub pe_int (pv 3)) pa_nil))))
 (pss_one (ps_if (pt_cmpR op_ge (pv 4) (pe_op op_pow pe_int pe_int) (nomark _))
 (pss_one (ps_expr (pe_bm PySem.F.plainAttrs_list PySem.F.slot_list_append PySem.F.type_list_append mt_append (pv 2) (pa_cons (pe_op op_sub (pv 4) (pe_op op_pow pe_int pe_int)) pa_nil))))
 pss_nil)))))
 (pss_one (ps_ret (pe_lst (pa_cons (pv 2) (pa_cons pe_int (pa_cons (pv 1) (pa_cons pe_int pa_nil)))))))))), ?_⟩
    refine ⟨Nat.zero_le _, fun d hd => ?_⟩
    refine ⟨_, rfl, a, rfl, ⟨_, (same_new hd).seq hS⟩, for_list (K := K) (a := a) (xs := ns.map V.int) (fun i σ H' => Same H H' ∧ ∃ mix ds y3 y4, σ = [some (.ref a), some (.int mix), some (.ref d), y3, y4] ∧ 0 ≤ mix ∧ mix < M61 ∧ ds.length ≤ i ∧ H' d = some (.lst (List.map V.int ds)))
      ⟨same_new hd, 271828182845904, [], none, none, rfl, by decide, by decide, Nat.le_refl _, upd_same⟩ (fun i σ H' _ h => h.1.seq hS) ?_ ?_⟩
    · rintro i x σ H' hi ⟨sm, mix, ds, y3, y4, rfl, m0, m1, hlen, hdd⟩
      have hil : i < ns.length := by
        have := (List.getElem?_eq_some_iff.mp hi).1
        rwa [List.length_map] at this
      obtain ⟨c, hc, rfl⟩ := map_at hi
      refine ⟨_, rfl, mix, 1000033, rfl, rfl, .inr ⟨by decide, by decide⟩, _, rfl, _, c, rfl, rfl, 2, 61, rfl, rfl, ⟨by decide, by decide, by decide⟩, _, 1, rfl, rfl, _, _, rfl, rfl, (by decide : (0 : Int) < 2 ^ Int.toNat 61 - 1), ?_⟩
      rw [m61_is]
      have m0' : 0 ≤ (mix * 1000033 + c) % M61 := Int.emod_nonneg _ (by decide)
      have m1' : (mix * 1000033 + c) % M61 < M61 := Int.emod_lt_of_pos _ (by decide)
      refine ⟨_, rfl, _, rfl, 0, c, rfl, rfl, c, 0 - c, rfl, ?_⟩
      generalize (if 0 - c > c then 0 - c else c) = sp
      refine ⟨_, rfl, 10, 18, rfl, rfl, ⟨by decide, by decide, by decide⟩, _, _, rfl, rfl, _, rfl, ite2 (fun _ => ?_) (fun _ => ?_)⟩
      · refine ⟨_, rfl, .inl ⟨rfl, _, SqL.of hdd⟩, _, rfl, 10, 18, rfl, rfl, ⟨by decide, by decide, by decide⟩, _, _, rfl, rfl, d, _, _, rfl, rfl, hdd, (by rw [List.length_map]; exact small1000 (by omega)), ?_⟩
        refine ⟨fun b o e => ?_, (mix * 1000033 + c) % M61, ds ++ [sp - 10 ^ Int.toNat 18], _, _, rfl, m0', m1', by rw [List.length_append]; show ds.length + 1 ≤ i + 1; omega, ?_⟩
        · rw [upd_ne (ne_of_none e hd)]
          exact sm _ _ e
        · rw [upd_same, List.map_append]
          rfl
      · exact ⟨sm, (mix * 1000033 + c) % M61, ds, _, _, rfl, m0', m1', by omega, hdd⟩
    · rintro σ H' ⟨sm, mix, ds, y3, y4, rfl, m0, m1, hlen, hdd⟩
      refine ⟨_, rfl, _, rfl, (by show 4 ≤ sizeLine; exact Nat.le_of_lt (small1000 (by decide))), fun l hl => ?_⟩
      have ndl : d ≠ l := ne_of_none hdd hl
      refine q l d mix _ (sm.free hl) hd (sm.trans (same_new hl)) ⟨⟨0, ds, upd_same, by rw [upd_ne ndl]; exact hdd⟩, m0, m1, Int.le_refl 0, ndl.symm⟩
end
end Sq
set_option Elab.async false
set_option linter.all false
set_option maxRecDepth 100000
set_option maxHeartbeats 4000000
namespace Sq
open PySem PySem.Spec PyProof.Rows L2
section
variable {P : Program} {w : World} {K : PySem.W.Frag} {mg : Str → Option Value} {base : Heap} {c fI : Nat → Addr} {qn : Nat → Str} {cB : Addr}
def spCheckNumber (c : Nat → Addr) : Sp := fun vs H Q E => ∃ (n l : Int), vs = [.int n, .int l] ∧ (l ≤ n → Q .non H) ∧ (n < l → Wish E (c 1) (.int n) H)
theorem ok_checknumber {f : Addr} {fd : FuncData} (F : Fun K "check_number" "check_number" s_checknumber f fd) (Z : Errs01 P K mg c fI qn cB) : FnOk P w K mg base (L2N.CX P w) 1 f fd ["number", "least"] (spCheckNumber c) := by
  refine okN F sc_checknumber (fun vs H Q E h => ?_) (fun cdv A outer s H vs Q E hr h => ?_)
  · obtain ⟨n, l, rfl, _⟩ := h
    rfl
  · obtain ⟨n, l, rfl, q, e⟩ := h
    refine ⟨_, (pss_one (ps_if (pt_cmpR op_lt (pv 0) (pv 1) (nomark _))
 (pss_one (L2N.ps_raise rfl takesN (pmk_erN (Z.er 1 (by decide)).2 Z.g1 hr (by rfl) (pv 0))))
 pss_nil)), ?_⟩
    refine ⟨_, rfl, _, rfl, _, _, rfl, rfl, _, rfl, ite2 (fun c => ?_) (fun c => ?_)⟩
    · exact ⟨_, rfl, e (of_decide_eq_true c)⟩
    · exact q (by have : ¬ n < l := fun z => c (decide_eq_true z); omega)
def spCheckList (K : PySem.W.Frag) (c : Nat → Addr) : Sp := fun vs H Q E => ∃ (a : Addr) (ks : List Int), vs = [.ref a] ∧ SqL K H a (ks.map V.int) ∧ (lowAt ks = none → ∀ H', Same H H' → Q .non H') ∧ (∀ j : Nat, lowAt ks = some j → ∀ H', Same H H' → Wish E (c 0) (.int (j : Int)) H')
theorem ok_checklist {f : Addr} {fd : FuncData} (F : Fun K "check_list" "check_list" s_checklist f fd) (B : Bi mg) (Z : Errs01 P K mg c fI qn cB) : FnOk P w K mg base (L2N.CX P w) 1 f fd ["replacements"] (spCheckList K c) := by
  refine okN F sc_checklist (fun vs H Q E h => ?_) (fun cdv A outer s H vs Q E hr h => ?_)
  · obtain ⟨a, ks, rfl, _⟩ := h
    rfl
  · obtain ⟨a, ks, rfl, hS, q, e⟩ := h
    refine ⟨_, (pss_one (ps_for ownsN rfl (pi_enum (by rfl) B.n_enumerate (pa_cons (pv 0) pa_nil)) (pg_tup rfl (pgs_cons (pg_name (i := 1) sc_checklist.nd rfl (Or.inl rfl)) (pgs_cons (pg_name (i := 2) sc_checklist.nd rfl (Or.inl rfl)) pgs_nil)))
 (pss_one (ps_if (pt_cmpR op_lt (pv 2) pe_int (nomark _))
 (pss_one (L2N.ps_raise rfl takesN (pmk_erN (Z.er 0 (by decide)).2 Z.g0 hr (by rfl) (pv 1))))
 pss_nil)))), ?_⟩
    refine ⟨_, rfl, a, _, rfl, hS, for_it walk_enum (fun i σ H' => Same H H' ∧ (∀ k ∈ ks.take i, 2 ≤ k) ∧ ∃ y1 y2, σ = [some (.ref a), y1, y2]) ⟨Same.refl H, (fun k z => by simp at z), none, none, rfl⟩ (fun i σ H' _ h => h.1.seq hS) ?_ ?_⟩
    · rintro i x σ H' H2 hi ⟨sm, up, y1, y2, rfl⟩ ⟨T, u, v, rfl, hT, rfl, e1, e2⟩
      cases e1
      obtain ⟨k, hk, rfl⟩ := map_at e2
      have sm2 := sm.trans (same_new (o := .tup [.int (i : Int), .int k]) hT)
      obtain ⟨la, lb⟩ := lowAt_take ks i up
      refine ⟨T, _, rfl, .inl (.inl upd_same), rfl, _, _, rfl, _, _, rfl, rfl, ?_⟩
      refine ⟨_, rfl, _, 2, rfl, rfl, _, rfl, ite2 (fun c => ?_) (fun c => ?_)⟩
      · exact ⟨_, rfl, e i (la k hk (of_decide_eq_true c)) _ sm2⟩
      · refine ⟨sm2, fun x hx => ?_, _, _, rfl⟩
        rw [List.take_add_one, hk] at hx
        rcases List.mem_append.mp hx with z | z
        · exact up x z
        · have := List.mem_singleton.mp z
          have : ¬ k < 2 := fun z => c (decide_eq_true z)
          omega
    · rintro σ H' ⟨sm, up, y1, y2, rfl⟩
      exact q ((lowAt_take ks ks.length (by rw [List.length_map] at up; exact up)).2 (Nat.le_refl _)) H' sm
end
end Sq
set_option Elab.async false
set_option linter.all false
set_option maxRecDepth 100000
set_option maxHeartbeats 4000000
namespace Sq
open PySem PySem.Spec PyProof.Rows L2
def SmallK (ks : List Int) : Prop := ∀ k ∈ ks, k < 1073741824
section
variable {P : Program} {w : World} {K : PySem.W.Frag} {mg : Str → Option Value} {base : Heap} {c fI : Nat → Addr} {qn : Nat → Str} {cB : Addr}
def spGreat (K : PySem.W.Frag) (c : Nat → Addr) : Sp := fun vs H Q E => ∃ (n : Int) (a : Addr) (ks : List Int), vs = [.int n, .ref a] ∧ SqL K H a (ks.map V.int) ∧ SmallK ks ∧ (0 ≤ n → lowAt ks = none → ∀ H', Same H H' → Q (.int (prodF n ks)) H') ∧
  (n < 0 → Wish E (c 1) (.int n) H) ∧ (0 ≤ n → ∀ j : Nat, lowAt ks = some j → ∀ H', Same H H' → Wish E (c 0) (.int (j : Int)) H')
theorem ok_greatestorigin {f : Addr} {fd : FuncData} (F : Fun K "greatest_origin" "greatest_origin" s_greatestorigin f fd) (X_checknumber : Dn P w K mg base 1 "check_number" ["number", "least"] (spCheckNumber c)) (X_checklist : Dn P w K mg base 1 "check_list" ["replacements"] (spCheckList K c)) :
    FnOk P w K mg base (L2N.CX P w) 2 f fd ["length", "replacements"] (spGreat K c) := by
  refine okN F sc_greatestorigin (fun vs H Q E h => ?_) (fun cdv A outer s H vs Q E hr h => ?_)
  · obtain ⟨n, a, ks, rfl, _⟩ := h
    rfl
  · obtain ⟨n, a, ks, rfl, hS, sm, q, e1, e2⟩ := h
    refine ⟨_, (pss_cons (ps_expr (pe_callN X_checknumber takesN (hr.mono (by omega)) (by rfl) (pa_cons (pv 0) (pa_cons pe_int pa_nil))))
 (pss_cons (ps_expr (pe_callN X_checklist takesN (hr.mono (by omega)) (by rfl) (pa_cons (pv 1) pa_nil)))
 (pss_cons (ps_set (i := 2) sc_greatestorigin.nd rfl (Or.inl rfl) (pv 0))
 (pss_cons (ps_for ownsN rfl (pi_list (pv 1)) (pg_name (i := 3) sc_greatestorigin.nd rfl (Or.inl rfl))
 (pss_one (ps_set (i := 2) sc_greatestorigin.nd rfl (Or.inl rfl) (pe_op op_mul (pv 2) (pv 3)))))
 (pss_one (ps_ret (pv 2))))))), ?_⟩
    refine ⟨_, rfl, n, 0, rfl, fun h0 => ?_, e1⟩
    refine ⟨_, rfl, a, ks, rfl, hS, fun ok H1 s1 => ?_, e2 h0⟩
    have ok2 := lowAt_none ok
    refine ⟨_, rfl, _, rfl, a, rfl, ⟨_, s1.seq hS⟩, for_list (K := K) (a := a) (xs := ks.map V.int) (fun i σ H' => H' = H1 ∧ ∃ y, σ = [some (.int n), some (.ref a), some (.int (prodF n (ks.take i))), y]) ⟨rfl, none, rfl⟩ (fun i σ H' _ h => by rw [h.1]; exact s1.seq hS) ?_ ?_⟩
    · rintro i x σ H' hi ⟨rfl, y, rfl⟩
      obtain ⟨k, e, rfl⟩ := map_at hi
      have hm := List.mem_of_getElem? e
      have a1 := ok2 k hm
      have a2 := sm k hm
      refine ⟨_, rfl, _, rfl, _, k, rfl, rfl, .inr ⟨by omega, by omega⟩, rfl, some (.int k), ?_⟩
      rw [List.take_add_one, e]
      show _ = [_, _, some (V.int (prodF n (ks.take i ++ [k]))), _]
      unfold prodF
      rw [List.foldl_append]
      rfl
    · rintro σ H' ⟨rfl, y, rfl⟩
      rw [List.length_map, List.take_length]
      exact ⟨_, rfl, q h0 ok _ s1⟩
def spCommute (K : PySem.W.Frag) (c : Nat → Addr) : Sp := fun vs H Q E => ∃ (a b : Addr) (ks ls : List Int), vs = [.ref a, .ref b] ∧ H a = some (.lst (ks.map V.int)) ∧ H b = some (.lst (ls.map V.int)) ∧ ks.length ≤ 300 ∧ ls.length ≤ 300 ∧ (lowAt ks = none → lowAt ls = none → ∀ H', Same H H' → Q (.bl (decide (ks ++ ls = ls ++ ks))) H') ∧
  (∀ j : Nat, lowAt ks = some j → ∀ H', Same H H' → Wish E (c 0) (.int (j : Int)) H') ∧ (lowAt ks = none → ∀ j : Nat, lowAt ls = some j → ∀ H', Same H H' → Wish E (c 0) (.int (j : Int)) H')
theorem ok_commute {f : Addr} {fd : FuncData} (F : Fun K "commute" "commute" s_commute f fd) (X_checklist : Dn P w K mg base 1 "check_list" ["replacements"] (spCheckList K c)) :
    FnOk P w K mg base (L2N.CX P w) 2 f fd ["first", "second"] (spCommute K c) := by
  refine okN F sc_commute (fun vs H Q E h => ?_) (fun cdv A outer s H vs Q E hr h => ?_)
  · obtain ⟨a, b, ks, ls, rfl, _⟩ := h
    rfl
  · obtain ⟨a, b, ks, ls, rfl, hS, hT, l1, l2, q, e1, e2⟩ := h
    refine ⟨_, (pss_cons (ps_expr (pe_callN X_checklist takesN (hr.mono (by omega)) (by rfl) (pa_cons (pv 0) pa_nil)))
 (pss_cons (ps_expr (pe_callN X_checklist takesN (hr.mono (by omega)) (by rfl) (pa_cons (pv 1) pa_nil)))
 (pss_one (ps_ret (pe_cmpR (op_eqD hr.units) (pe_op op_cat (pv 0) (pv 1)) (pe_op op_cat (pv 1) (pv 0)) (nomark _)))))), ?_⟩
    refine ⟨_, rfl, a, ks, rfl, SqL.of hS, fun ok H1 s1 => ?_, e1⟩
    refine ⟨_, rfl, b, ls, rfl, SqL.of (s1 _ _ hT), fun ok2 H2 s2 => ?_, fun j hj H2 s2 => e2 ok j hj H2 (s1.trans s2)⟩
    have s12 := s1.trans s2
    refine ⟨_, rfl, _, rfl, a, b, _, _, rfl, rfl, s12 _ _ hS, s12 _ _ hT, Nat.le_of_lt (small1000 (by rw [List.length_map, List.length_map]; omega)), fun t ht => ?_⟩
    refine ⟨_, rfl, _, rfl, b, a, _, _, rfl, rfl, same_new ht _ _ (s12 _ _ hT), same_new ht _ _ (s12 _ _ hS), Nat.le_of_lt (small1000 (by rw [List.length_map, List.length_map]; omega)), fun u hu => ?_⟩
    have dm : ∀ (H' : Hp) (xs ys : List Int), DpAll K H' (xs.map V.int ++ ys.map V.int) ((xs ++ ys).map PyData.int) := fun H' xs ys => by
      rw [← List.map_append]
      exact dp_ints _
    refine ⟨.list ((ks ++ ls).map PyData.int), .list ((ls ++ ks).map PyData.int), .lst (SqL.of (same_new hu _ _ upd_same)) (dm _ _ _), .lst (SqL.of upd_same) (dm _ _ _), shaped_ints _, shaped_ints _, ?_⟩
    rw [eqv_ints]
    exact q ok ok2 _ ((s12.trans (same_new ht)).trans (same_new hu))
def spParting (K : PySem.W.Frag) (c : Nat → Addr) : Sp := fun vs H Q E => ∃ (a b : Addr) (ks ls : List Int), vs = [.ref a, .ref b] ∧ SqL K H a (ks.map V.int) ∧ SqL K H b (ls.map V.int) ∧ SmallK ks ∧ SmallK ls ∧ (lowAt ks = none → lowAt ls = none → ∀ H', Same H H' → Q (prun ks ls) H') ∧
  (∀ j : Nat, lowAt ks = some j → ∀ H', Same H H' → Wish E (c 0) (.int (j : Int)) H') ∧ (lowAt ks = none → ∀ j : Nat, lowAt ls = some j → ∀ H', Same H H' → Wish E (c 0) (.int (j : Int)) H')
theorem ok_partingrun {f : Addr} {fd : FuncData} (F : Fun K "parting_run" "parting_run" s_partingrun f fd) (B : Bi mg) (X_checklist : Dn P w K mg base 1 "check_list" ["replacements"] (spCheckList K c)) (X_greatestorigin : Dn P w K mg base 2 "greatest_origin" ["length", "replacements"] (spGreat K c)) :
    FnOk P w K mg base (L2N.CX P w) 3 f fd ["first", "second"] (spParting K c) := by
  refine okN F sc_partingrun (fun vs H Q E h => ?_) (fun cdv A outer s H vs Q E hr h => ?_)
  · obtain ⟨a, b, ks, ls, rfl, _⟩ := h
    rfl
  · obtain ⟨a, b, ks, ls, rfl, hS, hT, l1, l2, q, e1, e2⟩ := h
    refine ⟨_, (pss_cons (ps_expr (pe_callN X_checklist takesN (hr.mono (by omega)) (by rfl) (pa_cons (pv 0) pa_nil)))
 (pss_cons (ps_expr (pe_callN X_checklist takesN (hr.mono (by omega)) (by rfl) (pa_cons (pv 1) pa_nil)))
 (pss_cons (ps_set (i := 2) sc_partingrun.nd rfl (Or.inl rfl) (pe_callN X_greatestorigin takesN (hr.mono (by omega)) (by rfl) (pa_cons pe_int (pa_cons (pv 0) pa_nil))))
 (pss_cons (ps_set (i := 3) sc_partingrun.nd rfl (Or.inl rfl) (pe_callN X_greatestorigin takesN (hr.mono (by omega)) (by rfl) (pa_cons pe_int (pa_cons (pv 1) pa_nil))))
 (pss_cons (ps_if (pt_cmpR op_ne (pv 2) (pv 3) (nomark _))
 (pss_one (ps_ret (pe_callB (id := "max") (call_max2 rfl) (by rfl) B.n_max (by decide +kernel) (pa_cons (pv 2) (pa_cons (pv 3) pa_nil)))))
 pss_nil)
 (pss_cons (ps_set (i := 4) sc_partingrun.nd rfl (Or.inl rfl) pe_int)
 (pss_cons (ps_for ownsN rfl (pi_zip (by rfl) B.n_zip (pa_cons (pv 0) (pa_cons (pv 1) pa_nil))) (pg_tup rfl (pgs_cons (pg_name (i := 5) sc_partingrun.nd rfl (Or.inl rfl)) (pgs_cons (pg_name (i := 6) sc_partingrun.nd rfl (Or.inl rfl)) pgs_nil)))
 (pss_cons (ps_if (pt_cmpR op_ne (pv 5) (pv 6) (nomark _))
 (pss_one (ps_ret (pe_op op_sub (pv 2) (pe_op op_mul (pv 4) (pe_op op_sub (pe_callB (id := "min") (call_min2 rfl) (by rfl) B.n_min (by decide +kernel) (pa_cons (pv 5) (pa_cons (pv 6) pa_nil))) pe_int)))))
 pss_nil)
 (pss_one (ps_set (i := 4) sc_partingrun.nd rfl (Or.inl rfl) (pe_op op_mul (pv 4) (pv 5))))))
 (pss_one (ps_ret pe_non))))))))), ?_⟩
    refine ⟨_, rfl, a, ks, rfl, hS, fun ok H1 s1 => ?_, e1⟩
    refine ⟨_, rfl, b, ls, rfl, s1.seq hT, fun ok2 H2 s2 => ?_, fun j hj H2 s2 => e2 ok j hj H2 (s1.trans s2)⟩
    have s12 := s1.trans s2
    have lk := lowAt_none ok
    have ll := lowAt_none ok2
    refine ⟨_, rfl, 1, a, ks, rfl, s12.seq hS, l1, fun _ _ H3 s3 => ?_, fun z => absurd z (by decide), fun _ j hj => by rw [ok] at hj; cases hj⟩
    refine ⟨_, rfl, 1, b, ls, rfl, (s12.trans s3).seq hT, l2, fun _ _ H4 s4 => ?_, fun z => absurd z (by decide), fun _ j hj => by rw [ok2] at hj; cases hj⟩
    have s14 := (s12.trans s3).trans s4
    refine ⟨_, rfl, _, rfl, rfl, _, rfl, ite2 (fun c1 => ?_) (fun c1 => ?_)⟩
    · refine ⟨_, rfl, _, rfl, _, _, rfl, ?_⟩
      have e : prun ks ls = .int (if prodF 1 ls > prodF 1 ks then prodF 1 ls else prodF 1 ks) := by
        unfold prun
        rw [if_neg (fun z => by rw [z] at c1; simp at c1)]
      rw [e] at q
      exact q ok ok2 _ s14
    · have c2 : prodF 1 ks = prodF 1 ls := by simpa using c1
      have e : prun ks ls = part (prodF 1 ks) 1 ks ls := if_pos c2
      rw [e] at q
      refine ⟨_, rfl, _, rfl, a, b, _, _, rfl, s14.seq hS, s14.seq hT, for_it (walk_zip (n := min ks.length ls.length) (by rw [List.length_map, List.length_map])) (fun i σ H' => Same H H' ∧ ∃ L M b0 y6 y7, σ = [some (.ref a), some (.ref b), some (.int L), some (.int M), some (.int b0), y6, y7] ∧ part (prodF 1 ks) 1 ks ls = part L b0 (ks.drop i) (ls.drop i))
        ⟨s14, _, _, 1, none, none, rfl, rfl⟩ (fun i σ H' _ h => ⟨h.1.seq hS, h.1.seq hT⟩) ?_ ?_⟩
      · rintro i x σ H' H2 hi ⟨sm, L, M, b0, y6, y7, rfl, ep⟩ ⟨T, u, v, rfl, hT2, rfl, ex, ey⟩
        obtain ⟨k, hk, rfl⟩ := map_at ex
        obtain ⟨l, hl, rfl⟩ := map_at ey
        have dk : ks.drop i = k :: ks.drop (i + 1) := by
          obtain ⟨lt, eq⟩ := List.getElem?_eq_some_iff.mp hk
          rw [List.drop_eq_getElem_cons lt, eq]
        have dl : ls.drop i = l :: ls.drop (i + 1) := by
          obtain ⟨lt, eq⟩ := List.getElem?_eq_some_iff.mp hl
          rw [List.drop_eq_getElem_cons lt, eq]
        rw [dk, dl] at ep
        have mk := List.mem_of_getElem? hk
        have ml := List.mem_of_getElem? hl
        have b1 := lk k mk
        have b2 := l1 k mk
        have b3 := ll l ml
        have b4 := l2 l ml
        have sm2 : Same H (upd H' T (.tup [.int k, .int l])) := sm.trans (same_new hT2)
        refine ⟨T, _, rfl, .inl (.inl upd_same), rfl, _, _, rfl, _, _, rfl, rfl, ?_⟩
        refine ⟨_, rfl, _, rfl, rfl, _, rfl, ite2 (fun c3 => ?_) (fun c3 => ?_)⟩
        · have ne : ¬ k = l := fun z => by rw [z] at c3; simp at c3
          refine ⟨_, rfl, _, rfl, _, rfl, _, rfl, k, l, rfl, _, 1, rfl, rfl, b0, _, rfl, rfl, .inr ⟨?_, ?_⟩, L, _, rfl, rfl, ?_⟩
          · split <;> omega
          · split <;> omega
          · have e : part L b0 (k :: ks.drop (i + 1)) (l :: ls.drop (i + 1)) = .int (L - b0 * ((if l < k then l else k) - 1)) := if_neg ne
            rw [ep, e] at q
            exact q ok ok2 _ sm2
        · have e : k = l := by simpa using c3
          refine ⟨_, rfl, _, rfl, b0, k, rfl, rfl, .inr ⟨by omega, by omega⟩, sm2, L, M, b0 * k, _, _, rfl, ?_⟩
          rw [ep]
          exact if_pos e
      · rintro σ H' ⟨sm, L, M, b0, y6, y7, rfl, ep⟩
        have en : part L b0 (ks.drop (min ks.length ls.length)) (ls.drop (min ks.length ls.length)) = .non := by
          by_cases z : ks.length ≤ ls.length
          · rw [Nat.min_eq_left z, List.drop_length]
            cases ls.drop ks.length <;> rfl
          · rw [Nat.min_eq_right (by omega), List.drop_length]
            cases ks.drop ls.length <;> rfl
        rw [ep, en] at q
        exact q ok ok2 _ sm
end
end Sq
set_option Elab.async false
set_option linter.all false
set_option maxRecDepth 100000
set_option maxHeartbeats 4000000
namespace Sq
open PySem PySem.Spec PyProof.Rows L2
section
variable {P : Program} {w : World} {K : PySem.W.Frag} {mg : Str → Option Value} {base : Heap}
def spOnceS : Sp := fun vs H Q _ => ∃ (n k : Int), vs = [.int n, .int k] ∧ 2 ≤ k ∧ k < 1073741824 ∧ ∀ H', Same H H' → Q (.int (once n k)) H'
theorem ok_lengthafterone {f : Addr} {fd : FuncData} (F : Fun K "length_after_one" "length_after_one" s_lengthafterone f fd) (B : Bi mg) : FnOk P w K mg base CX0 1 f fd ["length", "number"] spOnceS := by
  refine F.ok sc_lengthafterone (fun vs H Q E h => ?_) (fun cdv A outer s H vs Q E hr h => ?_)
  · obtain ⟨n, k, rfl, _⟩ := h
    rfl
  · obtain ⟨n, k, rfl, k1, k2, q⟩ := h
    refine ⟨_, (pss_cons (ps_asg (pe_callB (id := "divmod") call_divmod (by rfl) B.n_divmod (by decide +kernel) (pa_cons (pv 0) (pa_cons (pv 1) pa_nil))) (pg_tup rfl (pgs_cons (pg_name (i := 2) sc_lengthafterone.nd rfl (Or.inl rfl)) (pgs_cons (pg_name (i := 3) sc_lengthafterone.nd rfl (Or.inl rfl)) pgs_nil))))
 (pss_one (ps_ret (pe_op op_add (pv 2) (pv 3))))), ?_⟩
    refine ⟨_, rfl, _, rfl, n, k, rfl, ⟨by omega, k2⟩, fun p hp => ?_⟩
    exact ⟨p, _, rfl, .inl (.inl upd_same), rfl, _, _, rfl, _, _, rfl, rfl, _, rfl, _, rfl, _, _, rfl, rfl, q _ (same_new hp)⟩
def spMany : Sp := fun vs H Q _ => ∃ (m k : Int), vs = [.int m, .int k] ∧ 2 ≤ k ∧ 1 ≤ m ∧ Q (.int (manyOne k m : Nat)) H
theorem ok_manyforone {f : Addr} {fd : FuncData} (F : Fun K "many_for_one" "many_for_one" s_manyforone f fd) (B : Bi mg) : FnOk P w K mg base CX0 1 f fd ["length", "number"] spMany := by
  refine F.ok sc_manyforone (fun vs H Q E h => ?_) (fun cdv A outer s H vs Q E hr h => ?_)
  · obtain ⟨m, k, rfl, _⟩ := h
    rfl
  · obtain ⟨m, k, rfl, k1, m1, q⟩ := h
    refine ⟨_, (pss_one (ps_ret (pe_callB (id := "min") (call_min2 rfl) (by rfl) B.n_min (by decide +kernel) (pa_cons (pv 1) (pa_cons (pe_op op_add (pv 0) pe_int) pa_nil))))), ?_⟩
    refine ⟨_, rfl, _, rfl, m, 1, rfl, rfl, k, m + 1, rfl, ?_⟩
    have e : (if m + 1 < k then m + 1 else k) = (manyOne k m : Nat) := by
      unfold manyOne
      split <;> omega
    rw [e]
    exact q
def spListOf (K : PySem.W.Frag) : Sp := fun vs H Q _ => ∃ (a : Addr) (S : List Int), vs = [.ref a] ∧ SqL K H a (S.map V.int) ∧ S.Nodup ∧ S.length ≤ 4000 ∧ (∀ n ∈ S, 1 ≤ n ∧ n < 1073741824) ∧
  ((∀ row, ¬ Right S row) → ∀ H', Same H H' → Q .non H') ∧ (∀ row, Right S row → ∀ p H', H p = none → Same H H' → H' p = some (.lst (row.map V.int)) → Q (.ref p) H')
end
theorem walkI {J : It} {n : Nat} {G : Hp → Prop} {Y : Nat → Hp → V → Hp → Prop} (Wk : Walk J n G Y) {Qd : Hp → Prop} {St : V → Hp → (Hp → Prop) → Prop} {H0 : Hp} (Pv : Nat → Hp → Prop) (h0 : Pv 0 H0) (hl : ∀ i H, i ≤ n → Pv i H → G H)
    (hs : ∀ i x H H', i < n → Pv i H → Y i H x H' → St x H' (Pv (i + 1))) (hd : ∀ H, Pv n H → Qd H) :
    ∃ W : Nat → Nat → Hp → Prop, (∃ m, W 0 m H0) ∧ ∀ i m H, W i m H → (J.stop i H ∧ Qd H) ∨ (J.go i H ∧ ∃ Nx : Hp → Prop, (∀ H', Nx H' → ∃ m', m' < m ∧ W (i + 1) m' H') ∧ ∀ x H', J.yld i H x H' → St x H' Nx) := by
  refine ⟨fun i m H => m = n - i ∧ i ≤ n ∧ Pv i H, ⟨_, rfl, Nat.zero_le _, h0⟩, ?_⟩
  rintro i m H ⟨rfl, le, p⟩
  have there := hl i H le p
  by_cases lt : i < n
  · exact .inr ⟨Wk.goes i H lt there, Pv (i + 1), fun H' p' => ⟨n - (i + 1), by omega, rfl, lt, p'⟩, fun x H' y => hs i x H H' lt p (Wk.yields i H x H' lt there y)⟩
  · obtain rfl : i = n := by omega
    exact .inl ⟨Wk.stops H there, hd H p⟩
theorem sum_cast (g : Int → Nat) : ∀ xs : List Int, (xs.map fun m => ((g m : Nat) : Int)).sum = (((xs.map g).sum : Nat) : Int)
  | [] => rfl
  | x :: xs => by
    rw [List.map_cons, List.sum_cons, List.map_cons, List.sum_cons, sum_cast g xs, Int.natCast_add]
theorem once_down {n k : Int} (hk : 2 ≤ k) (h0 : 0 ≤ n) : once n k ≤ n := by
  unfold once
  have e := Int.mul_ediv_add_emod n k
  have q0 := Int.ediv_nonneg h0 (show 0 ≤ k by omega)
  have m : 1 * (n / k) ≤ k * (n / k) := Int.mul_le_mul_of_nonneg_right (by omega) q0
  omega
theorem at_neg {α : Type} {xs : List α} {j : Nat} (h1 : 1 ≤ j) (h : j ≤ xs.length) : atI xs (-(j : Int)) = xs[xs.length - j]? := by
  unfold atI ixN
  rw [if_neg (by omega), if_pos (by omega)]
  show xs[_]? = _
  congr 1
  omega
section
variable {P : Program} {w : World} {K : PySem.W.Frag} {mg : Str → Option Value} {base : Heap}
theorem ok_listof {f : Addr} {fd : FuncData} (F : Fun K "list_of" "list_of" s_listof f fd) (B : Bi mg) (D_lengthafterone : Df P w K mg base 1 "length_after_one" ["length", "number"] spOnceS) (D_manyforone : Df P w K mg base 1 "many_for_one" ["length", "number"] spMany) : FnOk P w K mg base CX0 2 f fd ["singles"] (spListOf K) := by
  refine F.ok sc_listof (fun vs H Q E h => ?_) (fun cdv A outer s H vs Q E hr h => ?_)
  · obtain ⟨a, S, rfl, _⟩ := h
    rfl
  · obtain ⟨a, S, rfl, hS, nd, few, hb, qn, qr⟩ := h
    refine ⟨_, (pss_cons (ps_set (i := 1) sc_listof.nd rfl (Or.inl rfl) (pe_lst pa_nil))
 (pss_cons (ps_set (i := 2) sc_listof.nd rfl (Or.inl rfl) (pe_callB (id := "sorted") (r := rSortedI K) cr_sortedI (by rfl) B.n_sorted (by decide +kernel) (pa_cons (pv 0) pa_nil)))
 (pss_cons (ps_while PassesOwn.never (pt_cmpR op_gt (pe_callB (id := "len") (r := rLenK K) call_lenK (by rfl) B.n_len (by decide +kernel) (pa_cons (pv 2) pa_nil)) pe_int (nomark _))
 (pss_cons (ps_set (i := 3) sc_listof.nd rfl (Or.inr rfl) (pe_op op_add (pe_op op_sub (pe_ix (r := rIxL K) ix_list (pv 2) (pe_un un_neg pe_int) (fun _ _ => rfl)) (pe_ix (r := rIxL K) ix_list (pv 2) (pe_un un_neg pe_int) (fun _ _ => rfl))) pe_int))
 (pss_cons (ps_set (i := 4) sc_listof.nd rfl (Or.inl rfl) (pe_callB (id := "sorted") (r := rSortedSetI w) (cr_sortedSetI rfl) (by rfl) B.n_sorted (by decide +kernel) (pa_cons (pe_sc1 (own := [("length", 5)]) (g := gName 5) rfl sc_listof.nd (pi_list (pv 2)) (blkOk_by (own := [("length", 5)]) (N := ["singles", "found", "present", "number", "after", "length"]) (sc := defScope s_listof) (by decide +kernel)) (fun _ _ _ _ _ => (pg_name (i := 5) sc_listof.nd rfl (Or.inl rfl))) (fun _ _ _ _ _ => pts_nil) (fun _ _ _ _ _ => (pe_callD D_lengthafterone (hr.mono (by omega)) (by rfl) (pa_cons (pv 5) (pa_cons (pv 3) pa_nil))))) pa_nil)))
 (pss_cons (ps_if (pt_cmpR op_ne (pe_callB (id := "sum") (r := rSum K) (cr_sum rfl) (by rfl) B.n_sum (by decide +kernel) (pa_cons (pe_lc (own := [("length", 5)]) (g := gName 5) rfl sc_listof.nd (pi_list (pv 4)) (blkOk_by (own := [("length", 5)]) (N := ["singles", "found", "present", "number", "after", "length"]) (sc := defScope s_listof) (by decide +kernel)) (fun _ _ _ _ _ => (pg_name (i := 5) sc_listof.nd rfl (Or.inl rfl))) (fun _ _ _ _ _ => pts_nil) (fun _ _ _ _ _ => (pe_callD D_manyforone (hr.mono (by omega)) (by rfl) (pa_cons (pv 5) (pa_cons (pv 3) pa_nil))))) pa_nil)) (pe_callB (id := "len") (r := rLenK K) call_lenK (by rfl) B.n_len (by decide +kernel) (pa_cons (pv 2) pa_nil)) (nomark _))
 (pss_one (ps_ret pe_non))
 pss_nil)
 (pss_cons (ps_expr (pe_bm PySem.F.plainAttrs_list PySem.F.slot_list_append PySem.F.type_list_append mt_append (pv 1) (pa_cons (pv 3) pa_nil)))
 (pss_one (ps_set (i := 2) sc_listof.nd rfl (Or.inl rfl) (pv 4))))))))
 (pss_one (ps_ret (pe_ifExp (pt_cmpR (op_eqD hr.units) (pv 2) (pe_lst (pa_cons pe_int pa_nil)) (nomark _)) (pv 1) pe_non)))))), ?_⟩
    have lim : sizeLine = 16777216 := sizeLine_eq
    refine ⟨Nat.zero_le _, fun p hp => ?_⟩
    have gp0 : (upd H p (.lst [])) p = some (.lst (([] : List Int).map V.int)) := upd_same
    have s0 : Same H (upd H p (.lst [])) := same_new hp
    generalize upd H p (.lst []) = H1 at gp0 s0 ⊢
    refine ⟨_, rfl, a, S, rfl, s0.seq hS, fun ps0 r0 pm up hr0 => ?_⟩
    have np0 : r0 ≠ p := fun z => by rw [z, gp0] at hr0; cases hr0
    have s1 : Same H1 (upd H1 r0 (.lst (ps0.map V.int))) := same_new hr0
    have g1 : (upd H1 r0 (.lst (ps0.map V.int))) r0 = some (.lst (ps0.map V.int)) := upd_same
    have gp1 := s1 _ _ gp0
    generalize upd H1 r0 (.lst (ps0.map V.int)) = H2 at s1 g1 gp1 ⊢
    have up0 : ps0.Pairwise (· < ·) := by
      have n0 : ps0.Nodup := pm.nodup_iff.mpr nd
      exact (up.and n0).imp fun {x y} h => Int.lt_iff_le_and_ne.mpr h
    have e0 : ∀ row, Right S row ↔ ∃ rest, row = [] ++ rest ∧ Right ps0 rest := fun row => by
      rw [right_cong (T := ps0) fun n => pm.mem_iff.symm]
      exact ⟨fun R => ⟨row, rfl, R⟩, fun ⟨_, e, R⟩ => by rw [List.nil_append] at e; exact e ▸ R⟩
    refine ⟨fun m σ H' => ∃ r ps fd y3 y4, σ = [some (.ref a), some (.ref p), some (.ref r), y3, y4, none] ∧ Same H (wo H' p) ∧ H' p = some (.lst (fd.map V.int)) ∧ H' r = some (.lst (ps.map V.int)) ∧ r ≠ p ∧ ps.Pairwise (· < ·) ∧ (∀ n ∈ ps, 1 ≤ n ∧ n < 1073741824) ∧ ps.length = m ∧ fd.length + ps.length ≤ S.length ∧ (∀ row, Right S row ↔ ∃ rest, row = fd ++ rest ∧ Right ps rest),
      ⟨_, r0, ps0, [], none, none, rfl, same_wo (s0.trans s1) hp, gp1, g1, np0, up0, fun n hn => hb n (pm.mem_iff.mp hn), rfl, by rw [pm.length_eq]; exact Nat.le_of_eq (Nat.zero_add _), e0⟩, ?_⟩
    rintro m σ H' ⟨r, ps, fd, y3, y4, rfl, s2, gp, gr, nrp, up, pos, hm, hl, eq⟩
    have pos1 : ∀ n ∈ ps, 1 ≤ n := fun n h => (pos n h).1
    have ndp : ps.Nodup := up.imp fun {x y} h => Int.ne_of_lt h
    refine ⟨_, rfl, r, _, rfl, .inl (SqL.of gr), _, 1, rfl, rfl, _, rfl, ?_⟩
    rw [List.length_map]
    by_cases c : (1 : Int) < (ps.length : Int)
    · rw [decide_eq_true c]
      refine iteT ?_
      obtain ⟨zs, y, x, ezs⟩ : ∃ zs y x, ps = zs ++ [y, x] := by
        have hlen : 2 ≤ ps.length := by omega
        refine ⟨ps.take (ps.length - 2), ps[ps.length - 2], ps[ps.length - 1], ?_⟩
        conv => lhs; rw [← List.take_append_drop (ps.length - 2) ps]
        congr 1
        rw [List.drop_eq_getElem_cons (by omega)]
        congr 1
        rw [show ps.length - 2 + 1 = ps.length - 1 by omega, List.drop_eq_getElem_cons (by omega), show ps.length - 1 + 1 = ps.length by omega, List.drop_length]
      have hx := pos x (by rw [ezs]; simp)
      have hy := pos y (by rw [ezs]; simp)
      have yx : y < x := by
        rw [ezs] at up
        exact (List.pairwise_cons.mp (List.pairwise_append.mp up).2.1).1 x List.mem_cons_self
      have lz : ps.length = zs.length + 2 := by rw [ezs, List.length_append]; rfl
      refine ⟨fun σ' H'' => ∃ m', m' < m ∧ ∃ r ps fd y3 y4, σ' = [some (.ref a), some (.ref p), some (.ref r), y3, y4, none] ∧ Same H (wo H'' p) ∧ H'' p = some (.lst (fd.map V.int)) ∧ H'' r = some (.lst (ps.map V.int)) ∧ r ≠ p ∧ ps.Pairwise (· < ·) ∧ (∀ n ∈ ps, 1 ≤ n ∧ n < 1073741824) ∧ ps.length = m' ∧ fd.length + ps.length ≤ S.length ∧ (∀ row, Right S row ↔ ∃ rest, row = fd ++ rest ∧ Right ps rest), fun σ' H'' h => h, ?_⟩
      have at1 : atI (ps.map V.int) (-1) = some (.int x) := by
        rw [show (-1 : Int) = -((1 : Nat) : Int) from rfl, at_neg (by decide) (by rw [List.length_map]; omega), List.length_map, List.getElem?_map, ezs, List.length_append, show zs.length + [y, x].length - 1 = zs.length + 1 from rfl, List.getElem?_append_right (by omega), show zs.length + 1 - zs.length = 1 by omega]
        rfl
      have at2 : atI (ps.map V.int) (-2) = some (.int y) := by
        rw [show (-2 : Int) = -((2 : Nat) : Int) from rfl, at_neg (by decide) (by rw [List.length_map]; omega), List.length_map, List.getElem?_map, ezs, List.length_append, show zs.length + [y, x].length - 2 = zs.length from rfl, List.getElem?_append_right (by omega), show zs.length - zs.length = 0 by omega]
        rfl
      refine ⟨_, rfl, 1, rfl, r, _, -1, .int x, rfl, rfl, SqL.of gr, at1, _, rfl, 2, rfl, r, _, -2, .int y, rfl, rfl, SqL.of gr, at2, _, _, rfl, rfl, _, 1, rfl, rfl, ?_⟩
      have k2 : 2 ≤ x - y + 1 := by omega
      obtain ⟨k, ek⟩ : ∃ k, k = x - y + 1 := ⟨_, rfl⟩
      dsimp only
      rw [← ek] at k2 ⊢
      refine ⟨_, rfl, r, rfl, ⟨_, SqL.of gr⟩, fun D hD => walkI (walk_list (K := K) (a := r) (xs := ps.map V.int)) (fun i H'' => Same H' (wo H'' D) ∧ ∃ (Sf : Int → Bool) (n : Nat), H'' D = some (SetO w D Sf n) ∧ n ≤ i ∧ ∀ c, Sf c = true ↔ ∃ z ∈ ps.take i, once z k = c) ⟨by rw [wo_upd]; exact same_wo (Same.refl _) hD, _, _, upd_same, Nat.le_refl _, fun c => ⟨fun h => Bool.noConfusion h, fun ⟨z, hz, _⟩ => absurd hz (by simp)⟩⟩ (fun i H'' _ h => SqL.of (wo_same _ _ (h.1 _ _ gr))) ?_ ?_⟩
      · rintro i v H3 H4 hi ⟨s3, Sf, n, gD, ni, mem⟩ ⟨rfl, ev⟩
        obtain ⟨z, ez, rfl⟩ := map_at ev
        rw [List.length_map] at hi
        refine ⟨rfl, ?_⟩
        refine ⟨_, rfl, _, rfl, z, k, rfl, k2, by omega, fun H5 s5 => ⟨_, Sf, n, rfl, s5 _ _ gD, ?_, ?_, _, _, upd_same, ?_, ?_⟩⟩
        · show n + 1 < 4096
          omega
        · rw [wo_upd]
          intro b o e
          have nb : b ≠ D := ne_of_none e hD
          have := s3 b o e
          rw [wo_ne nb] at this ⊢
          exact s5 b o this
        · split <;> omega
        · intro c
          rw [List.take_add_one, ez, Bool.or_eq_true, mem c]
          constructor
          · rintro (⟨z', h1, h2⟩ | h)
            · exact ⟨z', List.mem_append_left _ h1, h2⟩
            · exact ⟨z, List.mem_append_right _ (by simp), (of_decide_eq_true h).symm⟩
          · rintro ⟨z', h1, h2⟩
            rcases List.mem_append.mp h1 with h | h
            · exact .inl ⟨z', h, h2⟩
            · have : z' = z := by simpa using h
              exact .inr (decide_eq_true (by rw [← h2, this]))
      rintro H3 ⟨s3, Sf, n, gD, ni, mem⟩
      rw [List.length_map] at ni mem
      rw [List.take_length] at mem
      refine ⟨D, Sf, n, rfl, gD, by omega, fun after q upq memq lenq hq => ?_⟩
      have img : ∀ c, c ∈ after ↔ ∃ z ∈ ps, once z k = c := fun c => (memq c).trans (mem c)
      have nda : after.Nodup := upq.imp fun {x y} h => Int.ne_of_lt h
      have posa : ∀ c ∈ after, 1 ≤ c := fun c hc => by
        obtain ⟨z, hz, e⟩ := (img c).mp hc
        rw [← e]
        exact once_pos k2 (pos1 z hz)
      have sq0 := (s3.trans wo_same).trans (same_new (o := .lst (after.map V.int)) hq)
      have gq : (upd H3 q (.lst (after.map V.int))) q = some (.lst (after.map V.int)) := upd_same
      have gp4 := sq0 _ _ gp
      have gr4 := sq0 _ _ gr
      generalize upd H3 q (.lst (after.map V.int)) = H4 at sq0 gq gp4 gr4 ⊢
      refine ⟨_, rfl, q, rfl, ⟨_, SqL.of gq⟩, fun D2 hD2 => walkI (walk_list (K := K) (a := q) (xs := after.map V.int)) (fun i H'' => Same H4 (wo H'' D2) ∧ H'' D2 = some (.lst (((after.take i).map fun m => ((manyOne k m : Nat) : Int)).map V.int))) ⟨by rw [wo_upd]; exact same_wo (Same.refl _) hD2, upd_same⟩ (fun i H'' _ h => SqL.of (wo_same _ _ (h.1 _ _ gq))) ?_ ?_⟩
      · rintro i v H5 H6 hi ⟨s5, g5⟩ ⟨rfl, ev⟩
        obtain ⟨z, ez, rfl⟩ := map_at ev
        rw [List.length_map] at hi
        have lq : after.length ≤ 4096 := by omega
        refine ⟨rfl, ?_⟩
        refine ⟨_, rfl, _, rfl, z, k, rfl, k2, posa z (List.mem_of_getElem? ez), _, g5, ?_, ?_, ?_⟩
        · rw [List.length_map, List.length_map, List.length_take]
          omega
        · rw [wo_upd]
          exact s5
        · rw [upd_same, List.take_add_one, ez, List.map_append, List.map_append]
          rfl
      rintro H5 ⟨s5, g5⟩
      rw [List.length_map, List.take_length] at g5
      have s45 := s5.trans (wo_same (H := H5) (D := D2))
      refine ⟨D2, _, rfl, SqL.of g5, ?_⟩
      rw [sum_cast]
      refine ⟨_, rfl, r, _, rfl, .inl (SqL.of (s45 _ _ gr4)), rfl, _, rfl, ?_⟩
      have sF := (s2.trans (wo_same (H := H') (D := p))).trans (sq0.trans s45)
      rw [List.length_map]
      by_cases c2 : (after.map (manyOne k)).sum = ps.length
      · refine iteNS (congrArg V.int (by rw [c2])) ?_
        have gp5 := s45 _ _ gp4
        have gq5 := s45 _ _ gq
        have nqp : q ≠ p := fun z => by
          rw [z] at hq
          have := (s3.trans wo_same) _ _ gp
          rw [hq] at this
          cases this
        have mt := many_two k2 posa
        refine ⟨_, rfl, .inl ⟨rfl, _, SqL.of gp5⟩, _, rfl, p, _, .int k, rfl, rfl, gp5, by rw [List.length_map]; omega, ?_⟩
        refine ⟨_, rfl, after.length, by omega, q, after, fd ++ [k], _, _, rfl, ?_, ?_, ?_, nqp, upq, fun c hc => ⟨posa c hc, ?_⟩, rfl, ?_, fun row => ?_⟩
        · rw [wo_upd]
          exact same_wo sF hp
        · rw [upd_same, List.map_append]
          rfl
        · rw [upd_ne nqp]
          exact gq5
        · obtain ⟨z, hz, e⟩ := (img c).mp hc
          have := once_down k2 (show 0 ≤ z by have := pos1 z hz; omega)
          have := (pos z hz).2
          omega
        · rw [List.length_append]
          show fd.length + 1 + _ ≤ _
          omega
        · rw [eq row]
          constructor
          · rintro ⟨rest, e1, R2⟩
            obtain ⟨r2, er⟩ := right_first ezs up pos1 R2
            rw [← ek] at er
            subst er
            exact ⟨r2, by rw [e1, List.append_assoc]; rfl, (right_step k2 pos1 ndp nda img c2).mp R2⟩
          · rintro ⟨rest, e1, R2⟩
            exact ⟨k :: rest, by rw [e1, List.append_assoc]; rfl, (right_step k2 pos1 ndp nda img c2).mpr R2⟩
      · rw [decide_eq_false (fun z => c2 (by injection z with z; exact Int.ofNat.inj z))]
        refine iteT (qn (fun row R => ?_) _ sF)
        obtain ⟨rest, _, R2⟩ := (eq row).mp R
        obtain ⟨r2, er⟩ := right_first ezs up pos1 R2
        rw [← ek] at er
        exact right_none k2 pos1 ndp nda img c2 (er ▸ R2)
    · rw [decide_eq_false c]
      refine iteF ?_
      refine ⟨_, rfl, (by show 1 ≤ _; omega), fun t ht => ?_⟩
      have st := same_new (o := .lst [.int 1]) ht
      refine ⟨_, _, .lst (SqL.of (st _ _ gr)) (dp_ints ps), .lst (SqL.of (show (upd H' t (.lst [.int 1])) t = some (.lst (([1] : List Int).map V.int)) from upd_same)) (dp_ints [1]), shaped_ints ps, shaped_ints [1], _, rfl, ?_⟩
      rw [eqv_ints]
      have sf := (s2.trans (wo_same (H := H') (D := p))).trans st
      by_cases c1 : ps = [1]
      · rw [decide_eq_true c1]
        refine iteT ⟨_, rfl, qr fd ((eq fd).mpr ⟨[], (List.append_nil _).symm, by rw [c1]; exact (right_one []).mpr rfl⟩) p _ hp sf (st _ _ gp)⟩
      · rw [decide_eq_false c1]
        refine iteF (qn (fun row R => ?_) _ sf)
        obtain ⟨rest, _, R2⟩ := (eq row).mp R
        exact right_few (by omega) c1 R2
end
end Sq
set_option Elab.async false
set_option linter.all false
set_option maxRecDepth 100000
set_option maxHeartbeats 4000000
set_option exponentiation.threshold 2000
namespace Sq
open PySem PySem.Spec PyProof.Rows L2
section
variable {P : Program} {w : World} {K : PySem.W.Frag} {mg : Str → Option Value} {base : Heap} {c fI : Nat → Addr} {qn : Nat → Str} {cB : Addr}
def spOnce : Sp := fun vs H Q _ => ∃ (n k : Int), vs = [.int n, .int k] ∧ 2 ≤ k ∧ k < 1073741824 ∧ Q (.int (once n k)) H
theorem ok_lawonce {f : Addr} {fd : FuncData} (F : Fun K "_law_once" "_law_once" s_lawonce f fd) : FnOk P w K mg base CX0 1 f fd ["run", "one"] spOnce := by
  refine F.ok sc_lawonce (fun vs H Q E h => ?_) (fun cdv A outer s H vs Q E hr h => ?_)
  · obtain ⟨n, k, rfl, _⟩ := h
    rfl
  · obtain ⟨n, k, rfl, k1, k2, q⟩ := h
    refine ⟨_, (pss_one (ps_ret (pe_op op_add (pe_op op_fdiv (pv 0) (pv 1)) (pe_op op_mod (pv 0) (pv 1))))), ?_⟩
    exact ⟨_, rfl, _, rfl, n, k, rfl, rfl, ⟨by omega, k2⟩, _, rfl, _, rfl, n, k, rfl, rfl, (show 0 < k by omega), _, _, rfl, rfl, q⟩
def spSqz (K : PySem.W.Frag) : Sp := fun vs H Q _ => ∃ (n : Int) (a : Addr) (ks : List Int), vs = [.int n, .ref a] ∧ SqL K H a (ks.map V.int) ∧ Rpl ks ∧ Q (.int (sq n ks)) H
theorem ok_lawsqueezed {f : Addr} {fd : FuncData} (F : Fun K "_law_squeezed" "_law_squeezed" s_lawsqueezed f fd) (D_lawonce : Df P w K mg base 1 "_law_once" ["run", "one"] spOnce) : FnOk P w K mg base CX0 2 f fd ["run", "row"] (spSqz K) := by
  refine F.ok sc_lawsqueezed (fun vs H Q E h => ?_) (fun cdv A outer s H vs Q E hr h => ?_)
  · obtain ⟨n, a, ks, rfl, _⟩ := h
    rfl
  · obtain ⟨n, a, ks, rfl, hS, hk, q⟩ := h
    refine ⟨_, (pss_cons (ps_for PassesOwn.never rfl (pi_list (pv 1)) (pg_name (i := 2) sc_lawsqueezed.nd rfl (Or.inl rfl))
 (pss_one (ps_set (i := 0) sc_lawsqueezed.nd rfl (Or.inl rfl) (pe_callD D_lawonce (hr.mono (by omega)) (by rfl) (pa_cons (pv 0) (pa_cons (pv 2) pa_nil))))))
 (pss_one (ps_ret (pv 0)))), ?_⟩
    refine ⟨_, rfl, a, rfl, ⟨_, hS⟩, for_list (K := K) (a := a) (xs := ks.map V.int) (fun i σ H' => H' = H ∧ ∃ y, σ = [some (.int (sq n (ks.take i))), some (.ref a), y]) ⟨rfl, none, rfl⟩ (fun i σ H' _ h => by rw [h.1]; exact hS) ?_ ?_⟩
    · rintro i x σ H' hi ⟨rfl, y, rfl⟩
      obtain ⟨k, e, rfl⟩ := map_at hi
      have hm := hk k (List.mem_of_getElem? e)
      refine ⟨_, rfl, _, rfl, _, k, rfl, hm.1, hm.2, rfl, some (.int k), ?_⟩
      rw [List.take_add_one, e]
      show _ = [some (V.int (sq n (ks.take i ++ [k]))), _, _]
      rw [sq_concat]
      rfl
    · rintro σ H' ⟨rfl, y, rfl⟩
      rw [List.length_map, List.take_length]
      exact ⟨_, rfl, q⟩
end
/-- the runs up to a top that a row makes single -/
def sinL (row : List Int) (n : Nat) : List Int := ((List.range n).map fun i : Nat => 1 + (i : Int)).filter fun x => decide (sq x row = 1)
theorem sinL_succ (row : List Int) (j : Nat) : sinL row (j + 1) = sinL row j ++ (if sq (1 + (j : Int)) row = 1 then [1 + (j : Int)] else []) := by
  unfold sinL
  rw [List.range_succ, List.map_append, List.filter_append]
  congr 1
  by_cases c : sq (1 + (j : Int)) row = 1
  · rw [if_pos c]
    exact List.filter_cons_of_pos (by exact decide_eq_true c)
  · rw [if_neg c]
    exact List.filter_cons_of_neg (by intro z; exact c (of_decide_eq_true z))
theorem sinL_len (row : List Int) (j : Nat) : (sinL row j).length ≤ j := by
  unfold sinL
  refine Nat.le_trans (List.length_filter_le _ _) ?_
  rw [List.length_map, List.length_range]
  exact Nat.le_refl _
section
variable {P : Program} {w : World} {K : PySem.W.Frag} {mg : Str → Option Value} {base : Heap}
theorem pro_app (a b : List Int) : pro (a ++ b) = pro a * pro b := by
  unfold pro
  rw [List.foldl_append]
  exact pro_from b _
theorem rpl_two {a : List Int} (h : Rpl a) : ∀ k ∈ a, 2 ≤ k := fun k hk => (h k hk).1
/-- the runs that a row makes single, up to its product and eight more -/
def sing (row : List Int) : List Int := sinL row (pro row + 8).toNat
theorem sinL_mem {row : List Int} {N : Nat} {n : Int} : n ∈ sinL row N ↔ (1 ≤ n ∧ n ≤ N) ∧ sq n row = 1 := by
  unfold sinL
  rw [List.mem_filter, List.mem_map]
  constructor
  · rintro ⟨⟨i, hi, rfl⟩, e⟩
    have := List.mem_range.mp hi
    exact ⟨by omega, of_decide_eq_true e⟩
  · rintro ⟨⟨h1, h2⟩, e⟩
    exact ⟨⟨(n - 1).toNat, List.mem_range.mpr (by omega), by omega⟩, decide_eq_true e⟩
theorem sing_right {row : List Int} (h : ∀ k ∈ row, 2 ≤ k) : Right (sing row) row := by
  refine ⟨h, fun n hn => ?_⟩
  unfold sing
  rw [sinL_mem]
  have p := pro_pos h
  constructor
  · rintro ⟨_, e⟩
    exact ⟨hn, e⟩
  · rintro s
    have := single_le h s
    exact ⟨⟨hn, by omega⟩, s.2⟩
theorem sinL_nodup (row : List Int) (N : Nat) : (sinL row N).Nodup := by
  unfold sinL
  refine List.Pairwise.filter _ (List.Pairwise.map _ (fun a b h e => h (by omega)) List.nodup_range)
def spSin (K : PySem.W.Frag) : Sp := fun vs H Q _ => ∃ (a : Addr) (row : List Int), vs = [.ref a] ∧ SqL K H a (row.map V.int) ∧ Rpl row ∧ pro row ≤ 2000 ∧ ∀ p H', H p = none → Same H H' → H' p = some (.lst ((sing row).map V.int)) → Q (.ref p) H'
theorem ok_lawsingles {f : Addr} {fd : FuncData} (F : Fun K "_law_singles" "_law_singles" s_lawsingles f fd) (B : Bi mg) (D_lawsqueezed : Df P w K mg base 2 "_law_squeezed" ["run", "row"] (spSqz K)) : FnOk P w K mg base CX0 3 f fd ["row"] (spSin K) := by
  refine F.ok sc_lawsingles (fun vs H Q E h => ?_) (fun cdv A outer s H vs Q E hr h => ?_)
  · obtain ⟨a, row, rfl, _⟩ := h
    rfl
  · obtain ⟨a, row, rfl, hS, rk, t1, q⟩ := h
    refine ⟨_, (pss_cons (ps_set (i := 1) sc_lawsingles.nd rfl (Or.inl rfl) pe_int)
 (pss_cons (ps_for PassesOwn.never rfl (pi_list (pv 0)) (pg_name (i := 2) sc_lawsingles.nd rfl (Or.inl rfl))
 (pss_one (ps_set (i := 1) sc_lawsingles.nd rfl (Or.inl rfl) (pe_op op_mul (pv 1) (pv 2)))))
 (pss_one (ps_ret (pe_lc (own := [("run", 3)]) (g := gName 3) rfl sc_lawsingles.nd (pi_range2 (by rfl) B.n_range (pa_cons pe_int (pa_cons (pe_op op_add (pv 1) pe_int) pa_nil))) (blkOk_by (own := [("run", 3)]) (N := ["row", "top", "one", "run"]) (sc := defScope s_lawsingles) (by decide +kernel)) (fun _ _ _ _ _ => (pg_name (i := 3) sc_lawsingles.nd rfl (Or.inl rfl))) (fun _ _ _ _ _ => pts_one (pt_cmpR op_eq (pe_callD D_lawsqueezed (hr.mono (by omega)) (by rfl) (pa_cons (pv 3) (pa_cons (pv 0) pa_nil))) pe_int (nomark _))) (fun _ _ _ _ _ => (pv 3))))))), ?_⟩
    have lim : sizeLine = 16777216 := sizeLine_eq
    have p1 := pro_pos (rpl_two rk)
    refine ⟨_, rfl, a, rfl, ⟨_, hS⟩, for_list (K := K) (a := a) (xs := row.map V.int) (fun i σ H' => H' = H ∧ ∃ y, σ = [some (.ref a), some (.int (pro (row.take i))), y, none]) ⟨rfl, none, rfl⟩ (fun i σ H' _ h => by rw [h.1]; exact hS) ?_ ?_⟩
    · rintro i x σ H' hi ⟨rfl, y, rfl⟩
      obtain ⟨k, e, rfl⟩ := map_at hi
      have a2 := rk k (List.mem_of_getElem? e)
      refine ⟨_, rfl, _, rfl, _, k, rfl, rfl, .inr ⟨by omega, by omega⟩, rfl, some (.int k), ?_⟩
      rw [List.take_add_one, e, pro_app]
      show _ = [_, some (V.int (pro (row.take i) * pro [k])), _, _]
      rw [show pro [k] = k from (pro_cons k []).trans (Int.mul_one k)]
      rfl
    · rintro σ H' ⟨rfl, y, rfl⟩
      rw [List.length_map, List.take_length]
      refine ⟨_, rfl, _, 9, rfl, rfl, 1, pro row + 9, rfl, ⟨by decide, by decide, by omega, by omega⟩, fun D hD => lc_range (lo := 1) (n := (pro row + 9 - 1).toNat) (fun j Hx => Same H' (wo Hx D) ∧ Hx D = some (.lst ((sinL row j).map V.int))) ⟨by rw [wo_upd]; exact same_wo (Same.refl _) hD, upd_same⟩ ?_ ?_⟩
      · rintro j Hx hj ⟨s1, g1⟩
        refine ⟨rfl, ?_⟩
        refine ⟨_, rfl, _, rfl, 1 + (j : Int), a, row, rfl, (s1.trans wo_same).seq hS, rk, ?_⟩
        refine ⟨rfl, _, rfl, ?_⟩
        by_cases c : sq (1 + (j : Int)) row = 1
        · rw [decide_eq_true (congrArg V.int c)]
          refine iteT ⟨_, rfl, _, g1, ?_, ?_, ?_⟩
          · rw [List.length_map]
            have := sinL_len row j
            omega
          · rw [wo_upd]
            exact s1
          · rw [upd_same, sinL_succ, if_pos c, List.map_append]
            rfl
        · rw [decide_eq_false (fun z => c (by injection z))]
          refine iteF ⟨s1, ?_⟩
          rw [sinL_succ, if_neg c, List.append_nil]
          exact g1
      · rintro Hx ⟨s1, g1⟩
        rw [show pro row + 9 - 1 = pro row + 8 by omega] at g1
        exact q D Hx hD (s1.trans wo_same) g1
end
end Sq
set_option Elab.async false
set_option linter.all false
set_option maxRecDepth 100000
set_option maxHeartbeats 4000000
set_option exponentiation.threshold 2000
namespace Sq
open PySem PySem.Spec PyProof.Rows L2
section
variable {P : Program} {w : World} {K : PySem.W.Frag} {mg : Str → Option Value} {base : Heap}
theorem alike_ok {a b : List Int} (ha : ∀ k ∈ a, 2 ≤ k) (hb : ∀ k ∈ b, 2 ≤ k) (e : pro a = pro b) (h : ∀ n : Int, 0 ≤ n → n ≤ pro a → sq n a = sq n b) : a = b :=
  single_same a b ha hb fun n => ⟨fun s => ⟨s.1, (h n (Int.le_trans (by decide) s.1) (single_le ha s)).symm.trans s.2⟩, fun s => ⟨s.1, (h n (Int.le_trans (by decide) s.1) (by rw [e]; exact single_le hb s)).trans s.2⟩⟩
/-- the runs up to a top that two lists make unequal -/
def diffL (a b : List Int) (n : Nat) : List Int := ((List.range n).map fun i : Nat => 0 + (i : Int)).filter fun x => !decide (sq x a = sq x b)
theorem diffL_succ (a b : List Int) (j : Nat) : diffL a b (j + 1) = diffL a b j ++ (if sq (0 + (j : Int)) a = sq (0 + (j : Int)) b then [] else [0 + (j : Int)]) := by
  unfold diffL
  rw [List.range_succ, List.map_append, List.filter_append]
  congr 1
  by_cases c : sq (0 + (j : Int)) a = sq (0 + (j : Int)) b
  · rw [if_pos c]
    exact List.filter_cons_of_neg (by rw [decide_eq_true c]; decide)
  · rw [if_neg c]
    exact List.filter_cons_of_pos (by rw [decide_eq_false c]; rfl)
theorem diffL_len (a b : List Int) (j : Nat) : (diffL a b j).length ≤ j := by
  unfold diffL
  refine Nat.le_trans (List.length_filter_le _ _) ?_
  rw [List.length_map, List.length_range]
  exact Nat.le_refl _
theorem diffL_nil {a b : List Int} (ha : ∀ k ∈ a, 2 ≤ k) (hb : ∀ k ∈ b, 2 ≤ k) (e : pro a = pro b) : decide (diffL a b (pro a + 1).toNat = []) = decide (a = b) := by
  refine decide_eq_decide.mpr ⟨fun h => alike_ok ha hb e fun n n0 n1 => ?_, fun h => ?_⟩
  · by_cases c : sq n a = sq n b
    · exact c
    · exfalso
      have m : n ∈ diffL a b (pro a + 1).toNat := List.mem_filter.mpr ⟨List.mem_map.mpr ⟨n.toNat, List.mem_range.mpr (by omega), by omega⟩, by rw [decide_eq_false c]; rfl⟩
      rw [h] at m
      cases m
  · subst h
    unfold diffL
    rw [List.filter_eq_nil_iff]
    intro x _
    rw [decide_eq_true rfl]
    decide
def spAlike : Sp := fun vs H Q _ => ∃ (a b : Addr) (ks ls : List Int), vs = [.ref a, .ref b] ∧ H a = some (.lst (ks.map V.int)) ∧ H b = some (.lst (ls.map V.int)) ∧ Rpl ks ∧ Rpl ls ∧ ks.length ≤ 300 ∧ ls.length ≤ 300 ∧ pro ks * pro ls ≤ 20000 ∧ ∀ H', Same H H' → Q (.bl (decide (ks ++ ls = ls ++ ks))) H'
theorem ok_lawalike {f : Addr} {fd : FuncData} (F : Fun K "_law_alike" "_law_alike" s_lawalike f fd) (B : Bi mg) (D_lawsqueezed : Df P w K mg base 2 "_law_squeezed" ["run", "row"] (spSqz K)) : FnOk P w K mg base CX0 3 f fd ["one", "other"] spAlike := by
  refine F.ok sc_lawalike (fun vs H Q E h => ?_) (fun cdv A outer s H vs Q E hr h => ?_)
  · obtain ⟨a, b, ks, ls, rfl, _⟩ := h
    rfl
  · obtain ⟨a, b, ks, ls, rfl, ga, gb, rk, rl, lk, ll, pp, q⟩ := h
    refine ⟨_, (pss_cons (ps_asg (pe_tup (pa_cons pe_int (pa_cons (pe_op op_cat (pv 0) (pv 1)) (pa_cons (pe_op op_cat (pv 1) (pv 0)) pa_nil)))) (pg_tup rfl (pgs_cons (pg_name (i := 2) sc_lawalike.nd rfl (Or.inl rfl)) (pgs_cons (pg_name (i := 3) sc_lawalike.nd rfl (Or.inr rfl)) (pgs_cons (pg_name (i := 4) sc_lawalike.nd rfl (Or.inr rfl)) pgs_nil)))))
 (pss_cons (ps_for PassesOwn.never rfl (pi_list (pv 3)) (pg_name (i := 5) sc_lawalike.nd rfl (Or.inl rfl))
 (pss_one (ps_set (i := 2) sc_lawalike.nd rfl (Or.inl rfl) (pe_op op_mul (pv 2) (pv 5)))))
 (pss_one (ps_ret (pe_cmpR (op_eqD hr.units) (pe_lc (own := [("run", 6)]) (g := gName 6) rfl sc_lawalike.nd (pi_range1 (by rfl) B.n_range (pa_cons (pe_op op_add (pv 2) pe_int) pa_nil)) (blkOk_by (own := [("run", 6)]) (N := ["one", "other", "top", "both", "back", "number", "run"]) (sc := defScope s_lawalike) (by decide +kernel)) (fun _ _ _ _ _ => (pg_name (i := 6) sc_lawalike.nd rfl (Or.inl rfl))) (fun _ _ _ _ _ => pts_one (pt_cmpR op_ne (pe_callD D_lawsqueezed (hr.mono (by omega)) (by rfl) (pa_cons (pv 6) (pa_cons (pv 3) pa_nil))) (pe_callD D_lawsqueezed (hr.mono (by omega)) (by rfl) (pa_cons (pv 6) (pa_cons (pv 4) pa_nil))) (nomark _))) (fun _ _ _ _ _ => (pv 6))) (pe_lst pa_nil) (nomark _)))))), ?_⟩
    have lim : sizeLine = 16777216 := sizeLine_eq
    have w3 : 3 ≤ sizeLine := by omega
    refine ⟨_, rfl, _, rfl, a, b, _, _, rfl, rfl, ga, gb, by rw [List.length_map, List.length_map]; omega, fun p1 hp1 => ?_⟩
    have s1 := same_new (o := .lst (ks.map V.int ++ ls.map V.int)) hp1
    have g1 : (upd H p1 (.lst (ks.map V.int ++ ls.map V.int))) p1 = some (.lst ((ks ++ ls).map V.int)) := by rw [upd_same, List.map_append]
    generalize upd H p1 (.lst (ks.map V.int ++ ls.map V.int)) = H1 at s1 g1 ⊢
    refine ⟨_, rfl, _, rfl, b, a, _, _, rfl, rfl, s1 _ _ gb, s1 _ _ ga, by rw [List.length_map, List.length_map]; omega, fun p2 hp2 => ?_⟩
    have s2 := same_new (o := .lst (ls.map V.int ++ ks.map V.int)) hp2
    have g2 : (upd H1 p2 (.lst (ls.map V.int ++ ks.map V.int))) p2 = some (.lst ((ls ++ ks).map V.int)) := by rw [upd_same, List.map_append]
    generalize upd H1 p2 (.lst (ls.map V.int ++ ks.map V.int)) = H2 at s2 g2 ⊢
    have rb : Rpl (ks ++ ls) := fun k hk => (List.mem_append.mp hk).elim (rk k) (rl k)
    have rc : Rpl (ls ++ ks) := fun k hk => (List.mem_append.mp hk).elim (rl k) (rk k)
    have eP : pro (ks ++ ls) = pro (ls ++ ks) := by rw [pro_app, pro_app, Int.mul_comm]
    have lP : 1 ≤ pro (ks ++ ls) ∧ pro (ks ++ ls) ≤ 20000 := ⟨pro_pos (rpl_two rb), by rw [pro_app]; exact pp⟩
    have key := diffL_nil (rpl_two rb) (rpl_two rc) eP
    generalize ks ++ ls = cs at g1 rb eP lP key q
    generalize ls ++ ks = ds at g2 rc eP key q
    refine ⟨w3, fun p3 hp3 => ⟨p3, _, rfl, .inl (.inl upd_same), rfl, _, _, rfl, _, _, rfl, _, _, rfl, rfl, ?_⟩⟩
    have s3 := same_new (o := .tup [V.int 1, .ref p1, .ref p2]) hp3
    have s23 := s2.trans s3
    have g13 := s23 _ _ g1
    have g23 := s3 _ _ g2
    have s03 := s1.trans s23
    generalize upd H2 p3 (.tup [V.int 1, .ref p1, .ref p2]) = H3 at s03 g13 g23 ⊢
    refine ⟨_, rfl, p1, rfl, ⟨_, SqL.of g13⟩, for_list (K := K) (a := p1) (xs := cs.map V.int) (fun i σ H' => H' = H3 ∧ ∃ y, σ = [some (.ref a), some (.ref b), some (.int (pro (cs.take i))), some (.ref p1), some (.ref p2), y, none]) ⟨rfl, none, rfl⟩ (fun i σ H' _ h => by rw [h.1]; exact SqL.of g13) ?_ ?_⟩
    · rintro i x σ H' hi ⟨rfl, y, rfl⟩
      obtain ⟨k, e, rfl⟩ := map_at hi
      have a2 := rb k (List.mem_of_getElem? e)
      refine ⟨_, rfl, _, rfl, _, k, rfl, rfl, .inr ⟨by omega, by omega⟩, rfl, some (.int k), ?_⟩
      rw [List.take_add_one, e, pro_app]
      show _ = [_, _, some (V.int (pro (cs.take i) * pro [k])), _, _, _, _]
      rw [show pro [k] = k from (pro_cons k []).trans (Int.mul_one k)]
      rfl
    · rintro σ H' ⟨rfl, y, rfl⟩
      rw [List.length_map, List.take_length]
      refine ⟨_, rfl, _, 1, rfl, rfl, pro cs + 1, rfl, by omega, by omega, fun D hD => lc_range (lo := 0) (n := (pro cs + 1).toNat) (fun j Hx => Same H' (wo Hx D) ∧ Hx D = some (.lst ((diffL cs ds j).map V.int))) ⟨by rw [wo_upd]; exact same_wo (Same.refl _) hD, upd_same⟩ ?_ ?_⟩
      · rintro j Hx hj ⟨sx, gx⟩
        have up := sx.trans (wo_same (H := Hx) (D := D))
        refine ⟨rfl, _, rfl, _, rfl, 0 + (j : Int), p1, cs, rfl, SqL.of (up _ _ g13), rb, _, rfl, _, rfl, 0 + (j : Int), p2, ds, rfl, SqL.of (up _ _ g23), rc, ?_⟩
        refine ⟨rfl, _, rfl, ?_⟩
        by_cases c : sq (0 + (j : Int)) cs = sq (0 + (j : Int)) ds
        · rw [decide_eq_true (congrArg V.int c)]
          refine iteF ⟨sx, ?_⟩
          rw [diffL_succ, if_pos c, List.append_nil]
          exact gx
        · rw [decide_eq_false (fun z => c (by injection z))]
          refine iteT ⟨_, rfl, _, gx, ?_, ?_, ?_⟩
          · rw [List.length_map]
            have := diffL_len cs ds j
            omega
          · rw [wo_upd]
            exact sx
          · rw [upd_same, diffL_succ, if_neg c, List.map_append]
            rfl
      · rintro Hx ⟨sx, gx⟩
        refine ⟨Nat.zero_le _, fun t ht => ?_⟩
        have st := same_new (o := .lst []) ht
        refine ⟨.list ((diffL cs ds (pro cs + 1).toNat).map PyData.int), .list (([] : List Int).map PyData.int), .lst (SqL.of (st _ _ gx)) (dp_ints _), .lst (SqL.of upd_same) .nil, shaped_ints _, shaped_ints [], ?_⟩
        rw [eqv_ints, key]
        exact q _ (s03.trans ((sx.trans wo_same).trans st))
end
end Sq
set_option Elab.async false
set_option linter.all false
set_option maxRecDepth 100000
set_option maxHeartbeats 4000000
set_option exponentiation.threshold 2000
namespace Sq
open PySem PySem.Spec PyProof.Rows L2
section
variable {P : Program} {w : World} {K : PySem.W.Frag} {mg : Str → Option Value} {base : Heap}
/-- the lists of the next length -/
def ext4 (row : List Int) : List (List Int) := [row ++ [2], row ++ [3], row ++ [4], row ++ [5]]
def lev : Nat → List (List Int)
  | 0 => [[]]
  | n + 1 => (lev n).flatMap ext4
def upto : Nat → List (List Int)
  | 0 => [[]]
  | n + 1 => upto n ++ lev (n + 1)
/-- all lists of up to three replacements from 2 to 5 -/
def L85 : List (List Int) := upto 3
theorem ext4_len : ∀ l : List (List Int), (l.flatMap ext4).length = 4 * l.length
  | [] => rfl
  | r :: l => by
    rw [List.flatMap_cons, List.length_append, ext4_len l]
    show 4 + 4 * l.length = 4 * (l.length + 1)
    omega
theorem ext4_at (r : List Int) {e : Nat} (h : e < 4) : (ext4 r)[e]? = some (r ++ [2 + (e : Int)]) := by
  have c : e = 0 ∨ e = 1 ∨ e = 2 ∨ e = 3 := by omega
  rcases c with rfl | rfl | rfl | rfl <;> rfl
theorem few_lists {i : Nat} (h : i < 3) : (lev i).length ≤ 16 ∧ (upto i).length + (lev (i + 1)).length ≤ 85 := by
  have c : i = 0 ∨ i = 1 ∨ i = 2 := by omega
  rcases c with rfl | rfl | rfl <;> decide
theorem take_flat {l : List (List Int)} {j : Nat} {r : List Int} (e : l[j]? = some r) : (l.take (j + 1)).flatMap ext4 = (l.take j).flatMap ext4 ++ ext4 r := by
  rw [List.take_add_one, e, List.flatMap_append]
  show _ ++ (ext4 r ++ []) = _
  rw [List.append_nil]
theorem lev_mem : ∀ (n : Nat) (r : List Int), r ∈ lev n → r.length = n ∧ ∀ k ∈ r, 2 ≤ k ∧ k ≤ 5
  | 0, r, h => by
    rw [List.mem_singleton.mp h]
    exact ⟨rfl, fun k hk => nomatch hk⟩
  | n + 1, r, h => by
    obtain ⟨x, hx, hr⟩ := List.mem_flatMap.mp h
    obtain ⟨l, b⟩ := lev_mem n x hx
    have last : ∀ k : Int, 2 ≤ k → k ≤ 5 → (x ++ [k]).length = n + 1 ∧ ∀ y ∈ x ++ [k], 2 ≤ y ∧ y ≤ 5 := fun k k1 k2 => ⟨by rw [List.length_append, l]; rfl, fun y hy => by
      rcases List.mem_append.mp hy with z | z
      · exact b y z
      · rw [List.mem_singleton.mp z]
        exact ⟨k1, k2⟩⟩
    have hr' : r ∈ [x ++ [2], x ++ [3], x ++ [4], x ++ [5]] := hr
    simp only [List.mem_cons, List.not_mem_nil, or_false] at hr'
    rcases hr' with e | e | e | e <;> rw [e]
    · exact last 2 (by decide) (by decide)
    · exact last 3 (by decide) (by decide)
    · exact last 4 (by decide) (by decide)
    · exact last 5 (by decide) (by decide)
theorem L85_len : L85.length = 85 := by decide
def spLists : Sp := fun vs H Q _ => vs = [] ∧ ∀ p as H', H p = none → Same H H' → H' p = some (.lst (as.map V.ref)) → RowsAt H' as L85 → (∀ b ∈ as, H b = none) → Q (.ref p) H'
theorem ok_lawlists {f : Addr} {fd : FuncData} (F : Fun K "_law_lists" "_law_lists" s_lawlists f fd) (B : Bi mg) : FnOk P w K mg base CX0 1 f fd [] spLists := by
  refine F.ok sc_lawlists (fun vs H Q E h => ?_) (fun cdv A outer s H vs Q E hr h => ?_)
  · obtain ⟨rfl, _⟩ := h
    rfl
  · obtain ⟨rfl, q⟩ := h
    refine ⟨_, (pss_cons (ps_par (i := 0) (j := 1) (by rfl) sc_lawlists.nd rfl rfl (by decide) rfl rfl (pa_cons (pe_lst (pa_cons (pe_lst pa_nil) pa_nil)) (pa_cons (pe_lst (pa_cons (pe_lst pa_nil) pa_nil)) pa_nil)) (by rfl))
 (pss_cons (ps_for PassesOwn.never rfl (pi_range1 (by rfl) B.n_range (pa_cons pe_int pa_nil)) (pg_name (i := 2) sc_lawlists.nd rfl (Or.inl rfl))
 (pss_cons (ps_set (i := 3) sc_lawlists.nd rfl (Or.inl rfl) (pe_lst pa_nil))
 (pss_cons (ps_for PassesOwn.never rfl (pi_list (pv 1)) (pg_name (i := 4) sc_lawlists.nd rfl (Or.inr rfl))
 (pss_one (ps_expr (pe_bm PySem.F.plainAttrs_list PySem.F.slot_list_extend PySem.F.type_list_extend mt_extend (pv 3) (pa_cons (pe_lc (own := [("one", 5)]) (g := gName 5) rfl sc_lawlists.nd (pi_range2 (by rfl) B.n_range (pa_cons pe_int (pa_cons pe_int pa_nil))) (blkOk_by (own := [("one", 5)]) (N := ["found", "last", "time", "longer", "row", "one"]) (sc := defScope s_lawlists) (by decide +kernel)) (fun _ _ _ _ _ => (pg_name (i := 5) sc_lawlists.nd rfl (Or.inl rfl))) (fun _ _ _ _ _ => pts_nil) (fun _ _ _ _ _ => (pe_op op_cat (pv 4) (pe_lst (pa_cons (pv 5) pa_nil))))) pa_nil)))))
 (pss_one (ps_par (i := 0) (j := 1) (by rfl) sc_lawlists.nd rfl rfl (by decide) rfl rfl (pa_cons (pe_op op_cat (pv 0) (pv 3)) (pa_cons (pv 3) pa_nil)) (by rfl))))))
 (pss_one (ps_ret (pv 0))))), ?_⟩
    have lim : sizeLine = 16777216 := sizeLine_eq
    have w1 : 1 ≤ sizeLine := by omega
    refine ⟨Nat.zero_le _, fun e1 he1 => ⟨w1, fun f0 hf0 => ⟨Nat.zero_le _, fun e2 he2 => ⟨w1, fun l0 hl0 => ⟨_, _, rfl, ?_⟩⟩⟩⟩⟩
    have t1 := same_new (o := .lst []) he1
    have t2 := same_new (o := .lst [V.ref e1]) hf0
    have t3 := same_new (o := .lst []) he2
    have t4 := same_new (o := .lst [V.ref e2]) hl0
    have a1 := t4 _ _ (t3 _ _ (t2 _ _ (show (upd H e1 (.lst [])) e1 = _ from upd_same)))
    have a2 := t4 _ _ (t3 _ _ (show (upd (upd H e1 (.lst [])) f0 (.lst [V.ref e1])) f0 = _ from upd_same))
    have a3 := t4 _ _ (show (upd (upd (upd H e1 (.lst [])) f0 (.lst [V.ref e1])) e2 (.lst [])) e2 = _ from upd_same)
    have a4 : (upd (upd (upd (upd H e1 (.lst [])) f0 (.lst [V.ref e1])) e2 (.lst [])) l0 (.lst [V.ref e2])) l0 = some (.lst [V.ref e2]) := upd_same
    have t14 := ((t1.trans t2).trans t3).trans t4
    have hf : H f0 = none := t1.free hf0
    have hb1 : ∀ b ∈ [e1], H b = none := fun b hb => by rw [List.mem_singleton.mp hb]; exact he1
    have hb2 : ∀ b ∈ [e2], H b = none := fun b hb => by rw [List.mem_singleton.mp hb]; exact (t1.trans t2).free he2
    generalize (upd (upd (upd (upd H e1 (.lst [])) f0 (.lst [V.ref e1])) e2 (.lst [])) l0 (.lst [V.ref e2])) = H0 at t14 a1 a2 a3 a4 ⊢
    clear t1 t2 t3 t4 he1 hf0 he2 hl0
    refine ⟨3, rfl, by decide, by decide, for_range (lo := 0) (n := 3) (fun i σ H' => ∃ (pf pl : Addr) (as bs : List Addr) (y2 y3 y4 : Option V), σ = [some (.ref pf), some (.ref pl), y2, y3, y4, none] ∧ Same H H' ∧ H pf = none ∧ H' pf = some (.lst (as.map V.ref)) ∧ RowsAt H' as (upto i) ∧ H' pl = some (.lst (bs.map V.ref)) ∧ RowsAt H' bs (lev i) ∧ (∀ b ∈ as, H b = none) ∧ ∀ b ∈ bs, H b = none)
      ⟨f0, l0, [e1], [e2], none, none, none, rfl, t14, hf, a2, ⟨a1, trivial⟩, a4, ⟨a3, trivial⟩, hb1, hb2⟩ ?_ ?_⟩
    · rintro i σ H1 hi ⟨pf, pl, as, bs, y2, y3, y4, rfl, s1, nf, gf, rf, gl, rb, fa, fb⟩
      obtain ⟨few1, few2⟩ := few_lists hi
      refine ⟨Nat.zero_le _, fun lo hlo => ?_⟩
      have so := same_new (o := .lst []) hlo
      refine ⟨_, rfl, pl, rfl, ⟨_, SqL.of (so _ _ gl)⟩, for_list (K := K) (a := pl) (xs := bs.map V.ref) (fun j σ Hx => ∃ (cs : List Addr) (y4 : Option V), σ = [some (.ref pf), some (.ref pl), some (.int (0 + (i : Int))), some (.ref lo), y4, none] ∧ Same H1 (wo Hx lo) ∧ Hx lo = some (.lst (cs.map V.ref)) ∧ RowsAt (wo Hx lo) cs (((lev i).take j).flatMap ext4) ∧ ∀ b ∈ cs, H b = none)
        ⟨[], y4, rfl, by rw [wo_upd]; exact same_wo (Same.refl _) hlo, upd_same, trivial, fun _ z => nomatch z⟩ (fun j σ Hx _ hh => by obtain ⟨cs, y4, rfl, sx, _⟩ := hh; exact SqL.of (wo_same _ _ (sx _ _ gl))) ?_ ?_⟩
      · rintro j z σ Hx hz ⟨cs, y4, rfl, sx, gx, rc, fc⟩
        obtain ⟨b, eb, rfl⟩ := map_ref hz
        have jl : j < (lev i).length := by rw [← rb.len]; exact (List.getElem?_eq_some_iff.mp eb).1
        obtain ⟨r, er⟩ : ∃ r, (lev i)[j]? = some r := ⟨_, List.getElem?_eq_getElem jl⟩
        obtain ⟨b', eb', gb⟩ := rb.get er
        obtain rfl : b' = b := Option.some.inj (eb'.symm.trans eb)
        have lc := rc.len
        rw [ext4_len, List.length_take] at lc
        have lr : (r.map V.int).length ≤ sizeLine - 1 := by
          rw [List.length_map, (lev_mem i r (List.mem_of_getElem? er)).1]
          omega
        refine ⟨_, rfl, .inl ⟨rfl, _, SqL.of gx⟩, 2, 6, rfl, ⟨by decide, by decide, by decide, by decide⟩, fun D hD => lc_range (lo := 2) (n := 4) (fun e Hy => Same Hx (wo Hy D) ∧ ∃ ds : List Addr, Hy D = some (.lst (ds.map V.ref)) ∧ ds.length = e ∧ RowsAt (wo (wo Hy D) lo) ds ((ext4 r).take e) ∧ ∀ b ∈ ds, H b = none)
          ⟨by rw [wo_upd]; exact same_wo (Same.refl _) hD, [], upd_same, rfl, trivial, fun _ z => nomatch z⟩ ?_ ?_⟩
        · rintro e Hy he ⟨sy, ds, gy, ld, rd, fd'⟩
          have gy_b := wo_same _ _ (sy _ _ (wo_same _ _ (sx _ _ gb)))
          have gy_lo := wo_same _ _ (sy _ _ gx)
          refine ⟨rfl, _, rfl, _, rfl, w1, fun o ho => ⟨b', o, _, _, rfl, rfl, same_new ho _ _ gy_b, upd_same, by show (r.map V.int).length + 1 ≤ _; omega, fun q1 hq1 => ?_⟩⟩
          have s2 := (same_new (o := .lst [V.int (2 + (e : Int))]) ho).trans (same_new (o := .lst (r.map V.int ++ [V.int (2 + (e : Int))])) hq1)
          have gq : (upd (upd Hy o (.lst [V.int (2 + (e : Int))])) q1 (.lst (r.map V.int ++ [V.int (2 + (e : Int))]))) q1 = some (.lst ((r ++ [2 + (e : Int)]).map V.int)) := by rw [upd_same, List.map_append]; rfl
          have fq : H q1 = none := (((s1.trans (sx.trans wo_same)).trans (sy.trans wo_same)).trans (same_new ho)).free hq1
          have nq1 : q1 ≠ D := (ne_of_none (same_new (o := .lst [V.int (2 + (e : Int))]) ho _ _ gy) hq1).symm
          have nq2 : q1 ≠ lo := (ne_of_none (same_new (o := .lst [V.int (2 + (e : Int))]) ho _ _ gy_lo) hq1).symm
          generalize (upd (upd Hy o (.lst [V.int (2 + (e : Int))])) q1 (.lst (r.map V.int ++ [V.int (2 + (e : Int))]))) = Hz at s2 gq ⊢
          refine ⟨_, s2 _ _ gy, by rw [List.length_map]; omega, ?_, ds ++ [q1], ?_, by rw [List.length_append, ld]; rfl, ?_, fun b hb => (List.mem_append.mp hb).elim (fd' b) fun z => by rw [List.mem_singleton.mp z]; exact fq⟩
          · rw [wo_upd]
            exact sy.trans (wo_mon s2)
          · rw [upd_same, List.map_append]
            rfl
          · rw [wo_upd, List.take_add_one, ext4_at r he]
            exact (rd.same (wo_mon (wo_mon s2))).app ⟨by rw [wo_ne nq2, wo_ne nq1]; exact gq, trivial⟩
        · rintro Hy ⟨sy, ds, gy, ld, rd, fd'⟩
          have sxy := sy.trans (wo_same (H := Hy) (D := D))
          refine ⟨lo, D, _, _, rfl, rfl, sxy _ _ gx, gy, by rw [List.length_map, List.length_map]; omega, cs ++ ds, _, rfl, ?_, ?_, ?_, fun b hb => (List.mem_append.mp hb).elim (fc b) (fd' b)⟩
          · rw [wo_upd]
            exact sx.trans (wo_mon sxy)
          · rw [upd_same, List.map_append]
          · rw [wo_upd, take_flat er]
            exact (rc.same (wo_mon sxy)).app (rd.same (wo_mon wo_same))
      · rintro σ Hx ⟨cs, y4', rfl, sx, gx, rc, fc⟩
        rw [List.length_map, rb.len, List.take_length] at rc
        have rc : RowsAt (wo Hx lo) cs (lev (i + 1)) := rc
        have lc := rc.len
        have lf := rf.len
        have sxx := sx.trans (wo_same (H := Hx) (D := lo))
        refine ⟨_, rfl, _, rfl, pf, lo, _, _, rfl, rfl, sxx _ _ gf, gx, by rw [List.length_map, List.length_map]; omega, fun nn hnn => ⟨_, rfl, _, _, rfl, ?_⟩⟩
        have sn := same_new (o := .lst (as.map V.ref ++ cs.map V.ref)) hnn
        exact ⟨nn, lo, as ++ cs, cs, _, _, _, rfl, (s1.trans sxx).trans sn, (s1.trans sxx).free hnn, by rw [upd_same, List.map_append], (rf.same (sxx.trans sn)).app (rc.same (wo_same.trans sn)), sn _ _ gx, rc.same (wo_same.trans sn), fun b hb => (List.mem_append.mp hb).elim (fa b) (fc b), fc⟩
    · rintro σ H1 ⟨pf, pl, as, bs, y2, y3, y4, rfl, s1, nf, gf, rf, gl, rb, fa, fb⟩
      exact ⟨_, rfl, q pf as H1 nf s1 gf rf fa⟩
end
end Sq
set_option Elab.async false
set_option linter.all false
set_option maxRecDepth 100000
set_option maxHeartbeats 4000000
set_option exponentiation.threshold 2000
namespace Sq
open PySem PySem.Spec PyProof.Rows L2
theorem L85_ok : ∀ r ∈ L85, (∀ k ∈ r, 2 ≤ k ∧ k ≤ 5) ∧ r.length ≤ 3 ∧ pro r ≤ 125 := by decide +kernel
/-- a list of runs as a text -/
def shw (zs : List Int) : Str := (PyData.list (zs.map PyData.int)).shown
theorem texts_nd : ((L85.map sing).map shw).Nodup := by decide +kernel
end Sq
set_option Elab.async false
set_option linter.all false
set_option maxRecDepth 100000
set_option maxHeartbeats 4000000
/-! set(l) of a list of texts no two of which are alike; its len. -/
namespace Sq
open PySem PySem.Spec PyProof.Rows L2
open PySem.Froz (sObj TxOk addTx add_x add_ok is_str get_upd)
def TxR (P : Program) (w : World) (h : Heap) (a : Addr) (l : List Str) : Prop := ∃ D, h.get? a = some (sObj "set" D) ∧ TxOk P w D l
section
variable {P : Program} {w : World} {A : Around} {E : Value → Shared → Prop} {s : Shared}
theorem set_update_texts {I : Addr} {fp wr : List Addr} {G : Array GenState → Array GenState → Prop} {n : Nat} {Pv : Nat → Value → Prop} {St : Nat → Shared → Prop} {R : Result → Shared → Prop}
    (W : WalksS P w A.in1 I fp wr G n Pv St) (S : Addr) (hSf : S ∉ fp) (ts : List Str) (nd : ts.Nodup) (hn : n = ts.length) (hb : ts.length + 1 < scanBound) (hval : ∀ i v, Pv i v → ∃ k t, ts[i]? = some k ∧ v = .str k t) :
    ∀ (k i : Nat) (s : Shared), n - i = k → i ≤ n → St i s → TxR P w s.heap S (ts.take i).reverse →
      (∀ s', Moved (S :: wr) G s s' → TxR P w s'.heap S ts.reverse → R (.ok (.ret .none)) s') →
      codeAny (model P w) A (.builtin "set.update.loop" ⟨[.ref S, .ref I], []⟩) R s := by
  have hSw : S ∉ wr := fun h => hSf (W.sub _ h)
  have hsub : ∀ b ∈ wr, b ∈ S :: wr := fun b hb => List.mem_cons_of_mem _ hb
  intro k
  induction k with
  | zero =>
    intro i s hk' hi hst hS hR
    have hin : i = n := by omega
    subst hin
    refine codeAny_builtin F.entry_set_update_loop ?_
    rw [Around.under_plainId F.plain_set_update_loop _]
    show wpAny _ A.in1 (pyNext (.ref I) >>= _) _ _ s
    refine wpAny_bind (W.done s _ _ hst fun s' hm => ?_)
    show wpAny _ A.in1 (ret Value.none) _ _ s'
    have e : ts.take i = ts := List.take_of_length_le (by omega)
    rw [e] at hS
    obtain ⟨D, gD, Fx⟩ := hS
    exact wpAny_pure (hR s' (hm.mono hsub) ⟨D, hm.heap S _ hSw gD, Fx⟩)
  | succ k ih =>
    intro i s hk' hi hst hS hR
    have hlt : i < n := by omega
    refine codeAny_builtin F.entry_set_update_loop ?_
    rw [Around.under_plainId F.plain_set_update_loop _]
    show wpAny _ A.in1 (pyNext (.ref I) >>= _) _ _ s
    refine wpAny_bind (W.item i s _ _ hlt hst fun v s' hP hst' hm => ?_)
    obtain ⟨z, t, hz, rfl⟩ := hval i v hP
    obtain ⟨D, gD, Fx⟩ := hS
    have gD' := hm.heap S _ hSw gD
    show wpAny _ A.in1 (holding [Value.str z t] (setAdd S (.str z t)) >>= _) _ _ s'
    refine wpAny_bind (wpAny_holding ?_)
    unfold setAdd
    refine wpAny_holding ?_
    refine wpAny_bind ((strKind P w).pyHash (k := z) (is_str z t) ?_)
    have il : i < ts.length := by omega
    have et : ts.take (i + 1) = ts.take i ++ [z] := by rw [List.take_add_one, hz]; rfl
    have new : z ∉ (ts.take i).reverse := fun h => by
      have h' := List.mem_reverse.mp h
      have nd' : (ts.take (i + 1)).Nodup := List.Sublist.nodup (List.take_sublist _ _) nd
      rw [et] at nd'
      exact (List.nodup_append.mp nd').2.2 z h' z (List.mem_singleton_self z) rfl
    refine add_x (s := { s' with toks := s'.toks + 1 }) gD' Fx new (by rw [List.length_reverse, List.length_take]; omega) ?_
    have F2 := add_ok (w := w) (P := P) (k := z) t Fx
    have hsb : ∀ b, b ≠ S → (s'.heap.update S (fun _ => sObj "set" (addTx (hashStr w z) (.str z t) D))).get? b = s'.heap.get? b := fun b hb => Heap.get?_update_ne _ b S _ hb
    refine wpAny_pure ⟨plainId_quiet F.plain_set_update_loop _, ih (i + 1) _ (by omega) hlt (W.frame _ s' _ _ hst' (Nat.le_succ _) fun b hb o e => ?_) ⟨_, get_upd _ gD' rfl, by rw [et, List.reverse_append]; exact F2⟩ fun s'' hm'' hS'' => ?_⟩
    · rw [hsb b (fun h : b = S => hSf (by rw [← h]; exact hb))]; exact e
    · refine hR s'' (Moved.trans W.gtrans ((hm.mono hsub).then_heap (Nat.le_succ _) fun b o hb e => ?_) hm'') hS''
      rw [hsb b (fun h : b = S => hb (by rw [h]; exact List.mem_cons_self))]; exact e
theorem set_of_texts {l : Addr} {its : Array Value} {zs : List Str} {Q : Value → Shared → Prop} (quiet : A.handled = none) (isL : s.heap.IsList l its) (areT : Vals (zs.map V.str) its.toList) (nd : zs.Nodup) (few : zs.length + 1 < scanBound)
    (fin : ∀ (g : Heap) (tk : Nat), TxR P w g s.heap.objs.size zs.reverse → (∀ b o, s.heap.get? b = some o → g.get? b = some o) → Q (.ref s.heap.objs.size) { s with heap := g, toks := tk }) :
    wpAny (model P w) A (call (.type "set") [.ref l]) Q E s := by
  have size : its.size = zs.length := by
    rw [← Array.length_toList]
    rw [← areT.length, List.length_map]
  obtain ⟨c0, tl0, mro0⟩ := F.called_set.mro
  have made0 := F.called_set.made
  have sub0 := F.called_set.sub
  refine wpAny_call (codeAny_of_tree (show wpAny _ _ (callAny (.type "set") _) _ _ _ from ?_))
  refine wpAny_pure ⟨Code.quiet_builtin _ (by decide +kernel), codeAny_builtin F.entry_type_call ?_⟩
  rw [Around.under_plain (weight_type_call_type "set" [.ref l] []) rfl]
  have t1 := F.called_set.notType
  have t2 := F.called_set.canCreate
  have t3 := F.typeCall_set_1 (.ref l)
  repeat (any_goals (first | assumption | wp_step))
  refine codeAny_mono (code_set_led1 (.ref l) (E := E) (Q₁ := fun ob s' => ob = .ref s.heap.objs.size ∧ s' = { s with heap := s.heap.push (emptyS w) }) ⟨rfl, rfl⟩) fun r s' hr => ?_
  match r, hr with
  | .error e, hr => exact hr
  | .ok .next, hr => exact hr.elim
  | .ok .brk, hr => exact hr.elim
  | .ok .cont, hr => exact hr.elim
  | .ok (.ret ob), hr =>
    obtain ⟨rfl, rfl⟩ := hr
    have gS : (s.heap.push (emptyS w)).get? s.heap.objs.size = some (emptyS w) := Heap.get?_push_size _ rfl
    have tS : Shared.TypeIs { s with heap := s.heap.push (emptyS w) } (.ref s.heap.objs.size) "set" := ⟨_, gS, rfl⟩
    have i1 := F.called_set.init.lookup
    have i2 := F.called_set.init.bind (.ref s.heap.objs.size)
    repeat (any_goals (first | assumption | wp_step))
    refine codeAny_mono (codeAny_call_builtin (R := wants (fun r s2 => r = .none ∧ ∃ g tk, s2 = { s with heap := g, toks := tk } ∧ TxR P w g s.heap.objs.size zs.reverse ∧
        ∀ b o, s.heap.get? b = some o → g.get? b = some o) E) F.called_set.init.plain F.entry_set_init (check_set_init_1 tS ?_)) fun r2 s2 hr2 => ?_
    · obtain ⟨⟨cl, di, da, sl⟩, ol, isC, nl, isD⟩ := isL
      simp only at isC isD
      subst isC isD
      have ol1 : (s.heap.push (emptyS w)).get? l = some { cls := .type "list", dict := di, data := .seq its nl, slots := sl } := Heap.get?_push_of_some _ ol
      have n1 := F.sub_list_set
      have n2 := F.sub_list_frozenset
      have n3 : (Value.type "list" == Value.type "dict") = false := by decide
      have isL1 : (s.heap.push (emptyS w)).IsList l its := ⟨_, ol1, rfl, nl, rfl⟩
      unfold Builtin.«set.__init__» noKeywords Builtin.Frozenset.updateFrom
      generalize pk : pyIter = PK
      wp_walk
      subst pk
      refine wpAny_pyIter_list isL1 (wpAny_bind (wpAny_runValue ?_))
      have low : l < s.heap.objs.size := Heap.lt_size ol
      have q3 : A.in1.in1.in1.handled = none := by simp [quiet]
      have big : (s.heap.push (emptyS w)).objs.size = s.heap.objs.size + 1 := Heap.size_push ..
      have apart : l ≠ (s.heap.push (emptyS w)).objs.size := by rw [big]; exact Nat.ne_of_lt (Nat.lt_succ_of_lt low)
      have notIn : s.heap.objs.size ∉ [(s.heap.push (emptyS w)).objs.size, l] := by
        rw [big]
        intro z
        rcases List.mem_cons.mp z with z | z
        · exact absurd z (Nat.ne_of_lt (Nat.lt_succ_self _))
        · exact absurd (List.mem_singleton.mp z) (Nat.ne_of_gt low)
      have vals : ∀ (i : Nat) (v : Value), its[i]? = some v → ∃ k t, zs[i]? = some k ∧ v = .str k t := fun i v hv => by
        have li : i < zs.length := by rw [← size]; exact (Array.getElem?_eq_some_iff.mp hv).1
        have el : (zs.map V.str)[i]? = some (V.str zs[i]) := by rw [List.getElem?_map, List.getElem?_eq_getElem li]; rfl
        obtain ⟨u, hu, ru⟩ := areT.get el
        rw [Array.getElem?_toList, hv] at hu
        obtain ⟨t, e⟩ := ru
        exact ⟨zs[i], t, List.getElem?_eq_getElem li, (Option.some.inj hu).trans e⟩
      refine set_update_texts ((Walks.list q3 _ l apart its).toS) s.heap.objs.size notIn zs nd size few vals (its.size - 0) 0 _ (by omega) (Nat.zero_le _) ⟨⟨_, Heap.get?_push_size _ rfl, rfl, rfl⟩, isL1.push _⟩ ⟨(#[], 0, .fresh 0 0 (!w.params.followText "set-order")), Heap.get?_push_of_some _ gS, TxOk.nil (by rfl)⟩ ?_
      intro s3 mv R3
      obtain ⟨g, gn, dr, tk, os⟩ := s3
      obtain rfl : gn = s.gens := mv.gens
      obtain rfl : dr = s.drawn := mv.drawn
      obtain rfl : os = s.os := mv.os
      refine (show wpAny _ _ _ _ _ _ from wpAny_pure (show wpAny _ _ (ret Value.none) _ _ _ from ?_))
      refine wpAny_pure ⟨rfl, g, tk, rfl, R3, fun b o e => ?_⟩
      have lb : b < s.heap.objs.size := Heap.lt_size e
      refine mv.heap b o (fun z => ?_) (Heap.get?_push_of_some _ (Heap.get?_push_of_some _ e))
      rcases List.mem_cons.mp z with z | z
      · exact absurd z (Nat.ne_of_lt lb)
      · have z := List.mem_singleton.mp z
        rw [big] at z
        exact absurd z (Nat.ne_of_lt (Nat.lt_succ_of_lt lb))
    · match r2, hr2 with
      | .error e, hr2 => exact hr2
      | .ok .next, hr2 => exact hr2.elim
      | .ok .brk, hr2 => exact hr2.elim
      | .ok .cont, hr2 => exact hr2.elim
      | .ok (.ret v), hr2 =>
        obtain ⟨rfl, g, tk, rfl, R3, kept⟩ := hr2
        repeat (any_goals (first | assumption | wp_step))
        exact fin _ _ R3 kept
end
/-- a set of so many texts -/
def SetT (P : Program) (w : World) (a : Addr) (n : Nat) : HO := .ext fun h => ∃ l, l.length = n ∧ TxR P w h a l
section
variable {X : Cx}
def rSetT (X : Cx) : List V → Hp → VK → Prop := fun vs H Q => ∃ (l : Addr) (ts : List Str), vs = [.ref l] ∧ SqL X.K H l (ts.map V.str) ∧ ts.Nodup ∧ ts.length ≤ 4000 ∧ ∀ p, H p = none → Q (.ref p) (upd H p (SetT X.prog X.w p ts.length))
theorem call_setT (hc : X.calm = true) : CallR X (.type "set") (rSetT X) := by
  intro pins s σ H vs us Q I r h
  obtain ⟨l, ts, rfl, hs, nd, few, q⟩ := h
  rw [Vals.ref1 r]
  obtain ⟨its, rv, pl, _⟩ := I.list hs
  refine set_of_texts (I.ok.hd hc) pl.isList (by simpa using rv) nd (by unfold scanBound; omega) fun g tk R kept => ?_
  have free : H s.heap.objs.size = none := I.hok.fresh (Nat.le_refl _)
  refine ⟨.ref s.heap.objs.size, upd H s.heap.objs.size (SetT X.prog X.w s.heap.objs.size ts.length), I.laid kept (Nat.le_refl _) ?_, rfl, q _ free⟩
  obtain ⟨D, gD, F⟩ := id R
  exact ⟨⟨_, List.length_reverse, R⟩, ⟨_, gD⟩, fun h1 h2 p k => by
    obtain ⟨l, e, D, g, F⟩ := p
    exact ⟨l, e, D, k _ g, F⟩⟩
def rLenT (X : Cx) : List V → Hp → VK → Prop := fun vs H Q => ∃ (a : Addr) (n : Nat), vs = [.ref a] ∧ H a = some (SetT X.prog X.w a n) ∧ n ≤ 4000 ∧ Q (.int (n : Int)) H
theorem call_lenT : CallR X (.builtin "len") (rLenT X) := by
  intro pins s σ H vs us Q I r h
  obtain ⟨a, n, rfl, ha, few, q⟩ := h
  rw [Vals.ref1 r]
  obtain ⟨l, el, D, get, F⟩ := (I.hok a _ ha).1
  have size : D.1.size = n := F.sz.trans el
  refine call_len_set get ⟨rfl, rfl, rfl⟩ rfl F.fit (by rw [size]; omega) ⟨.int (n : Int), H, I.tok _, ⟨_, by rw [size]⟩, q⟩
end
section
variable {X : Cx} {k : Nat} {ps : List Str} {sp : Sp} {x : Str} {p pos : Pos}
/-- a call of a def without arguments -/
theorem pe_callD0 (D : Df X.prog X.w X.K X.mg X.base k x ps sp) (hr : Room k X.A) (hg : Gl X x) (hdb : (x == ("__debug__" : Str)) = false := by decide) : PE X (.Call (.Name x p) [] [] pos) (tCall sp [] E0 tNil) := by
  obtain ⟨f, fd, F, g, kp, b⟩ := D.ex
  exact pe_call0 F hr hg g kp b .nil pass0 hdb
end
end Sq
set_option Elab.async false
set_option linter.all false
set_option maxRecDepth 100000
set_option maxHeartbeats 4000000
set_option exponentiation.threshold 2000
namespace Sq
open PySem PySem.Spec PyProof.Rows L2
theorem sing_len {row : List Int} (h : pro row ≤ 125) (p : 1 ≤ pro row) : (sing row).length ≤ 133 := by
  have := sinL_len row (pro row + 8).toNat
  show (sinL row (pro row + 8).toNat).length ≤ 133
  omega
theorem sing_mem {row : List Int} {n : Int} (h : n ∈ sing row) : 1 ≤ n ∧ n ≤ pro row + 8 := by
  have := (sinL_mem (row := row)).mp h
  omega
section
variable {P : Program} {w : World} {K : PySem.W.Frag} {mg : Str → Option Value} {base : Heap} {c fI : Nat → Addr} {qn : Nat → Str} {cB : Addr}
def spPartC (K : PySem.W.Frag) (c : Nat → Addr) : Sp := fun vs H Q _ => spParting K c vs H Q fun _ _ _ => False
def spComC (K : PySem.W.Frag) (c : Nat → Addr) : Sp := fun vs H Q _ => spCommute K c vs H Q fun _ _ _ => False
def spLaw (K : PySem.W.Frag) : Sp := fun vs H Q _ => ∃ (a : Addr) (ns : List Int), vs = [.ref a] ∧ SqL K H a (ns.map V.int) ∧ ns.length ≤ 63 ∧ ∀ H', Q (.bl true) H'
theorem ok_law {f : Addr} {fd : FuncData} (F : Fun K "law" "law" s_law f fd) (B : Bi mg)
    (D_lawsource : Df P w K mg base 1 "_law_source" ["script"] (spSource K)) (D_lawdraw : Df P w K mg base 1 "_law_draw" ["source", "many"] spDraw) (D_lawlists : Df P w K mg base 1 "_law_lists" [] spLists) (D_lawsingles : Df P w K mg base 3 "_law_singles" ["row"] (spSin K)) (D_listof : Df P w K mg base 2 "list_of" ["singles"] (spListOf K))
    (D_partingrun : Df P w K mg base 3 "parting_run" ["first", "second"] (spPartC K c)) (D_commute : Df P w K mg base 2 "commute" ["first", "second"] (spComC K c)) (D_lawsqueezed : Df P w K mg base 2 "_law_squeezed" ["run", "row"] (spSqz K)) (D_lawalike : Df P w K mg base 3 "_law_alike" ["one", "other"] spAlike) :
    Top P w K mg base 5 f fd "script" (spLaw K) := by
  refine atTop F sc_law ⟨rfl, by decide, by decide⟩ (fun vs H Q E h => ?_) (fun cdv outer s H vs Q E hr h => ?_)
  · obtain ⟨a, ns, rfl, _⟩ := h
    rfl
  · obtain ⟨a, ns, rfl, hS, hn, q⟩ := h
    refine ⟨_, (pss_cons (ps_par (i := 1) (j := 2) (by rfl) sc_law.nd rfl rfl (by decide) rfl rfl (pa_cons (pe_callD D_lawsource (hr.mono (by omega)) (by rfl) (pa_cons (pv 0) pa_nil)) (pa_cons (pe_callD0 D_lawlists (hr.mono (by omega)) (by rfl)) pa_nil)) (by rfl))
 (pss_cons (ps_setLc (own := [("row", 4)]) (g := gName 4) (i := 3) rfl sc_law.nd rfl rfl (sw_true rfl rfl rfl (by decide +kernel)) (pi_list (pv 2)) (blkOk_by (own := [("row", 4)]) (N := ["script", "source", "lists", "singles", "row", "some", "k", "turn", "one", "other", "run"]) (sc := defScope s_law) (by decide +kernel)) (fun _ _ _ _ _ => (pg_name (i := 4) sc_law.nd rfl (Or.inl rfl))) (fun _ _ _ _ _ => pts_nil) (fun _ _ _ _ _ => (pe_callD D_lawsingles (hr.mono (by omega)) (by rfl) (pa_cons (pv 4) pa_nil))))
 (pss_cons (ps_if (pt_cmpR op_ne (pe_callB (id := "len") (r := rLenT _) call_lenT (by rfl) B.n_len (by decide +kernel) (pa_cons (pe_callTy (T := "set") (r := rSetT _) (call_setT rfl) (by rfl) B.n_set (by decide +kernel) (pa_cons (pe_lc (own := [("some", 5)]) (g := gName 5) rfl sc_law.nd (pi_list (pv 3)) (blkOk_by (own := [("some", 5)]) (N := ["script", "source", "lists", "singles", "row", "some", "k", "turn", "one", "other", "run"]) (sc := defScope s_law) (by decide +kernel)) (fun _ _ _ _ _ => (pg_name (i := 5) sc_law.nd rfl (Or.inl rfl))) (fun _ _ _ _ _ => pts_nil) (fun _ _ _ _ _ => (pe_callB (id := "repr") (r := rReprD K) (call_reprD rfl hr.units) (by rfl) B.n_repr (by decide +kernel) (pa_cons (pv 5) pa_nil)))) pa_nil)) pa_nil)) (pe_callB (id := "len") (r := rLenK K) call_lenK (by rfl) B.n_len (by decide +kernel) (pa_cons (pv 2) pa_nil)) (nomark _))
 (pss_one (ps_ret pe_bl))
 pss_nil)
 (pss_cons (ps_for PassesOwn.never rfl (pi_zip (by rfl) B.n_zip (pa_cons (pv 2) (pa_cons (pv 3) pa_nil))) (pg_tup rfl (pgs_cons (pg_name (i := 4) sc_law.nd rfl (Or.inl rfl)) (pgs_cons (pg_name (i := 5) sc_law.nd rfl (Or.inl rfl)) pgs_nil)))
 (pss_one (ps_if (PW.pt (pw_or (pt_cmpR (op_neD hr.units) (pe_callD D_listof (hr.mono (by omega)) (by rfl) (pa_cons (pv 5) pa_nil)) (pv 4) (nomark _)) (pw_or (pt_cmpR op_isN (pe_callD D_partingrun (hr.mono (by omega)) (by rfl) (pa_cons (pv 4) (pa_cons (pe_op op_cat (pv 4) (pe_lst (pa_cons pe_int pa_nil))) pa_nil))) pe_non (nomark _)) (pw_or1 (pt_cmpR op_isN (pe_callD D_partingrun (hr.mono (by omega)) (by rfl) (pa_cons (pe_op op_cat (pe_lst (pa_cons pe_int pa_nil)) (pv 4)) (pa_cons (pv 4) pa_nil))) pe_non (nomark _))))))
 (pss_one (ps_ret pe_bl))
 pss_nil)))
 (pss_cons (ps_for PassesOwn.never rfl (pi_range1 (by rfl) B.n_range (pa_cons (pe_op op_add pe_int (pe_callB (id := "min") (call_min2 rfl) (by rfl) B.n_min (by decide +kernel) (pa_cons pe_int (pa_cons (pe_callB (id := "len") (r := rLenK K) call_lenK (by rfl) B.n_len (by decide +kernel) (pa_cons (pv 0) pa_nil)) pa_nil)))) pa_nil)) (pg_name (i := 6) sc_law.nd rfl (Or.inl rfl))
 (pss_one (ps_for PassesOwn.never rfl (pi_range1 (by rfl) B.n_range (pa_cons pe_int pa_nil)) (pg_name (i := 7) sc_law.nd rfl (Or.inl rfl))
 (pss_cons (ps_par (i := 8) (j := 9) (by rfl) sc_law.nd rfl rfl (by decide) rfl rfl (pa_cons (pe_ix (r := rIxL K) ix_list (pv 2) (pe_callD D_lawdraw (hr.mono (by omega)) (by rfl) (pa_cons (pv 1) (pa_cons (pe_callB (id := "len") (r := rLenK K) call_lenK (by rfl) B.n_len (by decide +kernel) (pa_cons (pv 2) pa_nil)) pa_nil))) (fun _ _ => rfl)) (pa_cons (pe_ix (r := rIxL K) ix_list (pv 2) (pe_callD D_lawdraw (hr.mono (by omega)) (by rfl) (pa_cons (pv 1) (pa_cons (pe_callB (id := "len") (r := rLenK K) call_lenK (by rfl) B.n_len (by decide +kernel) (pa_cons (pv 2) pa_nil)) pa_nil))) (fun _ _ => rfl)) pa_nil)) (by rfl))
 (pss_cons (ps_set (i := 10) sc_law.nd rfl (Or.inl rfl) (pe_callD D_partingrun (hr.mono (by omega)) (by rfl) (pa_cons (pv 8) (pa_cons (pv 9) pa_nil))))
 (pss_cons (ps_if (PW.pt (pw_and (pt_cmpR (op_neD hr.units) (pv 8) (pv 9) (nomark _)) (pw_and1 (pt_cmpR op_eq (pe_callD D_lawsqueezed (hr.mono (by omega)) (by rfl) (pa_cons (pv 10) (pa_cons (pv 8) pa_nil))) (pe_callD D_lawsqueezed (hr.mono (by omega)) (by rfl) (pa_cons (pv 10) (pa_cons (pv 9) pa_nil))) (nomark _)))))
 (pss_one (ps_ret pe_bl))
 pss_nil)
 (pss_one (ps_if (PW.pt (pw_or (PW.pt (pw_and (pt_cmpR (op_eqD hr.units) (pv 8) (pv 9) (nomark _)) (pw_and1 (pt_cmpR op_notN (pv 10) pe_non (nomark _))))) (pw_or1 (pt_cmpR op_ne (pe_callD D_commute (hr.mono (by omega)) (by rfl) (pa_cons (pv 8) (pa_cons (pv 9) pa_nil))) (pe_callD D_lawalike (hr.mono (by omega)) (by rfl) (pa_cons (pv 8) (pa_cons (pv 9) pa_nil))) (nomark _)))))
 (pss_one (ps_ret pe_bl))
 pss_nil))))))))
 (pss_one (ps_ret pe_bl))))))), ?_⟩
    have lim : sizeLine = 16777216 := sizeLine_eq
    have w1 : 1 ≤ sizeLine := by omega
    refine ⟨_, rfl, a, ns, rfl, hS, hn, fun l d mix H1 hl hd s1 S1 => ⟨rfl, fun p as H2 np s2 gp rp fa => ⟨_, _, rfl, ?_⟩⟩⟩
    have la : as.length = 85 := rp.len.trans L85_len
    have rok : ∀ {r : List Int}, r ∈ L85 → Rpl r ∧ pro r ≤ 125 ∧ r.length ≤ 3 ∧ 1 ≤ pro r := fun {r} hr => by
      obtain ⟨b, l3, p3⟩ := L85_ok r hr
      have rk : Rpl r := fun k hk => by have := b k hk; omega
      exact ⟨rk, p3, l3, pro_pos (rpl_two rk)⟩
    -- singles
    refine ⟨_, rfl, p, rfl, ⟨_, SqL.of gp⟩, fun D hD => lc_list (xs := as.map V.ref) (fun i H' => Same H2 (wo H' D) ∧ ∃ bs : List Addr, H' D = some (.lst (bs.map V.ref)) ∧ bs.length = i ∧ RowsAt (wo H' D) bs ((L85.take i).map sing))
      ⟨by rw [wo_upd]; exact same_wo (Same.refl _) hD, [], upd_same, rfl, trivial⟩ (fun i H' _ hh => SqL.of (wo_same _ _ (hh.1 _ _ gp))) ?_ ?_⟩
    · rintro i z H3 hz ⟨s3, bs, g3, lb, rb⟩
      obtain ⟨b, eb, rfl⟩ := map_ref hz
      have il : i < 85 := by rw [← la]; exact (List.getElem?_eq_some_iff.mp eb).1
      obtain ⟨r, er⟩ : ∃ r, L85[i]? = some r := ⟨_, List.getElem?_eq_getElem (by rw [L85_len]; exact il)⟩
      obtain ⟨b', eb', gb⟩ := rp.get er
      obtain rfl : b' = b := Option.some.inj (eb'.symm.trans eb)
      obtain ⟨rk, p3, l3, p1⟩ := rok (List.mem_of_getElem? er)
      refine ⟨rfl, _, rfl, b', r, rfl, SqL.of (wo_same _ _ (s3 _ _ gb)), rk, by omega, fun q1 H4 n1 s4 g4 => ⟨_, s4 _ _ g3, by rw [List.length_map]; omega, ?_, bs ++ [q1], ?_, by rw [List.length_append, lb]; rfl, ?_⟩⟩
      · rw [wo_upd]
        exact s3.trans (wo_mon s4)
      · rw [upd_same, List.map_append]
        rfl
      · rw [wo_upd, List.take_add_one, er, List.map_append]
        exact (rb.same (wo_mon s4)).app ⟨by rw [wo_ne ((ne_of_none g3 n1).symm)]; exact g4, trivial⟩
    rintro H3 ⟨s3, bs, g3, lb, rb⟩
    rw [List.length_map, la] at rb lb
    rw [show L85.take 85 = L85 from List.take_of_length_le (by rw [L85_len]; exact Nat.le_refl _)] at rb
    have s23 := s3.trans (wo_same (H := H3) (D := D))
    have gp3 := s23 _ _ gp
    have rp3 := rp.same s23
    have rb3 := rb.same (wo_same (H := H3) (D := D))
    have s13 := s2.trans s23
    have S3 := S1.same s13
    -- their texts
    refine ⟨_, rfl, D, rfl, ⟨_, SqL.of g3⟩, fun E1 hE1 => lc_list (xs := bs.map V.ref) (fun i H' => Same H3 (wo H' E1) ∧ H' E1 = some (.lst ((((L85.take i).map sing).map shw).map V.str)))
      ⟨by rw [wo_upd]; exact same_wo (Same.refl _) hE1, upd_same⟩ (fun i H' _ hh => SqL.of (wo_same _ _ (hh.1 _ _ g3))) ?_ ?_⟩
    · rintro i z H4 hz ⟨s4, g4⟩
      obtain ⟨b, eb, rfl⟩ := map_ref hz
      have il : i < 85 := by rw [← lb]; exact (List.getElem?_eq_some_iff.mp eb).1
      obtain ⟨r, er⟩ : ∃ r, L85[i]? = some r := ⟨_, List.getElem?_eq_getElem (by rw [L85_len]; exact il)⟩
      obtain ⟨b', eb', gb⟩ := rb3.get (i := i) (c := sing r) (by rw [List.getElem?_map, er]; rfl)
      obtain rfl : b' = b := Option.some.inj (eb'.symm.trans eb)
      obtain ⟨rk, p3, l3, p1⟩ := rok (List.mem_of_getElem? er)
      have sm : ∀ k ∈ sing r, k.natAbs < 10 ^ 12 := fun k hk => by
        have := sing_mem hk
        have e : (10 : Nat) ^ 12 = 1000000000000 := by decide
        omega
      have ls := sing_len p3 p1
      refine ⟨rfl, _, rfl, b', .list ((sing r).map PyData.int), rfl, .lst (SqL.of (wo_same _ _ (s4 _ _ gb))) (dp_ints _), ?_, ?_, dep40 _, short_ints sm (by omega), _, g4, by rw [List.length_map, List.length_map, List.length_map, List.length_take]; omega, ?_, ?_⟩
      · show (PyData.showableAll ((sing r).map PyData.int)) = true
        exact shows_ints _ sm
      · exact nodict_ints _
      · rw [wo_upd]
        exact s4
      · rw [upd_same, List.take_add_one, er, List.map_append, List.map_append, List.map_append]
        rfl
    rintro H4 ⟨s4, g4⟩
    rw [List.length_map, lb, show L85.take 85 = L85 from List.take_of_length_le (by rw [L85_len]; exact Nat.le_refl _)] at g4
    have s34 := s4.trans (wo_same (H := H4) (D := E1))
    have l85 : ((L85.map sing).map shw).length = 85 := by rw [List.length_map, List.length_map]; exact L85_len
    refine ⟨E1, _, rfl, SqL.of g4, texts_nd, by rw [l85]; decide, fun S0 hS0 => ?_⟩
    generalize eH5 : upd H4 S0 (SetT _ _ S0 _) = H5
    have s45 : Same H3 H5 := eH5 ▸ s34.trans (same_new hS0)
    refine ⟨S0, _, rfl, by rw [← eH5]; exact upd_same, by rw [l85]; decide, ?_⟩
    clear eH5
    refine ⟨_, rfl, p, _, rfl, .inl (SqL.of (s45 _ _ gp3)), rfl, _, rfl, ?_⟩
    rw [l85, List.length_map, la, decide_eq_true rfl]
    refine iteF ?_
    have gp5 := s45 _ _ gp3
    have g5 := s45 _ _ g3
    have rp5 := rp3.same s45
    have rb5 := rb3.same s45
    have s15 := s13.trans s45
    have S5 := S3.same s45
    have nox : ∀ {xs : List Int} {j : Nat}, Rpl xs → lowAt xs = some j → False := fun r e => by
      rw [r.low] at e
      cases e
    have smk : ∀ {xs : List Int}, Rpl xs → SmallK xs := fun r k hk => (r k hk).2
    have parts : ∀ {xs ys : List Int}, Rpl xs → Rpl ys → xs ≠ ys → ∃ r, prun xs ys = .int r ∧ sq r xs ≠ sq r ys := fun {xs ys} h1 h2 ne => by
      rcases prun_ok (rpl_two h1) (rpl_two h2) with ⟨_, e⟩ | ⟨r, e1, _, _, e4⟩
      · exact absurd e ne
      · exact ⟨r, e1, e4⟩
    clear s45 s34 g4 s4 hS0 hE1 gp3 rp3 rb3 s13 S3 s23 rb s3 hD
    -- read back, and parted
    refine ⟨_, rfl, _, rfl, p, D, _, _, rfl, SqL.of gp5, SqL.of g5, for_it (walk_zip (n := 85) (by rw [List.length_map, List.length_map, la, lb]; rfl)) (fun i σ H' => Same H5 H' ∧ ∃ y4 y5, σ = [some (.ref a), some (.ref l), some (.ref p), some (.ref D), y4, y5, none, none, none, none, none])
      ⟨Same.refl _, none, none, rfl⟩ (fun i σ H' _ h => ⟨h.1.seq (SqL.of gp5), h.1.seq (SqL.of g5)⟩) ?_ ?_⟩
    · rintro i x σ H' H6 hi ⟨sm, y4, y5, rfl⟩ ⟨T, u, v, rfl, hT2, rfl, ex, ey⟩
      obtain ⟨b, eb, rfl⟩ := map_ref ex
      obtain ⟨bb, ebb, rfl⟩ := map_ref ey
      obtain ⟨r, er⟩ : ∃ r, L85[i]? = some r := ⟨_, List.getElem?_eq_getElem (by rw [L85_len]; exact hi)⟩
      obtain ⟨b', eb', gb⟩ := rp5.get er
      obtain rfl : b' = b := Option.some.inj (eb'.symm.trans eb)
      obtain ⟨b2, eb2, gbb⟩ := rb5.get (i := i) (c := sing r) (by rw [List.getElem?_map, er]; rfl)
      obtain rfl : b2 = bb := Option.some.inj (eb2.symm.trans ebb)
      obtain ⟨rk, p3, l3, p1⟩ := rok (List.mem_of_getElem? er)
      have two := rpl_two rk
      have sm2 : Same H5 (upd H' T (.tup [.ref b', .ref b2])) := sm.trans (same_new hT2)
      refine ⟨T, _, rfl, .inl (.inl upd_same), rfl, _, _, rfl, _, _, rfl, rfl, ?_⟩
      generalize upd H' T (.tup [V.ref b', .ref b2]) = H6 at sm2 ⊢
      have lsg := sing_len p3 p1
      refine ⟨_, rfl, b2, sing r, rfl, SqL.of (sm2 _ _ gbb), sinL_nodup _ _, by omega, (fun n hn => by have := sing_mem hn; omega), fun no => (no r (sing_right two)).elim, fun row R q1 H7 n1 s7 g7 => ?_⟩
      obtain rfl : row = r := right_uniq R (sing_right two)
      have sm7 := sm2.trans s7
      have gb7 := sm7 _ _ gb
      refine ⟨_, rfl, .list (row.map PyData.int), .list (row.map PyData.int), .lst (SqL.of g7) (dp_ints _), .lst (SqL.of gb7) (dp_ints _), shaped_ints _, shaped_ints _, _, rfl, ?_⟩
      rw [eqv_ints, decide_eq_true rfl]
      refine iteF ?_
      have rk2 : Rpl (row ++ [2]) := fun k hk => (List.mem_append.mp hk).elim (rk k) fun z => by rw [List.mem_singleton.mp z]; decide
      have rk3 : Rpl ([3] ++ row) := fun k hk => (List.mem_append.mp hk).elim (fun z => by rw [List.mem_singleton.mp z]; decide) (rk k)
      obtain ⟨x1, ex1, _⟩ := parts rk rk2 fun z => by have := congrArg List.length z; rw [List.length_append] at this; simp at this
      obtain ⟨x2, ex2, _⟩ := parts rk3 rk fun z => by have := congrArg List.length z; rw [List.length_append] at this; simp at this
      refine ⟨_, rfl, _, rfl, w1, fun o ho => ⟨b', o, _, _, rfl, rfl, same_new ho _ _ gb7, upd_same, by rw [List.length_map]; show row.length + 1 ≤ _; omega, fun q2 hq2 => ?_⟩⟩
      have sq2 := (same_new (o := .lst [V.int 2]) ho).trans (same_new (o := .lst (row.map V.int ++ [V.int 2])) hq2)
      refine ⟨b', q2, row, row ++ [2], rfl, SqL.of (sq2 _ _ gb7), SqL.of (by rw [upd_same, List.map_append]; rfl), smk rk, smk rk2, fun _ _ H8 s8 => ?_, fun j e => (nox rk e).elim, fun _ j e => (nox rk2 e).elim⟩
      rw [ex1]
      refine ⟨rfl, _, rfl, ?_⟩
      rw [decide_eq_false (fun z => by cases z)]
      refine iteF ?_
      have gb8 := s8 _ _ (sq2 _ _ gb7)
      refine ⟨w1, fun o2 ho2 => ⟨_, rfl, o2, b', _, _, rfl, rfl, upd_same, same_new ho2 _ _ gb8, by rw [List.length_map]; show 1 + row.length ≤ _; omega, fun q3 hq3 => ?_⟩⟩
      have sq3 := (same_new (o := .lst [V.int 3]) ho2).trans (same_new (o := .lst ([V.int 3] ++ row.map V.int)) hq3)
      refine ⟨_, rfl, q3, b', [3] ++ row, row, rfl, SqL.of (by rw [upd_same, List.map_append]; rfl), SqL.of (sq3 _ _ gb8), smk rk3, smk rk, fun _ _ H9 s9 => ?_, fun j e => (nox rk3 e).elim, fun _ j e => (nox rk e).elim⟩
      rw [ex2]
      refine ⟨rfl, _, rfl, ?_⟩
      rw [decide_eq_false (fun z => by cases z)]
      exact iteF ⟨((sm7.trans (sq2.trans s8)).trans sq3).trans s9, _, _, rfl⟩
    rintro σ H6 ⟨s6, y4, y5, rfl⟩
    have S6 := S5.same s6
    have s16 := s15.trans s6
    have gp6 := s6 _ _ gp5
    have rp6 := rp5.same s6
    have npl := S1.nel np
    have npd := S1.ned np
    have nal : l ∉ as := fun h => S1.nel (fa l h) rfl
    have nad : d ∉ as := fun h => S1.ned (fa d h) rfl
    refine ⟨_, rfl, a, _, rfl, .inl ((s1.trans s16).seq hS), 4, _, rfl, 1, _, rfl, rfl, ?_⟩
    rw [List.length_map]
    obtain ⟨N, eN⟩ : ∃ N, N = 1 + (if (ns.length : Int) < 4 then (ns.length : Int) else 4) := ⟨_, rfl⟩
    have hN : 1 ≤ N ∧ N ≤ 5 := by
      rw [eN]
      split <;> omega
    refine ⟨N, by subst eN; rfl, by omega, by omega, for_range (lo := 0) (n := N.toNat) (fun i σ H' => ∃ cnt y6 y7 y8 y9 y10, σ = [some (.ref a), some (.ref l), some (.ref p), some (.ref D), y4, y5, y6, y7, y8, y9, y10] ∧ Src H' l d mix cnt ∧ cnt ≤ 16 * i ∧ Keep H6 H' l d)
      ⟨0, none, none, none, none, none, rfl, S6, by omega, Keep.refl _ _ _⟩ ?_ ?_⟩
    · rintro i σ H7 hi ⟨cnt, y6, y7, y8, y9, y10, rfl, S7, hc7, k7⟩
      refine ⟨8, rfl, by decide, by decide, for_range (lo := 0) (n := 8) (fun j σ H' => ∃ cnt y7 y8 y9 y10, σ = [some (.ref a), some (.ref l), some (.ref p), some (.ref D), y4, y5, some (.int (0 + (i : Int))), y7, y8, y9, y10] ∧ Src H' l d mix cnt ∧ cnt ≤ 16 * i + 2 * j ∧ Keep H6 H' l d)
        ⟨cnt, y7, y8, y9, y10, rfl, S7, by omega, k7⟩ ?_ ?_⟩
      · rintro j σ H8 hj ⟨c8, y7, y8, y9, y10, rfl, S8, hc8, k8⟩
        have gp8 := k8 _ _ gp6 npl npd
        refine ⟨_, rfl, _, rfl, _, rfl, p, _, rfl, .inl (SqL.of gp8), l, d, mix, c8, _, rfl, S8, by omega, by rw [List.length_map, la]; decide, by rw [List.length_map, la]; decide, fun z1 c1 Ha z10 z11 Sa hca ka => ?_⟩
        rw [List.length_map, la] at z11
        obtain ⟨m1, rfl⟩ : ∃ m : Nat, z1 = m := ⟨z1.toNat, by omega⟩
        obtain ⟨r1, er1⟩ : ∃ r, L85[m1]? = some r := ⟨_, List.getElem?_eq_getElem (by rw [L85_len]; omega)⟩
        obtain ⟨b1, eb1, gb1⟩ := rp6.get er1
        have gpa := ka _ _ gp8 npl npd
        refine ⟨p, _, m1, .ref b1, rfl, rfl, SqL.of gpa, at_of (j := m1) rfl (by rw [List.getElem?_map, eb1]; rfl), ?_⟩
        refine ⟨_, rfl, _, rfl, _, rfl, p, _, rfl, .inl (SqL.of gpa), l, d, mix, c1, _, rfl, Sa, by omega, by rw [List.length_map, la]; decide, by rw [List.length_map, la]; decide, fun z2 c2 Hb z20 z21 Sb hcb kb => ?_⟩
        rw [List.length_map, la] at z21
        obtain ⟨m2, rfl⟩ : ∃ m : Nat, z2 = m := ⟨z2.toNat, by omega⟩
        obtain ⟨r2, er2⟩ : ∃ r, L85[m2]? = some r := ⟨_, List.getElem?_eq_getElem (by rw [L85_len]; omega)⟩
        obtain ⟨b2, eb2, gb2⟩ := rp6.get er2
        refine ⟨p, _, m2, .ref b2, rfl, rfl, SqL.of (kb _ _ gpa npl npd), at_of (j := m2) rfl (by rw [List.getElem?_map, eb2]; rfl), _, _, rfl, ?_⟩
        have kk := (k8.trans ka).trans kb
        have mem1 := List.mem_of_getElem? eb1
        have mem2 := List.mem_of_getElem? eb2
        have h1 := kk _ _ gb1 (fun z => nal (z ▸ mem1)) (fun z => nad (z ▸ mem1))
        have h2 := kk _ _ gb2 (fun z => nal (z ▸ mem2)) (fun z => nad (z ▸ mem2))
        obtain ⟨rk1, p31, l31, p11⟩ := rok (List.mem_of_getElem? er1)
        obtain ⟨rk2, p32, l32, p12⟩ := rok (List.mem_of_getElem? er2)
        have pp : pro r1 * pro r2 ≤ 20000 := Int.le_trans (Int.mul_le_mul p31 p32 (by omega) (by decide)) (by decide)
        -- run
        refine ⟨_, rfl, _, rfl, b1, b2, r1, r2, rfl, SqL.of h1, SqL.of h2, smk rk1, smk rk2, fun _ _ H9 s9 => ?_, fun j e => (nox rk1 e).elim, fun _ j e => (nox rk2 e).elim⟩
        have fin : ∀ (Hx : Hp) (x : V), Same Hb Hx → ∃ cnt y7 y8 y9 y10, [some (.ref a), some (.ref l), some (.ref p), some (.ref D), y4, y5, some (V.int (0 + (i : Int))), some (V.int (0 + (j : Int))), some (.ref b1), some (.ref b2), some x] = [some (.ref a), some (.ref l), some (.ref p), some (.ref D), y4, y5, some (.int (0 + (i : Int))), y7, y8, y9, y10] ∧ Src Hx l d mix cnt ∧ cnt ≤ 16 * i + 2 * ((j + 1 : Nat) : Int) ∧ Keep H6 Hx l d := fun Hx x sx =>
          ⟨c2, _, _, _, _, rfl, Sb.same sx, by omega, kk.trans (Keep.of sx)⟩
        have D1 : Dp K H9 (.ref b1) (.list (r1.map PyData.int)) := .lst (SqL.of (s9 _ _ h1)) (dp_ints _)
        have D2 : Dp K H9 (.ref b2) (.list (r2.map PyData.int)) := .lst (SqL.of (s9 _ _ h2)) (dp_ints _)
        by_cases ce : r1 = r2
        · have en : prun r1 r2 = .non := by
            rcases prun_ok (rpl_two rk1) (rpl_two rk2) with ⟨e, _⟩ | ⟨_, _, ne, _⟩
            · exact e
            · exact absurd ce ne
          rw [en]
          refine ⟨_, rfl, _, rfl, _, _, D1, D2, shaped_ints _, shaped_ints _, _, rfl, ?_⟩
          rw [eqv_ints, decide_eq_true ce]
          refine iteF (iteF ?_)
          refine ⟨_, rfl, _, rfl, _, _, D1, D2, shaped_ints _, shaped_ints _, _, rfl, ?_⟩
          rw [eqv_ints, decide_eq_true ce]
          refine iteT ⟨_, rfl, rfl, _, rfl, ?_⟩
          rw [decide_eq_true rfl]
          refine iteF ?_
          refine ⟨_, rfl, _, rfl, b1, b2, r1, r2, rfl, (s9 _ _ h1), (s9 _ _ h2), by omega, by omega, fun _ _ H10 s10 => ?_, fun j e => (nox rk1 e).elim, fun _ j e => (nox rk2 e).elim⟩
          refine ⟨_, rfl, _, rfl, b1, b2, r1, r2, rfl, s10 _ _ (s9 _ _ h1), s10 _ _ (s9 _ _ h2), rk1, rk2, by omega, by omega, pp, fun H11 s11 => ?_⟩
          refine ⟨rfl, _, rfl, ?_⟩
          rw [decide_eq_true rfl]
          exact iteF (fin H11 _ (s9.trans (s10.trans s11)))
        · obtain ⟨x, ex, nx⟩ := parts rk1 rk2 ce
          rw [ex]
          refine ⟨_, rfl, _, rfl, _, _, D1, D2, shaped_ints _, shaped_ints _, _, rfl, ?_⟩
          rw [eqv_ints, decide_eq_false ce]
          refine iteT ?_
          refine ⟨_, rfl, _, rfl, x, b1, r1, rfl, SqL.of (s9 _ _ h1), rk1, _, rfl, _, rfl, x, b2, r2, rfl, SqL.of (s9 _ _ h2), rk2, ?_⟩
          refine ⟨rfl, _, rfl, ?_⟩
          rw [decide_eq_false (fun z => nx (by injection z))]
          refine iteF ?_
          refine ⟨_, rfl, _, rfl, _, _, D1, D2, shaped_ints _, shaped_ints _, _, rfl, ?_⟩
          rw [eqv_ints, decide_eq_false ce]
          refine iteF (iteF ?_)
          refine ⟨_, rfl, _, rfl, b1, b2, r1, r2, rfl, (s9 _ _ h1), (s9 _ _ h2), by omega, by omega, fun _ _ H10 s10 => ?_, fun j e => (nox rk1 e).elim, fun _ j e => (nox rk2 e).elim⟩
          refine ⟨_, rfl, _, rfl, b1, b2, r1, r2, rfl, s10 _ _ (s9 _ _ h1), s10 _ _ (s9 _ _ h2), rk1, rk2, by omega, by omega, pp, fun H11 s11 => ?_⟩
          refine ⟨rfl, _, rfl, ?_⟩
          rw [decide_eq_true rfl]
          exact iteF (fin H11 _ (s9.trans (s10.trans s11)))
      · rintro σ H8 ⟨c8, y7, y8, y9, y10, rfl, S8, hc8, k8⟩
        exact ⟨c8, _, _, _, _, _, rfl, S8, by omega, k8⟩
    · rintro σ H7 ⟨cnt, y6, y7, y8, y9, y10, rfl, S7, hc7, k7⟩
      exact q _
end
end Sq
set_option Elab.async false
set_option linter.all false
set_option maxRecDepth 100000
set_option maxHeartbeats 4000000
namespace Sq
open PySem PySem.Spec PyProof.Rows L2
theorem all_mk {l : PySem.W.OpenLaw} {w : World} {K : PySem.W.Frag} {h : Heap} {mg : Str → Option Value} {fa : Addr} (X : K.In h) (G : h.Ns mainGlobals mg) (hfa : mg "law" = some (.ref fa))
    {f_checklist : Addr} {od_checklist an_checklist : Option Addr} {sl_checklist : Array (Option Value)} {oc_checklist kV_checklist dc_checklist pm_checklist cd_checklist ct_checklist : Value}
    (a_checklist : PySem.W.nsIn K mainGlobals "check_list" = some (some (.ref f_checklist)))
    (l_checklist : K.lookup f_checklist = some ⟨oc_checklist, od_checklist, .func (PySem.W.fnOf "check_list" "check_list" (defArgs s_checklist) (defBody s_checklist) (defScope s_checklist) .none kV_checklist dc_checklist pm_checklist an_checklist cd_checklist ct_checklist), sl_checklist⟩)
    (c_checklist : PySem.W.codeIn K cd_checklist "check_list" = true) (k_checklist : PySem.W.keepIn K (.ref f_checklist) = true)
    {f_checknumber : Addr} {od_checknumber an_checknumber : Option Addr} {sl_checknumber : Array (Option Value)} {oc_checknumber kV_checknumber dc_checknumber pm_checknumber cd_checknumber ct_checknumber : Value}
    (a_checknumber : PySem.W.nsIn K mainGlobals "check_number" = some (some (.ref f_checknumber)))
    (l_checknumber : K.lookup f_checknumber = some ⟨oc_checknumber, od_checknumber, .func (PySem.W.fnOf "check_number" "check_number" (defArgs s_checknumber) (defBody s_checknumber) (defScope s_checknumber) .none kV_checknumber dc_checknumber pm_checknumber an_checknumber cd_checknumber ct_checknumber), sl_checknumber⟩)
    (c_checknumber : PySem.W.codeIn K cd_checknumber "check_number" = true) (k_checknumber : PySem.W.keepIn K (.ref f_checknumber) = true)
    {f_greatestorigin : Addr} {od_greatestorigin an_greatestorigin : Option Addr} {sl_greatestorigin : Array (Option Value)} {oc_greatestorigin kV_greatestorigin dc_greatestorigin pm_greatestorigin cd_greatestorigin ct_greatestorigin : Value}
    (a_greatestorigin : PySem.W.nsIn K mainGlobals "greatest_origin" = some (some (.ref f_greatestorigin)))
    (l_greatestorigin : K.lookup f_greatestorigin = some ⟨oc_greatestorigin, od_greatestorigin, .func (PySem.W.fnOf "greatest_origin" "greatest_origin" (defArgs s_greatestorigin) (defBody s_greatestorigin) (defScope s_greatestorigin) .none kV_greatestorigin dc_greatestorigin pm_greatestorigin an_greatestorigin cd_greatestorigin ct_greatestorigin), sl_greatestorigin⟩)
    (c_greatestorigin : PySem.W.codeIn K cd_greatestorigin "greatest_origin" = true) (k_greatestorigin : PySem.W.keepIn K (.ref f_greatestorigin) = true)
    {f_manyforone : Addr} {od_manyforone an_manyforone : Option Addr} {sl_manyforone : Array (Option Value)} {oc_manyforone kV_manyforone dc_manyforone pm_manyforone cd_manyforone ct_manyforone : Value}
    (a_manyforone : PySem.W.nsIn K mainGlobals "many_for_one" = some (some (.ref f_manyforone)))
    (l_manyforone : K.lookup f_manyforone = some ⟨oc_manyforone, od_manyforone, .func (PySem.W.fnOf "many_for_one" "many_for_one" (defArgs s_manyforone) (defBody s_manyforone) (defScope s_manyforone) .none kV_manyforone dc_manyforone pm_manyforone an_manyforone cd_manyforone ct_manyforone), sl_manyforone⟩)
    (c_manyforone : PySem.W.codeIn K cd_manyforone "many_for_one" = true) (k_manyforone : PySem.W.keepIn K (.ref f_manyforone) = true)
    {f_lengthafterone : Addr} {od_lengthafterone an_lengthafterone : Option Addr} {sl_lengthafterone : Array (Option Value)} {oc_lengthafterone kV_lengthafterone dc_lengthafterone pm_lengthafterone cd_lengthafterone ct_lengthafterone : Value}
    (a_lengthafterone : PySem.W.nsIn K mainGlobals "length_after_one" = some (some (.ref f_lengthafterone)))
    (l_lengthafterone : K.lookup f_lengthafterone = some ⟨oc_lengthafterone, od_lengthafterone, .func (PySem.W.fnOf "length_after_one" "length_after_one" (defArgs s_lengthafterone) (defBody s_lengthafterone) (defScope s_lengthafterone) .none kV_lengthafterone dc_lengthafterone pm_lengthafterone an_lengthafterone cd_lengthafterone ct_lengthafterone), sl_lengthafterone⟩)
    (c_lengthafterone : PySem.W.codeIn K cd_lengthafterone "length_after_one" = true) (k_lengthafterone : PySem.W.keepIn K (.ref f_lengthafterone) = true)
    {f_partingrun : Addr} {od_partingrun an_partingrun : Option Addr} {sl_partingrun : Array (Option Value)} {oc_partingrun kV_partingrun dc_partingrun pm_partingrun cd_partingrun ct_partingrun : Value}
    (a_partingrun : PySem.W.nsIn K mainGlobals "parting_run" = some (some (.ref f_partingrun)))
    (l_partingrun : K.lookup f_partingrun = some ⟨oc_partingrun, od_partingrun, .func (PySem.W.fnOf "parting_run" "parting_run" (defArgs s_partingrun) (defBody s_partingrun) (defScope s_partingrun) .none kV_partingrun dc_partingrun pm_partingrun an_partingrun cd_partingrun ct_partingrun), sl_partingrun⟩)
    (c_partingrun : PySem.W.codeIn K cd_partingrun "parting_run" = true) (k_partingrun : PySem.W.keepIn K (.ref f_partingrun) = true)
    {f_commute : Addr} {od_commute an_commute : Option Addr} {sl_commute : Array (Option Value)} {oc_commute kV_commute dc_commute pm_commute cd_commute ct_commute : Value}
    (a_commute : PySem.W.nsIn K mainGlobals "commute" = some (some (.ref f_commute)))
    (l_commute : K.lookup f_commute = some ⟨oc_commute, od_commute, .func (PySem.W.fnOf "commute" "commute" (defArgs s_commute) (defBody s_commute) (defScope s_commute) .none kV_commute dc_commute pm_commute an_commute cd_commute ct_commute), sl_commute⟩)
    (c_commute : PySem.W.codeIn K cd_commute "commute" = true) (k_commute : PySem.W.keepIn K (.ref f_commute) = true)
    {f_listof : Addr} {od_listof an_listof : Option Addr} {sl_listof : Array (Option Value)} {oc_listof kV_listof dc_listof pm_listof cd_listof ct_listof : Value}
    (a_listof : PySem.W.nsIn K mainGlobals "list_of" = some (some (.ref f_listof)))
    (l_listof : K.lookup f_listof = some ⟨oc_listof, od_listof, .func (PySem.W.fnOf "list_of" "list_of" (defArgs s_listof) (defBody s_listof) (defScope s_listof) .none kV_listof dc_listof pm_listof an_listof cd_listof ct_listof), sl_listof⟩)
    (c_listof : PySem.W.codeIn K cd_listof "list_of" = true) (k_listof : PySem.W.keepIn K (.ref f_listof) = true)
    {f_lawsource : Addr} {od_lawsource an_lawsource : Option Addr} {sl_lawsource : Array (Option Value)} {oc_lawsource kV_lawsource dc_lawsource pm_lawsource cd_lawsource ct_lawsource : Value}
    (a_lawsource : PySem.W.nsIn K mainGlobals "_law_source" = some (some (.ref f_lawsource)))
    (l_lawsource : K.lookup f_lawsource = some ⟨oc_lawsource, od_lawsource, .func (PySem.W.fnOf "_law_source" "_law_source" (defArgs s_lawsource) (defBody s_lawsource) (defScope s_lawsource) .none kV_lawsource dc_lawsource pm_lawsource an_lawsource cd_lawsource ct_lawsource), sl_lawsource⟩)
    (c_lawsource : PySem.W.codeIn K cd_lawsource "_law_source" = true) (k_lawsource : PySem.W.keepIn K (.ref f_lawsource) = true)
    {f_lawdraw : Addr} {od_lawdraw an_lawdraw : Option Addr} {sl_lawdraw : Array (Option Value)} {oc_lawdraw kV_lawdraw dc_lawdraw pm_lawdraw cd_lawdraw ct_lawdraw : Value}
    (a_lawdraw : PySem.W.nsIn K mainGlobals "_law_draw" = some (some (.ref f_lawdraw)))
    (l_lawdraw : K.lookup f_lawdraw = some ⟨oc_lawdraw, od_lawdraw, .func (PySem.W.fnOf "_law_draw" "_law_draw" (defArgs s_lawdraw) (defBody s_lawdraw) (defScope s_lawdraw) .none kV_lawdraw dc_lawdraw pm_lawdraw an_lawdraw cd_lawdraw ct_lawdraw), sl_lawdraw⟩)
    (c_lawdraw : PySem.W.codeIn K cd_lawdraw "_law_draw" = true) (k_lawdraw : PySem.W.keepIn K (.ref f_lawdraw) = true)
    {f_lawonce : Addr} {od_lawonce an_lawonce : Option Addr} {sl_lawonce : Array (Option Value)} {oc_lawonce kV_lawonce dc_lawonce pm_lawonce cd_lawonce ct_lawonce : Value}
    (a_lawonce : PySem.W.nsIn K mainGlobals "_law_once" = some (some (.ref f_lawonce)))
    (l_lawonce : K.lookup f_lawonce = some ⟨oc_lawonce, od_lawonce, .func (PySem.W.fnOf "_law_once" "_law_once" (defArgs s_lawonce) (defBody s_lawonce) (defScope s_lawonce) .none kV_lawonce dc_lawonce pm_lawonce an_lawonce cd_lawonce ct_lawonce), sl_lawonce⟩)
    (c_lawonce : PySem.W.codeIn K cd_lawonce "_law_once" = true) (k_lawonce : PySem.W.keepIn K (.ref f_lawonce) = true)
    {f_lawsqueezed : Addr} {od_lawsqueezed an_lawsqueezed : Option Addr} {sl_lawsqueezed : Array (Option Value)} {oc_lawsqueezed kV_lawsqueezed dc_lawsqueezed pm_lawsqueezed cd_lawsqueezed ct_lawsqueezed : Value}
    (a_lawsqueezed : PySem.W.nsIn K mainGlobals "_law_squeezed" = some (some (.ref f_lawsqueezed)))
    (l_lawsqueezed : K.lookup f_lawsqueezed = some ⟨oc_lawsqueezed, od_lawsqueezed, .func (PySem.W.fnOf "_law_squeezed" "_law_squeezed" (defArgs s_lawsqueezed) (defBody s_lawsqueezed) (defScope s_lawsqueezed) .none kV_lawsqueezed dc_lawsqueezed pm_lawsqueezed an_lawsqueezed cd_lawsqueezed ct_lawsqueezed), sl_lawsqueezed⟩)
    (c_lawsqueezed : PySem.W.codeIn K cd_lawsqueezed "_law_squeezed" = true) (k_lawsqueezed : PySem.W.keepIn K (.ref f_lawsqueezed) = true)
    {f_lawlists : Addr} {od_lawlists an_lawlists : Option Addr} {sl_lawlists : Array (Option Value)} {oc_lawlists kV_lawlists dc_lawlists pm_lawlists cd_lawlists ct_lawlists : Value}
    (a_lawlists : PySem.W.nsIn K mainGlobals "_law_lists" = some (some (.ref f_lawlists)))
    (l_lawlists : K.lookup f_lawlists = some ⟨oc_lawlists, od_lawlists, .func (PySem.W.fnOf "_law_lists" "_law_lists" (defArgs s_lawlists) (defBody s_lawlists) (defScope s_lawlists) .none kV_lawlists dc_lawlists pm_lawlists an_lawlists cd_lawlists ct_lawlists), sl_lawlists⟩)
    (c_lawlists : PySem.W.codeIn K cd_lawlists "_law_lists" = true) (k_lawlists : PySem.W.keepIn K (.ref f_lawlists) = true)
    {f_lawsingles : Addr} {od_lawsingles an_lawsingles : Option Addr} {sl_lawsingles : Array (Option Value)} {oc_lawsingles kV_lawsingles dc_lawsingles pm_lawsingles cd_lawsingles ct_lawsingles : Value}
    (a_lawsingles : PySem.W.nsIn K mainGlobals "_law_singles" = some (some (.ref f_lawsingles)))
    (l_lawsingles : K.lookup f_lawsingles = some ⟨oc_lawsingles, od_lawsingles, .func (PySem.W.fnOf "_law_singles" "_law_singles" (defArgs s_lawsingles) (defBody s_lawsingles) (defScope s_lawsingles) .none kV_lawsingles dc_lawsingles pm_lawsingles an_lawsingles cd_lawsingles ct_lawsingles), sl_lawsingles⟩)
    (c_lawsingles : PySem.W.codeIn K cd_lawsingles "_law_singles" = true) (k_lawsingles : PySem.W.keepIn K (.ref f_lawsingles) = true)
    {f_lawalike : Addr} {od_lawalike an_lawalike : Option Addr} {sl_lawalike : Array (Option Value)} {oc_lawalike kV_lawalike dc_lawalike pm_lawalike cd_lawalike ct_lawalike : Value}
    (a_lawalike : PySem.W.nsIn K mainGlobals "_law_alike" = some (some (.ref f_lawalike)))
    (l_lawalike : K.lookup f_lawalike = some ⟨oc_lawalike, od_lawalike, .func (PySem.W.fnOf "_law_alike" "_law_alike" (defArgs s_lawalike) (defBody s_lawalike) (defScope s_lawalike) .none kV_lawalike dc_lawalike pm_lawalike an_lawalike cd_lawalike ct_lawalike), sl_lawalike⟩)
    (c_lawalike : PySem.W.codeIn K cd_lawalike "_law_alike" = true) (k_lawalike : PySem.W.keepIn K (.ref f_lawalike) = true)
    {f_law : Addr} {od_law an_law : Option Addr} {sl_law : Array (Option Value)} {oc_law kV_law dc_law pm_law cd_law ct_law : Value}
    (a_law : PySem.W.nsIn K mainGlobals "law" = some (some (.ref f_law)))
    (l_law : K.lookup f_law = some ⟨oc_law, od_law, .func (PySem.W.fnOf "law" "law" (defArgs s_law) (defBody s_law) (defScope s_law) .none kV_law dc_law pm_law an_law cd_law ct_law), sl_law⟩)
    (c_law : PySem.W.codeIn K cd_law "law" = true) (k_law : PySem.W.keepIn K (.ref f_law) = true)
    (z_len : PySem.W.nsIn K mainGlobals "len" = some none)
    (z_min : PySem.W.nsIn K mainGlobals "min" = some none)
    (z_max : PySem.W.nsIn K mainGlobals "max" = some none)
    (z_abs : PySem.W.nsIn K mainGlobals "abs" = some none)
    (z_range : PySem.W.nsIn K mainGlobals "range" = some none)
    (z_isinstance : PySem.W.nsIn K mainGlobals "isinstance" = some none)
    (z_repr : PySem.W.nsIn K mainGlobals "repr" = some none)
    (z_enumerate : PySem.W.nsIn K mainGlobals "enumerate" = some none)
    (z_reversed : PySem.W.nsIn K mainGlobals "reversed" = some none)
    (z_sorted : PySem.W.nsIn K mainGlobals "sorted" = some none)
    (z_bool : PySem.W.nsIn K mainGlobals "bool" = some none)
    (z_int : PySem.W.nsIn K mainGlobals "int" = some none)
    (z_str : PySem.W.nsIn K mainGlobals "str" = some none)
    (z_list : PySem.W.nsIn K mainGlobals "list" = some none)
    (z_tuple : PySem.W.nsIn K mainGlobals "tuple" = some none)
    (z_set : PySem.W.nsIn K mainGlobals "set" = some none)
    (z_sum : PySem.W.nsIn K mainGlobals "sum" = some none)
    (z_zip : PySem.W.nsIn K mainGlobals "zip" = some none)
    (z_all : PySem.W.nsIn K mainGlobals "all" = some none)
    (z_any : PySem.W.nsIn K mainGlobals "any" = some none)
    (z_ValueError : PySem.W.nsIn K mainGlobals "ValueError" = some none)
    (z_divmod : PySem.W.nsIn K mainGlobals "divmod" = some none)
    {CB : Addr} (aCB : PySem.W.nsIn K mainGlobals "SqueezeError" = some (some (.ref CB))) (iCB : PySem.W.isClsIn K CB = true) (tCB : PySem.W.typeIn K (.ref CB) = some (.type "type"))
    (third : PySem.W.nsIn K cStatics "thirdparty.any" = some none) (zSup : PySem.W.nsIn K mainGlobals "super" = some none) (hTop : (l.prog.main.scope.names.lookup ("super" : Str)).isSome = false)
    (spC : PySem.W.specialIn K (.builtin "object.__class__") "__get__" = some (some (.builtin "getset_descriptor.__get__"))) (tkC : PySem.W.takesIn K (.builtin "object.__class__") = some true)
    {C0 I0 N0 cda0 cc0 : Addr} {nm0 qn0 msg0 file0 : Str} {bs0 sub0 : List Value} {sn0 : List Str} {ab0 : Bool} {col0 : Option Bool} {dd0 od0 an0 cdd0 cld0 : Option Addr} {ka0 kb0 kc0 kd0 ke0 : Option Value}
    {oc0 doc0 pm0 ct0 ccl0 cl0 : Value} {osl0 ccs0 csl0 : Array (Option Value)} {vs0 : Array Value} {tf0 : Tok} {j0 : Nat} {p0_1 p0_2 q0_0 q0_1 q0_2 q0_3 q0_4 q0_5 r0_1 r0_2 r0_3 r0_4 : Pos}
    (aC0 : PySem.W.nsIn K mainGlobals "InvalidList" = some (some (.ref C0)))
    (xL0 : K.lookup C0 = some (excClassObj nm0 qn0 C0 N0 bs0 [.ref CB, .type "ValueError", .type "Exception", .type "BaseException", .type "object"] true sn0 sub0 ab0 col0 dd0 ka0 kb0 kc0 kd0 ke0 "ValueError.__new__"))
    (sa0 : PySem.W.findIn K (.ref C0) "__setattr__" = some (some (.builtin "object.__setattr__")))
    (nv0 : PySem.W.findIn K (.ref C0) "value" = some none)
    (iC0 : PySem.W.findIn K (.ref C0) "__init__" = some (some (.ref I0)))
    (tI0 : PySem.W.typeIn K (.ref I0) = some (.type "function"))
    (kC0 : PySem.W.keepIn K (.ref C0) = true)
    (eC0 : PySem.W.subIn K (.ref C0) (.type "BaseException") = some true)
    (vC0 : PySem.W.subIn K (.ref C0) (.type "ValueError") = some true)
    (tC0 : PySem.W.typeIn K (.ref C0) = some (.type "type"))
    (mC0 : PySem.W.mroIn K C0 (.ref C0) = some true)
    (su0 : PySem.W.ks_superIn K C0 C0 "__init__" = some (some (.builtin "ValueError.__init__")))
    (fI0 : K.lookup I0 = some ⟨oc0, od0, .func (PySem.W.ksFn "__init__" "InvalidList.__init__" (SqX.xA p0_1 p0_2) (SqX.xB msg0 j0 q0_0 q0_1 q0_2 q0_3 q0_4 q0_5 r0_1 r0_2 r0_3 r0_4) SqX.xS .none .none doc0 pm0 an0 (.ref cda0) ct0 cc0), osl0⟩)
    (cI0 : PySem.W.codeIn K (.ref cda0) "InvalidList.__init__" = true)
    (lc0 : K.lookup cda0 = some ⟨ccl0, cdd0, .fields vs0, ccs0⟩)
    (vf0 : vs0[2]? = some (.str file0 tf0))
    (mf0 : ((l.prog.main.file : Str) == file0) = true)
    (lk0 : K.lookup cc0 = some ⟨cl0, cld0, .cell (some (.ref C0)), csl0⟩)
    (ln0 : (q0_2.endLine == q0_4.line) = true)
    (ga0 : PySem.W.findIn K (.ref C0) "__getattribute__" = some (some (.builtin "BaseException.__getattribute__")))
    (gg0 : PySem.W.findIn K (.ref C0) "__getattr__" = some none)
    (hd0 : PySem.W.hasDictIn K C0 = true)
    (ha0 : PySem.W.findIn K (.ref C0) "__class__" = some (some (.builtin "object.__class__")))
    (mo0 : PySem.W.mroIn K C0 (.type "object") = some true)
    (ic0 : PySem.W.isClsIn K C0 = true)
    (sB0 : PySem.W.subIn K (.ref C0) (.ref CB) = some true)
    {C1 I1 N1 cda1 cc1 : Addr} {nm1 qn1 msg1 file1 : Str} {bs1 sub1 : List Value} {sn1 : List Str} {ab1 : Bool} {col1 : Option Bool} {dd1 od1 an1 cdd1 cld1 : Option Addr} {ka1 kb1 kc1 kd1 ke1 : Option Value}
    {oc1 doc1 pm1 ct1 ccl1 cl1 : Value} {osl1 ccs1 csl1 : Array (Option Value)} {vs1 : Array Value} {tf1 : Tok} {j1 : Nat} {p1_1 p1_2 q1_0 q1_1 q1_2 q1_3 q1_4 q1_5 r1_1 r1_2 r1_3 r1_4 : Pos}
    (aC1 : PySem.W.nsIn K mainGlobals "InvalidNumber" = some (some (.ref C1)))
    (xL1 : K.lookup C1 = some (excClassObj nm1 qn1 C1 N1 bs1 [.ref CB, .type "ValueError", .type "Exception", .type "BaseException", .type "object"] true sn1 sub1 ab1 col1 dd1 ka1 kb1 kc1 kd1 ke1 "ValueError.__new__"))
    (sa1 : PySem.W.findIn K (.ref C1) "__setattr__" = some (some (.builtin "object.__setattr__")))
    (nv1 : PySem.W.findIn K (.ref C1) "value" = some none)
    (iC1 : PySem.W.findIn K (.ref C1) "__init__" = some (some (.ref I1)))
    (tI1 : PySem.W.typeIn K (.ref I1) = some (.type "function"))
    (kC1 : PySem.W.keepIn K (.ref C1) = true)
    (eC1 : PySem.W.subIn K (.ref C1) (.type "BaseException") = some true)
    (vC1 : PySem.W.subIn K (.ref C1) (.type "ValueError") = some true)
    (tC1 : PySem.W.typeIn K (.ref C1) = some (.type "type"))
    (mC1 : PySem.W.mroIn K C1 (.ref C1) = some true)
    (su1 : PySem.W.ks_superIn K C1 C1 "__init__" = some (some (.builtin "ValueError.__init__")))
    (fI1 : K.lookup I1 = some ⟨oc1, od1, .func (PySem.W.ksFn "__init__" "InvalidNumber.__init__" (SqX.xA p1_1 p1_2) (SqX.xB msg1 j1 q1_0 q1_1 q1_2 q1_3 q1_4 q1_5 r1_1 r1_2 r1_3 r1_4) SqX.xS .none .none doc1 pm1 an1 (.ref cda1) ct1 cc1), osl1⟩)
    (cI1 : PySem.W.codeIn K (.ref cda1) "InvalidNumber.__init__" = true)
    (lc1 : K.lookup cda1 = some ⟨ccl1, cdd1, .fields vs1, ccs1⟩)
    (vf1 : vs1[2]? = some (.str file1 tf1))
    (mf1 : ((l.prog.main.file : Str) == file1) = true)
    (lk1 : K.lookup cc1 = some ⟨cl1, cld1, .cell (some (.ref C1)), csl1⟩)
    (ln1 : (q1_2.endLine == q1_4.line) = true)
    (ga1 : PySem.W.findIn K (.ref C1) "__getattribute__" = some (some (.builtin "BaseException.__getattribute__")))
    (gg1 : PySem.W.findIn K (.ref C1) "__getattr__" = some none)
    (hd1 : PySem.W.hasDictIn K C1 = true)
    (ha1 : PySem.W.findIn K (.ref C1) "__class__" = some (some (.builtin "object.__class__")))
    (mo1 : PySem.W.mroIn K C1 (.type "object") = some true)
    (ic1 : PySem.W.isClsIn K C1 = true)
    (sB1 : PySem.W.subIn K (.ref C1) (.ref CB) = some true)
    (s0_0 : PySem.W.subIn K (.ref C0) (.ref C0) = some true)
    (s0_1 : PySem.W.subIn K (.ref C0) (.ref C1) = some false)
    (s1_0 : PySem.W.subIn K (.ref C1) (.ref C0) = some false)
    (s1_1 : PySem.W.subIn K (.ref C1) (.ref C1) = some true)
    : ∃ fd : FuncData, (∀ (s : Shared) (v : Value), BindsTo s fd ⟨[v], []⟩ [("script", v)]) ∧ ∀ base : Heap, K.In base → base.Ns mainGlobals mg → Top l.prog w K mg base 5 fa fd "script" (spLaw K) := by
  have e := hfa.symm.trans (PySem.W.mg_of X G a_law)
  cases e
  have B : Bi mg := ⟨PySem.W.mg_none_of X G z_len, PySem.W.mg_none_of X G z_min, PySem.W.mg_none_of X G z_max, PySem.W.mg_none_of X G z_abs, PySem.W.mg_none_of X G z_range, PySem.W.mg_none_of X G z_isinstance, PySem.W.mg_none_of X G z_repr, PySem.W.mg_none_of X G z_enumerate, PySem.W.mg_none_of X G z_reversed, PySem.W.mg_none_of X G z_sorted, PySem.W.mg_none_of X G z_bool, PySem.W.mg_none_of X G z_int, PySem.W.mg_none_of X G z_str, PySem.W.mg_none_of X G z_list, PySem.W.mg_none_of X G z_tuple, PySem.W.mg_none_of X G z_set, PySem.W.mg_none_of X G z_sum, PySem.W.mg_none_of X G z_zip, PySem.W.mg_none_of X G z_all, PySem.W.mg_none_of X G z_any, PySem.W.mg_none_of X G z_ValueError, PySem.W.mg_none_of X G z_divmod⟩
  have F_checklist := fun_mk (st := s_checklist) l_checklist c_checklist k_checklist
  have b_checklist := F_checklist.binds (ps := ["replacements"]) fun _ _ _ _ _ _ us hl => match us, hl with | [_], _ => rfl
  have g_checklist := PySem.W.mg_of X G a_checklist
  have F_checknumber := fun_mk (st := s_checknumber) l_checknumber c_checknumber k_checknumber
  have b_checknumber := F_checknumber.binds (ps := ["number", "least"]) fun _ _ _ _ _ _ us hl => match us, hl with | [_, _], _ => rfl
  have g_checknumber := PySem.W.mg_of X G a_checknumber
  have F_greatestorigin := fun_mk (st := s_greatestorigin) l_greatestorigin c_greatestorigin k_greatestorigin
  have b_greatestorigin := F_greatestorigin.binds (ps := ["length", "replacements"]) fun _ _ _ _ _ _ us hl => match us, hl with | [_, _], _ => rfl
  have g_greatestorigin := PySem.W.mg_of X G a_greatestorigin
  have F_manyforone := fun_mk (st := s_manyforone) l_manyforone c_manyforone k_manyforone
  have b_manyforone := F_manyforone.binds (ps := ["length", "number"]) fun _ _ _ _ _ _ us hl => match us, hl with | [_, _], _ => rfl
  have g_manyforone := PySem.W.mg_of X G a_manyforone
  have F_lengthafterone := fun_mk (st := s_lengthafterone) l_lengthafterone c_lengthafterone k_lengthafterone
  have b_lengthafterone := F_lengthafterone.binds (ps := ["length", "number"]) fun _ _ _ _ _ _ us hl => match us, hl with | [_, _], _ => rfl
  have g_lengthafterone := PySem.W.mg_of X G a_lengthafterone
  have F_partingrun := fun_mk (st := s_partingrun) l_partingrun c_partingrun k_partingrun
  have b_partingrun := F_partingrun.binds (ps := ["first", "second"]) fun _ _ _ _ _ _ us hl => match us, hl with | [_, _], _ => rfl
  have g_partingrun := PySem.W.mg_of X G a_partingrun
  have F_commute := fun_mk (st := s_commute) l_commute c_commute k_commute
  have b_commute := F_commute.binds (ps := ["first", "second"]) fun _ _ _ _ _ _ us hl => match us, hl with | [_, _], _ => rfl
  have g_commute := PySem.W.mg_of X G a_commute
  have F_listof := fun_mk (st := s_listof) l_listof c_listof k_listof
  have b_listof := F_listof.binds (ps := ["singles"]) fun _ _ _ _ _ _ us hl => match us, hl with | [_], _ => rfl
  have g_listof := PySem.W.mg_of X G a_listof
  have F_lawsource := fun_mk (st := s_lawsource) l_lawsource c_lawsource k_lawsource
  have b_lawsource := F_lawsource.binds (ps := ["script"]) fun _ _ _ _ _ _ us hl => match us, hl with | [_], _ => rfl
  have g_lawsource := PySem.W.mg_of X G a_lawsource
  have F_lawdraw := fun_mk (st := s_lawdraw) l_lawdraw c_lawdraw k_lawdraw
  have b_lawdraw := F_lawdraw.binds (ps := ["source", "many"]) fun _ _ _ _ _ _ us hl => match us, hl with | [_, _], _ => rfl
  have g_lawdraw := PySem.W.mg_of X G a_lawdraw
  have F_lawonce := fun_mk (st := s_lawonce) l_lawonce c_lawonce k_lawonce
  have b_lawonce := F_lawonce.binds (ps := ["run", "one"]) fun _ _ _ _ _ _ us hl => match us, hl with | [_, _], _ => rfl
  have g_lawonce := PySem.W.mg_of X G a_lawonce
  have F_lawsqueezed := fun_mk (st := s_lawsqueezed) l_lawsqueezed c_lawsqueezed k_lawsqueezed
  have b_lawsqueezed := F_lawsqueezed.binds (ps := ["run", "row"]) fun _ _ _ _ _ _ us hl => match us, hl with | [_, _], _ => rfl
  have g_lawsqueezed := PySem.W.mg_of X G a_lawsqueezed
  have F_lawlists := fun_mk (st := s_lawlists) l_lawlists c_lawlists k_lawlists
  have b_lawlists := F_lawlists.binds (ps := []) fun _ _ _ _ _ _ us hl => match us, hl with | [], _ => rfl
  have g_lawlists := PySem.W.mg_of X G a_lawlists
  have F_lawsingles := fun_mk (st := s_lawsingles) l_lawsingles c_lawsingles k_lawsingles
  have b_lawsingles := F_lawsingles.binds (ps := ["row"]) fun _ _ _ _ _ _ us hl => match us, hl with | [_], _ => rfl
  have g_lawsingles := PySem.W.mg_of X G a_lawsingles
  have F_lawalike := fun_mk (st := s_lawalike) l_lawalike c_lawalike k_lawalike
  have b_lawalike := F_lawalike.binds (ps := ["one", "other"]) fun _ _ _ _ _ _ us hl => match us, hl with | [_, _], _ => rfl
  have g_lawalike := PySem.W.mg_of X G a_lawalike
  have F_law := fun_mk (st := s_law) l_law c_law k_law
  exact ⟨_, fun s v => .of_eq rfl, fun base _ _ => by
    have bmV : PySem.HandSPX.refsVE [.ref CB, .type "ValueError", .type "Exception", .type "BaseException", .type "object"] = true := (show PySem.HandSPX.refsVE [.type "ValueError", .type "Exception", .type "BaseException", .type "object"] = true by decide +kernel)
    have neB : ∀ C : Addr, PySem.W.subIn K (.ref C) (.ref CB) = some true → C = CB → true = true := fun _ _ _ => rfl
    have Er0 : SqX.Er K l.prog C0 I0 "InvalidList.__init__" := ⟨⟨_, _, _, _, _, _, _, _, _, _, _, _, _, _, _, xL0, bmV⟩, sa0, nv0, iC0, tI0, kC0, eC0, vC0, tC0, mC0, su0, third, zSup, hTop, ⟨_, _, _, _, _, _, _, _, _, _, _, _, _, _, _, _, _, _, _, _, _, _, _, _, _, _, _, _, _, _, _, _, fI0, cI0, lc0, vf0, mf0, lk0, ln0⟩⟩
    have Ex0 : ExcC K C0 := ⟨ga0, gg0, eC0, hd0, ha0, spC, tkC, mo0⟩
    have Xf0 : XfC K C0 := ⟨ga0, gg0, eC0, hd0⟩
    have Er1 : SqX.Er K l.prog C1 I1 "InvalidNumber.__init__" := ⟨⟨_, _, _, _, _, _, _, _, _, _, _, _, _, _, _, xL1, bmV⟩, sa1, nv1, iC1, tI1, kC1, eC1, vC1, tC1, mC1, su1, third, zSup, hTop, ⟨_, _, _, _, _, _, _, _, _, _, _, _, _, _, _, _, _, _, _, _, _, _, _, _, _, _, _, _, _, _, _, _, fI1, cI1, lc1, vf1, mf1, lk1, ln1⟩⟩
    have Ex1 : ExcC K C1 := ⟨ga1, gg1, eC1, hd1, ha1, spC, tkC, mo1⟩
    have Xf1 : XfC K C1 := ⟨ga1, gg1, eC1, hd1⟩
    have Z : Errs01 l.prog K mg (fun n => [C0, C1].getD n C0) (fun n => [I0, I1].getD n I0) (fun n => (["InvalidList.__init__", "InvalidNumber.__init__"] : List Str).getD n "InvalidList.__init__") CB := {
      er := fun n hn => match n, hn with | 0, _ => ⟨trivial, Er0⟩ | 1, _ => ⟨trivial, Er1⟩
      g0 := PySem.W.mg_of X G aC0
      g1 := PySem.W.mg_of X G aC1 }
    have X_checklist : Dn l.prog w K mg base 1 "check_list" ["replacements"] (spCheckList K (fun n => [C0, C1].getD n C0)) := .mk' F_checklist (ok_checklist F_checklist B Z) g_checklist b_checklist
    have X_checknumber : Dn l.prog w K mg base 1 "check_number" ["number", "least"] (spCheckNumber (fun n => [C0, C1].getD n C0)) := .mk' F_checknumber (ok_checknumber F_checknumber Z) g_checknumber b_checknumber
    have X_greatestorigin : Dn l.prog w K mg base 2 "greatest_origin" ["length", "replacements"] (spGreat K (fun n => [C0, C1].getD n C0)) := .mk' F_greatestorigin (ok_greatestorigin F_greatestorigin X_checknumber X_checklist) g_greatestorigin b_greatestorigin
    have Y_partingrun : FnOk l.prog w K mg base CX0 3 f_partingrun _ ["first", "second"] (spPartC K (fun n => [C0, C1].getD n C0)) := calmly (ok_partingrun F_partingrun B X_checklist X_greatestorigin)
    have Y_commute : FnOk l.prog w K mg base CX0 2 f_commute _ ["first", "second"] (spComC K (fun n => [C0, C1].getD n C0)) := calmly (ok_commute F_commute X_checklist)
    have D_partingrun : Df l.prog w K mg base 3 "parting_run" ["first", "second"] (spPartC K (fun n => [C0, C1].getD n C0)) := .mk' F_partingrun Y_partingrun g_partingrun b_partingrun
    have D_commute : Df l.prog w K mg base 2 "commute" ["first", "second"] (spComC K (fun n => [C0, C1].getD n C0)) := .mk' F_commute Y_commute g_commute b_commute
    have D_lengthafterone : Df l.prog w K mg base 1 "length_after_one" ["length", "number"] spOnceS := .mk' F_lengthafterone (ok_lengthafterone F_lengthafterone B) g_lengthafterone b_lengthafterone
    have D_manyforone : Df l.prog w K mg base 1 "many_for_one" ["length", "number"] spMany := .mk' F_manyforone (ok_manyforone F_manyforone B) g_manyforone b_manyforone
    have D_listof : Df l.prog w K mg base 2 "list_of" ["singles"] (spListOf K) := .mk' F_listof (ok_listof F_listof B D_lengthafterone D_manyforone) g_listof b_listof
    have D_lawsource : Df l.prog w K mg base 1 "_law_source" ["script"] (spSource K) := .mk' F_lawsource (ok_lawsource F_lawsource B) g_lawsource b_lawsource
    have D_lawdraw : Df l.prog w K mg base 1 "_law_draw" ["source", "many"] spDraw := .mk' F_lawdraw (ok_lawdraw F_lawdraw) g_lawdraw b_lawdraw
    have D_lawonce : Df l.prog w K mg base 1 "_law_once" ["run", "one"] spOnce := .mk' F_lawonce (ok_lawonce F_lawonce) g_lawonce b_lawonce
    have D_lawsqueezed : Df l.prog w K mg base 2 "_law_squeezed" ["run", "row"] (spSqz K) := .mk' F_lawsqueezed (ok_lawsqueezed F_lawsqueezed D_lawonce) g_lawsqueezed b_lawsqueezed
    have D_lawlists : Df l.prog w K mg base 1 "_law_lists" [] spLists := .mk' F_lawlists (ok_lawlists F_lawlists B) g_lawlists b_lawlists
    have D_lawsingles : Df l.prog w K mg base 3 "_law_singles" ["row"] (spSin K) := .mk' F_lawsingles (ok_lawsingles F_lawsingles B D_lawsqueezed) g_lawsingles b_lawsingles
    have D_lawalike : Df l.prog w K mg base 3 "_law_alike" ["one", "other"] spAlike := .mk' F_lawalike (ok_lawalike F_lawalike B D_lawsqueezed) g_lawalike b_lawalike
    exact ok_law F_law B D_lawsource D_lawdraw D_lawlists D_lawsingles D_listof D_partingrun D_commute D_lawsqueezed D_lawalike⟩
end Sq
open PySem PySem.W PyProof.Rows
set_option maxRecDepth 100000 in
set_option maxHeartbeats 0 in
theorem PySem.Challenge.cw_squeezelists_k14_whole_no_two_lists_alik_holds : PySem.Challenge.rw_squeezelists_k14_whole_no_two_lists_alik.Holds := by
  w_on; o_law; k_head; (case hw => w_witness2)
  k_fill
  refine Sq.walkAt (l := PySem.Challenge.rw_squeezelists_k14_whole_no_two_lists_alik) (n := 63) (k := 5) (x := "script") (sp := fun w => Sq.spLaw _) rfl (by decide) rfl (fun w h Y => PySem.W.kIn_of Y) ?F (fun _ _ a ns hl _ hS => ⟨a, ns, rfl, hS, hl, fun _ => rfl⟩)
  case F =>
    intro w mg fa h KX G hmg
    refine' Sq.all_mk KX G hmg ?a_checklist ?l_checklist ?c_checklist ?k_checklist ?a_checknumber ?l_checknumber ?c_checknumber ?k_checknumber ?a_greatestorigin ?l_greatestorigin ?c_greatestorigin ?k_greatestorigin ?a_manyforone ?l_manyforone ?c_manyforone ?k_manyforone ?a_lengthafterone ?l_lengthafterone ?c_lengthafterone ?k_lengthafterone ?a_partingrun ?l_partingrun ?c_partingrun ?k_partingrun ?a_commute ?l_commute ?c_commute ?k_commute ?a_listof ?l_listof ?c_listof ?k_listof ?a_lawsource ?l_lawsource ?c_lawsource ?k_lawsource ?a_lawdraw ?l_lawdraw ?c_lawdraw ?k_lawdraw ?a_lawonce ?l_lawonce ?c_lawonce ?k_lawonce ?a_lawsqueezed ?l_lawsqueezed ?c_lawsqueezed ?k_lawsqueezed ?a_lawlists ?l_lawlists ?c_lawlists ?k_lawlists ?a_lawsingles ?l_lawsingles ?c_lawsingles ?k_lawsingles ?a_lawalike ?l_lawalike ?c_lawalike ?k_lawalike ?a_law ?l_law ?c_law ?k_law ?z_len ?z_min ?z_max ?z_abs ?z_range ?z_isinstance ?z_repr ?z_enumerate ?z_reversed ?z_sorted ?z_bool ?z_int ?z_str ?z_list ?z_tuple ?z_set ?z_sum ?z_zip ?z_all ?z_any ?z_ValueError ?z_divmod ?aCB ?iCB ?tCB ?third ?zSup ?hTop ?spC ?tkC ?aC0 ?xL0 ?sa0 ?nv0 ?iC0 ?tI0 ?kC0 ?eC0 ?vC0 ?tC0 ?mC0 ?su0 ?fI0 ?cI0 ?lc0 ?vf0 ?mf0 ?lk0 ?ln0 ?ga0 ?gg0 ?hd0 ?ha0 ?mo0 ?ic0 ?sB0 ?aC1 ?xL1 ?sa1 ?nv1 ?iC1 ?tI1 ?kC1 ?eC1 ?vC1 ?tC1 ?mC1 ?su1 ?fI1 ?cI1 ?lc1 ?vf1 ?mf1 ?lk1 ?ln1 ?ga1 ?gg1 ?hd1 ?ha1 ?mo1 ?ic1 ?sB1 ?s0_0 ?s0_1 ?s1_0 ?s1_1
    (case a_checklist => k_is); (case l_checklist => k_is); (case c_checklist => k_is); (case k_checklist => k_is); (case a_checknumber => k_is); (case l_checknumber => k_is); (case c_checknumber => k_is); (case k_checknumber => k_is); (case a_greatestorigin => k_is); (case l_greatestorigin => k_is); (case c_greatestorigin => k_is); (case k_greatestorigin => k_is); (case a_manyforone => k_is); (case l_manyforone => k_is); (case c_manyforone => k_is); (case k_manyforone => k_is); (case a_lengthafterone => k_is); (case l_lengthafterone => k_is); (case c_lengthafterone => k_is); (case k_lengthafterone => k_is); (case a_partingrun => k_is); (case l_partingrun => k_is); (case c_partingrun => k_is); (case k_partingrun => k_is); (case a_commute => k_is); (case l_commute => k_is); (case c_commute => k_is); (case k_commute => k_is); (case a_listof => k_is); (case l_listof => k_is); (case c_listof => k_is); (case k_listof => k_is); (case a_lawsource => k_is); (case l_lawsource => k_is); (case c_lawsource => k_is); (case k_lawsource => k_is); (case a_lawdraw => k_is); (case l_lawdraw => k_is); (case c_lawdraw => k_is); (case k_lawdraw => k_is); (case a_lawonce => k_is); (case l_lawonce => k_is); (case c_lawonce => k_is); (case k_lawonce => k_is); (case a_lawsqueezed => k_is); (case l_lawsqueezed => k_is); (case c_lawsqueezed => k_is); (case k_lawsqueezed => k_is); (case a_lawlists => k_is); (case l_lawlists => k_is); (case c_lawlists => k_is); (case k_lawlists => k_is); (case a_lawsingles => k_is); (case l_lawsingles => k_is); (case c_lawsingles => k_is); (case k_lawsingles => k_is); (case a_lawalike => k_is); (case l_lawalike => k_is); (case c_lawalike => k_is); (case k_lawalike => k_is); (case a_law => k_is); (case l_law => k_is); (case c_law => k_is); (case k_law => k_is); (case z_len => k_is); (case z_min => k_is); (case z_max => k_is); (case z_abs => k_is); (case z_range => k_is); (case z_isinstance => k_is); (case z_repr => k_is); (case z_enumerate => k_is); (case z_reversed => k_is); (case z_sorted => k_is); (case z_bool => k_is); (case z_int => k_is); (case z_str => k_is); (case z_list => k_is); (case z_tuple => k_is); (case z_set => k_is); (case z_sum => k_is); (case z_zip => k_is); (case z_all => k_is); (case z_any => k_is); (case z_ValueError => k_is); (case z_divmod => k_is); (case aCB => k_is); (case iCB => k_is); (case tCB => k_is); (case third => k_is); (case zSup => k_is); (case hTop => decide +kernel); (case spC => k_is); (case tkC => k_is); (case aC0 => k_is); (case xL0 => k_is); (case sa0 => k_is); (case nv0 => k_is); (case iC0 => k_is); (case tI0 => k_is); (case kC0 => k_is); (case eC0 => k_is); (case vC0 => k_is); (case tC0 => k_is); (case mC0 => k_is); (case su0 => ks_is); (case fI0 => k_is); (case cI0 => k_is); (case lc0 => k_is); (case vf0 => rfl); (case mf0 => decide +kernel); (case lk0 => k_is); (case ln0 => rfl); (case ga0 => k_is); (case gg0 => k_is); (case hd0 => k_is); (case ha0 => k_is); (case mo0 => k_is); (case ic0 => k_is); (case sB0 => k_is); (case aC1 => k_is); (case xL1 => k_is); (case sa1 => k_is); (case nv1 => k_is); (case iC1 => k_is); (case tI1 => k_is); (case kC1 => k_is); (case eC1 => k_is); (case vC1 => k_is); (case tC1 => k_is); (case mC1 => k_is); (case su1 => ks_is); (case fI1 => k_is); (case cI1 => k_is); (case lc1 => k_is); (case vf1 => rfl); (case mf1 => decide +kernel); (case lk1 => k_is); (case ln1 => rfl); (case ga1 => k_is); (case gg1 => k_is); (case hd1 => k_is); (case ha1 => k_is); (case mo1 => k_is); (case ic1 => k_is); (case sB1 => k_is); (case s0_0 => k_is); (case s0_1 => k_is); (case s1_0 => k_is); (case s1_1 => k_is)
