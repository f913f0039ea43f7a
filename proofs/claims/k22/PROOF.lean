import PyProof.Rows.All
import Wide.All
import OpenK.AllK
import Wide.FinOn
import HandS.ForMost
import HandS.IsInst
import HandS.Walk
import HandS.Defaults
import HandS.RaiseMore
import HandS.Wide
import HandS.Exc
import HandS.ExcOwn
import HandS.ExcInit
import HandS.ExcSuper
import KE.KExcSuper
import HandS.ExcValue
import HandS.ExcIs
import HandS.ExcField
import HandS.GenList
import HandS.WordsExc
import HandS.HotCalls
import HandS.Comp
import HandS.Deep
import HandS.Text
import HandS.StrMore
import HandS.Property
import HandS.MakeKw
import HandS.MakeKwOnly
import HandS.Style
import HandS.GenBody
import HandS.GenYield
import PyProof.GenComp
import PyProof.ForAny
import HandS.Strs
import HandS.SetBool
import HandS.SuiteRaise
import HandS.Iter
import PyProof.FactsSeq
import HandS.Replace
import HandS.GenOver
import HandS.Words
import HandS.WideBits
import HandS.SortInts
import HandS.Set
import HandS.SetFor
import HandS.Zip
import HandS.DictComp
import KE.GoesMore
import PyProof.LongRange
import HandS.More
import HandS.FStr
import HandS.NoneIn
import HandS.ReplaceList
import HandS.Codes
import KE.DataCmp
import HandS.OwnEq
import PyProof.InstNe
import PyProof.EqKinds
import HandS.ClsMeth
import HandS.MethStar
import HandS.Zip0
import PySem.Challenge.RW_squeezelists_k22_live_texts_copy
set_option Elab.async false
set_option linter.all false
set_option maxRecDepth 100000
set_option maxHeartbeats 2000000
namespace Sq
open PySem PySem.Spec PyProof.Rows L2
theorem fnAt {CX : CXT} {P : Program} {w : World} {K : PySem.W.Frag} {mg : Str → Option Value} {base : Heap} {k : Nat} {f : Addr} {nmF qualF : Str} {prm : Arguments} {bd : List Stmt} {scp : Scope}
    {dflt kwd docv pmv cdv ctv ocv : Value} {anv odv : Option Addr} {slv : Array (Option Value)} {names prs : List Str} {sp : Sp} {A : Around}
    (stands : K.lookup f = some ⟨ocv, odv, .func (PySem.W.fnOf nmF qualF prm bd scp dflt kwd docv pmv anv cdv ctv), slv⟩)
    (code : PySem.W.codeIn K cdv qualF = true) (sc : FnScope names prs scp)
    (count : ∀ vs H Q E, sp vs H Q E → vs.length = prs.length)
    (inner : ∀ (outer : List Env) (s : Shared) (H : Hp) (vs : List V) (Q : VK) (E : XK), Room k (A.deeper (envOfC qualF scp s.heap.objs.size f cdv)) → sp vs H Q E →
      ∃ t, PSs (cxOf CX P w K mg base names qualF scp f cdv A outer s H E) bd t ∧ t { nx := fun _ H' => Q .non H', rt := Q } (start names vs) H)
    {outer : List Env} {s : Shared} {H : Hp} {ag : Args} {us : List Value} {vs : List V} {Q : VK} {E : XK}
    (room : Room (k + 1) A) (entry : Env0 P w K mg base A outer s H)
    (bound : BindsTo s (PySem.W.fnOf nmF qualF prm bd scp dflt kwd docv pmv anv cdv ctv) ag (prs.zip us)) (rel : Vals vs us) (wish : sp vs H Q E) :
    codeAny (model P w) A (.call (.ref f) ag) (CR CX outer P w H s Q E) s := by
  have written : K.In s.heap := entry.mod.kin.keeps (fun b o e => (entry.bs b o e).1)
  have roomy : s.heap.NoLimit := entry.mod.nolimit.keeps (fun b o e => (entry.bs b o e).1)
  refine codeAny_call_function room.depth (written _ _ stands) rfl sc.co sc.gen rfl (PySem.W.codeRec_of written code) (bound _ _ _ _ ?_)
  refine wpAny_newFunctionEnv_cells sc.kind ?kinds ?body
  case kinds =>
    rintro ⟨n, v⟩ hn
    have inP := (List.of_mem_zip hn).1
    cases sc.par n inP with
    | inl q => exact Or.inl q
    | inr q => exact Or.inr ⟨q, PySem.W.cellsFrom_some _ _ _ (Or.inl q)⟩
  case body =>
    intro env eqn s1 fresh
    subst eqn
    refine ⟨roomy.keeps fresh.toInCall.keep, codeAny_func ?_⟩
    obtain ⟨t, steps, holds⟩ := inner outer s H vs Q E (room.deeper _) wish
    have inv := inv_start (CX := CX) (mg := mg) (base := base) (E := E) sc room.hd entry (count _ _ _ _ wish) rel fresh
    refine wpAny_mono (steps.run [] s1 (start names vs) H _ inv holds) ?_ (fun _ _ q => q)
    intro flow s' got
    cases flow with
    | ret u =>
      obtain ⟨v, σ', H', J, rv, q⟩ := got
      exact ⟨v, H', J.os, J.bare, J.base, J.hok, rv, q⟩
    | next =>
      obtain ⟨σ', H', J, q⟩ := got
      exact ⟨V.non, H', J.os, J.bare, J.base, J.hok, rfl, q⟩
    | brk => exact got.elim fun _ h => h.elim fun _ h => False.elim h.2
    | cont => exact got.elim fun _ h => h.elim fun _ h => False.elim h.2
/-- what the top's def promises at the outermost call alone -/
def Top (P : Program) (w : World) (K : PySem.W.Frag) (mg : Str → Option Value) (base : Heap) (k : Nat) (f : Addr) (fd : FuncData) (x : Str) (sp : Sp) : Prop :=
  ∀ (s : Shared) (H : Hp) (ag : Args) (u : Value) (v : V) (Q : VK), Env0 P w K mg base callerA [] s H → BindsTo s fd ag [(x, u)] → RelV v u → sp [v] H Q (fun _ _ _ => False) →
    codeAny (model P w) callerA (.call (.ref f) ag) (CR CX0 [] P w H s Q (fun _ _ _ => False)) s
theorem atTop {P : Program} {w : World} {K : PySem.W.Frag} {mg : Str → Option Value} {base : Heap} {k : Nat} {f : Addr} {fd : FuncData} {x y qual : Str} {st : Stmt} {names : List Str} {sp : Sp}
    (F : Fun K y qual st f fd) (sc : FnScope names [x] (defScope st)) (room : Room (k + 1) callerA) (count : ∀ vs H Q E, sp vs H Q E → vs.length = 1)
    (inner : ∀ (cdv : Value) (outer : List Env) (s : Shared) (H : Hp) (vs : List V) (Q : VK) (E : XK), Room k (callerA.deeper (envOfC qual (defScope st) s.heap.objs.size f cdv)) → sp vs H Q E →
      ∃ t, PSs (cxOf CX0 P w K mg base names qual (defScope st) f cdv callerA outer s H E).nox (defBody st) t ∧ t { nx := fun _ H' => Q .non H', rt := Q } (start names vs) H) :
    Top P w K mg base k f fd x sp := by
  intro s H ag u v Q e0 hb hv hs
  obtain ⟨oc, od, kV, doc, pm, an, cdv, ct, osl, rfl, lk, hcd⟩ := F.ex
  refine fnAt (us := [u]) (vs := [v]) lk hcd sc count (fun outer s' H' vs' Q' E' room' wish => ?_) room e0 hb (.cons hv .nil) hs
  obtain ⟨t, h, q⟩ := inner cdv outer s' H' vs' Q' E' room' wish
  exact ⟨t, h.nox, q⟩
/-- from the def's promise at the outermost call to the row's claim about that call -/
theorem lawAt {P : Program} {w : World} {K : PySem.W.Frag} {mg mb : Str → Option Value} {k : Nat} {fa a : Addr} {fd : FuncData} {x : Str} {sp : Sp} {s₁ : Shared} {cells : List Value} {nums : List Int}
    (inK : K.In s₁.heap) (nsM : s₁.heap.Ns mainGlobals mg) (nsB : s₁.heap.Ns builtinsNs mb) (boot : ∀ y : Str, y ≠ "__name__" → mb y = bootBuiltins y) (lim : s₁.heap.NoLimit) (gens : s₁.gens = #[])
    (script : s₁.heap.get? a = some { cls := .type "list", data := .seq cells.toArray }) (are : IntsAre cells nums) (few : nums.length ≤ sizeLine)
    (main : ∀ base : Heap, K.In base → base.Ns mainGlobals mg → Top P w K mg base k fa fd x sp) (binds : ∀ (s : Shared) (u : Value), BindsTo s fd ⟨[u], []⟩ [(x, u)])
    (told : ∀ H : Hp, Only H → SqL K H a (nums.map V.int) → sp [.ref a] H (fun v _ => v = .bl true) fun _ _ _ => False) :
    codeAny (model P w) callerA (.call (.ref fa) ⟨[.ref a], []⟩) (fun r s' => r = .ok (.ret (.bool true)) ∧ OldK s₁.heap s'.heap ∧ s'.os = s₁.os ∧ AllBare s'.gens) s₁ := by
  have rel := vals_ints are
  have same := are.length
  suffices goal : ∀ H : Hp, Only H → SqL K H a (nums.map V.int) → HOk P w H s₁.heap → (∀ b o, H b = some o → b = a ∧ K.lookup a = none) →
      codeAny (model P w) callerA (.call (.ref fa) ⟨[.ref a], []⟩) (fun r s' => r = .ok (.ret (.bool true)) ∧ OldK s₁.heap s'.heap ∧ s'.os = s₁.os ∧ AllBare s'.gens) s₁ by
    cases look : K.lookup a with
    | some o =>
      have here := inK a o look
      rw [script] at here
      cases here
      exact goal (fun _ => none) (fun _ => Or.inl rfl) (Or.inr ⟨_, cells.toArray, _, look, rfl, rfl, rfl, (by rw [List.size_toArray, same]; exact few), (by simpa using rel)⟩) (fun b u z => by cases (show (none : Option HO) = some u from z)) (fun b o z => by cases (show (none : Option HO) = some o from z))
    | none =>
      let Ha : Hp := fun b => if b = a then some (.frz { cls := .type "list", data := .seq cells.toArray } (.lst (nums.map V.int))) else none
      have at_a : Ha a = some (.frz { cls := .type "list", data := .seq cells.toArray } (.lst (nums.map V.int))) := if_pos rfl
      have off : ∀ b o, Ha b = some o → b = a := fun b o z => by
        by_cases hb : b = a
        · exact hb
        · rw [show Ha b = none from if_neg hb] at z
          cases z
      refine goal Ha (fun b => ?_) (Or.inl (Or.inr ⟨_, at_a⟩)) (fun b u z => ?_) (fun b o z => ⟨off b o z, look⟩)
      · by_cases hb : b = a
        · exact Or.inr ⟨_, _, if_pos hb⟩
        · exact Or.inl (if_neg hb)
      · obtain rfl := off b u z
        rw [at_a] at z
        cases z
        exact ⟨script, by rw [List.length_map]; exact few, cells, _, rel, script⟩
  intro H only seq hok apart
  have free : ∀ {b : Addr} {o : Obj}, s₁.heap.get? b = some o → (∀ u, H b = some u → False) → (hidT s₁.heap H).get? b = some o := fun {b o} e n =>
    hidT_get e (by
      cases q : H b with
      | none => rfl
      | some u => exact (n u q).elim)
  have nsH : ∀ {b : Addr} {m : Str → Option Value}, s₁.heap.Ns b m → (hidT s₁.heap H).Ns b m := by
    rintro b m ⟨o, es, ep, e, d, r⟩
    refine ⟨o, es, ep, free e fun u z => ?_, d, r⟩
    obtain ⟨rfl, _⟩ := apart b u z
    rw [script] at e
    cases e
    cases (show Data.seq cells.toArray _ = Data.dict es ep from d)
  have kH : K.In (hidT s₁.heap H) := fun b o e => free (inK b o e) fun u z => by
    obtain ⟨rfl, n⟩ := apart b u z
    rw [n] at e
    cases e
  have mod : Mod K mg (hidT s₁.heap H) := ⟨kH, nsH nsM, ⟨mb, nsH nsB, boot⟩, let ⟨mc, h1, h2⟩ := lim; ⟨mc, nsH h1, h2⟩⟩
  have entry : Env0 P w K mg (hidT s₁.heap H) callerA [] s₁ H :=
    ⟨rfl, mod, fun b o e => of_hidT e, Nat.le_of_eq (hidT_size _ _), trivial, fun b hb => absurd (show b ∈ ([] : List Addr) from hb) (by simp), hok, .of_eq gens⟩
  refine codeAny_mono (main _ kH (nsH nsM) s₁ H ⟨[.ref a], []⟩ (.ref a) (.ref a) _ entry (binds s₁ (.ref a)) rfl (told H only seq)) ?_
  intro r s' got
  match r, got with
  | .ok (.ret u), got =>
    obtain ⟨v, H', os, bare, un, hok', rv, q⟩ := got
    obtain rfl : v = .bl true := q
    obtain rfl : u = Value.bool true := rv
    refine ⟨rfl, OldK.of_keep fun b o e => ?_, os, bare⟩
    rcases only b with z | ⟨ob, xs, z⟩
    · exact un.keep b o e z (by intro y; exact absurd (show b ∈ ([] : List Addr) from y) (by simp)) (by simp)
    · obtain ⟨e1, _⟩ := hok b _ z
      obtain ⟨e2, _⟩ := hok' b _ (un.frzs b ob _ z)
      rw [e] at e1
      cases e1
      exact e2
/-- the goal that k_head leaves, from the law's promise at the outermost call -/
theorem walkAt {l : PySem.W.OpenLaw} {n k : Nat} {q : Program} {loose : List Str} {XP : (Str → Option Value) → Heap → Prop} {YP : World → Heap → Prop} {d : DefRec} {K : Params → PySem.W.Frag} {sp : World → Sp} {x : Str}
    (most : l.most = some n) (line : n ≤ sizeLine) (plain : d.params.defaults = []) (inK : ∀ (w : World) (h : Heap), YP w h → (K w.params).In h)
    (F : ∀ (w : World) (mg : Str → Option Value) (fa : Addr) (h : Heap), (K w.params).In h → h.Ns mainGlobals mg → mg d.name = some (.ref fa) →
      ∃ fd : FuncData, (∀ (s : Shared) (u : Value), BindsTo s fd ⟨[u], []⟩ [(x, u)]) ∧ ∀ base : Heap, (K w.params).In base → base.Ns mainGlobals mg → Top l.prog w (K w.params) mg base k fa fd x (sp w))
    (told : ∀ (w : World) (H : Hp) (a : Addr) (ns : List Int), ns.length ≤ n → Only H → SqL (K w.params) H a (ns.map V.int) → sp w [.ref a] H (fun v _ => v = .bl true) fun _ _ _ => False) :
    PySem.W.WalkO q loose XP YP l.row.toRowW d [] (fun f vs => PySem.call f vs) := by
  refine Att.attach_call most plain ?_
  intro w s₀ s₁ mg mb fa o pm cd doc a vs ns G Y ho hd hcd hmg hobj hints hlen hg
  obtain ⟨fd, hb, hF⟩ := F w mg fa _ (inK w _ Y) G.T.g hmg
  exact lawAt (inK w _ Y) G.T.g G.T.b G.T.builtins G.T.nolimit hg hobj hints (Nat.le_trans hlen line) hF hb fun H hO hS => told w H a ns hlen hO hS
def rReprD (K : PySem.W.Frag) : List V → Hp → VK → Prop := fun xs H Q => ∃ a d, xs = [.ref a] ∧ Dp K H (.ref a) d ∧ d.showable = true ∧ d.hasDict = false ∧ d.depth ≤ 40 ∧ d.shown.length ≤ sizeLine ∧ Q (.str d.shown) H
theorem call_reprD {X : Cx} (hg : X.A.guards = some []) (hu : X.A.units + 64 < cLine) : CallR X (.builtin "repr") (rReprD X.K) := by
  intro pins s σ H xs us Q I r h
  obtain ⟨a, d, rfl, hd, sh, nd, dep, sz, q⟩ := h
  obtain ⟨u, rfl, rv⟩ := vals1 r
  obtain rfl : u = Value.ref a := rv
  obtain ⟨as, rd⟩ := Dp.reads I d _ _ hd (show RelV (.ref a) (.ref a) from rfl)
  refine repr_of_reads' rd sh (by rw [nd]; exact fun z => nomatch z) hg (by omega) (fun b o e => e) (fun h' u tk keep => ?_) sz
  exact ⟨.str _, H, I.kept keep, ⟨_, rfl⟩, q⟩
end Sq
namespace Sq
open PySem PySem.Spec PyProof.Rows L2
/-- what a caller wants of a def of the text: it stands at its name and keeps its promise -/
structure Df (P : Program) (w : World) (K : PySem.W.Frag) (mg : Str → Option Value) (base : Heap) (k : Nat) (x : Str) (ps : List Str) (sp : Sp) : Prop where
  ex : ∃ f fd, FnOk P w K mg base CX0 k f fd ps sp ∧ mg x = some (.ref f) ∧ PySem.W.keepIn K (.ref f) = true ∧ Binds K fd ps []
section
variable {X : Cx} {k : Nat} {ps : List Str} {sp : Sp} {x : Str} {p pos : Pos} {e : Expr} {es : List Expr} {t : TA}
theorem pe_callD (D : Df X.prog X.w X.K X.mg X.base k x ps sp) (hr : Room k X.A) (hg : Gl X x) (ha : PA X (e :: es) t) (hdb : (x == ("__debug__" : Str)) = false := by decide)
    (he : starEach (e :: es) X.env = (false, eval e X.env) :: starEach es X.env := by rfl) (hpl : (backTo pos (starEach es X.env)).any (·.1) = false := by rfl) :
    PE X (.Call (.Name x p) (e :: es) [] pos) (tCall sp [] E0 t) := by
  obtain ⟨f, fd, F, g, kp, b⟩ := D.ex
  exact pe_call F hr hg g kp b .nil pass0 ha hdb he hpl
end
section
variable {P : Program} {w : World} {K : PySem.W.Frag} {mg : Str → Option Value} {base : Heap}
/-- a def without defaults, from its place in the text and its promise -/
theorem Df.mk' {k : Nat} {x : Str} {st : Stmt} {ps : List Str} {sp : Sp} {f : Addr} {fd : FuncData} (F : Fun K x x st f fd) (G : FnOk P w K mg base CX0 k f fd ps sp) (g : mg x = some (.ref f)) (b : Binds K fd ps []) : Df P w K mg base k x ps sp :=
  ⟨⟨f, fd, G, g, F.kp, b⟩⟩
end
end Sq
set_option Elab.async false
set_option linter.all false
set_option maxRecDepth 100000
set_option maxHeartbeats 2000000
namespace SqX
open PySem PySem.W PySem.Calls PyProof.Rows PySem.HandSPX
def xA (p1 p2 : Pos) : Arguments := { posonlyargs := [], args := [{ arg := "self", annotation := none, pos := p1 }, { arg := "value", annotation := none, pos := p2 }], vararg := none, kwonlyargs := [], kw_defaults := [], kwarg := none, defaults := [] }
def xB (msg : Str) (j : Nat) (q0 q1 q2 q3 q4 q5 r1 r2 r3 r4 : Pos) : List Stmt :=
  [.Expr (.Call (.Attribute (.Call (.Name "super" q0) [] [] q1) "__init__" q2) [.Constant (.str msg) j q3] [] q4) q5, .Assign [.Attribute (.Name "self" r1) "value" r2] (.Name "value" r3) r4]
def xS : Scope := { kind := .function, names := [(PySem.Str.ofString "self", .local), (PySem.Str.ofString "value", .local), (PySem.Str.ofString "__class__", .free), (PySem.Str.ofString "super", .globalImplicit)], isGenerator := false, isCoroutine := false, more := [] }
/-- what the written part says of such a class at C, of its __init__ at fI -/
structure Er (K : Frag) (prog : Program) (C fI : Addr) (q : Str) : Prop where
  cls : ∃ nm qn N bs bm sn sub ab col dd k0 k1 k2 k3 k5, K.lookup C = some (excClassObj nm qn C N bs bm true sn sub ab col dd k0 k1 k2 k3 k5 "ValueError.__new__") ∧ refsVE bm = true
  sa : findIn K (.ref C) "__setattr__" = some (some (.builtin "object.__setattr__"))
  noV : findIn K (.ref C) "value" = some none
  iC : findIn K (.ref C) "__init__" = some (some (.ref fI))
  tC : typeIn K (.ref fI) = some (.type "function")
  kC : keepIn K (.ref C) = true
  exC : subIn K (.ref C) (.type "BaseException") = some true
  veC : subIn K (.ref C) (.type "ValueError") = some true
  tyC : typeIn K (.ref C) = some (.type "type")
  mC : mroIn K C (.ref C) = some true
  suC : ks_superIn K C C "__init__" = some (some (.builtin "ValueError.__init__"))
  third : nsIn K cStatics "thirdparty.any" = some none
  super : nsIn K mainGlobals "super" = some none
  top : (prog.main.scope.names.lookup ("super" : Str)).isSome = false
  fn : ∃ (oc : Value) (od : Option Addr) (doc pm : Value) (an : Option Addr) (ct : Value) (osl : Array (Option Value)) (cda cc : Addr) (msg : Str) (j : Nat) (p1 p2 q0 q1 q2 q3 q4 q5 r1 r2 r3 r4 : Pos) (ccl : Value) (cdd : Option Addr) (vs : Array Value) (ccs : Array (Option Value)) (file : Str) (tf : Tok) (cl : Value) (cld : Option Addr) (csl : Array (Option Value)),
    K.lookup fI = some ⟨oc, od, .func (ksFn "__init__" q (xA p1 p2) (xB msg j q0 q1 q2 q3 q4 q5 r1 r2 r3 r4) xS .none .none doc pm an (.ref cda) ct cc), osl⟩ ∧ codeIn K (.ref cda) q = true ∧
    K.lookup cda = some ⟨ccl, cdd, .fields vs, ccs⟩ ∧ vs[2]? = some (.str file tf) ∧ ((prog.main.file : Str) == file) = true ∧ K.lookup cc = some ⟨cl, cld, .cell (some (.ref C)), csl⟩ ∧ (q2.endLine == q4.line) = true
/-- what __init__ leaves of a fresh exception at x -/
structure Inited (h h' : Heap) (x C dx t1 : Addr) (v : Value) : Prop where
  keep : ∀ b o, b ≠ x → h.get? b = some o → h'.get? b = some o
  obj : h'.get? x = some { cls := .ref C, dict := some dx, data := .fields #[.ref t1, .none, .none, .none, .bool false, .none] }
  dbig : h.objs.size ≤ dx
  dne : dx ≠ x
  ns : h'.Ns1 dx (fun y => if y = "value" then some v else none)
theorem one_size (v : Value) : [v].length ≤ sizeLine := by
  rw [sizeLine_eq]
  exact (by decide : 1 ≤ 16777216)
theorem call_is {o e : Expr} {name : Str} {apos pos : Pos} {env : Env} (hline : (apos.endLine == pos.line) = true) (he : starEach [e] env = [(false, eval e env)]) :
    eval (.Call (.Attribute o name apos) [e] [] pos) env = (do
      let ov ← attributeBase o name env (eval o env)
      standAt apos.atName
      let (f, first) ← holding [ov] (getMethod ov name (do return (← importBound o env).getD true))
      callWith pos f first (backTo pos (starEach [e] env)) []) := by
  rw [arm_eval_Call]
  have hf : methodCallForm 1 (backTo pos (starEach [e] env)) (backToKw pos (keywordEach [] env)) = true := by
    rw [he]
    rfl
  have hp : methodCallPos true o env apos pos = pure pos := by
    unfold methodCallPos
    simp [hline]
  refine congrArg _ (funext fun ov => congrArg _ (funext fun _ => ?_))
  show methodCall o name apos pos env ov 1 (backTo pos (starEach [e] env)) (backToKw pos (keywordEach [] env)) = _
  unfold methodCall
  rw [hf, hp]
  rfl
/-- the bound ValueError.__init__ called: the args are laid anew -/
theorem call_mw {prog : Program} {w : World} {A : Around} {E : Value → Shared → Prop} {h : Heap} {g : Array GenState} {d : Drawn} {t : Nat} {os : OsState}
    {nm qn : Str} {C N : Addr} {bs bm : List Value} {hdct : Bool} {sn : List Str} {sub : List Value} {ab : Bool} {col : Option Bool} {dd : Option Addr} {k0 k1 k2 k3 k5 : Option Value} {u e t0 : Addr} {rest : List Value} {Q : Value → Shared → Prop}
    (atC : h.get? C = some (excClassObj nm qn C N bs bm hdct sn sub ab col dd k0 k1 k2 k3 k5 "ValueError.__new__")) (atE : h.get? e = some (excO C t0)) (atU : h.get? u = some (kxs_mw "ValueError.__init__" e)) (line : rest.length ≤ sizeLine)
    (fin : ∀ h' t1, (∀ b o, b ≠ e → h.get? b = some o → h'.get? b = some o) → h'.get? e = some (excO C t1) → Q .none ⟨h', g, d, t, os⟩) :
    wpAny (model prog w) A (call (.ref u) rest) Q E ⟨h, g, d, t, os⟩ := by
  refine wpAny_call (codeAny_of_tree ?_)
  show wpAny _ A.in1 (callAny (.ref u) ⟨rest, []⟩) _ _ _
  simp only [callAny]
  refine wpAny_bind (wpAny_load atU ?_)
  simp only [kxs_mw, show (Value.type "method-wrapper" == Value.type "method" || Value.type "method-wrapper" == Value.type "builtin_function_or_method" || Value.type "method-wrapper" == Value.type "method-wrapper") = true by decide, if_true]
  refine W.KFB.if_so (by decide) ?_
  refine wpAny_bind (ESX.check_bound F.excBase_ValueError atC atE rfl ?_)
  refine wpAny_bind (wpAny_pure (wpAny_pure ?_))
  refine ⟨Code.quiet_builtin _ (by decide +kernel), codeAny_builtin F.excBase_ValueError.initEntry ?_⟩
  rw [Around.under_plainId F.excBase_ValueError.init.plain _]
  wp_walk
  refine fin _ h.objs.size (fun b o nb hb => ?_) ?_
  · exact (Heap.get?_update_other _ _ (Ne.symm nb)).trans (Heap.get?_push_of_some _ hb)
  · exact (Heap.get?_update_self _ (Heap.get?_push_of_some _ atE) rfl).trans rfl
section
variable {prog : Program} {w : World} {A : Around} {E : Value → Shared → Prop} {R : Result → Shared → Prop} {s : Shared} {K : Frag} {mg : Str → Option Value} {base : Heap} {C fI : Addr} {q : Str}
theorem init (T : Er K prog C fI q) {x t0 : Addr} {v : Value} {args : Args} (X : K.In s.heap) (hg : s.heap.Ns mainGlobals mg) (hlim : s.heap.NoLimit) {mb : Str → Option Value} (hb : s.heap.Ns builtinsNs mb) (boot : ∀ y : Str, y ≠ "__name__" → mb y = bootBuiltins y)
    (hx : s.heap.get? x = some (excO C t0)) (hnx : K.lookup x = none) (hroom : A.depth < recursionLimit)
    (hargs : ∀ fd : FuncData, (∃ p1 p2 bd doc pm an cda ct cc, fd = ksFn "__init__" q (xA p1 p2) bd xS .none .none doc pm an (.ref cda) ct cc) → BindsTo s fd args [("self", .ref x), ("value", v)])
    (hq : ∀ h' tk dx t1, Inited s.heap h' x C dx t1 v → R (.ok (.ret .none)) { s with heap := h', toks := tk }) :
    codeAny (model prog w) A (.call (.ref fI) args) R s := by
  obtain ⟨oc, od, doc, pm, an, ct, osl, cda, cc, msg, j, p1, p2, q0, q1, q2, q3, q4, q5, r1, r2, r3, r4, ccl, cdd, vs, ccs, file, tf, cl, cld, csl, ho, hcd, hcode, hvs, hfile, hcell, hline⟩ := T.fn
  obtain ⟨nm, qn, N, bs, bm, sn, sub, ab, col, dd, k0, k1, k2, k3, k5, hC, hbm⟩ := T.cls
  have hcl : clsIn K C = some { name := nm, bases := bs, mro := .ref C :: bm, ns := N, qualname := qn, hasDict := true, slotNames := sn, subclasses := sub, abstract := ab, collection := col, hasDel := false } := by unfold clsIn; rw [hC] <;> rfl
  refine ks_codeAny_call_defAt (fd := ksFn "__init__" q (xA p1 p2) (xB msg j q0 q1 q2 q3 q4 q5 r1 r2 r3 r4) xS .none .none doc pm an (.ref cda) ct cc) (binds := [("self", .ref x), ("value", v)]) hroom (X _ _ ho) rfl hlim (codeRec_of X hcd) rfl
    (hargs _ ⟨_, _, _, _, _, _, _, _, _, rfl⟩) (show ∀ x ∈ xS.names, x.2 ≠ .cell by decide) (fun y hy => ?loc) (fun h₁ hns k => ?_)
  case loc =>
    rcases List.mem_cons.mp hy with rfl | hy
    · exact (show xS.names.lookup ("self" : Str) = some .local by decide)
    · obtain rfl := List.mem_singleton.mp hy
      exact (show xS.names.lookup ("value" : Str) = some .local by decide)
  have X₁ : K.In h₁ := X.keeps k
  have hx₁ := k _ _ hx
  obtain ⟨hh, g, d, t, os⟩ := s
  show _root_.PySem.wpAt _ _ _ (execs (xB msg j q0 q1 q2 q3 q4 q5 r1 r2 r3 r4) _) _ _ _
  refine ks_wpAt_execs_cons (ks_wpAt_Expr_any (ks_wpAt_MethodCall ?_ (call_is hline rfl)))
  obtain ⟨oD, hD1, hD2⟩ : ∃ oD, h₁.get? C = some oD ∧ ∃ cdD, oD.data = .cls cdD := ⟨_, X₁ _ _ hC, _, rfl⟩
  obtain ⟨cdD, hD2⟩ := hD2
  have I₁ : InstAt h₁ x (excO C t0) C none := ⟨hx₁, rfl, rfl, trivial⟩
  refine ks_wpAt_super_base (f := fI) (cc := cda) rfl rfl rfl rfl (X₁ _ _ ho) rfl rfl rfl (X₁ _ _ hcode) rfl hvs hfile T.top ?_
  refine ks_loadName_global rfl rfl (loadGlobal_builtin (hg.keeps k) (mg_none_of X hg T.super) (hb.keeps k) ((boot _ (by decide +kernel)).trans (by decide +kernel)) ⟨rfl, ?_⟩)
  refine wpAny_loadName_free rfl rfl rfl ⟨_, X₁ _ _ hcell, rfl⟩ ?_
  refine wpAny_loadName_local (v := .ref x) rfl rfl hns rfl ?_
  refine ks_wpAny_isType_cls hD1 hD2 ⟨rfl, ?_⟩
  refine ks_wpAny_call_super hD1 hD2 I₁.at_ I₁.cls (fun c e => by cases e) (looks_mroIn X₁ T.mC) (fun h₂ e₂ k₂ => ?_)
  have X₂ : K.In h₂ := X₁.keeps k₂
  have hx₂ := k₂ _ _ hx₁
  have I₂ : InstAt h₂ x (excO C t0) C none := ⟨hx₂, rfl, rfl, trivial⟩
  have al := T.suC
  unfold ks_superIn at al
  rw [hcl] at al
  refine kxs_getMethod kxs_ValueError e₂ (looks_opaque X₂ T.third) (l₀ := .ref C :: bm) ((looks_clsIn X₂ hcl).andThen .now) rfl X₂ al (I₂.type.andThen (looks_subIn X₂ T.veC)) (ks_ne X₂ I₂ hcl) (by decide) ?_
  have k₃ : ∀ b o, h₂.get? b = some o → (h₂.push (kxs_mw "ValueError.__init__" x)).get? b = some o := fun b o e => Heap.get?_push_of_some _ e
  have hu : (h₂.push (kxs_mw "ValueError.__init__" x)).get? h₂.objs.size = some (kxs_mw "ValueError.__init__" x) := Heap.get?_push_at rfl rfl
  refine kxs_callWith (i := "ValueError.__init__") (x := x) rfl (evalArgs_plain ?_)
  refine Calls.spliced_cons ?_
  show wpAny _ _ (eval (.Constant (.str msg) j q3) _) _ _ _
  refine Calls.Constant_str ?_
  refine Calls.spliced_nil ⟨hu, ?_⟩
  refine call_mw (k₃ _ _ (X₂ _ _ hC)) (k₃ _ _ hx₂) hu (one_size _) (fun h₄ t1 k₄ hx₄ => ?_)
  have kk : ∀ b o, b ≠ x → hh.get? b = some o → h₄.get? b = some o := fun b o nb e => k₄ b o nb (k₃ _ _ (k₂ _ _ (k _ _ e)))
  have X₄ : K.In h₄ := fun a o e => kk a o (fun z => by rw [z, hnx] at e; cases e) (X a o e)
  have nx : hh.objs.size ≠ x := fun z => by
    have := Heap.lt_size hx
    rw [← z] at this
    exact absurd this (Nat.lt_irrefl _)
  have ns₄ : h₄.Ns hh.objs.size (fun y => List.lookup y [(("self" : Str), Value.ref x), ("value", v)].reverse) :=
    hns.at fun o e => k₄ _ _ nx (k₃ _ _ (k₂ _ _ e))
  -- self.value = value
  refine ks_wpAt_execs_cons (wpAt_of_wpAny (plainObj_wpAny_Assign_Attribute ?_))
  refine wpAny_Name (wpAny_loadName_local (v := v) rfl rfl ns₄ rfl ?_) (by decide)
  refine wpAny_Name (wpAny_loadName_local (v := .ref x) rfl rfl ns₄ rfl ?_) (by decide)
  refine set_plain X₄ (ox := excO C t1) (od := none) ⟨hx₄, rfl, rfl, trivial⟩ T.sa ?_
  refine exc_osa X₄ hx₄ hcl (show refsVE (.ref C :: bm) = true from hbm) rfl T.noV (fun h₅ tk₅ dx k₅ dn dne hx₅ hn₅ => ?_)
  have big : hh.objs.size ≤ dx := by
    have l1 : hh.objs.size < h₁.objs.size := hns.lt
    have l2 : h₁.objs.size < h₂.objs.size := Heap.lt_size e₂
    have nu : h₂.objs.size ≠ x := Nat.ne_of_gt (Heap.lt_size hx₂)
    have l4 : h₂.objs.size < h₄.objs.size := Heap.lt_size (k₄ _ _ nu hu)
    have l5 : h₄.objs.size ≤ dx := dn
    exact Nat.le_trans (Nat.le_of_lt (Nat.lt_trans l1 (Nat.lt_trans l2 l4))) l5
  refine wpAt_of_wpAny (wpAny_execs_nil ?_)
  exact hq h₅ tk₅ dx t1 ⟨fun b o nb e => k₅ b o nb (kk b o nb e), hx₅, big, dne, hn₅⟩
end
end SqX
set_option Elab.async false
set_option linter.all false
set_option maxRecDepth 100000
set_option maxHeartbeats 2000000
namespace SqX
open PySem PySem.W PySem.Calls PyProof.Rows PySem.HandSPX
/-- a new error at e, its dict at d -/
structure New (h h' : Heap) (e C d t1 : Addr) (v : Value) : Prop where
  keep : ∀ b o, h.get? b = some o → h'.get? b = some o
  big : h.objs.size ≤ e
  obj : h'.get? e = some { cls := .ref C, dict := some d, data := .fields #[.ref t1, .none, .none, .none, .bool false, .none] }
  dbig : h.objs.size ≤ d
  dne : d ≠ e
  ns : h'.Ns1 d (fun y => if y = "value" then some v else none)
section
variable {prog : Program} {w : World} {A : Around} {E : Value → Shared → Prop} {R : Result → Shared → Prop} {K : Frag} {mg mb : Str → Option Value} {C fI : Addr} {q : Str}
theorem bind2 {s : Shared} {q : Str} {x v : Value} : ∀ fd : FuncData, (∃ p1 p2 bd doc pm an cda ct cc, fd = ksFn "__init__" q (xA p1 p2) bd xS .none .none doc pm an (.ref cda) ct cc) → BindsTo s fd ⟨[x, v], []⟩ [("self", x), ("value", v)] := by
  rintro fd ⟨p1, p2, bd, doc, pm, an, cda, ct, cc, rfl⟩
  exact BindsTo.of_eq (by first | rfl | with_unfolding_all rfl)
theorem made {s : Shared} (T : Er K prog C fI q) {v : Value} (X : K.In s.heap) (hg : s.heap.Ns mainGlobals mg) (hlim : s.heap.NoLimit) (hb : s.heap.Ns builtinsNs mb) (boot : ∀ y : Str, y ≠ "__name__" → mb y = bootBuiltins y)
    (hroom : A.depth + 1 < recursionLimit)
    (fin : ∀ h' tk e d t1, New s.heap h' e C d t1 v → R (.ok (.ret (.ref e))) { s with heap := h', toks := tk }) :
    codeAny (model prog w) A (.call (.ref C) ⟨[v], []⟩) R s := by
  obtain ⟨nm, qn, N, bs, bm, sn, sub, ab, col, dd, k0, k1, k2, k3, k5, hC, hbm⟩ := T.cls
  obtain ⟨hp, g, dr, tk, os⟩ := s
  have k : ∀ b o, hp.get? b = some o → ((hp.push (kdv_tup [v])).push (excO C hp.objs.size)).get? b = some o := fun b o e => Heap.get?_push_of_some _ (Heap.get?_push_of_some _ e)
  have atE : ((hp.push (kdv_tup [v])).push (excO C hp.objs.size)).get? (hp.objs.size + 1) = some (excO C hp.objs.size) := by heap_get
  have off : K.lookup (hp.objs.size + 1) = none := by
    cases e : K.lookup (hp.objs.size + 1) with
    | none => rfl
    | some o => exact absurd (Nat.lt_of_succ_lt (Heap.lt_size (X _ _ e))) (Nat.lt_irrefl _)
  refine call_own F.excBase_ValueError (fun Y => refsVE_contains Y bm hbm) (X _ _ hC) (looks_findIn X T.iC) (fun self => bind_fn X self T.tC) (one_size v) ?_
  refine init (s := ⟨(hp.push (kdv_tup [v])).push (excO C hp.objs.size), g, dr, tk, os⟩) T (X.keeps k) (hg.keeps k) (hlim.keeps k) (hb.keeps k) boot atE off (show A.depth + 1 < recursionLimit from hroom) bind2 ?_
  rintro h' tk' dx t1 ⟨kp, ob, dn, dne, ns⟩
  have old : ∀ b o, hp.get? b = some o → h'.get? b = some o := fun b o e => kp b o (Nat.ne_of_lt (Nat.lt_succ_of_lt (Heap.lt_size e))) (k b o e)
  have z : hp.objs.size + 1 + 1 ≤ dx := by
    first
      | (simpa only [Heap.size_push] using dn)
      | exact dn
      | (have y := dn; rw [Heap.size_push, Heap.size_push] at y; exact y)
  exact ⟨rfl, fin h' tk' (hp.objs.size + 1) dx t1 ⟨old, Nat.le_succ _, ob, Nat.le_trans (Nat.le_trans (Nat.le_succ _) (Nat.le_succ _)) z, dne, ns⟩⟩
end
end SqX
set_option Elab.async false
set_option linter.all false
set_option maxRecDepth 100000
set_option maxHeartbeats 4000000
set_option Elab.async false
set_option linter.all false
set_option maxRecDepth 100000
set_option maxHeartbeats 2000000
namespace Sq
open PySem PySem.Spec PyProof.Rows L2
/-- an error of the class at C stands at a, its dict at d; it holds v -/
def ErrAt (H : Hp) (a d C : Addr) (v : V) : Prop := H a = some (exo a C (some d)) ∧ H d = some (exd d [(("value" : Str), v)])
theorem ErrAt.same {H H' : Hp} {a d C : Addr} {v : V} (s : Same H H') (e : ErrAt H a d C v) : ErrAt H' a d C v := ⟨s _ _ e.1, s _ _ e.2⟩
end Sq
set_option Elab.async false
set_option linter.all false
set_option maxRecDepth 100000
set_option maxHeartbeats 2000000
set_option Elab.async false
set_option linter.all false
set_option maxRecDepth 100000
set_option maxHeartbeats 2000000
namespace Sq
open PySem PySem.Spec PyProof.Rows L2
/-- an error that was raised: its class and its dict are known -/
def exq (a C : Addr) (d : Option Addr) : HO := .ext fun h => ∃ (oe : Obj) (vs : Array Value), h.get? a = some oe ∧ Zc (.ref C) d oe ∧ oe.data = .fields vs
end Sq
set_option Elab.async false
set_option linter.all false
set_option maxRecDepth 100000
set_option maxHeartbeats 4000000
namespace Sq
open PySem PySem.Spec PyProof.Rows L2
/-- an error of the class at C was caught at a, its dict at d; it holds v -/
def CaughtAt (H : Hp) (a d C : Addr) (v : V) : Prop := H a = some (exq a C (some d)) ∧ H d = some (exd d [(("value" : Str), v)])
theorem CaughtAt.same {H H' : Hp} {a d C : Addr} {v : V} (s : Same H H') (e : CaughtAt H a d C v) : CaughtAt H' a d C v := ⟨s _ _ e.1, s _ _ e.2⟩
end Sq
set_option Elab.async false
set_option linter.all false
set_option maxRecDepth 100000
set_option maxHeartbeats 2000000
namespace Sq
open PySem PySem.Spec PyProof.Rows L2 GenW
def Y1 (P : Program) (w : World) (outer : List Env) (H : Hp) (s : Shared) (a : Addr) (g : Nat) (q : V → Hp → Prop) : Protocol := fun _ _ v s1 _ =>
  s1.os = s.os ∧ AllBare s1.gens ∧ s1.heap.IsGen a g ∧ ∃ x H', Un (frs outer) [] H H' s.heap s1.heap ∧ HOk P w H' s1.heap ∧ RelV x v ∧ q x H'
end Sq
set_option Elab.async false
set_option linter.all false
set_option maxRecDepth 100000
set_option maxHeartbeats 2000000
namespace Sq
open PySem PySem.Spec PyProof.Rows L2
structure Dx (P : Program) (w : World) (K : PySem.W.Frag) (mg : Str → Option Value) (base : Heap) (k : Nat) (x : Str) (ps : List Str) (sp : Sp) : Prop where
  ex : ∃ f fd, FnOk P w K mg base (L2.CX P w) k f fd ps sp ∧ mg x = some (.ref f) ∧ PySem.W.keepIn K (.ref f) = true ∧ Binds K fd ps []
theorem Dx.mk' {P : Program} {w : World} {K : PySem.W.Frag} {mg : Str → Option Value} {base : Heap} {k : Nat} {x : Str} {st : Stmt} {ps : List Str} {sp : Sp} {f : Addr} {fd : FuncData} (F : Fun K x x st f fd) (G : FnOk P w K mg base (L2.CX P w) k f fd ps sp) (g : mg x = some (.ref f)) (b : Binds K fd ps []) : Dx P w K mg base k x ps sp :=
  ⟨⟨f, fd, G, g, F.kp, b⟩⟩
end Sq
set_option Elab.async false
set_option linter.all false
set_option maxRecDepth 100000
set_option maxHeartbeats 4000000
namespace Sq
open PySem PySem.Spec PyProof.Rows L2 HotX L2H
/-- wherever the context's invariant holds an error is handled whose context is None -/
def HotW (X : Cx) : Prop := ∀ (pins : List (Addr × Obj)) (σ : L2.St) (H : Hp) (s : Shared), Inv X pins σ H s → ∃ x1, HotAt X.A x1 s.heap
theorem HotC.w {X : Cx} (c : HotC X) : HotW X := fun _ _ _ _ I => c.at I
end Sq
set_option Elab.async false
set_option linter.all false
set_option maxRecDepth 100000
set_option maxHeartbeats 4000000
namespace Sq
open PySem PySem.Spec PyProof.Rows L2 HotX L2H
/-- what a def promises there: e the handled error, its class, its dict -/
abbrev SpZ := Addr → Value → Option Addr → Sp
structure FnHZ (P : Program) (w : World) (K : PySem.W.Frag) (mg : Str → Option Value) (base : Heap) (CX : CXT) (k : Nat) (f : Addr) (fd : FuncData) (ps : List Str) (sp : SpZ) : Prop where
  len : ∀ a c d vs H Q E, sp a c d vs H Q E → vs.length = ps.length
  run : ∀ (A : Around) (outer : List Env) (s : Shared) (H : Hp) (args : Args) (us : List Value) (vs : List V) (Q : VK) (E : XK) (p : Addr × Obj) (cls : Value) (d : Option Addr), RoomH k A → Hot1 A p → L2N.Zn cls d p.2 → PinOk outer H s p → Env0 P w K mg base A outer s H → BindsTo s fd args (ps.zip us) → Vals vs us → sp p.1 cls d vs H Q E →
    codeAny (model P w) A (.call (.ref f) args) (CR CX outer P w H s Q E) s
/-- it stands at its name -/
structure Dz (P : Program) (w : World) (K : PySem.W.Frag) (mg : Str → Option Value) (base : Heap) (k : Nat) (x : Str) (ps : List Str) (sp : SpZ) : Prop where
  ex : ∃ f fd, FnHZ P w K mg base CX0 k f fd ps sp ∧ mg x = some (.ref f) ∧ PySem.W.keepIn K (.ref f) = true ∧ Binds K fd ps []
end Sq
set_option Elab.async false
set_option linter.all false
set_option maxRecDepth 100000
set_option maxHeartbeats 4000000
namespace Sq
open PySem PySem.Spec PyProof.Rows L2
structure Dn (P : Program) (w : World) (K : PySem.W.Frag) (mg : Str → Option Value) (base : Heap) (k : Nat) (x : Str) (ps : List Str) (sp : Sp) : Prop where
  ex : ∃ f fd, FnOk P w K mg base (L2N.CX P w) k f fd ps sp ∧ mg x = some (.ref f) ∧ PySem.W.keepIn K (.ref f) = true ∧ Binds K fd ps []
theorem Dn.mk' {P : Program} {w : World} {K : PySem.W.Frag} {mg : Str → Option Value} {base : Heap} {k : Nat} {x : Str} {st : Stmt} {ps : List Str} {sp : Sp} {f : Addr} {fd : FuncData} (F : Fun K x x st f fd) (G : FnOk P w K mg base (L2N.CX P w) k f fd ps sp) (g : mg x = some (.ref f)) (b : Binds K fd ps []) : Dn P w K mg base k x ps sp :=
  ⟨⟨f, fd, G, g, F.kp, b⟩⟩
theorem Dz.mk' {P : Program} {w : World} {K : PySem.W.Frag} {mg : Str → Option Value} {base : Heap} {k : Nat} {x : Str} {st : Stmt} {ps : List Str} {sp : SpZ} {f : Addr} {fd : FuncData} (F : Fun K x x st f fd) (G : FnHZ P w K mg base CX0 k f fd ps sp) (g : mg x = some (.ref f)) (b : Binds K fd ps []) : Dz P w K mg base k x ps sp :=
  ⟨⟨f, fd, G, g, F.kp, b⟩⟩
end Sq
set_option Elab.async false
set_option linter.all false
set_option maxRecDepth 100000
set_option maxHeartbeats 2000000
namespace Sq
open PySem PySem.Spec PyProof.Rows L2
theorem same_new {H : Hp} {p : Addr} {o : HO} (h : H p = none) : Same H (upd H p o) := fun b x e => by
  rw [upd_ne (ne_of_none e h)]
  exact e
theorem map_at {ks : List Int} {i : Nat} {x : V} (h : (ks.map V.int)[i]? = some x) : ∃ k, ks[i]? = some k ∧ V.int k = x := by
  rw [List.getElem?_map] at h
  exact Option.map_eq_some_iff.mp h
section
variable {K : PySem.W.Frag}
theorem dp_ints {H : Hp} : ∀ (ds : List Int), DpAll K H (ds.map V.int) (ds.map PyData.int)
  | [] => .nil
  | d :: ds => .cons (.int d) (dp_ints ds)
theorem lays_ints : ∀ (ds : List Int), PyData.canLayAll0 (ds.map PyData.int) = true
  | [] => rfl
  | d :: ds => by
    show (PyData.canLay0 (.int d) && PyData.canLayAll0 (ds.map PyData.int)) = true
    rw [lays_ints ds]
    rfl
theorem deep_ints : ∀ (ds : List Int), PyData.depthAll (ds.map PyData.int) ≤ 1
  | [] => Nat.zero_le _
  | _ :: ds => Nat.max_le.mpr ⟨Nat.zero_le _, deep_ints ds⟩
end
mutual
def il : PyData → Bool
  | .int _ => true
  | .list xs => decide (xs.length ≤ 1000) && ilAll xs
  | _ => false
def ilAll : List PyData → Bool
  | [] => true
  | x :: xs => il x && ilAll xs
end
mutual
theorem Dp.same {K : PySem.W.Frag} {H H' : Hp} (s : Same H H') : ∀ {d : PyData} {x : V}, Dp K H x d → Dp K H' x d
  | .none, _, .non => .non
  | .bool b, _, .bl _ => .bl b
  | .int i, _, .int _ => .int i
  | .str x, _, .str _ => .str x
  | .list ds, _, .lst h a => .lst (s.seq h) (DpAll.same s a)
  | .tuple ds, _, .tup h a => .tup (by
      rcases h with (h | ⟨o, h⟩) | h
      · exact .inl (.inl (s _ _ h))
      · exact .inl (.inr ⟨o, s _ _ h⟩)
      · exact .inr h) (DpAll.same s a)
theorem DpAll.same {K : PySem.W.Frag} {H H' : Hp} (s : Same H H') : ∀ {ds : List PyData} {xs : List V}, DpAll K H xs ds → DpAll K H' xs ds
  | [], _, .nil => .nil
  | _ :: _, _, .cons h t => .cons (Dp.same s h) (DpAll.same s t)
end
theorem heavy_ints : ∀ (ks : List Int), (∀ k ∈ ks, k.natAbs < 10 ^ 12) → PyData.weightAll (ks.map PyData.int) ≤ 64 * ks.length
  | [], _ => Nat.le_refl _
  | k :: ks, h => by
    have ih := heavy_ints ks fun x hx => h x (List.mem_cons_of_mem _ hx)
    have hk := h k (List.mem_cons_self ..)
    have w1 : PyData.weight (.int k) ≤ 41 := by
      show (if k == 0 then 0 else k.natAbs.log2 + 1) ≤ 41
      split
      · omega
      · have : k.natAbs.log2 < 40 := PySem.Flt.log2_lt_of (by decide) (Nat.lt_of_lt_of_le hk (by decide))
        omega
    show PyData.weight (.int k) + 1 + PyData.weightAll (ks.map PyData.int) ≤ 64 * (ks.length + 1)
    omega
theorem shows_ints : ∀ (ks : List Int), (∀ k ∈ ks, k.natAbs < 10 ^ 12) → PyData.showableAll (ks.map PyData.int) = true
  | [], _ => rfl
  | k :: ks, h => by
    have ih := shows_ints ks fun x hx => h x (List.mem_cons_of_mem _ hx)
    have hk := h k (List.mem_cons_self ..)
    have : k.natAbs.log2 < 40 := PySem.Flt.log2_lt_of (by decide) (Nat.lt_of_lt_of_le hk (by decide))
    show (decide (k.natAbs.log2 < 1920) && PyData.showableAll (ks.map PyData.int)) = true
    rw [ih, decide_eq_true (by omega)]
    rfl
theorem nodict_ints : ∀ (ks : List Int), PyData.hasDictAll (ks.map PyData.int) = false
  | [] => rfl
  | _ :: ks => nodict_ints ks
theorem shaped_il {d : PyData} (h : d.canLay0 = true) (h2 : d.depth ≤ 64) : SeqAt.shaped d = true := Bool.and_eq_true_iff.mpr ⟨h, decide_eq_true h2⟩
end Sq
namespace Sq
open PySem PySem.Spec PyProof.Rows L2
structure Shown (K : PySem.W.Frag) (H : Hp) (x : V) (d : PyData) : Prop where
  dp : Dp K H x d
  sh : d.showable = true
  nd : d.hasDict = false
  dep : d.depth ≤ 40
  fit : d.shown.length ≤ sizeLine
theorem Shown.same {K : PySem.W.Frag} {H H' : Hp} {x : V} {d : PyData} (S : Shown K H x d) (s : Same H H') : Shown K H' x d := ⟨Dp.same s S.dp, S.sh, S.nd, S.dep, S.fit⟩
theorem fits40 {d : PyData} (h : d.leavesShort 40 = true) (hw : d.weight ≤ 100000) : d.shown.length ≤ sizeLine := by
  have e := PyData.shown_le 40 (by decide) d h
  rw [sizeLine_eq]
  omega
def CPowW (i j : Int) : Prop := 0 ≤ j ∧ (Builtin.Int.intBits i : Int) * j ≤ 2 ^ 27
theorem op_powW {X : Cx} : OpR X (binaryOp .Pow) (rI CPowW fun i j => .int (i ^ j.toNat)) := opI fun _ _ _ _ _ _ _ hc q => pow_int hc.1 hc.2 q
theorem powW_of {i j : Int} {m : Nat} (h0 : 0 ≤ j) (hi : i.natAbs < 2 ^ m) (hm : 0 < m) (hj : (m : Int) * j ≤ 2 ^ 27) : CPowW i j := by
  refine ⟨h0, Int.le_trans (Int.mul_le_mul_of_nonneg_right ?_ h0) hj⟩
  unfold Builtin.Int.intBits
  split
  · omega
  · have := PySem.Flt.log2_lt_of hm hi
    omega
end Sq
namespace Sq
open PySem PySem.Spec PyProof.Rows L2
def rMulS : R2 := fun x y H Q => ∃ a n, x = .str a ∧ y = .int n ∧ _root_.PySem.MulOk a n ∧ Q (.str (_root_.PySem.Txt.mul a n)) H
theorem op_mulS {X : Cx} : OpR X (binaryOp .Mult) rMulS := by
  intro pins s σ H x y v u Q I rx ry h
  obtain ⟨a, n, rfl, rfl, hok, q⟩ := h
  obtain ⟨t, rfl⟩ := rx
  obtain ⟨t', rfl⟩ := ry
  exact SB.mul hok fun t2 k => ⟨.str _, H, I.tok k, ⟨_, rfl⟩, q⟩
end Sq
set_option Elab.async false
set_option linter.all false
namespace Sq
def once (n k : Int) : Int := n / k + n % k
def sq (n : Int) (ks : List Int) : Int := ks.foldl once n
def rw1 (k R : Int) : Int := if k > R + 1 then R else (R + 3 - k) * k - 2
theorem once_nonneg {k n : Int} (hk : 2 ≤ k) (h0 : 0 ≤ n) : 0 ≤ once n k := by
  unfold once
  have h1 := Int.ediv_nonneg h0 (by omega : 0 ≤ k)
  have h2 := Int.emod_nonneg n (by omega : k ≠ 0)
  omega
theorem sq_concat (n : Int) (ks : List Int) (k : Int) : sq n (ks ++ [k]) = once (sq n ks) k := by
  unfold sq
  rw [List.foldl_append]
  rfl
end Sq
set_option Elab.async false
set_option linter.all false
set_option maxRecDepth 100000
set_option maxHeartbeats 2000000
namespace Sq
open PySem PySem.Spec PyProof.Rows L2
structure Bi (mg : Str → Option Value) : Prop where
  n_len : mg "len" = none
  n_min : mg "min" = none
  n_max : mg "max" = none
  n_abs : mg "abs" = none
  n_range : mg "range" = none
  n_isinstance : mg "isinstance" = none
  n_repr : mg "repr" = none
  n_enumerate : mg "enumerate" = none
  n_reversed : mg "reversed" = none
  n_sorted : mg "sorted" = none
  n_bool : mg "bool" = none
  n_int : mg "int" = none
  n_str : mg "str" = none
  n_list : mg "list" = none
  n_tuple : mg "tuple" = none
  n_set : mg "set" = none
  n_sum : mg "sum" = none
  n_zip : mg "zip" = none
  n_all : mg "all" = none
  n_any : mg "any" = none
  n_ValueError : mg "ValueError" = none
  n_divmod : mg "divmod" = none
/-- the first number less than 2 -/
def lowAt : List Int → Option Nat
  | [] => none
  | k :: ks => if k < 2 then some 0 else (lowAt ks).map (· + 1)
theorem lowAt_take : ∀ (ks : List Int) (i : Nat), (∀ k ∈ ks.take i, 2 ≤ k) → (∀ k, ks[i]? = some k → k < 2 → lowAt ks = some i) ∧ (ks.length ≤ i → lowAt ks = none)
  | [], i, _ => ⟨fun k e => by simp at e, fun _ => rfl⟩
  | k :: ks, 0, _ => ⟨fun x e c => by
      cases e
      show (if k < 2 then some 0 else (lowAt ks).map (· + 1)) = some 0
      rw [if_pos c], fun z => by simp at z⟩
  | k :: ks, i + 1, h => by
    have hk := h k (by simp)
    obtain ⟨a, b⟩ := lowAt_take ks i fun x hx => h x (by simp [hx])
    refine ⟨fun x e c => ?_, fun z => ?_⟩
    · show (if k < 2 then some 0 else (lowAt ks).map (· + 1)) = some (i + 1)
      rw [if_neg (by omega), a x e c]
      rfl
    · show (if k < 2 then some 0 else (lowAt ks).map (· + 1)) = none
      rw [if_neg (by omega), b (by simpa using z)]
      rfl
structure Gd (n : Nat) (d : PyData) : Prop where
  sh : d.showable = true
  nd : d.hasDict = false
  dep : d.depth ≤ 4
  lf : d.leavesShort 40 = true
  wt : d.weight ≤ n
structure GdA (n : Nat) (ds : List PyData) : Prop where
  sh : PyData.showableAll ds = true
  nd : PyData.hasDictAll ds = false
  dep : PyData.depthAll ds ≤ 3
  lf : PyData.leavesShortAll 40 ds = true
  wt : PyData.weightAll ds ≤ n
theorem GdA.nil : GdA 0 [] := ⟨rfl, rfl, Nat.zero_le _, rfl, Nat.le_refl _⟩
theorem GdA.cons {n m : Nat} {d : PyData} {ds : List PyData} (h : Gd n d) (dp : d.depth ≤ 3) (t : GdA m ds) : GdA (n + 1 + m) (d :: ds) := by
  refine ⟨?_, ?_, Nat.max_le.mpr ⟨dp, t.dep⟩, ?_, ?_⟩
  · show (d.showable && PyData.showableAll ds) = true
    rw [h.sh, t.sh]; rfl
  · show (d.hasDict || PyData.hasDictAll ds) = false
    rw [h.nd, t.nd]; rfl
  · show (d.leavesShort 40 && PyData.leavesShortAll 40 ds) = true
    rw [h.lf, t.lf]; rfl
  · have a := h.wt
    have b := t.wt
    show d.weight + 1 + PyData.weightAll ds ≤ n + 1 + m
    omega
theorem GdA.list {n : Nat} {ds : List PyData} (t : GdA n ds) : Gd n (.list ds) := ⟨t.sh, t.nd, Nat.add_le_add_right t.dep 1, t.lf, t.wt⟩
theorem Gd.shown {n : Nat} {K : PySem.W.Frag} {H : Hp} {x : V} {d : PyData} (h : Gd n d) (l : n ≤ 100000) (dp : Dp K H x d) : Shown K H x d :=
  ⟨dp, h.sh, h.nd, Nat.le_trans h.dep (by decide), fits40 h.lf (Nat.le_trans h.wt l)⟩
/-- the heap without one cell -/
def wo (H : Hp) (D : Addr) : Hp := fun b => if b = D then none else H b
theorem wo_upd {H : Hp} {D : Addr} {o : HO} : wo (upd H D o) D = wo H D := by
  funext b
  unfold wo
  by_cases h : b = D
  · rw [if_pos h, if_pos h]
  · rw [if_neg h, if_neg h, upd_ne h]
theorem wo_ne {H : Hp} {D b : Addr} (h : b ≠ D) : wo H D b = H b := by
  unfold wo
  rw [if_neg h]
theorem wo_same {H : Hp} {D : Addr} : Same (wo H D) H := fun b o e => by
  unfold wo at e
  by_cases h : b = D
  · rw [if_pos h] at e; cases e
  · rw [if_neg h] at e; exact e
theorem same_wo {G H : Hp} {D : Addr} (s : Same G H) (h : G D = none) : Same G (wo H D) := fun b o e => by
  rw [wo_ne (fun z => by subst z; rw [h] at e; cases e)]
  exact s b o e
theorem wo_self {H : Hp} {D : Addr} : wo H D D = none := by
  unfold wo
  rw [if_pos rfl]
end Sq
set_option Elab.async false
set_option linter.all false
set_option maxHeartbeats 1000000
set_option Elab.async false
set_option linter.all false
set_option maxRecDepth 100000
set_option maxHeartbeats 1000000
namespace Sq
open PySem PySem.Spec PyProof.Rows L2 TL
open NumText (digitsVal AllDigits)
theorem all_tl (x : Str) (f : Nat → Bool) : x.cps.all f = (tl x).all f := by
  show x.cps.all f = x.cps.toList.all f
  rw [Array.all_toList]
end Sq
set_option Elab.async false
set_option linter.all false
set_option maxRecDepth 100000
set_option maxHeartbeats 1000000
namespace Sq
open PySem PySem.Spec PyProof.Rows L2 TL
open NumText (digitsVal AllDigits)
def outL (ps : List (Nat × Nat)) : List Int := (ps.map fun p => List.replicate p.2 (p.1 : Int)).flatten
/-- neighbours differ -/
def Alt : Option Int → List (Nat × Nat) → Prop
  | _, [] => True
  | o, p :: r => o ≠ some (p.1 : Int) ∧ Alt (some (p.1 : Int)) r
theorem last_rep {F : List Int} {k : Nat} {x : Int} (h : 1 ≤ k) : (F ++ List.replicate k x).getLast? = some x := by
  obtain ⟨m, rfl⟩ : ∃ m, k = m + 1 := ⟨k - 1, by omega⟩
  rw [List.replicate_succ', ← List.append_assoc, List.getLast?_concat]
end Sq
set_option Elab.async false
set_option linter.all false
set_option maxRecDepth 100000
set_option maxHeartbeats 1000000
namespace Sq
open PySem PySem.Spec PyProof.Rows L2 TL
open NumText (digitsVal AllDigits)
/-- the number of the last group -/
def lastN (o : Option Int) (ps : List (Nat × Nat)) : Option Int := match ps.getLast? with
  | some p => some (p.1 : Int)
  | none => o
theorem lastN_snoc (o : Option Int) (ps : List (Nat × Nat)) (p : Nat × Nat) : lastN o (ps ++ [p]) = some (p.1 : Int) := by
  unfold lastN
  rw [List.getLast?_concat]
theorem lastN_cons (o : Option Int) (p : Nat × Nat) (ps : List (Nat × Nat)) : lastN o (p :: ps) = lastN (some (p.1 : Int)) ps := by
  unfold lastN
  cases ps with
  | nil => rfl
  | cons q r => rw [List.getLast?_cons_cons]; cases h : (q :: r).getLast? with
    | some z => rfl
    | none => simp at h
theorem alt_snoc : ∀ (ps : List (Nat × Nat)) (o : Option Int) (p : Nat × Nat), Alt o (ps ++ [p]) ↔ Alt o ps ∧ lastN o ps ≠ some (p.1 : Int)
  | [], o, p => ⟨fun h => ⟨trivial, h.1⟩, fun h => ⟨h.2, trivial⟩⟩
  | q :: r, o, p => by
    rw [lastN_cons]
    show (o ≠ some (q.1 : Int) ∧ Alt (some (q.1 : Int)) (r ++ [p])) ↔ (o ≠ some (q.1 : Int) ∧ Alt (some (q.1 : Int)) r) ∧ _
    rw [alt_snoc r]
    exact ⟨fun h => ⟨⟨h.1, h.2.1⟩, h.2.2⟩, fun h => ⟨h.1.1, h.1.2, h.2⟩⟩
/-- ks by its groups of equal neighbours -/
structure Grp (ks : List Int) (ps : List (Nat × Nat)) : Prop where
  alt : Alt none ps
  one : ∀ p ∈ ps, 1 ≤ p.2
  out : outL ps = ks
theorem outL_cons (p : Nat × Nat) (ps : List (Nat × Nat)) : outL (p :: ps) = List.replicate p.2 (p.1 : Int) ++ outL ps := rfl
theorem outL_snoc (ps : List (Nat × Nat)) (p : Nat × Nat) : outL (ps ++ [p]) = outL ps ++ List.replicate p.2 (p.1 : Int) := by
  unfold outL
  rw [List.map_append, List.flatten_append]
  simp
theorem Grp.nil : Grp [] [] := ⟨trivial, fun p h => (nomatch h), rfl⟩
/-- one more number, another one -/
theorem Grp.new {ks : List Int} {ps : List (Nat × Nat)} {k : Nat} (g : Grp ks ps) (h : lastN none ps ≠ some (k : Int)) : Grp (ks ++ [(k : Int)]) (ps ++ [(k, 1)]) := by
  refine ⟨(alt_snoc _ _ _).mpr ⟨g.alt, h⟩, fun p hp => ?_, ?_⟩
  · rcases List.mem_append.mp hp with z | z
    · exact g.one p z
    · rw [List.mem_singleton.mp z]
      exact Nat.le_refl _
  · rw [outL_snoc, g.out]
    rfl
theorem outL_head {p : Nat × Nat} {ps : List (Nat × Nat)} (h : 1 ≤ p.2) : ∃ r, outL (p :: ps) = (p.1 : Int) :: r := by
  rw [outL_cons]
  obtain ⟨m, e⟩ : ∃ m, p.2 = m + 1 := ⟨p.2 - 1, by omega⟩
  rw [e, List.replicate_succ]
  exact ⟨_, rfl⟩
theorem outL_eq_nil {ps : List (Nat × Nat)} (h : ∀ p ∈ ps, 1 ≤ p.2) (e : outL ps = []) : ps = [] := by
  cases ps with
  | nil => rfl
  | cons p r =>
    obtain ⟨s, z⟩ := outL_head (ps := r) (h p List.mem_cons_self)
    rw [z] at e
    cases e
theorem rep_cut {x : Int} {A B : List Int} : ∀ (m n : Nat), m ≤ n → List.replicate m x ++ A = List.replicate n x ++ B → A = List.replicate (n - m) x ++ B
  | 0, n, _, h => h
  | m + 1, 0, l, _ => absurd l (by omega)
  | m + 1, n + 1, l, h => by
    rw [List.replicate_succ, List.replicate_succ, List.cons_append, List.cons_append] at h
    rw [rep_cut m n (by omega) (List.cons.inj h).2, Nat.add_sub_add_right]
theorem alt_ne_head {k : Nat} {ps : List (Nat × Nat)} {B : List Int} {d : Nat} (a : Alt (some (k : Int)) ps) (o : ∀ p ∈ ps, 1 ≤ p.2) (hd : 0 < d) : outL ps ≠ List.replicate d (k : Int) ++ B := fun e => by
  obtain ⟨m, rfl⟩ : ∃ m, d = m + 1 := ⟨d - 1, by omega⟩
  rw [List.replicate_succ] at e
  cases ps with
  | nil => cases e
  | cons p r =>
    obtain ⟨s, z⟩ := outL_head (ps := r) (o p List.mem_cons_self)
    rw [z] at e
    have h := (List.cons.inj e).1
    exact a.1 (by rw [h])
theorem grp_one : ∀ (ps qs : List (Nat × Nat)) (o o' : Option Int), Alt o ps → Alt o' qs → (∀ p ∈ ps, 1 ≤ p.2) → (∀ p ∈ qs, 1 ≤ p.2) → outL ps = outL qs → ps = qs
  | [], qs, _, _, _, _, _, h2, e => (outL_eq_nil h2 e.symm).symm
  | p :: r, [], _, _, _, _, h1, _, e => outL_eq_nil h1 e
  | (k, m) :: r, (l, n) :: s, o, o', a1, a2, h1, h2, e => by
    have m1 : 1 ≤ m := h1 (k, m) List.mem_cons_self
    have n1 : 1 ≤ n := h2 (l, n) List.mem_cons_self
    have kl : (k : Int) = (l : Int) := by
      obtain ⟨x, e1⟩ := outL_head (p := (k, m)) (ps := r) m1
      obtain ⟨y, e2⟩ := outL_head (p := (l, n)) (ps := s) n1
      rw [e1, e2] at e
      exact (List.cons.inj e).1
    have kl' : k = l := Int.ofNat.inj kl
    subst kl'
    have e' : List.replicate m (k : Int) ++ outL r = List.replicate n (k : Int) ++ outL s := e
    have mn : m = n := by
      by_cases c : m < n
      · exact absurd (rep_cut m n (by omega) e') (alt_ne_head a1.2 (fun p hp => h1 p (List.mem_cons_of_mem _ hp)) (by omega))
      · by_cases c2 : n < m
        · exact absurd (rep_cut n m (by omega) e'.symm) (alt_ne_head a2.2 (fun p hp => h2 p (List.mem_cons_of_mem _ hp)) (by omega))
        · omega
    subst mn
    have e3 := rep_cut m m (Nat.le_refl _) e'
    rw [Nat.sub_self] at e3
    rw [grp_one r s _ _ a1.2 a2.2 (fun p hp => h1 p (List.mem_cons_of_mem _ hp)) (fun p hp => h2 p (List.mem_cons_of_mem _ hp)) e3]
theorem Grp.uniq {ks : List Int} {ps qs : List (Nat × Nat)} (a : Grp ks ps) (b : Grp ks qs) : ps = qs := grp_one ps qs none none a.alt b.alt a.one b.one (a.out.trans b.out.symm)
theorem Grp.mem {ks : List Int} {ps : List (Nat × Nat)} (g : Grp ks ps) : ∀ p ∈ ps, (p.1 : Int) ∈ ks := fun p hp => by
  rw [← g.out]
  unfold outL
  have h1 := g.one p hp
  exact List.mem_flatten.mpr ⟨_, List.mem_map.mpr ⟨p, hp, rfl⟩, List.mem_replicate.mpr ⟨by omega, rfl⟩⟩
theorem outL_len : ∀ (ps : List (Nat × Nat)), (outL ps).length = (ps.map (·.2)).sum
  | [] => rfl
  | p :: r => by
    rw [outL_cons, List.length_append, List.length_replicate, outL_len r]
    rfl
theorem sum_ge {ps : List (Nat × Nat)} : (∀ p ∈ ps, 1 ≤ p.2) → ps.length ≤ (ps.map (·.2)).sum ∧ ∀ p ∈ ps, p.2 ≤ (ps.map (·.2)).sum := by
  induction ps with
  | nil => exact fun _ => ⟨Nat.le_refl _, fun p hp => (nomatch hp)⟩
  | cons q r ih =>
    intro h
    obtain ⟨a, b⟩ := ih fun p hp => h p (List.mem_cons_of_mem _ hp)
    have h1 := h q List.mem_cons_self
    refine ⟨?_, fun p hp => ?_⟩
    · simp only [List.length_cons, List.map_cons, List.sum_cons]
      omega
    · simp only [List.map_cons, List.sum_cons]
      rcases List.mem_cons.mp hp with z | z
      · rw [z]; omega
      · have := b p z; omega
theorem Grp.len {ks : List Int} {ps : List (Nat × Nat)} (g : Grp ks ps) : ps.length ≤ ks.length ∧ ∀ p ∈ ps, p.2 ≤ ks.length := by
  rw [← g.out, outL_len]
  exact sum_ge g.one
end Sq
namespace Sq
open PySem PySem.Spec PyProof.Rows L2 TL
/-- one group's way of writing: the state of a writer that has closed the groups C and stands t signs in the next -/
structure OwnS (ks : List Int) (i : Nat) (C : List (Nat × Nat)) (t : Nat) : Prop where
  alt : Alt none C
  one : ∀ p ∈ C, 1 ≤ p.2
  nx : ∀ n, ks[i]? = some n → ks.take i = outL C ++ List.replicate t n ∧ lastN none C ≠ some n
  fin : ks[i]? = none → t = 0 ∧ outL C = ks
theorem OwnS.start (ks : List Int) : OwnS ks 0 [] 0 := ⟨trivial, fun p h => (nomatch h), fun n _ => ⟨rfl, fun z => (nomatch z)⟩, fun h => ⟨rfl, by
  cases ks with
  | nil => rfl
  | cons k r => cases h⟩⟩
theorem OwnS.same {ks : List Int} {i : Nat} {C : List (Nat × Nat)} {t : Nat} {n : Int} (h : OwnS ks i C t) (e : ks[i]? = some n) (e2 : ks[i + 1]? = some n) : OwnS ks (i + 1) C (t + 1) := by
  obtain ⟨a, b⟩ := h.nx n e
  refine ⟨h.alt, h.one, fun m hm => ?_, fun z => by rw [e2] at z; cases z⟩
  rw [e2] at hm
  cases hm
  refine ⟨?_, b⟩
  rw [List.take_add_one, e, a, List.replicate_succ', List.append_assoc]
  rfl
end Sq
set_option Elab.async false
set_option linter.all false
set_option maxRecDepth 100000
set_option maxHeartbeats 1000000
namespace Sq
open PySem PySem.Spec PyProof.Rows L2 TL
open NumText (digitsVal AllDigits)
theorem last_of {F : List Int} {ps : List (Nat × Nat)} (g : Grp F ps) : F.getLast? = lastN none ps := by
  rcases List.eq_nil_or_concat ps with e | ⟨qs, p, e⟩
  · have := g.out
    rw [e] at this ⊢
    rw [← this]
    rfl
  · rw [List.concat_eq_append] at e
    have o := g.out
    have h1 := g.one p (by rw [e]; exact List.mem_append_right _ (List.mem_singleton.mpr rfl))
    rw [e] at o ⊢
    rw [lastN_snoc, ← o, outL_snoc, last_rep h1]
theorem Grp.block {F : List Int} {ps : List (Nat × Nat)} {n k : Nat} (g : Grp F ps) (h : F.getLast? ≠ some (n : Int)) (hk : 1 ≤ k) : Grp (F ++ List.replicate k (n : Int)) (ps ++ [(n, k)]) := by
  rw [last_of g] at h
  refine ⟨(alt_snoc _ _ _).mpr ⟨g.alt, h⟩, fun p hp => ?_, ?_⟩
  · rcases List.mem_append.mp hp with z | z
    · exact g.one p z
    · rw [List.mem_singleton.mp z]
      exact hk
  · rw [outL_snoc, g.out]
def isDg (c : Nat) : Bool := decide (48 ≤ c) && decide (c ≤ 57)
/-- of the two signs that stand second and third behind a ^ none is a digit -/
def Gap (l : List Nat) : Prop := ∀ i, l[i]? = some 94 → (∀ b, l[i + 2]? = some b → isDg b = false) ∧ (∀ c, l[i + 3]? = some c → isDg c = false)
theorem Gap.cons {c : Nat} {l : List Nat} (h : Gap l) (hc : c ≠ 94) : Gap (c :: l) := fun i e => by
  cases i with
  | zero => exact absurd (Option.some.inj e) hc
  | succ i => exact h i e
theorem Gap.app : ∀ {p l : List Nat}, Gap l → 94 ∉ p → Gap (p ++ l)
  | [], l, h, _ => h
  | c :: p, l, h, hp => by
    show Gap (c :: (p ++ l))
    exact Gap.cons (Gap.app h fun z => hp (List.mem_cons_of_mem _ z)) fun z => hp (by rw [z]; exact List.mem_cons_self)
theorem Gap.nil : Gap [] := fun i e => (nomatch e)
end Sq
set_option Elab.async false
set_option linter.all false
set_option maxRecDepth 100000
set_option maxHeartbeats 1000000
set_option Elab.async false
set_option linter.all false
set_option maxRecDepth 100000
set_option maxHeartbeats 1000000
set_option Elab.async false
set_option linter.all false
set_option maxRecDepth 100000
set_option maxHeartbeats 2000000
namespace Sq
open PySem PySem.Spec PyProof.Rows L2
/-- a method of the class at C -/
structure Mt (CXf : CXT) (P : Program) (w : World) (K : PySem.W.Frag) (mg : Str → Option Value) (base : Heap) (k : Nat) (C : Addr) (m : Str) (ps : List Str) (sp : Sp) : Prop where
  ex : ∃ f fd, FnOk P w K mg base CXf k f fd ps sp ∧ Meth K C m f ∧ Binds K fd ps []
  cl : Cls K C
/-- a property -/
structure Pr (P : Program) (w : World) (K : PySem.W.Frag) (mg : Str → Option Value) (base : Heap) (k : Nat) (C : Addr) (m : Str) (sp : Sp) : Prop where
  ex : ∃ p g fd, PropOf K C m p g ∧ FnOk P w K mg base CX0 k g fd ["self"] sp ∧ Binds K fd ["self"] []
  cl : Cls K C
theorem at0 {X : Cx} : ∀ σ, PassesAt CX0 X σ ((fun _ => E0 : L2.St → XK) σ) := fun _ _ _ _ _ _ _ h => h.elim
end Sq
set_option Elab.async false
set_option linter.all false
set_option maxHeartbeats 1000000
set_option Elab.async false
set_option linter.all false
set_option maxHeartbeats 1000000
set_option Elab.async false
set_option linter.all false
set_option maxHeartbeats 1000000
set_option Elab.async false
set_option linter.all false
namespace Sq
open PySem PySem.Spec PyProof.Rows L2
theorem tellNx {t u : TS} {D : Ends} {r : VK} {b c : L2.St → Hp → Prop} {σ : L2.St} {H : Hp} (T : L2.St → Hp → Prop) (h : ∀ N : L2.St → Hp → Prop, (∀ σ2 H2, T σ2 H2 → N σ2 H2) → t { D with nx := N } σ H) (hT : ∀ σ2 H2, T σ2 H2 → u D σ2 H2) : Ends.nx { nx := tSeq t u D, rt := r, bk := b, ct := c } σ H := h (u D) hT
end Sq
set_option Elab.async false
set_option linter.all false
set_option maxHeartbeats 1000000
namespace Sq
open PySem PySem.Spec PyProof.Rows L2
/-- replacements, not too great -/
def Rpl (ks : List Int) : Prop := ∀ k ∈ ks, 2 ≤ k ∧ k < 1073741824
theorem Rpl.low {ks : List Int} (h : Rpl ks) : lowAt ks = none := (lowAt_take ks ks.length (by rw [List.take_length]; exact fun k hk => (h k hk).1)).2 (Nat.le_refl _)
theorem Rpl.two {ks : List Int} (h : Rpl ks) : ∀ k ∈ ks, 2 ≤ k := fun k hk => (h k hk).1
theorem Rpl.app {ks ls : List Int} (h : Rpl ks) (g : Rpl ls) : Rpl (ks ++ ls) := fun k hk => by
  rcases List.mem_append.mp hk with z | z
  · exact h k z
  · exact g k z
/-- a list of at most n replacements -/
def RL (H : Hp) (p : Addr) (n : Nat) : Prop := ∃ ks : List Int, H p = some (.lst (ks.map V.int)) ∧ ks.length ≤ n ∧ Rpl ks
theorem RL.same {H H' : Hp} {p : Addr} {n : Nat} (h : RL H p n) (s : Same H H') : RL H' p n := by
  obtain ⟨ks, g, l, r⟩ := h
  exact ⟨ks, s _ _ g, l, r⟩
theorem wo_mon {G H : Hp} {D : Addr} (s : Same G H) : Same (wo G D) (wo H D) := fun b o e => by
  by_cases h : b = D
  · rw [h, wo_self] at e
    cases e
  · rw [wo_ne h] at e ⊢
    exact s b o e
end Sq
set_option Elab.async false
set_option linter.all false
set_option maxRecDepth 100000
set_option maxHeartbeats 2000000
namespace Sq
open PySem PySem.Spec PyProof.Rows L2
structure FnG (P : Program) (w : World) (K : PySem.W.Frag) (mg : Str → Option Value) (base : Heap) (k : Nat) (f : Addr) (fd : FuncData) (ps : List Str) (sp : Sp) : Prop where
  count : ∀ vs H Q E, sp vs H Q E → vs.length = ps.length
  go : ∀ (A : Around) (outer : List Env) (s : Shared) (H : Hp) (ag : Args) (us : List Value) (vs : List V) (Q : VK) (E : XK), Room k A → A.guards = some [] → Env0 P w K mg base A outer s H →
    BindsTo s fd ag (ps.zip us) → Vals vs us → sp vs H Q E → codeAny (model P w) A (.call (.ref f) ag) (CR CX0 outer P w H s Q E) s
theorem okG {P : Program} {w : World} {K : PySem.W.Frag} {mg : Str → Option Value} {base : Heap} {x qual : Str} {st : Stmt} {f : Addr} {fd : FuncData} {N ps : List Str} {k : Nat} {sp : Sp}
    (F : Fun K x qual st f fd) (S : FnScope N ps (defScope st)) (count : ∀ vs H Q E, sp vs H Q E → vs.length = ps.length)
    (inner : ∀ (cdv : Value) (A : Around) (outer : List Env) (s : Shared) (H : Hp) (vs : List V) (Q : VK) (E : XK), Room k (A.deeper (envOfC qual (defScope st) s.heap.objs.size f cdv)) → A.guards = some [] → sp vs H Q E →
      ∃ t, PSs (cxOf CX0 P w K mg base N qual (defScope st) f cdv A outer s H E).nox (defBody st) t ∧ t { nx := fun _ H' => Q .non H', rt := Q } (start N vs) H) : FnG P w K mg base (k + 1) f fd ps sp := by
  refine ⟨count, fun A outer s H ag us vs Q E room quiet entry bound rel wish => ?_⟩
  obtain ⟨oc, od, kV, doc, pm, an, cdv, ct, osl, rfl, lk, hcd⟩ := F.ex
  refine fnAt lk hcd S count (fun outer' s' H' vs' Q' E' room' wish' => ?_) room entry bound rel wish
  obtain ⟨t, h, q⟩ := inner cdv A outer' s' H' vs' Q' E' room' quiet wish'
  exact ⟨t, h.nox, q⟩
structure Dgr (P : Program) (w : World) (K : PySem.W.Frag) (mg : Str → Option Value) (base : Heap) (k : Nat) (x : Str) (ps : List Str) (sp : Sp) : Prop where
  ex : ∃ f fd, FnG P w K mg base k f fd ps sp ∧ mg x = some (.ref f) ∧ PySem.W.keepIn K (.ref f) = true ∧ Binds K fd ps []
theorem Dgr.mk' {P : Program} {w : World} {K : PySem.W.Frag} {mg : Str → Option Value} {base : Heap} {k : Nat} {x : Str} {st : Stmt} {ps : List Str} {sp : Sp} {f : Addr} {fd : FuncData} (F : Fun K x x st f fd) (G : FnG P w K mg base k f fd ps sp) (g : mg x = some (.ref f)) (b : Binds K fd ps []) : Dgr P w K mg base k x ps sp :=
  ⟨⟨f, fd, G, g, F.kp, b⟩⟩
section
variable {X : Cx} {k : Nat} {ps : List Str} {sp : Sp} {x : Str} {p pos : Pos} {e : Expr} {es : List Expr} {t : TA}
theorem pe_callG (D : Dgr X.prog X.w X.K X.mg X.base k x ps sp) (room : Room k X.A) (quiet : X.A.guards = some []) (hg : Gl X x) (ha : PA X (e :: es) t) (hdb : (x == ("__debug__" : Str)) = false := by decide)
    (first : starEach (e :: es) X.env = (false, eval e X.env) :: starEach es X.env := by rfl)
    (nostar : (backTo pos (starEach es X.env)).any (·.1) = false := by rfl) :
    PE X (.Call (.Name x p) (e :: es) [] pos) (tCall sp [] E0 t) := by
  obtain ⟨f, fd, G, g, kp, b⟩ := D.ex
  constructor
  intro pins s σ H Q I h
  apply wpAny_Call_Name_kw
  apply ld_glob I hg g _ hdb
  apply PySem.W.callWith_K (h₀ := X.base) I.ok.mod.kin kp _ first nostar
  refine thn (ha.run pos pins s σ H _ I h) fun us s1 got => ?_
  obtain ⟨vs, H1, I1, r, q⟩ := got
  refine ⟨I1.kIn, ?_⟩
  rw [List.append_nil] at q
  have hl : (us ++ []).length = ps.length := by
    rw [List.append_nil, ← r.length]
    exact G.count _ _ _ _ q
  have bb := b s1 us I1.kIn hl
  rw [List.append_nil] at bb
  apply wpAny_call
  refine codeAny_mono (G.go X.A X.stack s1 H1 ⟨us, []⟩ us vs Q E0 room quiet I1.env0 bb r q) fun out s' hq => ?_
  cases out with
  | ok fl =>
    cases fl with
    | ret u => exact I1.after hq
    | next => exact hq.elim
    | brk => exact hq.elim
    | cont => exact hq.elim
  | error u => exact pass0 pins σ H1 s1 u s' I1 hq
end
end Sq
set_option Elab.async false
set_option linter.all false
namespace Sq
def low (R : Int) : Int := (R + 3) / 2
def grow (R : Int) : Int := rw1 (low R) R
def up : Nat → Int → Int
  | 0, v => v
  | n + 1, v => grow (up n v)
end Sq
set_option Elab.async false
set_option linter.all false
namespace Sq
def Full (cs : List (List Int)) : Prop := ∀ c ∈ cs, 0 < c.length
theorem Full.tl {c : List Int} {cs : List (List Int)} (h : Full (c :: cs)) : Full cs := fun x hx => h x (List.mem_cons_of_mem _ hx)
theorem Full.hd {c : List Int} {cs : List (List Int)} (h : Full (c :: cs)) : 0 < c.length := h c (List.mem_cons_self ..)
end Sq
set_option Elab.async false
set_option linter.all false
set_option maxRecDepth 100000
set_option maxHeartbeats 1000000
namespace PySem
open Sem (wp)
section
variable {M : Model} {A : Around} {R : GenEnd} {Y : Protocol} {n : Nat} {s₀ : Shared} {c : Code} {fs : List Frame} {s : Shared} {env : Env}
  {K : Flow → Sem Fin} {H : Value → Sem Fin} {gd : Bool → Bool} {lv : List Value → List Value}
theorem segFor {target iter : Expr} {body orelse : List Stmt} {pos : Pos}
    (h : wpAny M (A.over c fs) (eval iter env) (fun x s₁ => wpAny M (A.over c fs) (pyIter x) (fun it s₂ =>
        ∀ p, Seg M A R Y n s₀ (.forLoop target it body orelse env) (M.den (.forLoop target it body orelse env))
      (.ret (fun r => ((match r with | .ok f => (.pure f : Sem Flow) | .error e => .raise e).onRaise fun (x : Value) => do
        if (← field x 1) == Value.none then unsupported "frame.own-activation:exception-without-traceback"
        setFlight x env.frame).wrap K H gd lv) none (gd false) (lv []) c p [] :: fs) s₂) (fun x s' => Seg M A R Y n s₀ c (H x) fs s') s₁)
      (fun x s' => Seg M A R Y n s₀ c (H x) fs s') s)
    (hs : ∀ x, foldedSetIterable iter env x = pure x := by intro _; rfl) :
    Seg M A R Y n s₀ c ((exec (.For target iter body orelse pos) env).wrap K H gd lv) fs s := by
  rw [exec_For]
  refine seg_bind_wrap (wpAny_standAt ?_)
  refine seg_bind_wrap (wpAny_mono h (fun x s₁ h₁ => ?_) fun _ _ h' => h')
  refine seg_bind_wrap (wpAny_of_eq (hs x) ?_)
  refine seg_bind_wrap (wpAny_standAt ?_)
  refine seg_bind_wrap (wpAny_holding (wpAny_mono h₁ (fun it s₂ h₂ => ?_) fun _ _ h' => h'))
  exact seg_call h₂
end
section
variable {prog : Program} {w : World} {A : Around} {R : GenEnd} {Y : Protocol} {n : Nat} {s₀ : Shared} {fs : List Frame} {s : Shared} {env : Env}
theorem segForLoop {target : Expr} {it : Value} {body orelse : List Stmt}
    (h : wpAny (model prog w) (A.over (.forLoop target it body orelse env) fs) (pyNext it) (fun r s₁ => match r with
        | none => Seg (model prog w) A R Y n s₀ (.forLoop target it body orelse env) (.pure (.again (.block orelse env))) fs s₁
        | some v => wpAny (model prog w) (A.over (.forLoop target it body orelse env) fs) (letOwnedTupleGo target it v) (fun _ s₂ =>
            wpAny (model prog w) (A.over (.forLoop target it body orelse env) fs) (assign target env v) (fun _ s₃ =>
              Seg (model prog w) A R Y n s₀ (.forLoop target it body orelse env) ((execs body env).wrap (fun f => match f with
            | .next | .cont => .pure (.again (.forLoop target it body orelse env))
            | .brk => .pure (.done .next)
            | .ret v => .pure (.done (.ret v))) (fun e => (do noteFrame e env; theTreesLotGoes e : Sem Unit).wrap (fun _ => .raise e) .raise id id) id id) fs s₃)
              (fun x s' => Seg (model prog w) A R Y n s₀ (.forLoop target it body orelse env) ((do noteFrame x env; theTreesLotGoes x : Sem Unit).wrap (fun _ => .raise x) .raise id id) fs s') s₂)
            (fun x s' => Seg (model prog w) A R Y n s₀ (.forLoop target it body orelse env) ((do noteFrame x env; theTreesLotGoes x : Sem Unit).wrap (fun _ => .raise x) .raise id id) fs s') s₁)
      (fun x s' => Seg (model prog w) A R Y n s₀ (.forLoop target it body orelse env) ((do noteFrame x env; theTreesLotGoes x : Sem Unit).wrap (fun _ => .raise x) .raise id id) fs s') s) :
    Seg (model prog w) A R Y n s₀ (.forLoop target it body orelse env) ((model prog w).den (.forLoop target it body orelse env)) fs s := by
  show Seg _ A R Y n s₀ _ ((forTurn target it body orelse env).onRaise (fun x => do noteFrame x env; theTreesLotGoes x)) fs s
  unfold forTurn
  rw [Sem.onRaise_eq_wrap]
  have he : ∀ (x : Value) (s' : Shared), Seg (model prog w) A R Y n s₀ (.forLoop target it body orelse env) ((do noteFrame x env; theTreesLotGoes x : Sem Unit).wrap (fun _ => .raise x) .raise id id) fs s' →
      Seg (model prog w) A R Y n s₀ (.forLoop target it body orelse env) ((do noteFrame x env; theTreesLotGoes x : Sem Unit).bind fun _ => .raise x) fs s' := fun x s' hx => by
    rw [Sem.bind_eq_wrap]; exact hx
  refine seg_bind_wrap (wpAny_standAt ?_)
  refine seg_bind_wrap (wpAny_onRaise (wpAny_mono h (fun r s₁ h₁ => ?_) fun x s' hx => wpAny_standAt (he x s' hx)))
  cases r with
  | none => exact h₁
  | some v =>
    refine seg_bind_wrap (wpAny_mono h₁ (fun _ s₂ h₂ => ?_) fun x s' hx => he x s' hx)
    refine seg_bind_wrap (wpAny_mono h₂ (fun _ s₃ h₃ => ?_) fun x s' hx => he x s' hx)
    rw [Sem.bind_eq_wrap', Sem.wrap_wrap]
    rw [Sem.wrap_congr (execs body env) _ _ (K' := fun f => match f with
            | .next | .cont => .pure (.again (.forLoop target it body orelse env))
            | .brk => .pure (.done .next)
            | .ret v => .pure (.done (.ret v))) (H' := (fun e => (do noteFrame e env; theTreesLotGoes e : Sem Unit).wrap (fun _ => .raise e) .raise id id))
        (fun f => by cases f <;> rfl)
        (fun e => by first | exact Sem.bind_eq_wrap _ _ | (show (do noteFrame e env; theTreesLotGoes e : Sem Unit).bind (fun _ => .raise e) = _; rw [Sem.bind_eq_wrap]))]
    exact h₃
theorem segBlockNil (h : Seg (model prog w) A R Y n s₀ (.block [] env) (.pure (.done .next)) fs s) :
    Seg (model prog w) A R Y n s₀ (.block [] env) ((model prog w).den (.block [] env)) fs s := h
end
end PySem
namespace L2
open PySem PySem.Spec PyProof.Rows GenW
section
variable {X : Cx} {tg : Expr}
theorem gc_more {S : Addr} {ip ip' : List (Addr × Obj)} {A : Around} {c : Code} {fs : List Frame} {gd : Bool → Bool} (g : GC X S ip A c fs gd) (h : ∀ p ∈ ip', p.1 ≠ S) : GC X S (ip ++ ip') A c fs gd where
  pn := g.pn
  ip := fun p hp => (List.mem_append.mp hp).elim (g.ip p) (h p)
  apart := g.apart
  over := g.over
  split := g.split
  guard := g.guard
  gd := g.gd
theorem GI.less {S : Addr} {ip ip' : List (Addr × Obj)} {ys : List V} {σ : St} {H : Hp} {s : Shared} (h : GI X S (ip ++ ip') ys σ H s) : GI X S ip ys σ H s := by
  obtain ⟨acc, c, r, I⟩ := h
  exact ⟨acc, c, r, I.pins_of fun p hp => I.pin p (List.mem_append_right _ ((List.mem_cons.mp hp).elim (fun e => e ▸ List.mem_cons_self) fun z => List.mem_cons_of_mem _ (List.mem_append_left _ z)))⟩
/-- as tFor, with what is out -/
def tGFor (wi : TI) (g : TG) (tb : TGn) : TGn := fun D ys σ H => wi σ H fun J H1 => ∃ W : Nat → Nat → List V → St → Hp → Prop, (∃ m, W 0 m ys σ H1) ∧ ∀ i m ys σ H, W i m ys σ H →
  (J.stop i H ∧ D.nx ys σ H) ∨ (J.go i H ∧ ∃ N : List V → St → Hp → Prop, (∀ ys' σ' H', N ys' σ' H' → ∃ m', m' < m ∧ W (i + 1) m' ys' σ' H') ∧ ∀ x H', J.yld i H x H' → g x σ H' fun σ2 H2 => tb { D with nx := N, ct := N, bk := D.nx } ys σ2 H2)
theorem gs_for {iter : Expr} {body : List Stmt} {wi : TI} {g : TG} {tb : TGn} {pos : Pos} (hp : PassesOwn (model X.prog X.w) X.A X.env X.xe) (hcalm : X.calm = true) (hi : PI X tg iter wi) (hg : PG X tg g) (hb : GSs X body tb)
    (hs : ∀ x, foldedSetIterable iter X.env x = pure x := by intro _; rfl) : GS X (.For tg iter body [] pos) (tGFor wi g tb) := by
  refine ⟨fun A S ip R n ys s₀ c fs K J gd lv s σ H D gc hn k hI ht => ?_⟩
  obtain ⟨acc, cc, r, I⟩ := hI
  refine segFor ?_ hs
  rw [gc.over]
  refine wpAny_mono (hi.run _ s σ H _ I ht) (fun v s1 h1 => ?_) fun x s' hx => k.exc n s₀ x s' hx
  refine wpAny_mono h1 (fun itv s2 h2 => ?_) fun x s' hx => k.exc n s₀ x s' hx
  obtain ⟨it, fp, tn, J', H2, e, I2, T, st2, f2, W, ⟨m0, w0⟩, turn⟩ := h2
  subst e
  intro p
  have gl := fun (kk : Result → Sem PySem.Fin) => gc_loop (k := kk) (c' := .forLoop tg (.ref it) body [] X.env) (l := lv []) (kp := []) (p := p) gc rfl rfl
  have fpS : ∀ b ∈ fp, b ≠ S := fun b hb e => by
    obtain ⟨_, q1, q2, q3, q4, q5⟩ := f2 b hb
    exact q5 (S, lstObj acc cc) (List.mem_append_right _ List.mem_cons_self) e.symm
  have stat : ∀ {H' : Hp}, (∀ b ∈ fp, H' b = none) → ∀ {acc : Array Value} {c : Nat}, ∀ b ∈ fp, FpOk X ((S, lstObj acc c) :: ip) H' b := fun {H'} hn {acc c} b hb => by
    obtain ⟨_, q1, q2, q3, q4, q5⟩ := f2 b hb
    refine ⟨hn b hb, q1, q2, q3, q4, fun p hp => ?_⟩
    rcases List.mem_append.mp hp with z | z
    · exact q5 p (List.mem_append_left _ z)
    · rcases List.mem_cons.mp z with z | z
      · rw [z]
        exact fun e => fpS b hb e.symm
      · exact q5 p (List.mem_append_right _ (List.mem_cons_of_mem _ z))
  have loop : ∀ (m i n : Nat) (ys : List V) (s₀ s : Shared) (σ : St) (H : Hp), n + ys.length = sizeLine → W i m ys σ H → tn i s.heap → (∀ b ∈ fp, H b = none) → GI X S ip ys σ H s →
      Seg (model X.prog X.w) A R (GY X S) n s₀ (.forLoop tg (.ref it) body [] X.env) ((model X.prog X.w).den (.forLoop tg (.ref it) body [] X.env))
        (.ret (fun r => ((match r with | .ok f => (.pure f : Sem Flow) | .error e => .raise e).onRaise (cameBack X.env)).wrap K J gd lv) none (gd false) (lv []) c p [] :: fs) s := by
    intro m
    induction m using Nat.strongRecOn with
    | ind m ih =>
      intro i n ys s₀ s σ H hn w st fr hI
      have ee : ∀ (n : Nat) (s₀ : Shared) (x : Value) (s' : Shared), X.xe x s' → Seg (model X.prog X.w) A R (GY X S) n s₀ (.forLoop tg (.ref it) body [] X.env)
          ((do noteFrame x X.env; theTreesLotGoes x : Sem Unit).wrap (fun _ => .raise x) .raise id id)
          (.ret (fun r => ((match r with | .ok f => (.pure f : Sem Flow) | .error e => .raise e).onRaise (cameBack X.env)).wrap K J gd lv) none (gd false) (lv []) c p [] :: fs) s' := fun n s₀ x s' hx => by
        refine seg_wrap ?_
        rw [(gl _).over]
        refine wpAny_bind (wpAny_mono (hp x s' hx) (fun _ s'' hcb => wpAny_theTreesLotGoes ?_) fun y s'' hcb => ?_)
        · exact seg_leaf (.error x) (seg_cameBack gc k hcb)
        · exact seg_leaf (.error y) (seg_cameBack gc k hcb)
      refine segForLoop ?_
      rw [(gl _).over]
      obtain ⟨acc, cc, r, I⟩ := hI
      rcases turn i m ys σ H w with ⟨stop, qn⟩ | ⟨go, N, hN, step⟩
      · refine wpAny_mono (T.done X rfl rfl rfl hcalm i _ s σ H X.xe I (stat fr) st stop) (fun rr s4 hh => ?_) fun x s' hx => ee n s₀ x s' hx
        obtain ⟨hr, I4⟩ := hh
        subst hr
        refine seg_again rfl (segBlockNil ?_)
        exact seg_leaf (.ok .next) (k.ok n ys s₀ s4 .next hn ⟨σ, H, ⟨acc, cc, r, I4⟩, qn⟩)
      · refine wpAny_mono (T.item X rfl rfl rfl hcalm i _ s σ H X.xe I (stat fr) st go) (fun rr s4 hh => ?_) fun x s' hx => ee n s₀ x s' hx
        obtain ⟨u, hr, h4⟩ := hh
        subst hr
        refine wpAny_mono h4 (fun _ s5 hh => ?_) fun x s' hx => ee n s₀ x s' hx
        obtain ⟨x, H5, I5, r5, y5, st5, fr5⟩ := hh
        have I5' := I5.pinned (stat fr5) (T.obj _ _ st5)
        refine wpAny_mono (hg.run _ s5 σ H5 x u _ I5' r5 (step x H5 y5)) (fun _ s6 hh => ?_) fun x s' hx => ee n s₀ x s' hx
        obtain ⟨σ6, H6, I6, q6⟩ := hh
        have gm : GC X S (ip ++ pinsAt fp s5.heap) A (.forLoop tg (.ref it) body [] X.env) (.ret (fun r => ((match r with | .ok f => (.pure f : Sem Flow) | .error e => .raise e).onRaise (cameBack X.env)).wrap K J gd lv) none (gd false) (lv []) c p [] :: fs) id :=
          gc_more (gl _) fun q hq => fpS q.1 (of_pinsAt hq).1
        have again : ∀ {n' : Nat} {ys' : List V} {s₀' s7 : Shared} {σ7 : St} {H7 : Hp}, n' + ys'.length = sizeLine → GI X S (ip ++ pinsAt fp s5.heap) ys' σ7 H7 s7 → N ys' σ7 H7 →
            Seg (model X.prog X.w) A R (GY X S) n' s₀' (.forLoop tg (.ref it) body [] X.env) (.pure (.again (.forLoop tg (.ref it) body [] X.env)))
              (.ret (fun r => ((match r with | .ok f => (.pure f : Sem Flow) | .error e => .raise e).onRaise (cameBack X.env)).wrap K J gd lv) none (gd false) (lv []) c p [] :: fs) s7 := fun {n' ys' s₀' s7 σ7 H7} hn' I7 n7 => by
          obtain ⟨m', hm, w7⟩ := hN ys' σ7 H7 n7
          have pz : ∀ b ∈ fp, ∀ o, s5.heap.get? b = some o → s7.heap.get? b = some o ∧ H7 b = none := fun b hb o e => by
            obtain ⟨acc7, c7, _, I7'⟩ := I7
            have z := I7'.pin (b, o) (List.mem_append_right _ (List.mem_cons_of_mem _ (List.mem_append_right _ (mem_pinsAt hb e))))
            exact ⟨z.1, z.2.1⟩
          refine seg_again rfl (ih m' hm (i + 1) n' ys' s₀' s7 σ7 H7 hn' w7 (T.keep _ _ _ st5 fun b hb o e => (pz b hb o e).1) (fun b hb => ?_) I7.less)
          obtain ⟨o, e, d⟩ := T.obj _ _ st5 b hb
          exact (pz b hb o e).2
        refine hb.run A S (ip ++ pinsAt fp s5.heap) R n ys s₀ _ _ _ _ id id s6 σ6 H6 { D with nx := N, ct := N, bk := D.nx } gm hn ⟨fun n' ys' s₀' s3 f hn' hs => ?_, fun n' s₀' x s3 hx => ee n' s₀' x s3 hx⟩ ⟨acc, cc, r, I6⟩ q6
        cases f with
        | next =>
          obtain ⟨σ3, H3, I3, n3⟩ := hs
          exact again hn' I3 n3
        | cont =>
          obtain ⟨σ3, H3, I3, n3⟩ := hs
          exact again hn' I3 n3
        | brk =>
          obtain ⟨σ3, H3, I3, n3⟩ := hs
          exact seg_leaf (.ok .next) (k.ok n' ys' s₀' s3 .next hn' ⟨σ3, H3, I3.less, n3⟩)
        | ret v =>
          obtain ⟨x3, σ3, H3, I3, r3, n3⟩ := hs
          exact seg_leaf (.ok (.ret v)) (k.ok n' ys' s₀' s3 (.ret v) hn' ⟨x3, σ3, H3, I3.less, r3, n3⟩)
  exact loop m0 0 n ys s₀ s2 σ H2 hn w0 st2 (fun b hb => (f2 b hb).1) ⟨acc, cc, r, I2⟩
end
end L2
set_option Elab.async false
set_option linter.all false
set_option maxRecDepth 100000
set_option maxHeartbeats 2000000
namespace Sq
open PySem PySem.Spec PyProof.Rows L2
theorem gfor_it {J : It} {n : Nat} {G : Hp → Prop} {Y : Nat → Hp → V → Hp → Prop} (w : Walk J n G Y) {g : TG} {tb : TGn} {D : GEnds} {ys : List V} {σ : L2.St} {H : Hp} (Pv : Nat → List V → L2.St → Hp → Prop) (h0 : Pv 0 ys σ H) (hG : ∀ i ys σ H, i ≤ n → Pv i ys σ H → G H)
    (hs : ∀ i x ys σ H H', i < n → Pv i ys σ H → Y i H x H' → g x σ H' fun σ2 H2 => tb { D with nx := Pv (i + 1), ct := Pv (i + 1), bk := D.nx } ys σ2 H2) (hd : ∀ ys σ H, Pv n ys σ H → D.nx ys σ H) :
    ∃ W : Nat → Nat → List V → L2.St → Hp → Prop, (∃ m, W 0 m ys σ H) ∧ ∀ i m ys σ H, W i m ys σ H →
      (J.stop i H ∧ D.nx ys σ H) ∨ (J.go i H ∧ ∃ N : List V → L2.St → Hp → Prop, (∀ ys' σ' H', N ys' σ' H' → ∃ m', m' < m ∧ W (i + 1) m' ys' σ' H') ∧ ∀ x H', J.yld i H x H' → g x σ H' fun σ2 H2 => tb { D with nx := N, ct := N, bk := D.nx } ys σ2 H2) := by
  refine ⟨fun i m ys σ H => m = n - i ∧ i ≤ n ∧ Pv i ys σ H, ⟨n, by simp, Nat.zero_le _, h0⟩, ?_⟩
  rintro i m ys σ H ⟨rfl, hi, p⟩
  have q := hG i ys σ H hi p
  by_cases hlt : i < n
  · exact .inr ⟨w.goes i H hlt q, Pv (i + 1), fun ys' σ' H' p' => ⟨n - (i + 1), by omega, rfl, hlt, p'⟩, fun x H' y => hs i x ys σ H H' hlt p (w.yields i H x H' hlt q y)⟩
  · have e : i = n := by omega
    subst e
    exact .inl ⟨w.stops H q, hd ys σ H p⟩
/-- at each of them stands its list of ints -/
def RowsAt (H : Hp) : List Addr → List (List Int) → Prop
  | [], [] => True
  | a :: as, c :: cs => H a = some (.lst (c.map V.int)) ∧ RowsAt H as cs
  | _, _ => False
theorem RowsAt.same {H H' : Hp} (s : Same H H') : ∀ {as : List Addr} {cs : List (List Int)}, RowsAt H as cs → RowsAt H' as cs
  | [], [], _ => trivial
  | _ :: _, _ :: _, h => ⟨s _ _ h.1, RowsAt.same s h.2⟩
  | [], _ :: _, h => h.elim
  | _ :: _, [], h => h.elim
theorem RowsAt.len {H : Hp} : ∀ {as : List Addr} {cs : List (List Int)}, RowsAt H as cs → as.length = cs.length
  | [], [], _ => rfl
  | _ :: _, _ :: _, h => congrArg Nat.succ (RowsAt.len h.2)
  | [], _ :: _, h => h.elim
  | _ :: _, [], h => h.elim
theorem RowsAt.app {H : Hp} : ∀ {as : List Addr} {cs : List (List Int)} {bs : List Addr} {ds : List (List Int)}, RowsAt H as cs → RowsAt H bs ds → RowsAt H (as ++ bs) (cs ++ ds)
  | [], [], _, _, _, h2 => h2
  | _ :: _, _ :: _, _, _, h, h2 => ⟨h.1, RowsAt.app h.2 h2⟩
  | [], _ :: _, _, _, h, _ => h.elim
  | _ :: _, [], _, _, h, _ => h.elim
theorem RowsAt.get {H : Hp} : ∀ {as : List Addr} {cs : List (List Int)} {i : Nat} {c : List Int}, RowsAt H as cs → cs[i]? = some c → ∃ a, as[i]? = some a ∧ H a = some (.lst (c.map V.int))
  | _ :: _, _ :: _, 0, _, h, e => by
    cases e
    exact ⟨_, rfl, h.1⟩
  | _ :: _, _ :: _, i + 1, _, h, e => RowsAt.get (i := i) h.2 e
  | [], _ :: _, _, _, h, _ => h.elim
  | _, [], _, _, _, e => by simp at e
theorem RowsAt.upd {H : Hp} {p : Addr} {o : HO} : ∀ {as : List Addr} {cs : List (List Int)}, RowsAt H as cs → p ∉ as → RowsAt (upd H p o) as cs
  | [], [], _, _ => trivial
  | a :: _, _ :: _, h, n => ⟨by rw [upd_ne (fun z => n (by rw [z]; exact List.mem_cons_self ..))]; exact h.1, RowsAt.upd h.2 (fun z => n (List.mem_cons_of_mem _ z))⟩
  | [], _ :: _, h, _ => h.elim
  | _ :: _, [], h, _ => h.elim
/-- what they hold, as data -/
def dRows (cs : List (List Int)) : List PyData := cs.map fun c => PyData.list (c.map PyData.int)
theorem dp_rows {K : PySem.W.Frag} {H : Hp} : ∀ {as : List Addr} {cs : List (List Int)}, RowsAt H as cs → DpAll K H (as.map V.ref) (dRows cs)
  | [], [], _ => .nil
  | _ :: _, c :: _, h => .cons (.lst (SqL.of h.1) (dp_ints c)) (dp_rows h.2)
  | [], _ :: _, h => h.elim
  | _ :: _, [], h => h.elim
end Sq
set_option Elab.async false
set_option linter.all false
set_option maxRecDepth 100000
set_option maxHeartbeats 1000000
namespace Sq
open PySem PySem.Spec PyProof.Rows L2
theorem lay_rows : ∀ cs : List (List Int), PyData.canLayAll0 (dRows cs) = true
  | [] => rfl
  | c :: cs => by
    show (PyData.canLayAll0 (c.map PyData.int) && PyData.canLayAll0 (dRows cs)) = true
    rw [lay_rows cs, lays_ints c]
    rfl
theorem deep_rows : ∀ cs : List (List Int), PyData.depthAll (dRows cs) ≤ 2
  | [] => Nat.zero_le _
  | c :: cs => Nat.max_le.mpr ⟨Nat.add_le_add_right (deep_ints c) 1, deep_rows cs⟩
theorem shaped_rows (cs : List (List Int)) : SeqAt.shaped (.list (dRows cs)) = true := shaped_il (lay_rows cs) (Nat.le_trans (Nat.add_le_add_right (deep_rows cs) 1) (by decide))
def rLenK (K : PySem.W.Frag) : List V → Hp → VK → Prop := fun xs H Q => ∃ p ys, xs = [V.ref p] ∧ (SqL K H p ys ∨ SqT K H p ys) ∧ Q (V.int (ys.length : Nat)) H
theorem call_lenK {X : Cx} : CallR X (.builtin "len") (rLenK X.K) := call_len_seq
def rListK (K : PySem.W.Frag) : List V → Hp → VK → Prop := fun xs H Q => ∃ p ys, xs = [V.ref p] ∧ (SqL K H p ys ∨ SqT K H p ys) ∧ ∀ l, H l = none → Q (.ref l) (upd H l (.lst ys))
theorem call_listK {X : Cx} : CallR X (.type "list") (rListK X.K) := call_list_of
/-- kept by what turns the source alone -/
theorem RowsAt.keep {H H' : Hp} {l d : Addr} (k : ∀ b o, H b = some o → b ≠ l → b ≠ d → H' b = some o) : ∀ {as : List Addr} {cs : List (List Int)}, RowsAt H as cs → l ∉ as → d ∉ as → RowsAt H' as cs
  | [], [], _, _, _ => trivial
  | a :: _, _ :: _, h, n1, n2 => ⟨k _ _ h.1 (fun z => n1 (by rw [z]; exact List.mem_cons_self ..)) (fun z => n2 (by rw [z]; exact List.mem_cons_self ..)), RowsAt.keep k h.2 (fun z => n1 (List.mem_cons_of_mem _ z)) (fun z => n2 (List.mem_cons_of_mem _ z))⟩
  | [], _ :: _, h, _, _ => h.elim
  | _ :: _, [], h, _, _ => h.elim
end Sq
set_option Elab.async false
set_option linter.all false
set_option maxRecDepth 100000
set_option maxHeartbeats 4000000
set_option Elab.async false
set_option linter.all false
set_option maxHeartbeats 1000000
namespace Sq
def la (L k : Int) : Int := if k > L then L else (L + 1) / k + k - 2
/-- 2, 3, .., g -/
def cand (g : Int) : List Int := (List.range (g - 1).toNat).map fun i : Nat => 2 + (i : Int)
def cnt (g : Int) : Nat → Int → Nat
  | 0, L => if L ≤ 1 then 1 else 0
  | n + 1, L => ((cand g).map fun k => cnt g n (la L k)).sum
end Sq
set_option Elab.async false
set_option linter.all false
set_option maxRecDepth 100000
set_option maxHeartbeats 1000000
namespace Sq
open PySem PySem.Spec PyProof.Rows L2
theorem walkL {K : PySem.W.Frag} {a : Addr} {xs : List V} {Qd : Hp → Prop} {St : V → Hp → (Hp → Prop) → Prop} {H0 : Hp} (Pv : Nat → Hp → Prop) (h0 : Pv 0 H0) (hl : ∀ i H, i ≤ xs.length → Pv i H → SqL K H a xs)
    (hs : ∀ i x H, xs[i]? = some x → Pv i H → St x H (Pv (i + 1))) (hd : ∀ H, Pv xs.length H → Qd H) :
    ∃ W : Nat → Nat → Hp → Prop, (∃ m, W 0 m H0) ∧ ∀ i m H, W i m H → ((Itl K a).stop i H ∧ Qd H) ∨ ((Itl K a).go i H ∧ ∃ Nx : Hp → Prop, (∀ H', Nx H' → ∃ m', m' < m ∧ W (i + 1) m' H') ∧ ∀ x H', (Itl K a).yld i H x H' → St x H' Nx) := by
  refine ⟨fun i m H => m = xs.length - i ∧ i ≤ xs.length ∧ Pv i H, ⟨_, rfl, Nat.zero_le _, h0⟩, ?_⟩
  rintro i m H ⟨rfl, le, p⟩
  have there := hl i H le p
  by_cases lt : i < xs.length
  · exact .inr ⟨⟨xs, xs[i], there, List.getElem?_eq_getElem lt⟩, Pv (i + 1), fun H' p' => ⟨xs.length - (i + 1), by omega, rfl, lt, p'⟩, fun x H' y => by
      obtain ⟨rfl, e⟩ := y
      exact hs i x _ (e xs there) p⟩
  · obtain rfl : i = xs.length := by omega
    exact .inl ⟨⟨xs, there, Nat.le_refl _⟩, hd H p⟩
def dd (vs : List Int) : List Int := vs.foldl (fun ds x => if x ∈ ds then ds else ds ++ [x]) []
structure Lens (n : Nat) (g L : Int) (i : Nat) (rows : List (List Int)) : Prop where
  len : rows.length = i + 1
  zero : rows[0]? = some [L]
  asc : ∀ (p : Nat) (r : List Int), rows[p]? = some r → r.Pairwise (· < ·)
  mem : ∀ (p : Nat) (r : List Int), rows[p]? = some r → ∀ x ∈ r, 0 ≤ x ∧ x ≤ L
  next : ∀ (p : Nat) (r r' : List Int), rows[p]? = some r → rows[p + 1]? = some r' → ∀ x, x ∈ r' ↔ (∃ l ∈ r, ∃ k, 2 ≤ k ∧ k ≤ g ∧ x = la l k) ∧ x ≤ up (n - (p + 1)) 1
  short : L < 63 ∨ ∀ (p : Nat) (r : List Int), rows[p]? = some r → r.length ≤ 6
theorem Lens.start {n : Nat} {g L : Int} (h0 : 0 ≤ L) : Lens n g L 0 [[L]] where
  len := rfl
  zero := rfl
  asc := fun p r e => by
    match p, e with
    | 0, e => cases e; exact List.pairwise_singleton _ _
  mem := fun p r e x hx => by
    match p, e with
    | 0, e =>
      cases e
      rw [List.mem_singleton.mp hx]
      exact ⟨h0, Int.le_refl _⟩
  next := fun p r r' e e' => by
    match p, e' with
    | 0, e' => cases e'
    | p + 1, e' => cases e'
  short := .inr fun p r e => by
    match p, e with
    | 0, e => cases e; exact (show 1 ≤ 6 by decide)
theorem asc_nodup {ns : List Int} (h : ns.Pairwise (· < ·)) : ns.Nodup := List.Pairwise.imp (fun {a b} z e => by omega) h
end Sq
set_option Elab.async false
set_option linter.all false
set_option maxRecDepth 100000
set_option maxHeartbeats 2000000
namespace Sq
open PySem PySem.Spec PyProof.Rows L2 GenW
def cutH (h : Heap) (n : Nat) : Heap := { h with objs := (h.objs.toList.take n).toArray }
theorem cutH_at (h : Heap) (n b : Nat) : (cutH h n).objs[b]? = if b < n then h.objs[b]? else none := by
  unfold cutH
  rw [List.getElem?_toArray, List.getElem?_take, Array.getElem?_toList]
theorem cutH_get {h : Heap} {n b : Nat} {o : Obj} : (cutH h n).get? b = some o ↔ b < n ∧ h.get? b = some o := by
  unfold Heap.get?
  rw [cutH_at]
  by_cases c : b < n
  · rw [if_pos c]
    exact ⟨fun q => ⟨c, q⟩, fun q => q.2⟩
  · rw [if_neg c]
    exact ⟨fun q => (nomatch q), fun q => absurd q.1 c⟩
theorem cutH_size {h : Heap} {n : Nat} : (cutH h n).objs.size = min n h.objs.size := by
  unfold cutH
  simp
def cutSh (s : Shared) (n : Nat) : Shared := { s with heap := cutH s.heap n }
theorem cutS_all {s : Shared} {n : Nat} (h : s.heap.objs.size ≤ n) : cutSh s n = s := by
  unfold cutSh cutH
  rw [List.take_of_length_le (by simpa using h)]
theorem frames_cut {h base : Heap} {n : Nat} : ∀ {l : List Env}, h.FunFrames base l → (∀ b ∈ frs l, b < n) → (cutH h n).FunFrames base l
  | [], _, _ => trivial
  | env :: l, q, low => by
    obtain ⟨hk, ⟨L, o, hf, hn, ho, hd⟩, hr⟩ := q
    have eL : frs (env :: l) = L :: frs l := by
      unfold frs
      rw [List.filterMap_cons, hf]
    rw [eL] at low
    exact ⟨hk, ⟨L, o, hf, hn, cutH_get.mpr ⟨low L List.mem_cons_self, ho⟩, hd⟩, frames_cut hr fun b hb => low b (List.mem_cons_of_mem _ hb)⟩
def HidO (b : Addr) (o : Obj) : HO := .ext fun h => h.get? b = some o
def hidP (prv : List Addr) (h : Heap) (H : Hp) : Hp := fun b => if b ∈ prv then (h.get? b).map (HidO b) else H b
def unh (prv : List Addr) (H : Hp) : Hp := fun b => if b ∈ prv then none else H b
def lcx (P : Program) (w : World) (K : PySem.W.Frag) (mg : Str → Option Value) (base : Heap) (N : List Str) (qual : Str) (scope : Scope) (f : Addr) (cd : Value) (A : Around) (outer : List Env) (n0 : Addr) (s0 : Shared) (H0 : Hp) (E : XK) (pn : List (Addr × Obj)) : Cx where
  prog := P
  w := w
  K := K
  mg := mg
  base := base
  A := A.deeper (envOfC qual scope n0 f cd)
  N := N
  s_0 := s0
  H_0 := H0
  env := envOfC qual scope n0 f cd
  outer := outer
  stack := envOfC qual scope n0 f cd :: outer
  ex := []
  calm := true
  fn := fun _ => true
  pn := pn
  xe := fun e s' => wpAny (model P w) (A.deeper (envOfC qual scope n0 f cd)) (leaving (envOfC qual scope n0 f cd) e) (fun _ s'' => L2N.CX P w outer H0 s0 E e s'' ∧ ∀ p ∈ pn, s''.heap.get? p.1 = some p.2) (fun _ _ => False) s'
theorem inv_lcx {P : Program} {w : World} {K : PySem.W.Frag} {mg : Str → Option Value} {base : Heap} {N : List Str} {qual : Str} {scope : Scope} {f : Addr} {cd : Value} {A : Around} {outer : List Env} {s s1 : Shared} {H H1 : Hp} {E : XK} {p : Addr × Obj} {σ : L2.St}
    (I : Inv (gcxOf P w K mg base N qual scope f cd A outer s H E [p]) [] σ H1 s1) : Inv (lcx P w K mg base N qual scope f cd A outer s.heap.objs.size s H E [p]) [] σ H1 s1 := I.toTry _
section
variable {P : Program} {w : World} {K : PySem.W.Frag} {mg : Str → Option Value} {base : Heap} {N : List Str} {qual : Str} {scope : Scope} {f : Addr} {cd : Value} {A : Around} {outer : List Env} {n0 : Addr} {s0 sb s1 s2 : Shared} {Hb H1 H2 : Hp} {E E' : XK} {pn ip : List (Addr × Obj)} {σ : L2.St}
theorem owns_lcx : PassesOwn (model P w) (lcx P w K mg base N qual scope f cd A outer n0 s0 Hb E pn).A (lcx P w K mg base N qual scope f cd A outer n0 s0 Hb E pn).env (lcx P w K mg base N qual scope f cd A outer n0 s0 Hb E pn).xe :=
  passes_of (X := lcx P w K mg base N qual scope f cd A outer n0 s0 Hb E pn) (K := fun e s'' => L2N.CX P w outer Hb s0 E e s'' ∧ ∀ p ∈ pn, s''.heap.get? p.1 = some p.2) (E₁ := fun _ _ => False) rfl
/-- what is the generator's alone: its frame, its cells, its own object, its iterators -/
def cellA (l : List (Str × Addr)) : List Addr := (l.map (·.1)).filterMap fun x => l.lookup x
def prvOf (scope : Scope) (n0 : Addr) (pn ip : List (Addr × Obj)) : List Addr := n0 :: (cellA (cellsFrom (n0 + 1) scope.names []) ++ (pn ++ ip).map (·.1))
end
end Sq
set_option Elab.async false
set_option linter.all false
set_option maxRecDepth 100000
set_option maxHeartbeats 2000000
namespace Sq
open PySem PySem.Spec PyProof.Rows L2 GenW
section
variable {Xc : Cx} {N : List Str} {qual : Str} {scope : Scope} {f : Addr} {cd : Value} {A : Around} {n0 : Addr} {sb s1 s2 : Shared} {Hb H1 H2 : Hp} {E E' : XK} {pn ip pinsC : List (Addr × Obj)} {σ c c2 : L2.St}
abbrev gcx (Xc : Cx) (N : List Str) (qual : Str) (scope : Scope) (f : Addr) (cd : Value) (A : Around) (n0 : Addr) (s0 : Shared) (H0 : Hp) (E : XK) (pn : List (Addr × Obj)) : Cx := lcx Xc.prog Xc.w Xc.K Xc.mg Xc.base N qual scope f cd A Xc.stack n0 s0 H0 E pn
/-- what lies at n0 or above is none of the consumer's -/
structure Above (Xc : Cx) (pinsC : List (Addr × Obj)) (n0 : Addr) : Prop where
  young : Xc.s_0.heap.objs.size ≤ n0
  loc : Xc.env.locals < n0
  cell : ∀ x k, Xc.env.cells.lookup x = some k → k < n0
  pin : ∀ p ∈ Xc.pn ++ pinsC, p.1 < n0
  fr : ∀ b ∈ frs Xc.stack, b < n0
  base : Xc.base.objs.size ≤ n0
theorem above_of (I : Inv Xc pinsC c Hb sb) (h : sb.heap.objs.size ≤ n0) : Above Xc pinsC n0 := by
  have lo : ∀ {b : Addr} {o : Obj}, sb.heap.get? b = some o → b < n0 := fun e => Nat.lt_of_lt_of_le (Heap.lt_size e) h
  refine ⟨Nat.le_trans I.sz h, Nat.lt_of_lt_of_le I.lt h, fun x k e => ?_, fun p hp => lo (I.pin p hp).1, fun b hb => ?_, Nat.le_trans (Nat.le_trans I.ok.bsz I.sz) h⟩
  · obtain ⟨v, o, ho, _⟩ := I.cell x k e
    exact lo ho
  · obtain ⟨_, o, ho, _⟩ := I.stack.mem hb
    exact lo ho
end
end Sq
set_option Elab.async false
set_option linter.all false
set_option maxRecDepth 100000
set_option maxHeartbeats 1000000
set_option Elab.async false
set_option linter.all false
set_option maxRecDepth 100000
set_option maxHeartbeats 1000000
namespace Sq
open PySem PySem.Spec PyProof.Rows L2
def one (b : Bool) : Int := if b = true then 1 else 0
end Sq
set_option Elab.async false
set_option linter.all false
set_option maxRecDepth 100000
set_option maxHeartbeats 1000000
set_option Elab.async false
set_option linter.all false
set_option maxRecDepth 100000
set_option maxHeartbeats 1000000
set_option Elab.async false
set_option linter.all false
set_option maxRecDepth 100000
set_option maxHeartbeats 1000000
set_option Elab.async false
set_option linter.all false
set_option maxRecDepth 100000
set_option maxHeartbeats 1000000
namespace L2
open PySem PySem.Spec PyProof.Rows GenW
end L2
set_option Elab.async false
set_option linter.all false
set_option maxRecDepth 100000
set_option maxHeartbeats 2000000
namespace Sq
open PySem PySem.Spec PyProof.Rows L2 GenW
/-- a generator and its consumer -/
structure Lv where
  Xc : Cx
  pinsC : List (Addr × Obj)
  N : List Str
  qual : Str
  scope : Scope
  f : Addr
  cd : Value
  A : Around
  n0 : Addr
  a : Addr
  go : Obj
  g : Nat
  E : XK
  sC : Shared
  HC : Hp
  tot : Nat
  M : Addr → Prop
  It : Nat → V → Hp → Prop
  J : Nat → L2.St → Hp → Prop
abbrev Lv.cx (L : Lv) (s0 : Shared) (H0 : Hp) (E : XK) : Cx := gcx L.Xc L.N L.qual L.scope L.f L.cd L.A L.n0 s0 H0 E [(L.a, L.go)]
abbrev Lv.prv (L : Lv) (ip : List (Addr × Obj)) : List Addr := prvOf L.scope L.n0 [(L.a, L.go)] ip
abbrev Lv.md (L : Lv) : Model := model L.Xc.prog L.Xc.w
structure Lv.Ok (L : Lv) : Prop where
  ab : Above L.Xc L.pinsC L.n0
  isG : ∀ h : Heap, h.get? L.a = some L.go → h.IsGen L.a L.g
  na : L.n0 ≤ L.a
/-- the consumer leaves what it doesn't own -/
def Kps (M : Addr → Prop) (x : V) (H1 H2 : Hp) : Prop := ∀ b o, H1 b = some o → ¬ M b → x ≠ .ref b → H2 b = some o
def Lv.Seat (L : Lv) (i : Nat) (Hb : Hp) (s0 : Shared) (E' : XK) : Prop := ∃ c sb, s0 = cutSh sb L.n0 ∧ L.n0 ≤ sb.heap.objs.size ∧ Inv L.Xc L.pinsC c Hb sb ∧ L.J i c Hb ∧ ((i = 0 ∧ s0 = L.sC ∧ Hb = L.HC ∧ E' = L.E) ∨ E' = E0)
def Lv.Y (L : Lv) : Protocol := fun n s₀ v s kap => ∃ (i : Nat) (c : L2.St) (Hb H1 : Hp) (x : V) (ip : List (Addr × Obj)), n + 1 + i = L.tot ∧ L.J i c Hb ∧ Same Hb H1 ∧ L.It i x H1 ∧ RelV x v ∧ Inv L.Xc L.pinsC c (hidP (L.prv ip) s.heap H1) s ∧ (∀ b ∈ L.prv ip, H1 b = none ∧ ∃ o, s.heap.get? b = some o) ∧ s.heap.IsGen L.a L.g ∧
  ∀ s2 c2 H2, Inv L.Xc L.pinsC c2 H2 s2 → (∀ b ∈ L.prv ip, H2 b = hidP (L.prv ip) s.heap H1 b) → Kps L.M x H1 (unh (L.prv ip) H2) → L.J (i + 1) c2 (unh (L.prv ip) H2) → kap (.send .none) s2
def Lv.R (L : Lv) : GenEnd := fun n s₀ r s => ((r = .ok (.ret .none) ∨ r = .ok .next) ∧ ∃ c Hb H1, L.J L.tot c Hb ∧ Same Hb H1 ∧ Inv L.Xc L.pinsC c H1 s) ∨ ∃ e, r = .error e ∧ L2N.CX L.Xc.prog L.Xc.w L.Xc.stack L.HC L.sC L.E e s ∧ s.heap.IsGen L.a L.g
structure GEndL where
  nx : Nat → Hp → L2.St → Hp → Prop
  rt : Nat → Hp → VK
  bk : Nat → Hp → L2.St → Hp → Prop := fun _ _ _ _ => False
  ct : Nat → Hp → L2.St → Hp → Prop := fun _ _ _ _ => False
def GEndL.at (D : GEndL) (i : Nat) (Hb : Hp) : Ends := { nx := D.nx i Hb, rt := D.rt i Hb, bk := D.bk i Hb, ct := D.ct i Hb }
abbrev TGL := GEndL → Nat → Hp → L2.St → Hp → Prop
structure Lv.GC (L : Lv) (ip : List (Addr × Obj)) (c : Code) (fs : List Frame) (gd : Bool → Bool) : Prop where
  over : L.A.over c fs = L.A.deeper (envOfC L.qual L.scope L.n0 L.f L.cd)
  split : splitAtGen fs = none
  guard : fs.any Frame.guarded = false
  gd : gd false = false
  low : ∀ p ∈ ip, L.n0 ≤ p.1
structure Lv.GK (L : Lv) (ip : List (Addr × Obj)) (c : Code) (fs : List Frame) (Kf : Flow → Sem PySem.Fin) (Je : Value → Sem PySem.Fin) (D : GEndL) : Prop where
  ok : ∀ (n i : Nat) (s₀ s s0 : Shared) (E' : XK) (Hb : Hp) (fl : Flow), n + i = L.tot → L.Seat i Hb s0 E' → SP (L.cx s0 Hb E') ip (D.at i Hb) fl s → Seg L.md L.A L.R L.Y n s₀ c (Kf fl) fs s
  exc : ∀ (n i : Nat) (s₀ : Shared) (e : Value) (s s0 : Shared) (E' : XK) (Hb : Hp), L.Seat i Hb s0 E' → (L.cx s0 Hb E').xe e s → Seg L.md L.A L.R L.Y n s₀ c (Je e) fs s
section
variable {L : Lv} {st : Stmt} {rest : List Stmt}
def tL0 : TGL := fun D i Hb σ H => D.nx i Hb σ H
def tLThen (t u : TGL) : TGL := fun D i Hb σ H => t { D with nx := fun i' Hb' σ' H' => u D i' Hb' σ' H' } i Hb σ H
end
end Sq
set_option Elab.async false
set_option linter.all false
set_option maxRecDepth 100000
set_option maxHeartbeats 2000000
set_option Elab.async false
set_option linter.all false
set_option maxRecDepth 100000
set_option maxHeartbeats 2000000
namespace Sq
open PySem PySem.Spec PyProof.Rows L2 GenW
abbrev SpL := List V → Hp → (Addr → Prop) → Nat → (Nat → V → Hp → Prop) → XK → Prop
/-- what a call gives: a generator that has not begun -/
def LMade (Xc : Cx) (pinsC : List (Addr × Obj)) (k : Nat) (c : L2.St) (H : Hp) (s : Shared) (M : Addr → Prop) (tot : Nat) (It : Nat → V → Hp → Prop) (E : XK) (u : Value) (s' : Shared) : Prop :=
  ∃ (a : Addr) (g : Nat) (code : Code), u = .ref a ∧ s.heap.objs.size ≤ a ∧ s'.heap.IsGen a g ∧ s'.gens[g]? = some (.fresh code) ∧ s'.os = s.os ∧ AllBare s'.gens ∧ s'.heap.NoLimit ∧ (∀ b o, s.heap.get? b = some o → s'.heap.get? b = some o) ∧
    ∀ (J : Nat → L2.St → Hp → Prop) (A : Around) (s2 : Shared), J 0 c H → Room k A → A.frames = some Xc.stack → (∀ b o, s'.heap.get? b = some o → s2.heap.get? b = some o) → s2.os = s.os → AllBare s2.gens →
      ∃ L : Lv, L.Ok ∧ L.Xc = Xc ∧ L.pinsC = pinsC ∧ L.a = a ∧ L.g = g ∧ L.M = M ∧ L.tot = tot ∧ L.It = It ∧ L.J = J ∧ L.E = E ∧ L.sC = s ∧ L.HC = H ∧ L.A = A ∧ Seg L.md L.A L.R L.Y L.tot s2 code (L.md.den code) [] s2
structure GFnL (P : Program) (w : World) (K : PySem.W.Frag) (mg : Str → Option Value) (base : Heap) (k : Nat) (f : Addr) (fd : FuncData) (ps : List Str) (sp : SpL) : Prop where
  len : ∀ vs H M tot It E, sp vs H M tot It E → vs.length = ps.length
  run : ∀ (Xc : Cx) (pinsC : List (Addr × Obj)) (c : L2.St) (s : Shared) (H : Hp) (args : Args) (us : List Value) (vs : List V) (M : Addr → Prop) (tot : Nat) (It : Nat → V → Hp → Prop) (E : XK), Xc.prog = P → Xc.w = w → Xc.K = K → Xc.mg = mg → Xc.base = base → Inv Xc pinsC c H s → Room k Xc.A → BindsTo s fd args (ps.zip us) → Vals vs us → sp vs H M tot It E →
    codeAny (model P w) Xc.A (.call (.ref f) args) (fun r s' => match r with | .ok (.ret u) => LMade Xc pinsC k c H s M tot It E u s' | _ => False) s
end Sq
set_option Elab.async false
set_option linter.all false
set_option maxRecDepth 100000
set_option maxHeartbeats 2000000
namespace Sq
open PySem PySem.Spec PyProof.Rows L2 GenW
section
variable {X : Cx} {pins : List (Addr × Obj)} {σ : L2.St} {H : Hp} {s : Shared}
structure GE (X : Cx) (e : Expr) (t : TE) : Prop where
  run : ∀ (pins : List (Addr × Obj)) (s : Shared) (σ : L2.St) (H : Hp) (Q : VK), Inv X pins σ H s → t σ H Q → wpAny (model X.prog X.w) X.A (eval e X.env) (fun u s' => s'.gens = s.gens ∧ EP X pins σ Q u s') X.xe s
structure GA (X : Cx) (es : List Expr) (t : TA) : Prop where
  run : ∀ (pos : Pos) (pins : List (Addr × Obj)) (s : Shared) (σ : L2.St) (H : Hp) (Q : List V → Hp → Prop), Inv X pins σ H s → t σ H Q → wpAny (model X.prog X.w) X.A (spliced (backTo pos (starEach es X.env))) (fun us s' => s'.gens = s.gens ∧ AP X pins σ Q us s') X.xe s
structure GT (X : Cx) (e : Expr) (t : TT) : Prop where
  run : ∀ (pins : List (Addr × Obj)) (s : Shared) (σ : L2.St) (H : Hp) (Q : Bool → Hp → Prop), Inv X pins σ H s → t σ H Q → wpAny (model X.prog X.w) X.A (isTrue e X.env (eval e X.env)) (fun b s' => s'.gens = s.gens ∧ TP X pins σ Q b s') X.xe s
structure GSt (X : Cx) (st : Stmt) (t : TS) : Prop where
  run : ∀ (pins : List (Addr × Obj)) (s : Shared) (σ : L2.St) (H : Hp) (D : Ends), Inv X pins σ H s → t D σ H → wpAny (model X.prog X.w) X.A (exec st X.env) (fun f s' => s'.gens = s.gens ∧ SP X pins D f s') X.xe s
structure GSts (X : Cx) (st : List Stmt) (t : TS) : Prop where
  run : ∀ (pins : List (Addr × Obj)) (s : Shared) (σ : L2.St) (H : Hp) (D : Ends), Inv X pins σ H s → t D σ H → wpAny (model X.prog X.w) X.A (execs st X.env) (fun f s' => s'.gens = s.gens ∧ SP X pins D f s') X.xe s
structure GG (X : Cx) (tg : Expr) (t : TG) : Prop where
  run : ∀ (pins : List (Addr × Obj)) (s : Shared) (σ : L2.St) (H : Hp) (v : V) (u : Value) (Q : L2.St → Hp → Prop), Inv X pins σ H s → RelV v u → t v σ H Q → wpAny (model X.prog X.w) X.A (assign tg X.env u) (fun _ s' => s'.gens = s.gens ∧ ∃ σ' H', Inv X pins σ' H' s' ∧ Q σ' H') X.xe s
theorem ge_var {i : Nat} {x : Str} {pos : Pos} (hN : X.N[i]? = some x) (hv : Vis X.env.scope x) (hd : (x == ("__debug__" : Str)) = false := by decide) (hcd : (x == ("__classdict__" : Str)) = false := by decide) : GE X (.Name x pos) (tVar i) :=
  ⟨fun pins s σ H Q I h => by
    obtain ⟨v, e, q⟩ := h
    exact raw_name hN hv I e (fun u r => ⟨rfl, v, H, I, r, q⟩) hd hcd⟩
theorem ge_int {i : Int} {k : Nat} {pos : Pos} : GE X (.Constant (.int i) k pos) (tC (.int i)) :=
  ⟨fun pins s σ H Q I h => wpAny_Constant_int ⟨rfl, .int i, H, I.tok _, ⟨_, rfl⟩, h⟩⟩
theorem ga_nil : GA X [] tNil := ⟨fun pos pins s σ H Q I h => Calls.spliced_nil ⟨rfl, [], H, I, .nil, h⟩⟩
theorem ga_cons {e : Expr} {es : List Expr} {te : TE} {t : TA} (ha : GE X e te) (hr : GA X es t) (hs : starEach (e :: es) X.env = (false, eval e X.env) :: starEach es X.env := by rfl) : GA X (e :: es) (tCons te t) := by
  refine ⟨fun pos pins s σ H Q I h => ?_⟩
  rw [hs]
  show wpAny _ _ (spliced ((false, eval e X.env) :: backTo pos (starEach es X.env))) _ _ s
  refine Calls.spliced_cons (thn (ha.run pins s σ H _ I h) fun u s1 hh => ?_)
  obtain ⟨g1, x, H1, I1, r1, q1⟩ := hh
  exact thn (hr.run pos pins s1 σ H1 _ I1 q1) fun us s2 ⟨g2, xs, H2, I2, r2, q2⟩ => ⟨g2.trans g1, x :: xs, H2, I2, .cons r1 r2, q2⟩
theorem ge_lst {es : List Expr} {ta : TA} {pos : Pos} (h : GA X es ta) : GE X (.List es pos) (tLst ta) := by
  refine ⟨fun pins s σ H Q I hq => ?_⟩
  refine wpAny_List_spliced (thn (h.run pos pins s σ H _ I hq) fun us s1 hh => ?_)
  obtain ⟨g1, xs, H1, I1, r, z, q⟩ := hh
  refine ⟨by rw [← r.length]; exact z, g1, .ref s1.heap.objs.size, upd H1 s1.heap.objs.size (.lst xs), I1.laid (t' := s1.toks) (fun b u e => Heap.get?_push_of_some _ e) (Nat.le_refl _) ?_, rfl, q _ (I1.hok.fresh (Nat.le_refl _))⟩
  exact ⟨z, us, 0, r, Heap.get?_push_size _ rfl⟩
/-- l.append(e) -/
theorem ge_append {o e : Expr} {to te : TE} {apos cpos : Pos} (ho : GE X o to) (ha : GE X e te) (hbase : attributeBase o "append" X.env (eval o X.env) = eval o X.env := by rfl)
    (hfew : ((backTo cpos (starEach [e] X.env)).all (fun x => !x.1) && (backToKw cpos (keywordEach [] X.env)).all (fun x => x.1.isSome) && decide ([e].length + ([] : List Keyword).length + (if ([] : List Keyword).isEmpty then 0 else 1) < 30)) = true := by rfl)
    (hline : (apos.endLine == cpos.line) = true := by rfl) (hs : starEach [e] X.env = (false, eval e X.env) :: starEach [] X.env := by rfl) : GE X (.Call (.Attribute o "append" apos) [e] [] cpos) (tBM X.K "list" rAppend to (tCons te tNil)) := by
  refine ⟨fun pins s σ H Q I h => ?_⟩
  refine wpAny_Call_method_late hbase hfew hline rfl (thn (ho.run pins s σ H _ I h) fun v s1 hh => ?_)
  obtain ⟨g1, x, H1, I1, r1, ty, q1⟩ := hh
  obtain ⟨h1, h2⟩ := tyV_is I1 r1 ty
  refine ⟨"list", _, PySem.F.plainAttrs_list, PySem.F.slot_list_append, PySem.F.type_list_append, h1, h2, ?_⟩
  have hA := (ga_cons (hs := hs) ha ga_nil).run cpos pins s1 σ H1 _ I1 q1
  rw [hs] at hA ⊢
  refine Calls.callWith_builtin rfl (Calls.evalArgs_plain (thn hA fun us s2 hh => ?_))
  obtain ⟨g2, vs, H2, I2, r2, l, xs, y, ex, ev, hH, hz, q⟩ := hh
  subst ex ev
  cases r1
  obtain ⟨u, rfl, ru⟩ := r2.one
  obtain ⟨z, its, n, r, hl, eo⟩ := I2.lstM hH
  refine call_meets F.slot_list_append ⟨_, eo, rfl⟩ F.entry_list_append (F.args_list_append_2 _ _) (PySem.list_append l its.toArray n u (by rw [List.size_toArray]; omega)) ⟨eo, ?_⟩
  refine ⟨g2.trans g1, .non, _, I2.lset (its' := its ++ [u]) hH eo (by simp) (r.append (.cons ru .nil)) ?_, rfl, q⟩
  rw [List.length_append, List.length_singleton]
  omega
theorem gst_expr {e : Expr} {te : TE} {pos : Pos} (he : GE X e te) (hs : swapsWith e none pos.line X.env = pure false := by rfl) : GSt X (.Expr e pos) (tDrop te) := by
  refine ⟨fun pins s σ H D I h => ?_⟩
  refine wpAny_Expr_any (thn (he.run pins s σ H _ I h) fun v s1 hh => ?_) I.quiet hs
  obtain ⟨g1, x, H1, I1, r1, q1⟩ := hh
  exact ⟨g1, σ, H1, I1, q1⟩
theorem gsts_cons {st : Stmt} {rest : List Stmt} {t u : TS} (h1 : GSt X st t) (h2 : GSts X rest u) : GSts X (st :: rest) (tSeq t u) := by
  refine ⟨fun pins s σ H D I h => ?_⟩
  refine wpAny_execs_cons (thn (h1.run pins s σ H { D with nx := u D } I h) fun f s1 hh => ?_)
  obtain ⟨g1, q⟩ := hh
  match f, q with
  | .next, ⟨σ', H', I', q⟩ => exact thn (h2.run pins s1 σ' H' D I' q) fun f2 s2 ⟨g2, q2⟩ => ⟨g2.trans g1, q2⟩
  | .ret v, q => exact ⟨g1, q⟩
  | .brk, q => exact ⟨g1, q⟩
  | .cont, q => exact ⟨g1, q⟩
theorem gsts_one {st : Stmt} {t : TS} (h1 : GSt X st t) : GSts X [st] t := by
  refine ⟨fun pins s σ H D I h => ?_⟩
  refine wpAny_execs_cons (thn (h1.run pins s σ H D I h) fun f s1 hh => ?_)
  obtain ⟨g1, q⟩ := hh
  match f, q with
  | .next, q => exact wpAny_execs_nil ⟨g1, q⟩
  | .ret v, q => exact ⟨g1, q⟩
  | .brk, q => exact ⟨g1, q⟩
  | .cont, q => exact ⟨g1, q⟩
theorem gst_if {c : Expr} {a b : List Stmt} {tc : TT} {t u : TS} {pos : Pos} (hc : GT X c tc) (ha : GSts X a t) (hb : GSts X b u) : GSt X (.If c a b pos) (tIfS tc t u) := by
  refine ⟨fun pins s σ H D I h => ?_⟩
  refine wpAny_If (thn (hc.run pins s σ H _ I h) fun d s1 hh => ?_)
  obtain ⟨g1, H1, I1, q1⟩ := hh
  cases d with
  | true => exact thn (ha.run pins s1 σ H1 D I1 q1) fun f2 s2 ⟨g2, q2⟩ => ⟨g2.trans g1, q2⟩
  | false => exact thn (hb.run pins s1 σ H1 D I1 q1) fun f2 s2 ⟨g2, q2⟩ => ⟨g2.trans g1, q2⟩
/-- a local name is stored -/
theorem gg_name {i : Nat} {x : Str} {pos : Pos} (hN : X.N.Nodup) (hi : X.N[i]? = some x) (hx : X.env.scope.names.lookup x = some .local) (hk : X.env.kindOf x = some .local := by first | rfl | assumption) : GG X (.Name x pos) (gName i) := by
  refine ⟨fun pins s σ H v u Q I r h => ?_⟩
  refine wpAny_assign_Name ?_
  obtain ⟨m, hn, hl⟩ := id I.loc
  have hcls : (X.env.scope.kind == .class || (X.env.scope.kind == .module && X.env.locals != X.env.globals)) = false := by rw [I.ok.kind]; rfl
  have hiσ : i < σ.length := by rw [I.len]; exact (List.getElem?_eq_some_iff.mp hi).1
  refine wpAny_storeName_local hk hn (fun h' hn' hs => ⟨rfl, σ.set i (some v), H, ?_, h⟩) hcls
  have old : ∀ b o, X.s_0.heap.get? b = some o → b ≠ X.env.locals := fun b o e => Nat.ne_of_lt (Nat.lt_of_lt_of_le (Heap.lt_size e) I.ok.above)
  obtain ⟨oL, _, _, hoL, _⟩ := id hn
  refine ⟨I.ok, I.os, I.bare, ⟨fun b o e n hb hx => ?_, fun b o e n hb hx => ?_, I.base.free, fun b o e hx => ?_, I.base.tups, I.base.frzs, I.base.tbls⟩, ⟨_, hn', fun j y v' e1 e2 e3 => ?_⟩, fun y c e => ?_, I.free, I.freeC, fun p hp => ?_, fun b ob e => ?_, by simpa using I.len⟩
  · exact (hs.2 b (old b o e)).trans (I.base.keep b o e n hb hx)
  · obtain ⟨sl, e1⟩ := I.base.slot b o e n hb hx
    exact ⟨sl, (hs.2 b (old b o e)).trans e1⟩
  · obtain ⟨o', e1⟩ := I.base.there b o e hx
    exact ⟨o', (hs.2 b (old b o e)).trans e1⟩
  · by_cases hj : j = i
    · subst hj
      rw [hi] at e1
      cases e1
      rw [List.getElem?_set_self hiσ] at e2
      cases e2
      exact ⟨u, r, .inl ⟨hk, by simp⟩⟩
    · rw [List.getElem?_set_ne (Ne.symm hj)] at e2
      obtain ⟨u', r', q⟩ := hl j y v' e1 e2 e3
      refine ⟨u', r', ?_⟩
      rcases q with ⟨k, e⟩ | ⟨k, c, e, z⟩
      · have ne : y ≠ x := fun e => hj (nodup_ix hN e1 (e ▸ hi))
        exact .inl ⟨k, by simp [ne, e]⟩
      · exact .inr ⟨k, c, e, z.sameBut hs (I.cne y c e)⟩
  · obtain ⟨w', z⟩ := I.cell y c e
    exact ⟨w', z.sameBut hs (I.cne y c e)⟩
  · obtain ⟨e, n, ne, nf, d⟩ := I.pin p hp
    exact ⟨(hs.2 p.1 ne).trans e, n, ne, nf, d⟩
  · refine (I.hok b ob e).stay (fun c w' hc q => (hs.2 c ?_).trans q) (fun _ q => q) fun _ _ q => q
    rintro rfl
    rcases hc with rfl | hc
    · rw [I.free] at e
      cases e
    · rw [I.free] at hc
      cases hc
end
end Sq
set_option Elab.async false
set_option linter.all false
set_option maxRecDepth 100000
set_option maxHeartbeats 2000000
namespace Sq
open PySem PySem.Spec PyProof.Rows L2 GenW
/-- a generator def by its name -/
structure Dl (P : Program) (w : World) (K : PySem.W.Frag) (mg : Str → Option Value) (base : Heap) (k : Nat) (x : Str) (ps : List Str) (sp : SpL) : Prop where
  ex : ∃ f fd, GFnL P w K mg base k f fd ps sp ∧ mg x = some (.ref f) ∧ PySem.W.keepIn K (.ref f) = true ∧ Binds K fd ps []
end Sq
set_option Elab.async false
set_option linter.all false
set_option maxRecDepth 100000
set_option maxHeartbeats 2000000
set_option Elab.async false
set_option linter.all false
set_option maxRecDepth 100000
set_option maxHeartbeats 2000000
namespace Sq
open PySem PySem.Spec PyProof.Rows L2 GenW
/-- a def that keeps the table and lets nothing out -/
structure FnQ (P : Program) (w : World) (K : PySem.W.Frag) (mg : Str → Option Value) (base : Heap) (k : Nat) (f : Addr) (fd : FuncData) (ps : List Str) (sp : Sp) : Prop where
  len : ∀ vs H Q E, sp vs H Q E → vs.length = ps.length
  run : ∀ (A : Around) (outer : List Env) (s : Shared) (H : Hp) (args : Args) (us : List Value) (vs : List V) (Q : VK), Room k A → Env0 P w K mg base A outer s H → BindsTo s fd args (ps.zip us) → Vals vs us → sp vs H Q E0 →
    codeAny (model P w) A (.call (.ref f) args) (fun r s' => match r with | .ok (.ret u) => s'.gens = s.gens ∧ CE outer P w H s Q u s' | _ => False) s
structure Dq (P : Program) (w : World) (K : PySem.W.Frag) (mg : Str → Option Value) (base : Heap) (k : Nat) (x : Str) (ps : List Str) (sp : Sp) : Prop where
  ex : ∃ f fd, FnQ P w K mg base k f fd ps sp ∧ mg x = some (.ref f) ∧ PySem.W.keepIn K (.ref f) = true ∧ Binds K fd ps []
theorem fnq_of {P : Program} {w : World} {K : PySem.W.Frag} {mg : Str → Option Value} {base : Heap} {x qual : Str} {st : Stmt} {f : Addr} {fd : FuncData} {N ps : List Str} {k : Nat} {sp : Sp} (F : Fun K x qual st f fd) (S : FnScope N ps (defScope st)) (len : ∀ vs H Q E, sp vs H Q E → vs.length = ps.length)
    (walk : ∀ (cdv : Value) (A : Around) (outer : List Env) (s : Shared) (H : Hp) (vs : List V) (Q : VK), Room k (A.deeper (envOfC qual (defScope st) s.heap.objs.size f cdv)) → sp vs H Q E0 →
      ∃ t, GSts (cxOf CX0 P w K mg base N qual (defScope st) f cdv A outer s H E0).nox (defBody st) t ∧ t { nx := fun _ H' => Q .non H', rt := Q } (L2.start N vs) H) : FnQ P w K mg base (k + 1) f fd ps sp := by
  obtain ⟨oc, od, kV, doc, pm, an, cdv, ct, osl, rfl, lk, hcd⟩ := F.ex
  refine ⟨len, fun A outer s H args us vs Q hr e0 hb r hsp => ?_⟩
  have hl := len _ _ _ _ hsp
  have KX : K.In s.heap := e0.mod.kin.keeps fun b o e => (e0.bs b o e).1
  have lim : s.heap.NoLimit := e0.mod.nolimit.keeps fun b o e => (e0.bs b o e).1
  have hkind : ∀ y ∈ ps.zip us, (defScope st).names.lookup y.1 = some .local ∨ ((defScope st).names.lookup y.1 = some .cell ∧ ((cellsFrom (s.heap.objs.size + 1) (defScope st).names []).lookup y.1).isSome = true) := fun ⟨n, v⟩ hy =>
    (S.par n (List.of_mem_zip hy).1).elim .inl fun z => .inr ⟨z, PySem.W.cellsFrom_some _ _ _ (.inl z)⟩
  refine codeAny_call_function hr.depth (KX _ _ lk) rfl S.co S.gen rfl (PySem.W.codeRec_of KX hcd) (hb _ _ _ _ ?_)
  refine wpAny_newFunctionEnv_cells S.kind hkind fun env he s1 made => ?_
  subst he
  refine ⟨lim.keeps made.toInCall.keep, codeAny_func ?_⟩
  have gen1 : s1.gens = s.gens := by
    obtain ⟨h1, tk, es1, _⟩ := made.done
    rw [es1]
  obtain ⟨t, ht, hq⟩ := walk cdv A outer s H vs Q (hr.deeper _) hsp
  have I : Inv (cxOf CX0 P w K mg base N qual (defScope st) f cdv A outer s H E0).nox [] (start N vs) H s1 := (inv_start S hr.hd e0 hl r made).wish _
  refine wpAny_mono (ht.run [] s1 (start N vs) H _ I hq) (fun fl s' hs => ?_) fun e s' hs => False.elim hs
  obtain ⟨g, hs⟩ := hs
  match fl, hs with
  | .ret u, ⟨v, σ', H', J, rv, q⟩ => exact ⟨g.trans gen1, v, H', J.os, J.bare, J.base, J.hok, rv, q⟩
  | .next, ⟨σ', H', J, q⟩ => exact ⟨g.trans gen1, V.non, H', J.os, J.bare, J.base, J.hok, rfl, q⟩
  | .brk, ⟨_, _, _, q⟩ => exact False.elim q
  | .cont, ⟨_, _, _, q⟩ => exact False.elim q
section
variable {X : Cx} {pins : List (Addr × Obj)} {σ : L2.St} {H : Hp} {s : Shared} {k : Nat} {ps : List Str} {sp : Sp} {x : Str} {p pos : Pos} {e : Expr} {es : List Expr} {t : TA}
theorem ge_callU (D : Dq X.prog X.w X.K X.mg X.base k x ps sp) (hr : Room k X.A) (hg : Gl X x) (ha : GA X (e :: es) t) (hdb : (x == ("__debug__" : Str)) = false := by decide)
    (he : starEach (e :: es) X.env = (false, eval e X.env) :: starEach es X.env := by rfl) (hpl : (backTo pos (starEach es X.env)).any (·.1) = false := by rfl) : GE X (.Call (.Name x p) (e :: es) [] pos) (tCall sp [] E0 t) := by
  obtain ⟨f, fd, F, g, kp, b⟩ := D.ex
  refine ⟨fun pins s σ H Q I h => ?_⟩
  refine wpAny_Call_Name_kw (ld_glob I hg g ?_ hdb)
  refine PySem.W.callWith_K (h₀ := X.base) I.ok.mod.kin kp (thn (ha.run pos pins s σ H _ I h) fun us s1 hh => ?_) he hpl
  obtain ⟨g1, vs, H1, I1, r, q⟩ := hh
  refine ⟨I1.kIn, ?_⟩
  rw [List.append_nil] at q
  have hl : us.length = ps.length := by rw [← r.length]; exact F.len _ _ _ _ q
  have bind := b s1 us I1.kIn (by rw [List.append_nil]; exact hl)
  rw [List.append_nil] at bind
  refine wpAny_call (codeAny_mono (F.run X.A X.stack s1 H1 ⟨us, []⟩ us vs Q hr I1.env0 bind r q) fun r s' hq => ?_)
  match r, hq with
  | .ok (.ret u), hq => exact ⟨hq.1.trans g1, I1.after hq.2⟩
theorem gst_asg {tg e : Expr} {te : TE} {g : TG} {spos : Pos} (he : GE X e te) (hg : GG X tg g) (hs : swapsWithSole [tg] e spos.line X.env = pure false := by rfl) (hw : swappedStores [tg] e X.env = pure none := by rfl)
    (h1 : (assignEach [tg] X.env).map (·.2) = [assign tg X.env] := by rfl) : GSt X (.Assign [tg] e spos) (tAsg te g) := by
  refine ⟨fun pins s σ H D I h => ?_⟩
  refine wpAny_Assign_stores (thn (he.run pins s σ H _ I h) fun v s1 hh => ?_) hs hw
  obtain ⟨g1, x, H1, I1, r1, q1⟩ := hh
  rw [h1]
  exact thn (hg.run pins s1 σ H1 x v _ I1 r1 q1) fun _ s2 ⟨g2, q2⟩ => ⟨g2.trans g1, q2⟩
theorem gst_ret {e : Expr} {te : TE} {spos : Pos} (he : GE X e te) : GSt X (.Return (some e) spos) (tRet te) := by
  refine ⟨fun pins s σ H D I h => ?_⟩
  refine wpAny_Return_some (thn (he.run pins s σ H _ I h) fun v s1 hh => ?_)
  obtain ⟨g1, x, H1, I1, r1, q1⟩ := hh
  exact ⟨g1, x, σ, H1, I1, r1, q1⟩
end
end Sq
set_option Elab.async false
set_option linter.all false
set_option maxRecDepth 100000
set_option maxHeartbeats 2000000
set_option Elab.async false
set_option linter.all false
set_option maxRecDepth 100000
set_option maxHeartbeats 2000000
set_option Elab.async false
set_option linter.all false
set_option maxRecDepth 100000
set_option maxHeartbeats 2000000
namespace Sq
open PySem PySem.Spec PyProof.Rows L2
theorem set_sorted {P : Program} {w : World} {A : Around} {E : Value → Shared → Prop} {s : Shared} {a : Addr} {S : Int → Bool} {n : Nat} {Q : Value → Shared → Prop} (R : SetR w s.heap a S n) (quiet : A.handled = none) (few : n ≤ sizeLine)
    (fin : ∀ s' p (got : List Value) (ep : Nat) (ns : List Int), (∀ b o, s.heap.get? b = some o → s'.heap.get? b = some o) → s'.gens = s.gens → s'.os = s.os → s.heap.objs.size ≤ p → s'.heap.get? p = some (seqObj "list" got.toArray ep) →
      IntsAre got ns → ns.Pairwise (· < ·) → (∀ k, k ∈ ns ↔ S k = true) → ns.length = n → Q (.ref p) s') : wpAny (model P w) A (call (.builtin "sorted") [.ref a]) Q E s := by
  obtain ⟨o, es, ep, t, get, exact', data, good, once, mem, bound, fits, size, ris, led⟩ := R
  apply Calls.call_function_entry kind_sorted plain_sorted entry_sorted (args_sorted1 _)
  unfold Builtin.«sorted»
  apply wpAny_bind (m := checkCount "sorted" 1 1 _)
  apply wpAny_pure
  apply wpAny_bind
  refine collect_set (A := A.in1) quiet ⟨o, get, exact'.1, data⟩ fits bound ris led fun s1 vs kept grown gens os perm => ?_
  have len : vs.length = n := by
    rw [perm.length_eq, List.length_map, Array.length_toList]
    exact size
  have areInts : IntsAre vs (vs.map Builtin.Re.reRawOf) := ints_of vs fun v hv => by
    obtain ⟨e, he, q⟩ := List.mem_map.mp (perm.mem_iff.mp hv)
    obtain ⟨k, tk, h1, _⟩ := good e he
    exact ⟨k, tk, q ▸ h1⟩
  have keys : (vs.map Builtin.Re.reRawOf).Perm (es.toList.map keyOf) := by
    have := perm.map Builtin.Re.reRawOf
    rwa [List.map_map] at this
  apply wpAny_bind
  refine wpAny_newList ?_ (by omega)
  have fresh : (s1.heap.push (seqObj "list" vs.toArray 0)).get? s1.heap.objs.size = some (seqObj "list" vs.toArray 0) := Heap.get?_push_size _ rfl
  apply wpAny_bind
  apply wpAny_holding
  refine wpAny_call_entry slot_list_sort ⟨_, fresh, rfl⟩ entry_list_sort ?_ (args_list_sort _)
  refine SrtO.list_sort_ord SrtO.swo_int fresh (by omega) (fun two => SrtO.ints_sortable areInts two) fun out up stable => ⟨_, rfl, ?_⟩
  obtain ⟨i1, i2, i3⟩ := SrtO.ints_out areInts up stable
  obtain ⟨c, hc⟩ := sortedHeap_at (vs := vs) (out := out.toArray) fresh
  have all := i2.trans keys
  apply wpAny_pure
  refine ⟨_, rfl, fin _ s1.heap.objs.size out c (out.map SrtO.iv) (fun b u e => ?_) gens os grown hc i1 (lt_of_le_nodup _ i3 (all.nodup_iff.mpr once)) (fun k => by rw [all.mem_iff, ← mem k]) ?_⟩
  · have old := kept b u e
    have lt := Heap.lt_size old
    refine (sortedHeap_old (Nat.ne_of_lt lt) ?_).trans (Heap.get?_push_of_some _ old)
    rw [size_push']
    exact Nat.lt_succ_of_lt lt
  · rw [all.length_eq, List.length_map, Array.length_toList, size]
def rSortedSetI (w : World) : List V → Hp → VK → Prop := fun vs H Q => ∃ (a : Addr) (S : Int → Bool) (n : Nat), vs = [V.ref a] ∧ H a = some (SetO w a S n) ∧ n ≤ sizeLine ∧
  ∀ (ns : List Int) (p : Addr), ns.Pairwise (· < ·) → (∀ k : Int, k ∈ ns ↔ S k = true) → ns.length = n → H p = none → Q (.ref p) (upd H p (.lst (ns.map V.int)))
end Sq
set_option Elab.async false
set_option linter.all false
set_option maxHeartbeats 1000000
set_option Elab.async false
set_option linter.all false
set_option maxHeartbeats 1000000
namespace Sq
theorem len_le_of {α : Type} [DecidableEq α] : ∀ {A B : List α}, A.Nodup → (∀ x ∈ A, x ∈ B) → A.length ≤ B.length
  | [], B, _, _ => Nat.zero_le _
  | a :: A, B, nd, sub => by
    have nd' := List.nodup_cons.mp nd
    have h := len_le_of (A := A) (B := B.erase a) nd'.2 fun x hx => (List.mem_erase_of_ne (fun z : x = a => nd'.1 (by rw [← z]; exact hx))).mpr (sub x (List.mem_cons_of_mem _ hx))
    have l := List.length_erase_of_mem (sub a (List.mem_cons_self ..))
    have p : 0 < B.length := List.length_pos_of_mem (sub a (List.mem_cons_self ..))
    rw [List.length_cons]
    omega
end Sq
set_option Elab.async false
set_option linter.all false
set_option maxRecDepth 100000
set_option maxHeartbeats 4000000
namespace Sq
open PySem PySem.Spec PyProof.Rows L2
abbrev emptyS (w : World) : Obj := { cls := .type "set", dict := none, data := .set #[] 0 (.fresh 0 0 (!w.params.followText "set-order")) }
section
variable {P : Program} {w : World} {A : Around} {E : Value → Shared → Prop} {s : Shared}
theorem set_of_list {l : Addr} {its : Array Value} {zs : List Int} {Q : Value → Shared → Prop} (quiet : A.handled = none) (isL : s.heap.IsList l its) (areI : IntsAre its.toList zs) (few : zs.length + 1 < scanBound)
    (fin : ∀ (g : Heap) (tk m : Nat), SetR w g s.heap.objs.size (fun j => decide (j ∈ zs)) m → m ≤ zs.length → (∀ b o, s.heap.get? b = some o → g.get? b = some o) → Q (.ref s.heap.objs.size) { s with heap := g, toks := tk }) :
    wpAny (model P w) A (call (.type "set") [.ref l]) Q E s := by
  have size : its.size = zs.length := by
    rw [← Array.length_toList]
    exact IntsAre.length areI
  obtain ⟨c0, tl0, mro0⟩ := F.called_set.mro
  have made0 := F.called_set.made
  have sub0 := F.called_set.sub
  refine wpAny_call (codeAny_of_tree (show wpAny _ _ (callAny (.type "set") _) _ _ _ from ?_))
  refine wpAny_pure ⟨Code.quiet_builtin _ (by decide +kernel), codeAny_builtin F.entry_type_call ?_⟩
  rw [Around.under_plain (weight_type_call_type "set" [.ref l] []) rfl]
  have t1 := F.called_set.notType
  have t2 := F.called_set.canCreate
  have t3 := F.typeCall_set_1 (.ref l)
  repeat (any_goals (first | assumption | wp_step))
  refine codeAny_mono (code_set_led1 (.ref l) (E := E) (Q₁ := fun ob s' => ob = .ref s.heap.objs.size ∧ s' = { s with heap := s.heap.push (emptyS w) }) ⟨rfl, rfl⟩) fun r s' hr => ?_
  match r, hr with
  | .error e, hr => exact hr
  | .ok .next, hr => exact hr.elim
  | .ok .brk, hr => exact hr.elim
  | .ok .cont, hr => exact hr.elim
  | .ok (.ret ob), hr =>
    obtain ⟨rfl, rfl⟩ := hr
    have gS : (s.heap.push (emptyS w)).get? s.heap.objs.size = some (emptyS w) := Heap.get?_push_size _ rfl
    have tS : Shared.TypeIs { s with heap := s.heap.push (emptyS w) } (.ref s.heap.objs.size) "set" := ⟨_, gS, rfl⟩
    have i1 := F.called_set.init.lookup
    have i2 := F.called_set.init.bind (.ref s.heap.objs.size)
    repeat (any_goals (first | assumption | wp_step))
    refine codeAny_mono (codeAny_call_builtin (R := wants (fun r s2 => r = .none ∧ ∃ g tk m, s2 = { s with heap := g, toks := tk } ∧ SetR w g s.heap.objs.size (fun j => decide (j ∈ zs)) m ∧ m ≤ zs.length ∧
        ∀ b o, s.heap.get? b = some o → g.get? b = some o) E) F.called_set.init.plain F.entry_set_init (check_set_init_1 tS ?_)) fun r2 s2 hr2 => ?_
    · obtain ⟨⟨cl, di, da, sl⟩, ol, isC, nl, isD⟩ := isL
      simp only at isC isD
      subst isC isD
      have ol1 : (s.heap.push (emptyS w)).get? l = some { cls := .type "list", dict := di, data := .seq its nl, slots := sl } := Heap.get?_push_of_some _ ol
      have n1 := F.sub_list_set
      have n2 := F.sub_list_frozenset
      have n3 : (Value.type "list" == Value.type "dict") = false := by decide
      have isL1 : (s.heap.push (emptyS w)).IsList l its := ⟨_, ol1, rfl, nl, rfl⟩
      unfold Builtin.«set.__init__» noKeywords Builtin.Frozenset.updateFrom
      generalize pk : pyIter = PK
      wp_walk
      subst pk
      refine wpAny_pyIter_list isL1 (wpAny_bind (wpAny_runValue ?_))
      have low : l < s.heap.objs.size := Heap.lt_size ol
      have q3 : A.in1.in1.in1.handled = none := by simp [quiet]
      have big : (s.heap.push (emptyS w)).objs.size = s.heap.objs.size + 1 := Heap.size_push ..
      have apart : l ≠ (s.heap.push (emptyS w)).objs.size := by rw [big]; exact Nat.ne_of_lt (Nat.lt_succ_of_lt low)
      have notIn : s.heap.objs.size ∉ [(s.heap.push (emptyS w)).objs.size, l] := by
        rw [big]
        intro z
        rcases List.mem_cons.mp z with z | z
        · exact absurd z (Nat.ne_of_lt (Nat.lt_succ_self _))
        · exact absurd (List.mem_singleton.mp z) (Nat.ne_of_gt low)
      have vals : ∀ (i : Nat) (v : Value), its[i]? = some v → ∃ k t, zs[i]? = some k ∧ v = .int k t := fun i v hv => by
        have li : i < zs.length := by rw [← size]; exact (Array.getElem?_eq_some_iff.mp hv).1
        obtain ⟨t, e⟩ := IntsAre.int_at areI i v (by rw [Array.getElem?_toList]; exact hv)
        refine ⟨zs[i], t, List.getElem?_eq_getElem li, ?_⟩
        rw [e, List.getD_eq_getElem?_getD, List.getElem?_eq_getElem li] <;> rfl
      refine set_update_ints ((Walks.list q3 _ l apart its).toS) s.heap.objs.size notIn zs size few vals (its.size - 0) 0 _ (by omega) (Nat.zero_le _) ⟨⟨_, Heap.get?_push_size _ rfl, rfl, rfl⟩, isL1.push _⟩ ⟨0, Nat.le_refl 0, setR_new_at (Heap.get?_push_of_some _ gS)⟩ ?_
      intro s3 m mv lm R3
      obtain ⟨g, gn, dr, tk, os⟩ := s3
      obtain rfl : gn = s.gens := mv.gens
      obtain rfl : dr = s.drawn := mv.drawn
      obtain rfl : os = s.os := mv.os
      rw [size] at lm
      refine (show wpAny _ _ _ _ _ _ from wpAny_pure (show wpAny _ _ (ret Value.none) _ _ _ from ?_))
      refine wpAny_pure ⟨rfl, g, tk, m, rfl, R3, lm, fun b o e => ?_⟩
      have lb : b < s.heap.objs.size := Heap.lt_size e
      refine mv.heap b o (fun z => ?_) (Heap.get?_push_of_some _ (Heap.get?_push_of_some _ e))
      rcases List.mem_cons.mp z with z | z
      · exact absurd z (Nat.ne_of_lt lb)
      · have z := List.mem_singleton.mp z
        rw [big] at z
        exact absurd z (Nat.ne_of_lt (Nat.lt_succ_of_lt lb))
    · match r2, hr2 with
      | .error e, hr2 => exact hr2
      | .ok .next, hr2 => exact hr2.elim
      | .ok .brk, hr2 => exact hr2.elim
      | .ok .cont, hr2 => exact hr2.elim
      | .ok (.ret v), hr2 =>
        obtain ⟨rfl, g, tk, m, rfl, R3, lm, kept⟩ := hr2
        repeat (any_goals (first | assumption | wp_step))
        exact fin _ _ _ R3 lm kept
end
theorem perm_of_sub {α : Type} [DecidableEq α] : ∀ {A B : List α}, A.Nodup → (∀ x ∈ A, x ∈ B) → B.length = A.length → A.Perm B
  | [], B, _, _, l => by rw [List.length_eq_zero_iff.mp l]
  | a :: A, B, nd, sub, l => by
    have nd' := List.nodup_cons.mp nd
    have ha := sub a List.mem_cons_self
    have le := List.length_erase_of_mem ha
    rw [List.length_cons] at l
    have ih := perm_of_sub (A := A) (B := B.erase a) nd'.2 (fun x hx => (List.mem_erase_of_ne (fun z : x = a => nd'.1 (by rw [← z]; exact hx))).mpr (sub x (List.mem_cons_of_mem _ hx))) (by omega)
    exact (ih.cons a).trans (List.perm_cons_erase ha).symm
theorem setR_count {w : World} {h : Heap} {a : Addr} {zs : List Int} {m : Nat} (R : SetR w h a (fun j => decide (j ∈ zs)) m) : m = zs.length ↔ zs.Nodup := by
  obtain ⟨o, es, ep, t, get, ex, data, good, once, mem, bound, fits, size, ris, led⟩ := R
  have len : (es.toList.map keyOf).length = m := by rw [List.length_map, Array.length_toList]; exact size
  have sub : ∀ x, x ∈ es.toList.map keyOf ↔ x ∈ zs := fun x => by rw [← mem x]; exact decide_eq_true_iff
  constructor
  · intro e
    exact (perm_of_sub once (fun x hx => (sub x).mp hx) (by rw [len, e])).nodup_iff.mp once
  · intro nd
    have a := len_le_of nd fun x hx => (sub x).mpr hx
    have b := len_le_of once fun x hx => (sub x).mp hx
    omega
section
variable {X : Cx}
def rSetL (K : PySem.W.Frag) (w : World) : List V → Hp → VK → Prop := fun vs H Q => ∃ (l : Addr) (zs : List Int), vs = [.ref l] ∧ SqL K H l (zs.map V.int) ∧ zs.length ≤ 4000 ∧ ∀ p m, H p = none → m ≤ zs.length → (m = zs.length ↔ zs.Nodup) → Q (.ref p) (upd H p (SetO w p (fun j => decide (j ∈ zs)) m))
end
end Sq
set_option Elab.async false
set_option linter.all false
set_option maxRecDepth 100000
set_option maxHeartbeats 1000000
namespace Sq
open PySem PySem.Spec PyProof.Rows L2
open TL (numL numL_len)
theorem numL_low (n : Nat) : ∀ c ∈ numL n, c < 128 := fun c hc => by have := TL.numL_digits n c hc; omega
theorem cutS_take (z : Str) (n : Nat) (h : n ≤ z.length) : TL.tl (cutS z none (some (n : Int))) = (TL.tl z).take n := by
  show ((z.cps.toList.drop (HT.sIx z.length 0 none)).take (HT.sIx z.length z.length (some (n : Int)) - HT.sIx z.length 0 none)) = _
  rw [HT.sIx_nat, HT.sIx_none, List.drop_zero, Nat.min_eq_left h, Nat.sub_zero]
end Sq
set_option Elab.async false
set_option linter.all false
set_option maxRecDepth 100000
set_option maxHeartbeats 2000000
namespace Sq
open PySem PySem.Spec PyProof.Rows L2
open NumText (digitsVal AllDigits)
def signsV (x : Str) : List V := (TL.tl x).map fun c => V.str ⟨#[c]⟩
def rListStr : List V → Hp → VK → Prop := fun xs H Q => ∃ x : Str, xs = [.str x] ∧ x.length ≤ sizeLine ∧ ∀ p, H p = none → Q (.ref p) (upd H p (.lst (signsV x)))
theorem vals_signs {x : Str} {acc : Array Value} (h : ItemsOf (SignAt x) acc x.cps.size) : Vals (signsV x) acc.toList := by
  obtain ⟨sz, items⟩ := h
  have key : ∀ (cs : List Nat) (vs : List Value), cs.length = vs.length → (∀ (j : Nat) (v : Value), vs[j]? = some v → ∃ c u, cs[j]? = some c ∧ v = Value.str ⟨#[c]⟩ u) → Vals (cs.map fun c => V.str ⟨#[c]⟩) vs := fun cs => by
    induction cs with
    | nil =>
      intro vs l _
      cases vs with
      | nil => exact .nil
      | cons v vs => cases l
    | cons c cs ih =>
      intro vs l it
      cases vs with
      | nil => cases l
      | cons v vs =>
        obtain ⟨c', u, e, rfl⟩ := it 0 v rfl
        cases e
        exact .cons ⟨u, rfl⟩ (ih vs (Nat.succ.inj l) fun j w e => it (j + 1) w e)
  refine key (TL.tl x) acc.toList ?_ fun j v e => ?_
  · show x.cps.toList.length = _
    rw [Array.length_toList, Array.length_toList, sz]
  · obtain ⟨c, u, e2, e3⟩ := items j v (by rw [← Array.getElem?_toList]; exact e)
    exact ⟨c, u, by show x.cps.toList[j]? = some c; rw [Array.getElem?_toList]; exact e2, e3⟩
theorem call_listStr {X : Cx} (hc : X.calm = true) : CallR X (.type "list") rListStr := by
  intro pins s σ H xs us Q I r h
  obtain ⟨x, rfl, hl, q⟩ := h
  obtain ⟨u, rfl, t, rfl⟩ := vals1 r
  refine PySem.call_list_str (I.ok.hd hc) x t (fun h' tk acc' c' keep got items => ?_) hl
  have free : H s.heap.objs.size = none := I.hok.fresh (Nat.le_refl _)
  have len : (signsV x).length ≤ sizeLine := by
    unfold signsV
    rw [List.length_map, ← TL.len_tl]
    exact hl
  refine ⟨.ref s.heap.objs.size, upd H s.heap.objs.size (.lst (signsV x)), ?_, rfl, q _ free⟩
  exact I.call (ch := []) (Un.laid keep (Nat.le_refl _) free) (I.hok.laid keep (Nat.le_refl _) ⟨len, acc'.toList, c', vals_signs items, by rw [Array.toArray_toList]; exact got⟩) I.bare (fun _ z => nomatch z)
end Sq
set_option Elab.async false
set_option linter.all false
set_option maxRecDepth 100000
set_option maxHeartbeats 2000000
namespace Sq
open PySem PySem.Spec PyProof.Rows L2 GenW
/-- the object at c is as it was -/
def Kc (c : Addr) (s s' : Shared) : Prop := ∀ o, s.heap.get? c = some o → s'.heap.get? c = some o
theorem Kc.refl {c : Addr} {s : Shared} : Kc c s s := fun _ e => e
theorem Kc.trans {c : Addr} {s s1 s2 : Shared} (a : Kc c s s1) (b : Kc c s1 s2) : Kc c s s2 := fun o e => b o (a o e)
/-- c is the cell of a name of the def's own -/
structure Cel (X : Cx) (y : Str) (c : Addr) : Prop where
  is : X.env.cells.lookup y = some c
  own : X.fn y = true
section
variable {X : Cx} {y : Str} {c : Addr} {pins : List (Addr × Obj)} {σ : L2.St} {H H' : Hp} {s s' : Shared}
theorem Cel.free (C : Cel X y c) (I : Inv X pins σ H s) : H c = none := I.freeC _ _ C.is
theorem Cel.nofs (C : Cel X y c) (I : Inv X pins σ H s) : c ∉ X.fs := fun hb => by
  obtain ⟨_, o, ho, _⟩ := I.ok.funs.mem hb
  exact absurd (Nat.lt_of_lt_of_le (Heap.lt_size ho) (I.ok.cab _ _ C.own C.is)) (Nat.lt_irrefl _)
theorem Cel.nostk (C : Cel X y c) (I : Inv X pins σ H s) : c ∉ frs X.stack := by
  rcases I.ok.stk with e | ⟨e, fr⟩
  · rw [e]
    exact C.nofs I
  · rw [e]
    intro h
    obtain ⟨en, hm, hf⟩ := List.mem_filterMap.mp h
    rcases List.mem_cons.mp hm with z | z
    · rw [z, fr] at hf
      exact I.cne _ _ C.is (Option.some.inj hf).symm
    · exact C.nofs I (List.mem_filterMap.mpr ⟨en, z, hf⟩)
theorem Cel.un (C : Cel X y c) (I : Inv X pins σ H s) (u : Un (frs X.stack) [] H H' s.heap s'.heap) : Kc c s s' := fun o e => u.keep c o e (C.free I) (C.nostk I) (by simp)
end
structure JE (X : Cx) (c : Addr) (e : Expr) (t : TE) : Prop where
  run : ∀ (pins : List (Addr × Obj)) (s : Shared) (σ : L2.St) (H : Hp) (Q : VK), Inv X pins σ H s → t σ H Q → wpAny (model X.prog X.w) X.A (eval e X.env) (fun u s' => Kc c s s' ∧ EP X pins σ Q u s') X.xe s
structure JA (X : Cx) (c : Addr) (es : List Expr) (t : TA) : Prop where
  run : ∀ (pos : Pos) (pins : List (Addr × Obj)) (s : Shared) (σ : L2.St) (H : Hp) (Q : List V → Hp → Prop), Inv X pins σ H s → t σ H Q → wpAny (model X.prog X.w) X.A (spliced (backTo pos (starEach es X.env))) (fun us s' => Kc c s s' ∧ AP X pins σ Q us s') X.xe s
structure JSt (X : Cx) (c : Addr) (st : Stmt) (t : TS) : Prop where
  run : ∀ (pins : List (Addr × Obj)) (s : Shared) (σ : L2.St) (H : Hp) (D : Ends), Inv X pins σ H s → t D σ H → wpAny (model X.prog X.w) X.A (exec st X.env) (fun f s' => Kc c s s' ∧ SP X pins D f s') X.xe s
def CallJ (X : Cx) (c : Addr) (f : Value) (r : List V → Hp → VK → Prop) : Prop := ∀ (pins : List (Addr × Obj)) (s : Shared) (σ : L2.St) (H : Hp) (vs : List V) (us : List Value) (Q : VK), Inv X pins σ H s → Vals vs us → r vs H Q → wpAny (model X.prog X.w) X.A (call f us) (fun u s' => Kc c s s' ∧ EP X pins σ Q u s') X.xe s
section
variable {X : Cx} {y : Str} {c : Addr} {pins : List (Addr × Obj)} {σ : L2.St} {H : Hp} {s : Shared} {x : Str} {p pos : Pos} {e : Expr} {es : List Expr} {te : TE} {t : TA}
theorem je_var {i : Nat} (hN : X.N[i]? = some x) (hv : Vis X.env.scope x) (hd : (x == ("__debug__" : Str)) = false := by decide) (hcd : (x == ("__classdict__" : Str)) = false := by decide) : JE X c (.Name x pos) (tVar i) :=
  ⟨fun pins s σ H Q I h => by
    obtain ⟨v, e, q⟩ := h
    exact raw_name hN hv I e (fun u r => ⟨Kc.refl, v, H, I, r, q⟩) hd hcd⟩
theorem jv (i : Nat) (hN : X.N[i]? = some x := by rfl) (hv : Vis X.env.scope x := by first | exact Or.inl rfl | exact Or.inr (Or.inl rfl) | exact Or.inr (Or.inr rfl)) (hd : (x == ("__debug__" : Str)) = false := by decide)
    (hcd : (x == ("__classdict__" : Str)) = false := by decide) : JE X c (.Name x pos) (tVar i) := je_var hN hv hd hcd
theorem ja_nil : JA X c [] tNil := ⟨fun pos pins s σ H Q I h => Calls.spliced_nil ⟨Kc.refl, [], H, I, .nil, h⟩⟩
theorem ja_cons (ha : JE X c e te) (hr : JA X c es t) (hs : starEach (e :: es) X.env = (false, eval e X.env) :: starEach es X.env := by rfl) : JA X c (e :: es) (tCons te t) := by
  refine ⟨fun pos pins s σ H Q I h => ?_⟩
  rw [hs]
  show wpAny _ _ (spliced ((false, eval e X.env) :: backTo pos (starEach es X.env))) _ _ s
  refine Calls.spliced_cons (thn (ha.run pins s σ H _ I h) fun u s1 hh => ?_)
  obtain ⟨g1, x, H1, I1, r1, q1⟩ := hh
  exact thn (hr.run pos pins s1 σ H1 _ I1 q1) fun us s2 ⟨g2, xs, H2, I2, r2, q2⟩ => ⟨g1.trans g2, x :: xs, H2, I2, .cons r1 r2, q2⟩
theorem run_fnJ {CX : CXT} {k : Nat} {f : Addr} {fd : FuncData} {ps : List Str} {sp : Sp} {dvs : List V} {ds : List Value} {E : XK} {Q : VK} {us : List Value} {vs : List V} (C : Cel X y c) (F : FnOk X.prog X.w X.K X.mg X.base CX k f fd ps sp) (hr : Room k X.A) (hb : Binds X.K fd ps ds) (hd : Vals dvs ds) (hx : Passes CX X E)
    (I : Inv X pins σ H s) (r : Vals vs us) (h : sp (vs ++ dvs) H Q E) : wpAny (model X.prog X.w) X.A (call (.ref f) us) (fun u s' => Kc c s s' ∧ EP X pins σ Q u s') X.xe s := by
  have r2 : Vals (vs ++ dvs) (us ++ ds) := r.append hd
  have hl : (us ++ ds).length = ps.length := by rw [← r2.length]; exact F.len _ _ _ _ h
  refine wpAny_call (codeAny_mono (F.run X.A X.stack s H ⟨us, []⟩ (us ++ ds) (vs ++ dvs) Q E hr I.env0 (hb s us I.kIn hl) r2 h) fun r s' hq => ?_)
  match r, hq with
  | .error e, hq => exact hx pins σ H s e s' I hq
  | .ok (.ret u), hq =>
    have ce : CE X.stack X.prog X.w H s Q u s' := hq
    obtain ⟨_, _, _, _, un, _⟩ := id ce
    exact ⟨C.un I un, I.after ce⟩
  | .ok .next, hq => exact False.elim hq
  | .ok .brk, hq => exact False.elim hq
  | .ok .cont, hq => exact False.elim hq
theorem je_call {CX : CXT} {k : Nat} {f : Addr} {fd : FuncData} {ps : List Str} {sp : Sp} {dvs : List V} {ds : List Value} {E : XK} (C : Cel X y c) (F : FnOk X.prog X.w X.K X.mg X.base CX k f fd ps sp) (hr : Room k X.A) (hg : Gl X x) (hm : X.mg x = some (.ref f)) (hk : PySem.W.keepIn X.K (.ref f) = true) (hb : Binds X.K fd ps ds) (hd : Vals dvs ds) (hx : Passes CX X E)
    (ha : JA X c (e :: es) t) (hdb : (x == ("__debug__" : Str)) = false := by decide) (he : starEach (e :: es) X.env = (false, eval e X.env) :: starEach es X.env := by rfl) (hpl : (backTo pos (starEach es X.env)).any (·.1) = false := by rfl) :
    JE X c (.Call (.Name x p) (e :: es) [] pos) (tCall sp dvs E t) := by
  refine ⟨fun pins s σ H Q I h => ?_⟩
  refine wpAny_Call_Name_kw (ld_glob I hg hm ?_ hdb)
  refine PySem.W.callWith_K (h₀ := X.base) I.ok.mod.kin hk (thn (ha.run pos pins s σ H _ I h) fun us s1 hh => ?_) he hpl
  obtain ⟨g1, vs, H1, I1, r, q⟩ := hh
  exact ⟨I1.kIn, thn (run_fnJ C F hr hb hd hx I1 r q) fun u s2 ⟨g2, q2⟩ => ⟨g1.trans g2, q2⟩⟩
theorem je_callD {k : Nat} {ps : List Str} {sp : Sp} (C : Cel X y c) (D : Df X.prog X.w X.K X.mg X.base k x ps sp) (hr : Room k X.A) (hg : Gl X x) (ha : JA X c (e :: es) t) (hdb : (x == ("__debug__" : Str)) = false := by decide)
    (he : starEach (e :: es) X.env = (false, eval e X.env) :: starEach es X.env := by rfl) (hpl : (backTo pos (starEach es X.env)).any (·.1) = false := by rfl) : JE X c (.Call (.Name x p) (e :: es) [] pos) (tCall sp [] E0 t) := by
  obtain ⟨f, fd, F, g, kp, b⟩ := D.ex
  exact je_call C F hr hg g kp b .nil pass0 ha hdb he hpl
theorem je_callB {id : String} {r : List V → Hp → VK → Prop} (hc : CallJ X c (.builtin id) r) (hg : Gl X x) (hm : X.mg x = none) (hv : bootBuiltins x = some (.builtin id)) (ha : JA X c (e :: es) t) (hn : x ≠ "__name__" := by decide) (hdb : (x == ("__debug__" : Str)) = false := by decide)
    (he : starEach (e :: es) X.env = (false, eval e X.env) :: starEach es X.env := by rfl) (hpl : (backTo pos (starEach es X.env)).any (·.1) = false := by rfl) : JE X c (.Call (.Name x p) (e :: es) [] pos) (tCB r t) := by
  refine ⟨fun pins s σ H Q I h => ?_⟩
  refine wpAny_Call_Name_kw (ld_blt I hg hm hv ?_ hn hdb)
  refine PyProof.Rows.callWith_builtin1 (thn (ha.run pos pins s σ H _ I h) fun us s1 hh => ?_) he hpl
  obtain ⟨g1, vs, H1, I1, r1, q1⟩ := hh
  exact thn (hc pins s1 σ H1 vs us Q I1 r1 q1) fun u s2 ⟨g2, q2⟩ => ⟨g1.trans g2, q2⟩
theorem cj_sortedSetI (hc : X.calm = true) : CallJ X c (.builtin "sorted") (rSortedSetI X.w) := by
  intro pins s σ H vs us Q I r h
  obtain ⟨a, S, n, rfl, ha, few, q⟩ := h
  rw [Vals.ref1 r]
  refine set_sorted (setO_get I ha) (I.ok.hd hc) few fun s' p got ep ns kept g os lp hg areI up mem len => ?_
  have free : H p = none := I.hok.fresh lp
  have sz : (ns.map V.int).length ≤ sizeLine := by
    rw [List.length_map]
    omega
  have same : s' = { s with heap := s'.heap, gens := s'.gens, drawn := s'.drawn, toks := s'.toks } := by
    cases s'
    cases s
    cases os
    rfl
  rw [same]
  exact ⟨fun o e => kept _ _ e, .ref p, upd H p (.lst (ns.map V.int)), I.call (ch := []) (Un.laid kept lp free) (I.hok.laid kept lp ⟨sz, got, ep, vals_of_ints areI, hg⟩) (by rw [g]; exact I.bare) (fun _ z => nomatch z), rfl, q ns p up mem len free⟩
theorem jst_expr (he : JE X c e te) (hs : swapsWith e none pos.line X.env = pure false := by rfl) : JSt X c (.Expr e pos) (tDrop te) := by
  refine ⟨fun pins s σ H D I h => ?_⟩
  refine wpAny_Expr_any (thn (he.run pins s σ H _ I h) fun v s1 hh => ?_) I.quiet hs
  obtain ⟨g1, x, H1, I1, r1, q1⟩ := hh
  exact ⟨g1, σ, H1, I1, q1⟩
theorem jst_set {i : Nat} {pos' : Pos} (C : Cel X y c) (ne : x ≠ y) (hN : X.N.Nodup) (hi : X.N[i]? = some x) (hx : Loc X.env.scope x) (he : JE X c e te) (hs : swapsWith e (some (.Name x pos')) pos.line X.env = pure false := by rfl) (hf : X.fn x = true ∨ X.env.scope.names.lookup x = some .local := by first | exact .inl rfl | exact .inr rfl | assumption) :
    JSt X c (.Assign [.Name x pos'] e pos) (tAsg te (gName i)) := by
  refine ⟨fun pins s σ H D I h => ?_⟩
  refine wpAny_Assign_Name (thn (he.run pins s σ H _ I h) fun v s1 hh => ?_) hs
  obtain ⟨g1, z, H1, I1, r1, q1⟩ := hh
  refine store_ok2 I1 hN hi hx r1 (fun s2 I2 hh => ?_) hf
  obtain ⟨a, sb, ha⟩ := hh
  have ca : c ≠ a := fun z => by
    rcases ha with ha | ha
    · exact I1.cne _ _ C.is (z.trans ha)
    · rw [← z] at ha
      exact ne (I1.ok.inj _ _ _ ha C.is)
  exact ⟨g1.trans fun o e => (sb.2 c ca).trans e, _, H1, I2, q1⟩
end
end Sq
set_option Elab.async false
set_option linter.all false
set_option maxRecDepth 100000
set_option maxHeartbeats 4000000
namespace Sq
open PySem PySem.Spec PyProof.Rows L2 GenW
section
variable {X : Cx}
/-- where a loop's items come from -/
structure JI (X : Cx) (c : Addr) (tg iter : Expr) (wi : TI) : Prop where
  run : ∀ (pins : List (Addr × Obj)) (s : Shared) (σ : L2.St) (H : Hp) (R : It → Hp → Prop), Inv X pins σ H s → wi σ H R →
    wpAny (model X.prog X.w) X.A (eval iter X.env) (fun v s1 => wpAny (model X.prog X.w) X.A (pyIter v) (fun u s2 => Kc c s s2 ∧ PIE X pins σ tg R u s2) X.xe s1) X.xe s
theorem ji_list {c : Addr} {tg l : Expr} {tl : TE} (hl : JE X c l tl) : JI X c tg l (iList X.K tl) := by
  refine ⟨fun pins s σ H R I h => ?_⟩
  refine thn (hl.run pins s σ H _ I h) fun v s1 hh => ?_
  obtain ⟨g1, x, H1, I1, r1, a, e, ⟨xs, hq⟩, q⟩ := hh
  subst e
  cases r1
  obtain ⟨its, rv, p, hz⟩ := I1.list hq
  refine wpAny_pyIter_list p.isList ⟨g1.trans fun o e => Heap.get?_push_of_some _ e, ?_⟩
  have lo : s1.heap.objs.size ≤ s1.heap.objs.size := Nat.le_refl _
  refine ⟨s1.heap.objs.size, [s1.heap.objs.size], _, _, H1, rfl, I1.kept (t' := s1.toks) fun b o e => Heap.get?_push_of_some _ e, turn_list a _, ⟨_, Heap.get?_push_size _ rfl, rfl, rfl⟩, fun b hb => ?_, q⟩
  rw [List.mem_singleton.mp hb]
  exact I1.fpOk lo (I1.hok.fresh lo)
theorem dcJ_core {y0 : Str} {c0 : Addr} (Ce : Cel X y0 c0) {pins : List (Addr × Obj)} {s : Shared} {σ : L2.St} {H : Hp} {Q : VK} {elt eltv tg iter : Expr} {ifs : List Expr} {scope : Scope} {own : List (Str × Nat)} {pos pos' : Pos} {wi : TI} {g : TG} {tt : TT} {te tf : TE} {use : Option (Value → Sem Unit)} {Qf : Value → Shared → Prop}
    (mood : X.calm = true) (nodupN : X.N.Nodup) (I : Inv X pins σ H s) (sourceA : JI X c0 tg iter wi) (ok : BlkOk X.N X.env.scope scope own)
    (targetA : ∀ (s : Shared) (H : Hp) (C : Addr) (cl : List (Str × Addr)) (fp : List Addr), PG (X.blk s H scope (compEnvC scope cl C X.env) fp) tg g) (testsA : ∀ (s : Shared) (H : Hp) (C : Addr) (cl : List (Str × Addr)) (fp : List Addr), PTs (X.blk s H scope (compEnvC scope cl C X.env) fp) ifs tt)
    (elemA : ∀ (s : Shared) (H : Hp) (C : Addr) (cl : List (Str × Addr)) (fp : List Addr), PE (X.blk s H scope (compEnvC scope cl C X.env) fp) elt te)
    (valA : ∀ (s : Shared) (H : Hp) (C : Addr) (cl : List (Str × Addr)) (fp : List Addr), PE (X.blk s H scope (compEnvC scope cl C X.env) fp) eltv tf) (plainA : ∀ x, foldedSetIterable iter X.env x = pure x)
    (h : tDc wi g tt te tf (own.map (·.2)) σ H Q)
    (back : ∀ D C s' m H', Kc c0 s s' → Inv X pins σ H' s' → Q (.ref D) H' → s'.heap.Ns C m → FpOk X pins H' C → compPost (model X.prog X.w) X.A X.xe use Qf (.ref D) C (.ok .next) s') :
    wpAny (model X.prog X.w) X.A (comprehension (.DictComp elt eltv [⟨tg, iter, ifs, 0⟩] scope pos) scope X.env pos' newDict false (eval iter X.env) use) Qf X.xe s := by
  have captured : ∀ y ∈ scope.names, y.2 = .free → ∃ c, X.env.cells.lookup y.1 = some c := fun y hy e => by
    rcases ok.free y hy e with k | k
    · exact I.ok.has _ (.inl k)
    · exact I.ok.has _ (.inr k)
  refine wpAny_comprehension_free (use := use) rfl plainA (closure_ok captured) ok.kind (fun y hy e => by rw [ok.uniq y hy, e])
    (thn (sourceA.run pins s σ H _ I h) fun srcV sA gotX => thn gotX fun itV sB hB2 => ?_)
  obtain ⟨kB, h2⟩ := hB2
  obtain ⟨it, fp, tn, J, HB, e, I2, T, st2, f2, q⟩ := h2
  subst e
  refine wpAny_newObj_type (newEnv_comp ?_)
  generalize atD : sB.heap.objs.size = D
  have freshD : HB D = none := I2.hok.fresh (Nat.le_of_eq atD)
  obtain ⟨W, ⟨mes0, inv0⟩, walk0⟩ := q D freshD
  -- the new dict
  generalize laid3 : ({ sB with heap := sB.heap.push { cls := .type "dict", data := .dict #[] } } : Shared) = sC
  have J3 : Inv X pins σ (upd HB D (.dK [])) sC := by
    rw [← laid3]
    refine I2.laid (t' := sB.toks) (fun b o e => Heap.get?_push_of_some _ e) (Nat.le_of_eq atD) ?_
    rw [← atD]
    exact dk_empty sB.heap I2.big
  have heap3 : sC.heap = sB.heap.push { cls := .type "dict", data := .dict #[] } := by rw [← laid3]
  have below : ∀ b ∈ fp, b < sB.heap.objs.size := fun b hb => by
    obtain ⟨o, e, _⟩ := T.obj _ _ st2 b hb
    exact Heap.lt_size e
  have roam3 : ∀ b ∈ fp, FpOk X pins (upd HB D (.dK [])) b ∧ b < sC.heap.objs.size := fun b hb => by
    have hlt := below b hb
    refine ⟨⟨?_, (f2 b hb).2⟩, by rw [heap3, Heap.size_push]; exact Nat.lt_succ_of_lt hlt⟩
    rw [upd_ne (by rw [← atD]; exact Nat.ne_of_lt hlt)]
    exact (f2 b hb).1
  have turn3 : tn 0 sC.heap := T.keep _ _ _ st2 fun b _ o e => by rw [heap3]; exact Heap.get?_push_of_some _ e
  have J4 := block_start J3 ok nodupN roam3
  have tgt := targetA sC (upd HB D (.dK [])) sC.heap.objs.size (cellsFrom (sC.heap.objs.size + 1) scope.names (cloFrom X.env.cells scope.names [])) fp
  have elv := valA sC (upd HB D (.dK [])) sC.heap.objs.size (cellsFrom (sC.heap.objs.size + 1) scope.names (cloFrom X.env.cells scope.names [])) fp
  have tst := testsA sC (upd HB D (.dK [])) sC.heap.objs.size (cellsFrom (sC.heap.objs.size + 1) scope.names (cloFrom X.env.cells scope.names [])) fp
  have elm := elemA sC (upd HB D (.dK [])) sC.heap.objs.size (cellsFrom (sC.heap.objs.size + 1) scope.names (cloFrom X.env.cells scope.names [])) fp
  show codeAny _ _ (.compStart (.DictComp elt eltv [⟨tg, iter, ifs, 0⟩] scope pos) 0 (.ref it) (.ref D) (compEnvC scope (cellsFrom (sC.heap.objs.size + 1) scope.names (cloFrom X.env.cells scope.names [])) sC.heap.objs.size X.env)) (compPost (model X.prog X.w) X.A X.xe use Qf (.ref D) sC.heap.objs.size) { sC with heap := pushCells (sC.heap.push { cls := .type "dict", data := .dict #[] }) scope.names }
  have untr : ∀ b ∈ fp, (upd HB D (.dK [])) b = none := fun b hb => (roam3 b hb).1.1
  generalize blkE : compEnvC scope (cellsFrom (sC.heap.objs.size + 1) scope.names (cloFrom X.env.cells scope.names [])) sC.heap.objs.size X.env = ce at J4 tgt tst elm elv ⊢
  have locE : ce.locals = sC.heap.objs.size := by subst blkE; rfl
  generalize heapE : upd HB D (.dK []) = HC at J3 J4 tgt tst elm elv inv0 untr roam3
  generalize laid4 : ({ sC with heap := pushCells (sC.heap.push { cls := .type "dict", data := .dict #[] }) scope.names } : Shared) = sD at J4 ⊢
  have turn4 : tn 0 sD.heap := T.keep _ _ _ turn3 fun b _ o e => by rw [← laid4]; exact pushCells_keeps _ _ _ _ (Heap.get?_push_of_some _ e)
  have roams : ∀ {σ' : L2.St} {H' : Hp} {s' : Shared}, Inv (X.blk sC HC scope ce fp) [] σ' H' s' → (∀ b ∈ fp, H' b = none) → ∀ b ∈ fp, FpOk (X.blk sC HC scope ce fp) [] H' b := fun {σ' H' s'} I' nsC b hb =>
    ⟨nsC b hb, (I'.ok.exf b hb).1, I'.ok.exfs b hb, .inl hb, fun x c e => (I'.ok.exf b hb).2 x c e, fun p hp => absurd (show p ∈ ([] : List (Addr × Obj)) ++ [] from hp) (by simp)⟩
  have outer0 : codeAny (model X.prog X.w) X.A (.compLoop (.DictComp elt eltv [⟨tg, iter, ifs, 0⟩] scope pos) 0 (.ref it) (.ref D) ce) (compPost (model X.prog X.w) X.A X.xe use Qf (.ref D) sC.heap.objs.size) sD := by
    refine compLoop_anyD (fun n s' => ∃ i H', Inv (X.blk sC HC scope ce fp) [] (wipe σ (own.map (·.2))) H' s' ∧ tn i s'.heap ∧ (∀ b ∈ fp, H' b = none) ∧ W i n H') ?_ mes0 ⟨0, HC, J4, turn4, untr, inv0⟩
    rintro n sE ⟨i, HE, J5, turn5, un5, inv5⟩
    rcases walk0 i n HE inv5 with ⟨atEnd, done0⟩ | ⟨more, NxA, reach, body0⟩
    · have ended := T.done (X.blk sC HC scope ce fp) rfl rfl rfl mood i [] sE _ HE (fun _ _ => False) J5 (roams J5 un5) turn5 atEnd
      refine thnF ended fun r sF ⟨hr, J6⟩ => ?_
      subst hr
      have J7 : Inv X pins σ HE sF := J3.call' (ch := fp) J6.os J6.base J6.hok J6.bare fun b hb => ⟨(roam3 b hb).1.2.2.2.1, (roam3 b hb).1.2.1, (roam3 b hb).1.2.2.2.2.1, (roam3 b hb).1.2.2.2.2.2⟩
      have freeC : HE sC.heap.objs.size = none := by
        have z : HE ce.locals = none := J6.free
        rw [locE] at z
        exact z
      obtain ⟨m, nsC, _⟩ := J6.loc
      have nsC : sF.heap.Ns ce.locals m := nsC
      rw [locE] at nsC
      have kAll : Kc c0 s sF := fun o eo => by
        have e3 : sC.heap.get? c0 = some o := by
          rw [heap3]
          exact Heap.get?_push_of_some _ (kB o eo)
        refine J6.base.keep c0 o e3 (Ce.free J3) (Ce.nostk J3) fun hb => ?_
        exact (roam3 c0 hb).1.2.2.2.2.1 _ _ Ce.is rfl
      exact back D sC.heap.objs.size sF m HE kAll J7 done0 nsC (J3.fpOk (Nat.le_refl _) freeC)
    · have given := T.item (X.blk sC HC scope ce fp) rfl rfl rfl mood i [] sE _ HE (fun _ _ => False) J5 (roams J5 un5) turn5 more
      refine thnF given fun r sF ⟨u, hr, got6⟩ => ?_
      subst hr
      refine thnF got6 fun _ sG ⟨x, HG, J7, rel7, yld7, turn7, un7⟩ => ?_
      have J7p := J7.pinned (roams J7 un7) (T.obj _ _ turn7)
      refine thnF (tgt.run _ sG _ HG x u _ J7p rel7 (body0 x HG yld7)) fun _ sH ⟨τ, HH, J8, wip8, go8⟩ => ?_
      refine thnF (tst.run _ sH τ HH _ J8 go8) fun b sI ⟨HI, J9, go9⟩ => ?_
      have close : ∀ {s' : Shared} {H' : Hp}, Inv (X.blk sC HC scope ce fp) ([] ++ pinsAt fp sG.heap) τ H' s' → NxA H' →
          ∃ m, m < n ∧ ∃ i H', Inv (X.blk sC HC scope ce fp) [] (wipe σ (own.map (·.2))) H' s' ∧ tn i s'.heap ∧ (∀ b ∈ fp, H' b = none) ∧ W i m H' := fun {s' H'} I' nextW => by
        obtain ⟨m', lessM, invM⟩ := reach H' nextW
        have kept : ∀ b ∈ fp, ∀ o, sG.heap.get? b = some o → s'.heap.get? b = some o ∧ H' b = none := fun b hb o e =>
          let z := I'.pin (b, o) (List.mem_append_right _ (List.mem_append_right _ (mem_pinsAt hb e)))
          ⟨z.1, z.2.1⟩
        refine ⟨m', lessM, i + 1, H', (I'.unpinned (pins := [])).weak (by rw [← wip8, wipe_length]) (fun j v e => by rw [← wip8] at e; exact (wipe_some e).1), T.keep _ _ _ turn7 fun b hb o e => (kept b hb o e).1, fun b hb => ?_, invM⟩
        obtain ⟨o, e, _⟩ := T.obj _ _ turn7 b hb
        exact (kept b hb o e).2
      cases b with
      | false =>
        simp only [Bool.false_eq_true, if_false] at go9 ⊢
        exact close J9 go9
      | true =>
        simp only [if_true] at go9 ⊢
        refine thnF (elm.run _ sI τ HI _ J9 go9) fun z sQ ⟨yv, HQ, J17, rel17, go17⟩ => ?_
        refine thnF (elv.run _ sQ τ HQ _ J17 go17) fun z2 sR ⟨yw, HR, J18, rel18, kvs, kk, ey, acc18, room18, nextW⟩ => ?_
        subst ey
        exact d_dictSet (X := X.blk sC HC scope ce fp) J18 acc18 room18 rel17 rel18 fun sS J19 => close J19 nextW
  exact codeAny_compStart_dict outer0 (T.self X.A 0 _ _ _ turn4 outer0)
/-- as a value -/
theorem je_dc {y0 : Str} {c0 : Addr} (Ce : Cel X y0 c0) {elt eltv tg iter : Expr} {ifs : List Expr} {scope : Scope} {own : List (Str × Nat)} {pos : Pos} {wi : TI} {g : TG} {tt : TT} {te tf : TE} (mood : X.calm = true) (nodupN : X.N.Nodup) (sourceA : JI X c0 tg iter wi) (ok : BlkOk X.N X.env.scope scope own)
    (targetA : ∀ (s : Shared) (H : Hp) (C : Addr) (cl : List (Str × Addr)) (fp : List Addr), PG (X.blk s H scope (compEnvC scope cl C X.env) fp) tg g) (testsA : ∀ (s : Shared) (H : Hp) (C : Addr) (cl : List (Str × Addr)) (fp : List Addr), PTs (X.blk s H scope (compEnvC scope cl C X.env) fp) ifs tt)
    (elemA : ∀ (s : Shared) (H : Hp) (C : Addr) (cl : List (Str × Addr)) (fp : List Addr), PE (X.blk s H scope (compEnvC scope cl C X.env) fp) elt te)
    (valA : ∀ (s : Shared) (H : Hp) (C : Addr) (cl : List (Str × Addr)) (fp : List Addr), PE (X.blk s H scope (compEnvC scope cl C X.env) fp) eltv tf) (plainA : ∀ x, foldedSetIterable iter X.env x = pure x := by intro _; rfl) :
    JE X c0 (.DictComp elt eltv [⟨tg, iter, ifs, 0⟩] scope pos) (tDc wi g tt te tf (own.map (·.2))) := by
  refine ⟨fun pins s σ H Q I h => ?_⟩
  rw [arm_eval_DictComp]
  refine dcJ_core Ce mood nodupN I sourceA ok targetA testsA elemA valA plainA h fun D C s' m H' kAll I' q nsC f => ⟨m, nsC, fun h'' sb => ?_⟩
  obtain ⟨f0, f1, f2, roam3, f4, f5⟩ := f
  have away : c0 ≠ C := f4 _ _ Ce.is
  exact ⟨kAll.trans fun o e => (sb.2 c0 away).trans e, .ref D, H', I'.turned (t' := s'.toks) (fun b o hb e => (sb.2 b hb).trans e) f0 f1 roam3 f4 f5, rfl, q⟩
theorem je_callTy {c : Addr} {T : String} {r : List V → Hp → VK → Prop} {x : Str} {p pos : Pos} {e : Expr} {es : List Expr} {t : TA} (hc : CallJ X c (.type T) r) (hg : Gl X x) (hm : X.mg x = none) (hv : bootBuiltins x = some (.type T)) (ha : JA X c (e :: es) t) (hn : x ≠ "__name__" := by decide) (hdb : (x == ("__debug__" : Str)) = false := by decide)
    (he : starEach (e :: es) X.env = (false, eval e X.env) :: starEach es X.env := by rfl) (hpl : (backTo pos (starEach es X.env)).any (·.1) = false := by rfl) : JE X c (.Call (.Name x p) (e :: es) [] pos) (tCB r t) := by
  refine ⟨fun pins s σ H Q I h => ?_⟩
  refine wpAny_Call_Name_kw (ld_blt I hg hm hv ?_ hn hdb)
  refine PyProof.Rows.callWith_type1 (thn (ha.run pos pins s σ H _ I h) fun us s1 hh => ?_) he hpl
  obtain ⟨g1, vs, H1, I1, r1, q1⟩ := hh
  exact thn (hc pins s1 σ H1 vs us Q I1 r1 q1) fun u s2 ⟨g2, q2⟩ => ⟨g1.trans g2, q2⟩
theorem cj_setL {c : Addr} (hc : X.calm = true) : CallJ X c (.type "set") (rSetL X.K X.w) := by
  intro pins s σ H vs us Q I r h
  obtain ⟨l, zs, rfl, hs, few, q⟩ := h
  rw [Vals.ref1 r]
  obtain ⟨its, rv, pl, _⟩ := I.list hs
  refine set_of_list (I.ok.hd hc) pl.isList (by simpa using ints_of_vals rv) (by unfold scanBound; omega) fun g tk m R lm kept => ?_
  have free : H s.heap.objs.size = none := I.hok.fresh (Nat.le_refl _)
  exact ⟨fun o e => kept _ _ e, .ref s.heap.objs.size, upd H s.heap.objs.size (SetO X.w s.heap.objs.size (fun j => decide (j ∈ zs)) m), I.laid kept (Nat.le_refl _) (setO_new R), rfl, q _ m free lm (setR_count R)⟩
end
end Sq
set_option Elab.async false
set_option linter.all false
set_option maxRecDepth 100000
set_option maxHeartbeats 4000000
namespace Sq
open PySem PySem.Spec PyProof.Rows L2 GenW
theorem Kc.cell {c : Addr} {s s' : Shared} {v : Option Value} (k : Kc c s s') (h : s.heap.IsCell c v) : s'.heap.IsCell c v := by
  obtain ⟨o, e, d⟩ := h
  exact ⟨o, k o e, d⟩
structure JR (X : Cx) (c : Addr) (u0 : Value) (n : Nat) (e : Expr) (t : TE) : Prop where
  run : ∀ (pins : List (Addr × Obj)) (s : Shared) (σ : L2.St) (H : Hp) (Q : VK), Inv X pins σ H s → n ≤ s.toks → s.heap.IsCell c (some u0) → t σ H Q → wpAny (model X.prog X.w) X.A (eval e X.env) (EP X pins σ Q) X.xe s
structure JRs (X : Cx) (c : Addr) (u0 : Value) (n : Nat) (sts : List Stmt) (t : TS) : Prop where
  run : ∀ (pins : List (Addr × Obj)) (s : Shared) (σ : L2.St) (H : Hp) (D : Ends), Inv X pins σ H s → n ≤ s.toks → s.heap.IsCell c (some u0) → t D σ H → wpAny (model X.prog X.w) X.A (execs sts X.env) (SP X pins D) X.xe s
section
variable {X : Cx} {c : Addr} {u0 : Value} {n : Nat} {x y : Str} {p pos : Pos} {e e2 : Expr} {es : List Expr} {te tf : TE} {t : TA} {st : Stmt} {rest : List Stmt} {ts tr : TS}
theorem jrs_cons (h1 : JSt X c st ts) (h2 : JRs X c u0 n rest tr) : JRs X c u0 n (st :: rest) (tSeq ts tr) := by
  refine ⟨fun pins s σ H D I hn hc h => ?_⟩
  refine wpAny_execs_cons (wpAny_mono (PySem.wpAny_toks (h1.run pins s σ H { D with nx := tr D } I h)) (fun f s1 hh => ?_) fun _ _ z => z.2)
  obtain ⟨hk, kc, q⟩ := hh
  match f, q with
  | .next, ⟨σ', H', I', q⟩ => exact h2.run pins s1 σ' H' D I' (Nat.le_trans hn hk) (kc.cell hc) q
  | .ret v, q => exact q
  | .brk, q => exact q
  | .cont, q => exact q
/-- the last one that knows it: x = e, then what doesn't -/
theorem jrs_set {i : Nat} {pos' : Pos} (hN : X.N.Nodup) (hi : X.N[i]? = some x) (hx : Loc X.env.scope x) (he : JR X c u0 n e te) (h2 : PSs X rest tr) (hs : swapsWith e (some (.Name x pos')) pos.line X.env = pure false := by rfl) (hf : X.fn x = true ∨ X.env.scope.names.lookup x = some .local := by first | exact .inl rfl | exact .inr rfl | assumption) :
    JRs X c u0 n (.Assign [.Name x pos'] e pos :: rest) (tSeq (tAsg te (gName i)) tr) := by
  refine ⟨fun pins s σ H D I hn hc h => ?_⟩
  refine wpAny_execs_cons (wpAny_Assign_Name (thn (he.run pins s σ H _ I hn hc h) fun v s1 hh => ?_) hs)
  obtain ⟨z, H1, I1, r1, q1⟩ := hh
  exact store_ok I1 hN hi hx r1 (fun s2 I2 => h2.run pins s2 _ H1 D I2 q1) hf
theorem jr_op {op : Operator} {r : R2} (ho : OpR X (binaryOp op) r) (ha : JR X c u0 n e te) (hb : PE X e2 tf) : JR X c u0 n (.BinOp e op e2 pos) (tOp r te tf) := by
  refine ⟨fun pins s σ H Q I hn hc h => ?_⟩
  refine wpAny_BinOp (thn (ha.run pins s σ H _ I hn hc h) fun v s1 hh => ?_)
  obtain ⟨a, H1, I1, r1, q1⟩ := hh
  exact thn (hb.run pins s1 σ H1 _ I1 q1) fun u s2 ⟨b, H2, I2, r2, q2⟩ => ho pins s2 σ H2 a b v u Q I2 r1 r2 q2
/-- T(e) -/
theorem jr_callTy {T : String} {r : List V → Hp → VK → Prop} (hc : CallR X (.type T) r) (hg : Gl X x) (hm : X.mg x = none) (hv : bootBuiltins x = some (.type T)) (ha : JR X c u0 n e te) (hn : x ≠ "__name__" := by decide) (hdb : (x == ("__debug__" : Str)) = false := by decide)
    (he : starEach [e] X.env = (false, eval e X.env) :: starEach [] X.env := by rfl) (hpl : (backTo pos (starEach [] X.env)).any (·.1) = false := by rfl) : JR X c u0 n (.Call (.Name x p) [e] [] pos) (tCB r (tCons te tNil)) := by
  refine ⟨fun pins s σ H Q I hn' hcell h => ?_⟩
  refine wpAny_Call_Name_kw (ld_blt I hg hm hv ?_ hn hdb)
  refine PyProof.Rows.callWith_type1 ?_ he hpl
  rw [he]
  show wpAny _ _ (spliced ((false, eval e X.env) :: backTo pos (starEach [] X.env))) _ _ s
  refine Calls.spliced_cons (thn (ha.run pins s σ H _ I hn' hcell h) fun u s1 hh => ?_)
  obtain ⟨v, H1, I1, r1, q1⟩ := hh
  exact Calls.spliced_nil (hc pins s1 σ H1 [v] [u] Q I1 (.cons r1 .nil) q1)
/-- the name's own value, to the token -/
theorem raw_cell {pins : List (Addr × Obj)} {σ : L2.St} {H : Hp} {s : Shared} {Q E : Value → Shared → Prop} (I : Inv X pins σ H s) (hk : X.env.kindOf y = some .cell) (hc : X.env.cells.lookup y = some c) (hcell : s.heap.IsCell c (some u0)) (fin : Q u0 s)
    (hd : (y == ("__debug__" : Str)) = false := by decide) : wpAny (model X.prog X.w) X.A (eval (.Name y pos) X.env) Q E s :=
  wpAny_Name (wpAny_loadName_cell I.ok.kind hk hc hcell fin) hd
/-- text.replace(character, z): the text in a slot, the character in the cell, z written -/
def tRepJ (i : Nat) (b z : Str) : TE := fun σ H Q => ∃ a : Str, σ[i]? = some (some (.str a)) ∧ a.length + (a.length + 1) * z.length ≤ 16777216 ∧ Q (.str (Txt.replace a b z)) H
theorem jr_rep {i : Nat} {kx : Str} {b z : Str} {tb : Tok} {j : Nat} {p1 p2 c1 apos : Pos} (hN : X.N[i]? = some kx) (hv : Vis X.env.scope kx) (hk : X.env.kindOf y = some .cell) (hc : X.env.cells.lookup y = some c) (good : tb ≠ 0 ∧ tb < n) (hbz : (b == z) = false)
    (hd : (kx == ("__debug__" : Str)) = false := by decide) (hcd : (kx == ("__classdict__" : Str)) = false := by decide) (hdy : (y == ("__debug__" : Str)) = false := by decide)
    (hst : starEach [.Name y p2, .Constant (.str z) j c1] X.env = [(false, eval (.Name y p2) X.env), (false, eval (.Constant (.str z) j c1) X.env)] := by rfl)
    (hbase : attributeBase (.Name kx p1) "replace" X.env (eval (.Name kx p1) X.env) = eval (.Name kx p1) X.env := by rfl) (hline : (apos.endLine == pos.line) = true := by rfl) :
    JR X c (.str b tb) n (.Call (.Attribute (.Name kx p1) "replace" apos) [.Name y p2, .Constant (.str z) j c1] [] pos) (tRepJ i b z) := by
  refine ⟨fun pins s σ H Q I hn hcell h => ?_⟩
  obtain ⟨a, ha, few, q⟩ := h
  refine PySem.Call_method2 hbase hst hline (raw_name hN hv I ha (fun v r => ?_) hd hcd)
  obtain ⟨ta, e1⟩ := r
  subst e1
  refine ⟨"str", _, PySem.F.plainAttrs_str, PySem.F.slot_str_replace, PySem.F.type_str_replace, typeIs_str _ _ _, (fun _ e => nomatch e), Calls.callWith_builtin rfl (Calls.evalArgs_plain (Calls.spliced_cons (raw_cell I hk hc hcell ?_ hdy)))⟩
  refine Calls.spliced_cons (Calls.Constant_str (Calls.spliced_nil ?_))
  have g1 : tb ≠ 0 := good.1
  have g2 : tb < n := good.2
  exact PySem.SC.replace g1 (Nat.ne_of_gt (Nat.lt_of_lt_of_le (Nat.lt_of_le_of_lt (Nat.zero_le tb) g2) hn)) (Nat.ne_of_lt (Nat.lt_of_lt_of_le g2 hn)) hbz few fun t' k => ⟨.str (Txt.replace a b z), H, I.tok k, ⟨t', rfl⟩, q⟩
end
/-- a def whose promise needs one argument's token: it isn't 0 and was given out before -/
def Tkn (j : Nat) (us : List Value) (n : Nat) : Prop := ∀ b t, us[j]? = some (.str b t) → b.length = 1 → t ≠ 0 ∧ t < n
structure FnT (P : Program) (w : World) (K : PySem.W.Frag) (mg : Str → Option Value) (base : Heap) (k : Nat) (f : Addr) (fd : FuncData) (ps : List Str) (j : Nat) (sp : Sp) : Prop where
  len : ∀ vs H Q E, sp vs H Q E → vs.length = ps.length
  run : ∀ (A : Around) (outer : List Env) (s : Shared) (H : Hp) (args : Args) (us : List Value) (vs : List V) (Q : VK), Room k A → Env0 P w K mg base A outer s H → BindsTo s fd args (ps.zip us) → Vals vs us → Tkn j us s.toks → sp vs H Q E0 →
    codeAny (model P w) A (.call (.ref f) args) (fun r s' => match r with | .ok (.ret u) => CE outer P w H s Q u s' | _ => False) s
theorem fnt_of {P : Program} {w : World} {K : PySem.W.Frag} {mg : Str → Option Value} {base : Heap} {x qual y : Str} {st : Stmt} {f : Addr} {fd : FuncData} {N ps : List Str} {k j : Nat} {sp : Sp} (F : Fun K x qual st f fd) (S : FnScope N ps (defScope st)) (len : ∀ vs H Q E, sp vs H Q E → vs.length = ps.length)
    (hy : ps[j]? = some y) (hk : (defScope st).names.lookup y = some .cell)
    (walk : ∀ (cdv : Value) (A : Around) (outer : List Env) (s : Shared) (H : Hp) (us : List Value) (vs : List V) (Q : VK) (c : Addr) (u0 : Value), Room k (A.deeper (envOfC qual (defScope st) s.heap.objs.size f cdv)) → sp vs H Q E0 → Vals vs us → Tkn j us s.toks → us[j]? = some u0 → Cel (cxOf CX0 P w K mg base N qual (defScope st) f cdv A outer s H E0).nox y c →
      ∃ t, JRs (cxOf CX0 P w K mg base N qual (defScope st) f cdv A outer s H E0).nox c u0 s.toks (defBody st) t ∧ t { nx := fun _ H' => Q .non H', rt := Q } (L2.start N vs) H) : FnT P w K mg base (k + 1) f fd ps j sp := by
  obtain ⟨oc, od, kV, doc, pm, an, cdv, ct, osl, rfl, lk, hcd⟩ := F.ex
  refine ⟨len, fun A outer s H args us vs Q hr e0 hb r tkn hsp => ?_⟩
  have hl := len _ _ _ _ hsp
  have KX : K.In s.heap := e0.mod.kin.keeps fun b o e => (e0.bs b o e).1
  have lim : s.heap.NoLimit := e0.mod.nolimit.keeps fun b o e => (e0.bs b o e).1
  have hkind : ∀ y ∈ ps.zip us, (defScope st).names.lookup y.1 = some .local ∨ ((defScope st).names.lookup y.1 = some .cell ∧ ((cellsFrom (s.heap.objs.size + 1) (defScope st).names []).lookup y.1).isSome = true) := fun ⟨n, v⟩ hy =>
    (S.par n (List.of_mem_zip hy).1).elim .inl fun z => .inr ⟨z, PySem.W.cellsFrom_some _ _ _ (.inl z)⟩
  refine codeAny_call_function hr.depth (KX _ _ lk) rfl S.co S.gen rfl (PySem.W.codeRec_of KX hcd) (hb _ _ _ _ ?_)
  refine PySem.wpAny_with_toks (Nat.le_refl s.toks) (wpAny_newFunctionEnv_cells S.kind hkind fun env he s1 made toks1 => ?_)
  subst he
  refine ⟨lim.keeps made.toInCall.keep, codeAny_func ?_⟩
  obtain ⟨c, hc⟩ := cell_has (n := s.heap.objs.size + 1) hk
  have jl : j < ps.length := (List.getElem?_eq_some_iff.mp hy).1
  obtain ⟨u0, hu⟩ : ∃ u0, us[j]? = some u0 := ⟨us[j]'(by rw [← r.length, hl]; exact jl), List.getElem?_eq_getElem _⟩
  have ndP : ps.Nodup := by rw [← S.pre]; exact S.nd.sublist (List.take_sublist _ _)
  have at1 := made.cell y c hc
  rw [bindC_get ndP hy hu (by show (defScope st).names.lookup y ≠ _; rw [hk]; decide)] at at1
  obtain ⟨t, ht, hq⟩ := walk cdv A outer s H us vs Q c u0 (hr.deeper _) hsp r tkn hu ⟨hc, rfl⟩
  have I : Inv (cxOf CX0 P w K mg base N qual (defScope st) f cdv A outer s H E0).nox [] (start N vs) H s1 := (inv_start S hr.hd e0 hl r made).wish _
  refine wpAny_mono (ht.run [] s1 (start N vs) H _ I toks1 at1 hq) (fun fl s' hs => ?_) fun e s' hs => False.elim hs
  match fl, hs with
  | .ret u, ⟨v, σ', H', J, rv, q⟩ => exact ⟨v, H', J.os, J.bare, J.base, J.hok, rv, q⟩
  | .next, ⟨σ', H', J, q⟩ => exact ⟨V.non, H', J.os, J.bare, J.base, J.hok, rfl, q⟩
  | .brk, ⟨_, _, _, q⟩ => exact False.elim q
  | .cont, ⟨_, _, _, q⟩ => exact False.elim q
end Sq
set_option Elab.async false
set_option linter.all false
set_option maxRecDepth 100000
set_option maxHeartbeats 4000000
set_option Elab.async false
set_option linter.all false
set_option maxRecDepth 100000
set_option maxHeartbeats 4000000
namespace Sq
open PySem PySem.Spec PyProof.Rows L2 GenW
/-- the cell is kept, and n tokens were given out -/
def Kn2 (c : Addr) (n : Nat) (s s' : Shared) : Prop := Kc c s s' ∧ n ≤ s'.toks
theorem Kn2.trans {c : Addr} {n : Nat} {s s1 s2 : Shared} (a : Kn2 c n s s1) (b : Kn2 c n s1 s2) : Kn2 c n s s2 := ⟨a.1.trans b.1, b.2⟩
structure JKT (X : Cx) (c : Addr) (u0 : Value) (n : Nat) (e : Expr) (t : TT) : Prop where
  run : ∀ (pins : List (Addr × Obj)) (s : Shared) (σ : L2.St) (H : Hp) (Q : Bool → Hp → Prop), Inv X pins σ H s → n ≤ s.toks → s.heap.IsCell c (some u0) → t σ H Q → wpAny (model X.prog X.w) X.A (isTrue e X.env (eval e X.env)) (fun b s' => Kn2 c n s s' ∧ TP X pins σ Q b s') X.xe s
end Sq
set_option Elab.async false
set_option linter.all false
set_option maxRecDepth 100000
set_option maxHeartbeats 4000000
namespace Sq
open PySem PySem.Spec PyProof.Rows L2 GenW
structure DfT (P : Program) (w : World) (K : PySem.W.Frag) (mg : Str → Option Value) (base : Heap) (k : Nat) (x : Str) (ps : List Str) (j : Nat) (sp : Sp) : Prop where
  ex : ∃ f fd, FnT P w K mg base k f fd ps j sp ∧ mg x = some (.ref f) ∧ PySem.W.keepIn K (.ref f) = true ∧ Binds K fd ps []
end Sq
set_option Elab.async false
set_option linter.all false
set_option maxRecDepth 100000
set_option maxHeartbeats 4000000
set_option Elab.async false
set_option linter.all false
set_option maxRecDepth 100000
set_option maxHeartbeats 4000000
namespace Sq
open PySem PySem.Spec PyProof.Rows L2 GenW
section
variable {X : Cx} {c : Addr} {n : Nat} {x : Str} {p pos : Pos} {e : Expr} {te : TE} {pins : List (Addr × Obj)} {σ : L2.St} {H : Hp} {s : Shared} {rest : List Stmt} {tr : TS}
theorem store_cellS {M : Model} {A : Around} {E : Value → Shared → Prop} {i : Nat} {v : V} {u : Value} {Q : Unit → Shared → Prop} (I : Inv X pins σ H s) (hN : X.N.Nodup) (hi : X.N[i]? = some x) (hk : X.env.kindOf x = some .cell) (C : Cel X x c) (r : RelV v u)
    (h : ∀ h', Inv X pins (σ.set i (some v)) H { s with heap := h' } → h'.IsCell c (some u) → Heap.SameBut c s.heap h' → Q () { s with heap := h' }) : wpAny M A (storeName X.env x u) Q E s := by
  obtain ⟨m, hn, hl⟩ := id I.loc
  have hiσ : i < σ.length := by rw [I.len]; exact (List.getElem?_eq_some_iff.mp hi).1
  obtain ⟨w0, old⟩ := I.cell x c C.is
  refine wpAny_storeName_cell I.ok.kind hk C.is old fun h' new sb => h h' ?_ new sb
  obtain ⟨oc, hoc, hod⟩ := id old
  have above : ∀ b o, X.s_0.heap.get? b = some o → b ≠ c := fun b o e => Nat.ne_of_lt (Nat.lt_of_lt_of_le (Heap.lt_size e) (I.ok.cab x c C.own C.is))
  have freeC := I.freeC x c C.is
  have loc2 : ∀ (j : Nat) (z : Str) (v' : V), X.N[j]? = some z → (σ.set i (some v))[j]? = some (some v') → Vis X.env.scope z → ∃ u', RelV v' u' ∧ Look X.env h' m z u' := fun j z v' e1 e2 e3 => by
    by_cases hj : j = i
    · subst hj
      rw [hi] at e1
      cases e1
      rw [List.getElem?_set_self hiσ] at e2
      cases e2
      exact ⟨u, r, .inr ⟨.inl hk, c, C.is, new⟩⟩
    · rw [List.getElem?_set_ne (Ne.symm hj)] at e2
      obtain ⟨u', r', q⟩ := hl j z v' e1 e2 e3
      rcases q with q | ⟨k, c2, e4, z4⟩
      · exact ⟨u', r', .inl q⟩
      · have away : c2 ≠ c := fun y => by
          rw [y] at e4
          exact hj (nodup_ix hN e1 (I.ok.inj _ _ _ e4 C.is ▸ hi))
        exact ⟨u', r', .inr ⟨k, c2, e4, z4.sameBut sb away⟩⟩
  refine ⟨I.ok, I.os, I.bare, ⟨fun b o e n hb hx => (sb.2 b (above b o e)).trans (I.base.keep b o e n hb hx), fun b o e n hb hx => ?_, I.base.free, fun b o e hx => ?_, I.base.tups, I.base.frzs, I.base.tbls⟩, ⟨m, hn.sameBut sb (Ne.symm (I.cne x c C.is)), loc2⟩, fun z c2 e => ?_, I.free, I.freeC, fun p hp => ?_, fun b ob e => ?_, by simpa using I.len⟩
  · obtain ⟨sl, e1⟩ := I.base.slot b o e n hb hx
    exact ⟨sl, (sb.2 b (above b o e)).trans e1⟩
  · obtain ⟨o2, e1⟩ := I.base.there b o e hx
    exact ⟨o2, (sb.2 b (above b o e)).trans e1⟩
  · by_cases y : c2 = c
    · rw [y]
      exact ⟨_, new⟩
    · obtain ⟨w2, z2⟩ := I.cell z c2 e
      exact ⟨w2, z2.sameBut sb y⟩
  · obtain ⟨e1, n1, ne1, nf1, d1⟩ := I.pin p hp
    have away : p.1 ≠ c := fun y => by
      rw [y, hoc] at e1
      exact d1 w0 (by rw [← Option.some.inj e1]; exact hod)
    exact ⟨(sb.2 p.1 away).trans e1, n1, ne1, nf1, d1⟩
  · refine (I.hok b ob e).stay (fun b2 w2 hb2 q => (sb.2 b2 fun y => ?_).trans q) (fun _ q => q) fun _ _ q => q
    rw [y, freeC] at hb2
    rcases hb2 with z | z
    · rw [← z, freeC] at e
      cases e
    · cases z
end
end Sq
set_option Elab.async false
set_option linter.all false
set_option maxRecDepth 100000
set_option maxHeartbeats 4000000
namespace Sq
open PySem PySem.Spec PyProof.Rows L2 GenW
section
variable {X : Cx} {c : Addr} {u0 : Value} {n : Nat} {x y : Str} {p pos : Pos} {e : Expr} {te : TE} {tb : TS} {body : List Stmt}
def tForJ (K : PySem.W.Frag) (te : TE) (g : TG) (tb : TS) : TS := fun D σ H => te σ H fun v H1 => ∃ (a : Addr) (xs : List V), v = .ref a ∧ SqL K H1 a xs ∧ ∃ Pv : Nat → L2.St → Hp → Prop, Pv 0 σ H1 ∧ (∀ i σ H, Pv i σ H → SqL K H a xs) ∧
  (∀ (i : Nat) (z : V) (σ : L2.St) (H : Hp), xs[i]? = some z → Pv i σ H → g z σ H fun σ2 H2 => tb { nx := Pv (i + 1), ct := Pv (i + 1), bk := D.nx, rt := D.rt } σ2 H2) ∧ ∀ σ H, Pv xs.length σ H → D.nx σ H
end
end Sq
set_option Elab.async false
set_option linter.all false
set_option maxRecDepth 100000
set_option maxHeartbeats 4000000
set_option Elab.async false
set_option linter.all false
set_option maxRecDepth 100000
set_option maxHeartbeats 4000000
namespace Sq
open PySem PySem.Spec PyProof.Rows L2 GenW
section
variable {X : Cx} {c : Addr} {u0 : Value} {n : Nat} {x y : Str} {p pos p2 : Pos} {e e2 : Expr} {es : List Expr} {te tf : TE} {t tA tB' : TT} {lo hi : Option Expr} {tl th : TO}
structure JW (X : Cx) (c : Addr) (u0 : Value) (n : Nat) (e : Expr) (t : TT) : Prop where
  run : ∀ (whole : Sem Value) (pins : List (Addr × Obj)) (s : Shared) (σ : L2.St) (H : Hp) (Q : Bool → Hp → Prop), Inv X pins σ H s → n ≤ s.toks → s.heap.IsCell c (some u0) → t σ H Q → wpAny (model X.prog X.w) X.A (isTrue e X.env whole) (fun b s' => Kn2 c n s s' ∧ TP X pins σ Q b s') X.xe s
theorem JW.pt (h : JW X c u0 n e t) : JKT X c u0 n e t := ⟨h.run _⟩
end
end Sq
set_option Elab.async false
set_option linter.all false
set_option maxRecDepth 100000
set_option maxHeartbeats 4000000
set_option Elab.async false
set_option linter.all false
set_option maxRecDepth 100000
set_option maxHeartbeats 4000000
set_option Elab.async false
set_option linter.all false
set_option maxRecDepth 100000
set_option maxHeartbeats 4000000
set_option Elab.async false
set_option linter.all false
set_option maxRecDepth 100000
set_option maxHeartbeats 4000000
set_option Elab.async false
set_option linter.all false
set_option maxRecDepth 100000
set_option maxHeartbeats 4000000
namespace Sq
open PySem PySem.Spec PyProof.Rows L2 GenW
/-- u was stored as x -/
def Put (X : Cx) (x : Str) (u : Value) (s s' : Shared) : Prop :=
  (X.env.scope.names.lookup x = some .local ∧ Heap.SameBut X.env.locals s.heap s'.heap ∧ ∃ m, s.heap.Ns X.env.locals m ∧ s'.heap.Ns X.env.locals (fun z => if z = x then some u else m z)) ∨
  (∃ c, X.env.cells.lookup x = some c ∧ Heap.SameBut c s.heap s'.heap ∧ s'.heap.IsCell c (some u))
/-- what code keeps that doesn't store to ys -/
structure Clo (X : Cx) (ys : List Str) (Θ : Shared → Prop) : Prop where
  but : ∀ {pins : List (Addr × Obj)} {σ : L2.St} {H : Hp} {s s' : Shared} (fp : List Addr), Inv X pins σ H s → s.toks ≤ s'.toks → (∀ b ∈ fp, b ≠ X.env.locals ∧ ∀ x c, X.env.cells.lookup x = some c → c ≠ b) → (∀ b o, b ∉ fp → s.heap.get? b = some o → s'.heap.get? b = some o) → Θ s → Θ s'
  un : ∀ {pins : List (Addr × Obj)} {σ : L2.St} {H H' : Hp} {s s' : Shared} (ex : List Addr), Inv X pins σ H s → s.toks ≤ s'.toks → (∀ b ∈ ex, b ≠ X.env.locals ∧ ∀ x c, X.env.cells.lookup x = some c → c ≠ b) → Un (frs X.stack) ex H H' s.heap s'.heap → Θ s → Θ s'
  st : ∀ {pins : List (Addr × Obj)} {σ : L2.St} {H : Hp} {s s' : Shared} {x : Str} {u : Value}, Inv X pins σ H s → x ∉ ys → s.toks ≤ s'.toks → Put X x u s s' → Θ s → Θ s'
theorem Clo.kept {X : Cx} {ys : List Str} {Θ : Shared → Prop} (C : Clo X ys Θ) {pins : List (Addr × Obj)} {σ : L2.St} {H : Hp} {s s' : Shared} (I : Inv X pins σ H s) (t : s.toks ≤ s'.toks) (k : ∀ b o, s.heap.get? b = some o → s'.heap.get? b = some o) (θ : Θ s) : Θ s' :=
  C.but [] I t (fun _ z => nomatch z) (fun b o _ e => k b o e) θ
theorem Clo.tok {X : Cx} {ys : List Str} {Θ : Shared → Prop} (C : Clo X ys Θ) {pins : List (Addr × Obj)} {σ : L2.St} {H : Hp} {s : Shared} (I : Inv X pins σ H s) (θ : Θ s) : Θ { s with toks := s.toks + 1 } :=
  C.kept I (Nat.le_add_right _ _) (fun _ _ e => e) θ
theorem Clo.push {X : Cx} {ys : List Str} {Θ : Shared → Prop} (C : Clo X ys Θ) {pins : List (Addr × Obj)} {σ : L2.St} {H : Hp} {s : Shared} {o : Obj} (I : Inv X pins σ H s) (θ : Θ s) : Θ { s with heap := s.heap.push o } :=
  C.kept I (Nat.le_refl _) (fun _ _ e => Heap.get?_push_of_some _ e) θ
theorem Clo.un0 {X : Cx} {ys : List Str} {Θ : Shared → Prop} (C : Clo X ys Θ) {pins : List (Addr × Obj)} {σ : L2.St} {H H' : Hp} {s s' : Shared} (I : Inv X pins σ H s) (t : s.toks ≤ s'.toks) (u : Un (frs X.stack) [] H H' s.heap s'.heap) (θ : Θ s) : Θ s' :=
  C.un [] I t (fun _ z => nomatch z) u θ
/-- n tokens were given out -/
theorem clo_n {X : Cx} {n : Nat} : Clo X [] (fun s => n ≤ s.toks) :=
  ⟨fun _ _ t _ _ h => Nat.le_trans h t, fun _ _ t _ _ h => Nat.le_trans h t, fun _ _ t _ h => Nat.le_trans h t⟩
theorem Clo.and {X : Cx} {ys zs : List Str} {Θ Φ : Shared → Prop} (a : Clo X ys Θ) (b : Clo X zs Φ) : Clo X (ys ++ zs) (fun s => Θ s ∧ Φ s) :=
  ⟨fun fp I t f k h => ⟨a.but fp I t f k h.1, b.but fp I t f k h.2⟩, fun ex I t f u h => ⟨a.un ex I t f u h.1, b.un ex I t f u h.2⟩,
    fun I n t p h => ⟨a.st I (fun z => n (List.mem_append_left _ z)) t p h.1, b.st I (fun z => n (List.mem_append_right _ z)) t p h.2⟩⟩
/-- the raw value of a local name -/
def Raw (X : Cx) (y : Str) (u : Value) (s : Shared) : Prop := ∃ m, s.heap.Ns X.env.locals m ∧ m y = some u
theorem clo_raw {X : Cx} {y : Str} {u : Value} (hl : X.env.scope.names.lookup y = some .local) : Clo X [y] (Raw X y u) := by
  refine ⟨fun {pins σ H s s'} fp I t f k h => ?_, fun {pins σ H H' s s'} ex I t f un h => ?_, fun {pins σ H s s' x v} I n t p h => ?_⟩
  · obtain ⟨m, ⟨o, es, ep, ho, rest⟩, e⟩ := h
    exact ⟨m, ⟨o, es, ep, k _ _ (fun z => (f _ z).1 rfl) ho, rest⟩, e⟩
  · obtain ⟨m, ⟨o, es, ep, ho, rest⟩, e⟩ := h
    obtain ⟨sl, e2⟩ := un.any ho I.free (fun z => (f _ z).1 rfl)
    exact ⟨m, ⟨_, es, ep, e2, rest⟩, e⟩
  · obtain ⟨m, ns, e⟩ := h
    have ne : y ≠ x := fun z => n (by rw [z]; exact List.mem_singleton_self _)
    rcases p with ⟨_, _, m2, ns2, new⟩ | ⟨c, hc, sb, _⟩
    · refine ⟨_, new, ?_⟩
      show (if y = x then some v else m2 y) = some u
      rw [if_neg ne, ns2.agree ns y]
      exact e
    · exact ⟨m, ns.sameBut sb (Ne.symm (I.cne x c hc)), e⟩
section
variable {X : Cx} {pins : List (Addr × Obj)} {σ : L2.St} {H : Hp} {s : Shared} {x : Str}
/-- a name is stored; what is known of the state afterwards -/
theorem put_ok {M : Model} {A : Around} {E : Value → Shared → Prop} {i : Nat} {v : V} {u : Value} {Q : Unit → Shared → Prop} (I : Inv X pins σ H s) (hN : X.N.Nodup) (hi : X.N[i]? = some x) (hx : Loc X.env.scope x) (r : RelV v u)
    (h : ∀ s', Inv X pins (σ.set i (some v)) H s' → s.toks ≤ s'.toks → Put X x u s s' → Q () s') (hf : X.fn x = true ∨ X.env.scope.names.lookup x = some .local) : wpAny M A (storeName X.env x u) Q E s := by
  rcases hx with hk | hk
  · obtain ⟨m, ns, look⟩ := id I.loc
    have inside : i < σ.length := by rw [I.len]; exact (List.getElem?_eq_some_iff.mp hi).1
    have notcls : (X.env.scope.kind == .class || (X.env.scope.kind == .module && X.env.locals != X.env.globals)) = false := by rw [I.ok.kind]; rfl
    refine wpAny_storeName_local hk ns (fun g ns2 sb => ?_) notcls
    obtain ⟨oF, _, _, hoF, _⟩ := id ns
    have low : ∀ b o, X.s_0.heap.get? b = some o → b ≠ X.env.locals := fun b o e => Nat.ne_of_lt (Nat.lt_of_lt_of_le (Heap.lt_size e) I.ok.above)
    have objs : HOk X.prog X.w H g := fun b ob e => by
      refine (I.hok b ob e).stay (fun c2 w2 h2 q => (sb.2 c2 fun z => ?_).trans q) (fun _ q => q) fun _ _ q => q
      subst z
      rcases h2 with z | z
      · rw [← z, I.free] at e
        cases e
      · rw [I.free] at z
        cases z
    have loc2 : ∀ (j : Nat) (z : Str) (w : V), X.N[j]? = some z → (σ.set i (some v))[j]? = some (some w) → Vis X.env.scope z → ∃ u', RelV w u' ∧ Look X.env g (fun y => if y = x then some u else m y) z u' := fun j z w e1 e2 e3 => by
      by_cases ji : j = i
      · subst ji
        rw [hi] at e1
        cases e1
        rw [List.getElem?_set_self inside] at e2
        cases e2
        exact ⟨u, r, .inl ⟨hk, by simp⟩⟩
      · rw [List.getElem?_set_ne (Ne.symm ji)] at e2
        obtain ⟨u', r', q⟩ := look j z w e1 e2 e3
        have zx : z ≠ x := fun e => ji (nodup_ix hN e1 (e ▸ hi))
        rcases q with ⟨k, e⟩ | ⟨k, c2, e, z4⟩
        · exact ⟨u', r', .inl ⟨k, by simp [zx, e]⟩⟩
        · exact ⟨u', r', .inr ⟨k, c2, e, z4.sameBut sb (I.cne z c2 e)⟩⟩
    refine h _ ⟨I.ok, I.os, I.bare, ⟨fun b o e n hb hx2 => (sb.2 b (low b o e)).trans (I.base.keep b o e n hb hx2), fun b o e n hb hx2 => ?_, I.base.free, fun b o e hx2 => ?_, I.base.tups, I.base.frzs, I.base.tbls⟩, ⟨_, ns2, loc2⟩, fun z c2 e => ?_, I.free, I.freeC, fun p hp => ?_, objs, by simpa using I.len⟩ (Nat.le_add_right _ _) (.inl ⟨hk, sb, m, ns, ns2⟩)
    · obtain ⟨sl, e1⟩ := I.base.slot b o e n hb hx2
      exact ⟨sl, (sb.2 b (low b o e)).trans e1⟩
    · obtain ⟨o2, e1⟩ := I.base.there b o e hx2
      exact ⟨o2, (sb.2 b (low b o e)).trans e1⟩
    · obtain ⟨w2, z2⟩ := I.cell z c2 e
      exact ⟨w2, z2.sameBut sb (I.cne z c2 e)⟩
    · obtain ⟨e, n, ne, nf, d⟩ := I.pin p hp
      exact ⟨(sb.2 p.1 ne).trans e, n, ne, nf, d⟩
  · have own : X.fn x = true := by
      rcases hf with z | z
      · exact z
      · rw [z] at hk; cases hk
    obtain ⟨c, hc⟩ := I.ok.has x (.inl hk)
    exact store_cellS I hN hi hk ⟨hc, own⟩ r fun h' I2 cell sb => h _ I2 (Nat.le_refl _) (.inr ⟨c, hc, sb, cell⟩)
end
end Sq
set_option Elab.async false
set_option linter.all false
set_option maxRecDepth 100000
set_option maxHeartbeats 4000000
namespace Sq
open PySem PySem.Spec PyProof.Rows L2 GenW
structure We (X : Cx) (Θ : Shared → Prop) (e : Expr) (t : TE) : Prop where
  run : ∀ (pins : List (Addr × Obj)) (s : Shared) (σ : L2.St) (H : Hp) (Q : VK), Inv X pins σ H s → Θ s → t σ H Q → wpAny (model X.prog X.w) X.A (eval e X.env) (fun u s' => Θ s' ∧ EP X pins σ Q u s') X.xe s
structure Wa (X : Cx) (Θ : Shared → Prop) (es : List Expr) (t : TA) : Prop where
  run : ∀ (pos : Pos) (pins : List (Addr × Obj)) (s : Shared) (σ : L2.St) (H : Hp) (Q : List V → Hp → Prop), Inv X pins σ H s → Θ s → t σ H Q → wpAny (model X.prog X.w) X.A (spliced (backTo pos (starEach es X.env))) (fun us s' => Θ s' ∧ AP X pins σ Q us s') X.xe s
structure Wt (X : Cx) (Θ : Shared → Prop) (e : Expr) (t : TT) : Prop where
  run : ∀ (pins : List (Addr × Obj)) (s : Shared) (σ : L2.St) (H : Hp) (Q : Bool → Hp → Prop), Inv X pins σ H s → Θ s → t σ H Q → wpAny (model X.prog X.w) X.A (isTrue e X.env (eval e X.env)) (fun b s' => Θ s' ∧ TP X pins σ Q b s') X.xe s
structure Ws (X : Cx) (Θ : Shared → Prop) (st : Stmt) (t : TS) : Prop where
  run : ∀ (pins : List (Addr × Obj)) (s : Shared) (σ : L2.St) (H : Hp) (D : Ends), Inv X pins σ H s → Θ s → t D σ H → wpAny (model X.prog X.w) X.A (exec st X.env) (fun f s' => Θ s' ∧ SP X pins D f s') X.xe s
structure Wss (X : Cx) (Θ : Shared → Prop) (sts : List Stmt) (t : TS) : Prop where
  run : ∀ (pins : List (Addr × Obj)) (s : Shared) (σ : L2.St) (H : Hp) (D : Ends), Inv X pins σ H s → Θ s → t D σ H → wpAny (model X.prog X.w) X.A (execs sts X.env) (fun f s' => Θ s' ∧ SP X pins D f s') X.xe s
/-- where it need not be known behind it -/
structure Wu (X : Cx) (Θ : Shared → Prop) (sts : List Stmt) (t : TS) : Prop where
  run : ∀ (pins : List (Addr × Obj)) (s : Shared) (σ : L2.St) (H : Hp) (D : Ends), Inv X pins σ H s → Θ s → t D σ H → wpAny (model X.prog X.w) X.A (execs sts X.env) (SP X pins D) X.xe s
/-- raw arguments of which the j-th is known -/
structure Wx (X : Cx) (Θ : Shared → Prop) (j : Nat) (es : List Expr) (t : TA) : Prop where
  run : ∀ (pos : Pos) (pins : List (Addr × Obj)) (s : Shared) (σ : L2.St) (H : Hp) (Q : List V → Hp → Prop), Inv X pins σ H s → Θ s → t σ H Q → wpAny (model X.prog X.w) X.A (spliced (backTo pos (starEach es X.env))) (fun us s' => (Θ s' ∧ Tkn j us s'.toks) ∧ AP X pins σ Q us s') X.xe s
structure Wk (X : Cx) (Θ : Shared → Prop) (kws : List Keyword) (t : TA) : Prop where
  run : ∀ (pos : Pos) (pins : List (Addr × Obj)) (s : Shared) (σ : L2.St) (H : Hp) (Q : List V → Hp → Prop), Inv X pins σ H s → Θ s → t σ H Q → wpAny (model X.prog X.w) X.A (evalAll ((backToKw pos (keywordEach kws X.env)).map (·.2))) (fun us s' => Θ s' ∧ AP X pins σ Q us s') X.xe s
/-- the raw value u of the name y is known, and if it is a text of one sign, its token -/
structure Known (X : Cx) (Θ : Shared → Prop) (y : Str) : Prop where
  kn : ∀ (s : Shared), Θ s → ∃ u, Tkn 0 [u] s.toks ∧ ((X.env.kindOf y = some .local ∧ Raw X y u s) ∨ (X.env.kindOf y = some .cell ∧ ∃ c, X.env.cells.lookup y = some c ∧ s.heap.IsCell c (some u)))
def OpW (X : Cx) (Θ : Shared → Prop) (op : Value → Value → Sem Value) (r : R2) : Prop :=
  ∀ (pins : List (Addr × Obj)) (s : Shared) (σ : L2.St) (H : Hp) (x y : V) (v u : Value) (Q : VK), Inv X pins σ H s → Θ s → RelV x v → RelV y u → r x y H Q → wpAny (model X.prog X.w) X.A (op v u) (fun w s' => Θ s' ∧ EP X pins σ Q w s') X.xe s
def CallW (X : Cx) (Θ : Shared → Prop) (f : Value) (r : List V → Hp → VK → Prop) : Prop := ∀ (pins : List (Addr × Obj)) (s : Shared) (σ : L2.St) (H : Hp) (vs : List V) (us : List Value) (Q : VK), Inv X pins σ H s → Θ s → Vals vs us → r vs H Q → wpAny (model X.prog X.w) X.A (call f us) (fun u s' => Θ s' ∧ EP X pins σ Q u s') X.xe s
section
variable {X : Cx} {Θ : Shared → Prop} {ys : List Str} {pins : List (Addr × Obj)} {σ : L2.St} {H : Hp} {s : Shared} {x y : Str} {p pos kpos : Pos} {e e2 : Expr} {es : List Expr} {te tf : TE} {t tk : TA} {st : Stmt} {a b rest : List Stmt} {ts tr : TS} {tt : TT} {kws : List Keyword} {nm : Option Str} {n j : Nat}
theorem we_var {i : Nat} (hN : X.N[i]? = some x) (hv : Vis X.env.scope x) (hd : (x == ("__debug__" : Str)) = false := by decide) (hcd : (x == ("__classdict__" : Str)) = false := by decide) : We X Θ (.Name x pos) (tVar i) :=
  ⟨fun pins s σ H Q I θ h => by
    obtain ⟨v, e, q⟩ := h
    exact raw_name hN hv I e (fun u r => ⟨θ, v, H, I, r, q⟩) hd hcd⟩
theorem wv (i : Nat) (hN : X.N[i]? = some x := by rfl) (hv : Vis X.env.scope x := by first | exact Or.inl rfl | exact Or.inr (Or.inl rfl) | exact Or.inr (Or.inr rfl)) (hd : (x == ("__debug__" : Str)) = false := by decide)
    (hcd : (x == ("__classdict__" : Str)) = false := by decide) : We X Θ (.Name x pos) (tVar i) := we_var hN hv hd hcd
theorem we_int (C : Clo X ys Θ) {i : Int} {k : Nat} : We X Θ (.Constant (.int i) k pos) (tC (.int i)) :=
  ⟨fun pins s σ H Q I θ h => wpAny_Constant_int ⟨C.tok I θ, .int i, H, I.tok _, ⟨_, rfl⟩, h⟩⟩
theorem we_str (C : Clo X ys Θ) {z : Str} {k : Nat} : We X Θ (.Constant (.str z) k pos) (tC (.str z)) :=
  ⟨fun pins s σ H Q I θ h => Calls.Constant_str ⟨C.tok I θ, .str z, H, I.tok _, ⟨_, rfl⟩, h⟩⟩
theorem we_bl {b : Bool} {k : Nat} : We X Θ (.Constant (.bool b) k pos) (tC (.bl b)) :=
  ⟨fun pins s σ H Q I θ h => Constant_bool ⟨θ, .bl b, H, I, rfl, h⟩⟩
theorem wa_nil : Wa X Θ [] tNil := ⟨fun pos pins s σ H Q I θ h => Calls.spliced_nil ⟨θ, [], H, I, .nil, h⟩⟩
theorem wa_cons (ha : We X Θ e te) (hr : Wa X Θ es t) (hs : starEach (e :: es) X.env = (false, eval e X.env) :: starEach es X.env := by rfl) : Wa X Θ (e :: es) (tCons te t) := by
  refine ⟨fun pos pins s σ H Q I θ h => ?_⟩
  rw [hs]
  show wpAny _ _ (spliced ((false, eval e X.env) :: backTo pos (starEach es X.env))) _ _ s
  refine Calls.spliced_cons (thn (ha.run pins s σ H _ I θ h) fun u s1 hh => ?_)
  obtain ⟨g1, x, H1, I1, r1, q1⟩ := hh
  exact thn (hr.run pos pins s1 σ H1 _ I1 g1 q1) fun us s2 ⟨g2, xs, H2, I2, r2, q2⟩ => ⟨g2, x :: xs, H2, I2, .cons r1 r2, q2⟩
/-- [e, ..] -/
theorem we_lst (C : Clo X ys Θ) (h : Wa X Θ es t) : We X Θ (.List es pos) (tLst t) := by
  refine ⟨fun pins s σ H Q I θ hq => ?_⟩
  refine wpAny_List_spliced (thn (h.run pos pins s σ H _ I θ hq) fun us s1 hh => ?_)
  obtain ⟨g1, xs, H1, I1, r, z, q⟩ := hh
  refine ⟨by rw [← r.length]; exact z, C.push I1 g1, .ref s1.heap.objs.size, upd H1 s1.heap.objs.size (.lst xs), I1.laid (t' := s1.toks) (fun b u e => Heap.get?_push_of_some _ e) (Nat.le_refl _) ?_, rfl, q _ (I1.hok.fresh (Nat.le_refl _))⟩
  exact ⟨z, us, 0, r, Heap.get?_push_size _ rfl⟩
theorem we_op {op : Operator} {r : R2} (ho : OpW X Θ (binaryOp op) r) (ha : We X Θ e te) (hb : We X Θ e2 tf) : We X Θ (.BinOp e op e2 pos) (tOp r te tf) := by
  refine ⟨fun pins s σ H Q I θ h => ?_⟩
  refine wpAny_BinOp (thn (ha.run pins s σ H _ I θ h) fun v s1 hh => ?_)
  obtain ⟨g1, a, H1, I1, r1, q1⟩ := hh
  refine thn (hb.run pins s1 σ H1 _ I1 g1 q1) fun u s2 hh => ?_
  obtain ⟨g2, b, H2, I2, r2, q2⟩ := hh
  exact ho pins s2 σ H2 a b v u Q I2 g2 r1 r2 q2
theorem we_callD {k : Nat} {ps : List Str} {sp : Sp} (C : Clo X ys Θ) (D : Df X.prog X.w X.K X.mg X.base k x ps sp) (hr : Room k X.A) (hg : Gl X x) (ha : Wa X Θ (e :: es) t) (hdb : (x == ("__debug__" : Str)) = false := by decide)
    (he : starEach (e :: es) X.env = (false, eval e X.env) :: starEach es X.env := by rfl) (hpl : (backTo pos (starEach es X.env)).any (·.1) = false := by rfl) : We X Θ (.Call (.Name x p) (e :: es) [] pos) (tCall sp [] E0 t) := by
  obtain ⟨f, fd, F, g, kp, b⟩ := D.ex
  refine ⟨fun pins s σ H Q I θ h => ?_⟩
  refine wpAny_Call_Name_kw (ld_glob I hg g ?_ hdb)
  refine PySem.W.callWith_K (h₀ := X.base) I.ok.mod.kin kp (thn (ha.run pos pins s σ H _ I θ h) fun us s1 hh => ?_) he hpl
  obtain ⟨g1, vs, H1, I1, r, q⟩ := hh
  refine ⟨I1.kIn, ?_⟩
  rw [List.append_nil] at q
  have hl : us.length = ps.length := by rw [← r.length]; exact F.len _ _ _ _ q
  have bind := b s1 us I1.kIn (by rw [List.append_nil]; exact hl)
  rw [List.append_nil] at bind
  have called : wpAny (model X.prog X.w) X.A (call (.ref f) us) (fun u s' => (s1.toks ≤ s'.toks → Θ s') ∧ EP X pins σ Q u s') X.xe s1 := by
    refine wpAny_call (codeAny_mono (F.run X.A X.stack s1 H1 ⟨us, []⟩ us vs Q E0 hr I1.env0 bind r q) fun r s' hq => ?_)
    match r, hq with
    | .error e, hq => exact pass0 pins σ H1 s1 e s' I1 hq
    | .ok (.ret u), hq =>
      have ce : CE X.stack X.prog X.w H1 s1 Q u s' := hq
      obtain ⟨_, _, _, _, un, _⟩ := id ce
      exact ⟨fun up => C.un0 I1 up un g1, I1.after ce⟩
  exact wpAny_mono (PySem.wpAny_toks called) (fun u s' z => ⟨z.2.1 z.1, z.2.2⟩) fun _ _ z => z.2
end
end Sq
set_option Elab.async false
set_option linter.all false
set_option maxRecDepth 100000
set_option maxHeartbeats 4000000
namespace Sq
open PySem PySem.Spec PyProof.Rows L2 GenW
section
variable {X : Cx} {Θ : Shared → Prop} {ys : List Str} {pins : List (Addr × Obj)} {σ : L2.St} {H : Hp} {s : Shared} {x y : Str} {p pos kpos : Pos} {e e2 : Expr} {es : List Expr} {te tf : TE} {t tk : TA} {st : Stmt} {a b rest : List Stmt} {ts tr : TS} {tt tu : TT} {kws : List Keyword} {nm : Option Str} {n j : Nat}
theorem known_eval {E : Value → Shared → Prop} {Q : Value → Shared → Prop} {i : Nat} {v : V} (Kn : Known X Θ y) (I : Inv X pins σ H s) (θ : Θ s) (hN : X.N[i]? = some y) (hv : Vis X.env.scope y) (h : σ[i]? = some (some v)) (fin : ∀ u, RelV v u → Tkn 0 [u] s.toks → Q u s) (hd : (y == ("__debug__" : Str)) = false := by decide) :
    wpAny (model X.prog X.w) X.A (eval (.Name y p) X.env) Q E s := by
  obtain ⟨u, tk, where_⟩ := Kn.kn s θ
  obtain ⟨m, hns, look⟩ := I.loc
  obtain ⟨u2, r, l⟩ := look i y v hN h hv
  rcases where_ with ⟨k, m2, ns2, e2⟩ | ⟨k, c, hc, cell⟩
  · have eu : u2 = u := by
      rcases l with ⟨_, q⟩ | ⟨k1, _⟩
      · rw [hns.agree ns2 y, e2] at q
        exact (Option.some.inj q).symm
      · rw [k] at k1
        rcases k1 with z | z <;> cases z
    subst eu
    exact wpAny_Name (wpAny_loadName_local I.ok.kind k ns2 e2 (fin _ r tk)) hd
  · have eu : u2 = u := by
      rcases l with ⟨k1, _⟩ | ⟨_, c1, e1, cell1⟩
      · rw [k] at k1
        cases k1
      · rw [hc] at e1
        obtain rfl : c = c1 := Option.some.inj e1
        obtain ⟨o1, g1, d1⟩ := cell
        obtain ⟨o2, g2, d2⟩ := cell1
        rw [g1] at g2
        obtain rfl : o1 = o2 := Option.some.inj g2
        rw [d1] at d2
        injection d2 with d2
        exact (Option.some.inj d2).symm
    subst eu
    exact wpAny_Name (wpAny_loadName_cell I.ok.kind k hc cell (fin _ r tk)) hd
theorem wx_name {i : Nat} (Kn : Known X Θ y) (hN : X.N[i]? = some y) (hv : Vis X.env.scope y) (hr : Wa X Θ es t) (hs : starEach (.Name y p :: es) X.env = (false, eval (.Name y p) X.env) :: starEach es X.env := by rfl) (hd : (y == ("__debug__" : Str)) = false := by decide) :
    Wx X Θ 0 (.Name y p :: es) (tCons (tVar i) t) := by
  refine ⟨fun pos pins s σ H Q I θ h => ?_⟩
  rw [hs]
  show wpAny _ _ (spliced ((false, eval (.Name y p) X.env) :: backTo pos (starEach es X.env))) _ _ s
  obtain ⟨v, e, q⟩ := h
  refine Calls.spliced_cons (known_eval Kn I θ hN hv e (fun u r good => ?_) hd)
  refine wpAny_mono (PySem.wpAny_toks (hr.run pos pins s σ H _ I θ q)) (fun us s2 hh => ?_) fun _ _ z => z.2
  obtain ⟨up, g2, xs, H2, I2, r2, q2⟩ := hh
  exact ⟨⟨g2, fun b tk eb one => ⟨(good b tk eb one).1, Nat.lt_of_lt_of_le (good b tk eb one).2 up⟩⟩, v :: xs, H2, I2, .cons r r2, q2⟩
theorem wx_skip (ha : We X Θ e te) (hr : Wx X Θ j es t) (hs : starEach (e :: es) X.env = (false, eval e X.env) :: starEach es X.env := by rfl) : Wx X Θ (j + 1) (e :: es) (tCons te t) := by
  refine ⟨fun pos pins s σ H Q I θ h => ?_⟩
  rw [hs]
  show wpAny _ _ (spliced ((false, eval e X.env) :: backTo pos (starEach es X.env))) _ _ s
  refine Calls.spliced_cons (thn (ha.run pins s σ H _ I θ h) fun u s1 hh => ?_)
  obtain ⟨g1, v, H1, I1, r1, q1⟩ := hh
  exact thn (hr.run pos pins s1 σ H1 _ I1 g1 q1) fun us s2 ⟨g2, xs, H2, I2, r2, q2⟩ => ⟨g2, v :: xs, H2, I2, .cons r1 r2, q2⟩
/-- f(..) -/
theorem we_callT {k : Nat} {ps : List Str} {sp : Sp} (C : Clo X ys Θ) (D : DfT X.prog X.w X.K X.mg X.base k x ps j sp) (hr : Room k X.A) (hg : Gl X x) (ha : Wx X Θ j (e :: es) t) (hdb : (x == ("__debug__" : Str)) = false := by decide)
    (he : starEach (e :: es) X.env = (false, eval e X.env) :: starEach es X.env := by rfl) (hpl : (backTo pos (starEach es X.env)).any (·.1) = false := by rfl) : We X Θ (.Call (.Name x p) (e :: es) [] pos) (tCall sp [] E0 t) := by
  obtain ⟨f, fd, F, g, kp, b⟩ := D.ex
  refine ⟨fun pins s σ H Q I θ h => ?_⟩
  refine wpAny_Call_Name_kw (ld_glob I hg g ?_ hdb)
  refine PySem.W.callWith_K (h₀ := X.base) I.ok.mod.kin kp (thn (ha.run pos pins s σ H _ I θ h) fun us s1 hh => ?_) he hpl
  obtain ⟨⟨g1, tk⟩, vs, H1, I1, r, q⟩ := hh
  refine ⟨I1.kIn, ?_⟩
  rw [List.append_nil] at q
  have hl : us.length = ps.length := by rw [← r.length]; exact F.len _ _ _ _ q
  have bind := b s1 us I1.kIn (by rw [List.append_nil]; exact hl)
  rw [List.append_nil] at bind
  have called : wpAny (model X.prog X.w) X.A (call (.ref f) us) (fun u s' => (s1.toks ≤ s'.toks → Θ s') ∧ EP X pins σ Q u s') X.xe s1 := by
    refine wpAny_call (codeAny_mono (F.run X.A X.stack s1 H1 ⟨us, []⟩ us vs Q hr I1.env0 bind r tk q) fun r s' hq => ?_)
    match r, hq with
    | .ok (.ret u), hq =>
      have ce : CE X.stack X.prog X.w H1 s1 Q u s' := hq
      obtain ⟨_, _, _, _, un, _⟩ := id ce
      exact ⟨fun up => C.un0 I1 up un g1, I1.after ce⟩
  exact wpAny_mono (PySem.wpAny_toks called) (fun u s' z => ⟨z.2.1 z.1, z.2.2⟩) fun _ _ z => z.2
theorem wt_cmp {op : CmpOp} {r : R2} (ho : OpW X Θ (compareOp op) r) (ha : We X Θ e te) (hb : We X Θ e2 tf) (hm : behindInMarks op e2 = false) : Wt X Θ (.Compare e [op] [e2] pos) (tTest (tOp r te tf)) := by
  refine ⟨fun pins s σ H Q I θ h => ?_⟩
  refine wpAny_isTrue_Compare1 (thn (ha.run pins s σ H _ I θ h) fun v s1 hh => ?_) hm
  obtain ⟨g1, a, H1, I1, r1, q1⟩ := hh
  refine thn (hb.run pins s1 σ H1 _ I1 g1 q1) fun u s2 hh => ?_
  obtain ⟨g2, b, H2, I2, r2, q2⟩ := hh
  refine thn (ho pins s2 σ H2 a b v u _ I2 g2 r1 r2 q2) (fun w s3 z => ?_)
  obtain ⟨g3, b3, H3, I3, r3, k, e3, q3⟩ := z
  subst e3
  cases r3
  exact wpAny_truthy_bool ⟨g3, H3, I3, q3⟩
theorem wss_nil : Wss X Θ [] tNext := ⟨fun _ _ σ H _ I θ h => wpAny_execs_nil ⟨θ, σ, H, I, h⟩⟩
theorem wss_cons (h1 : Ws X Θ st ts) (h2 : Wss X Θ rest tr) : Wss X Θ (st :: rest) (tSeq ts tr) := by
  refine ⟨fun pins s σ H D I θ h => ?_⟩
  refine wpAny_execs_cons (thn (h1.run pins s σ H { D with nx := tr D } I θ h) fun f s1 hh => ?_)
  obtain ⟨g1, q⟩ := hh
  match f, q with
  | .next, ⟨σ', H', I', q⟩ => exact h2.run pins s1 σ' H' D I' g1 q
  | .ret v, q => exact ⟨g1, q⟩
  | .brk, q => exact ⟨g1, q⟩
  | .cont, q => exact ⟨g1, q⟩
theorem wss_one (h1 : Ws X Θ st ts) : Wss X Θ [st] ts := by
  refine ⟨fun pins s σ H D I θ h => ?_⟩
  refine wpAny_execs_cons (thn (h1.run pins s σ H D I θ h) fun f s1 hh => ?_)
  obtain ⟨g1, q⟩ := hh
  match f, q with
  | .next, q => exact wpAny_execs_nil ⟨g1, q⟩
  | .ret v, q => exact ⟨g1, q⟩
  | .brk, q => exact ⟨g1, q⟩
  | .cont, q => exact ⟨g1, q⟩
theorem wu_of (h : Wss X Θ rest tr) : Wu X Θ rest tr := ⟨fun pins s σ H D I θ q => wpAny_mono (h.run pins s σ H D I θ q) (fun _ _ z => z.2) fun _ _ z => z⟩
theorem wu_ps (h : PSs X rest tr) : Wu X Θ rest tr := ⟨fun pins s σ H D I θ q => h.run pins s σ H D I q⟩
theorem wu_cons (h1 : Ws X Θ st ts) (h2 : Wu X Θ rest tr) : Wu X Θ (st :: rest) (tSeq ts tr) := by
  refine ⟨fun pins s σ H D I θ h => ?_⟩
  refine wpAny_execs_cons (thn (h1.run pins s σ H { D with nx := tr D } I θ h) fun f s1 hh => ?_)
  obtain ⟨g1, q⟩ := hh
  match f, q with
  | .next, ⟨σ', H', I', q⟩ => exact h2.run pins s1 σ' H' D I' g1 q
  | .ret v, q => exact q
  | .brk, q => exact q
  | .cont, q => exact q
theorem ws_expr (he : We X Θ e te) (hs : swapsWith e none pos.line X.env = pure false := by rfl) : Ws X Θ (.Expr e pos) (tDrop te) := by
  refine ⟨fun pins s σ H D I θ h => ?_⟩
  refine wpAny_Expr_any (thn (he.run pins s σ H _ I θ h) fun v s1 hh => ?_) I.quiet hs
  obtain ⟨g1, x, H1, I1, r1, q1⟩ := hh
  exact ⟨g1, σ, H1, I1, q1⟩
theorem ws_set {i : Nat} {pos' : Pos} (C : Clo X ys Θ) (ne : x ∉ ys) (hN : X.N.Nodup) (hi : X.N[i]? = some x) (hx : Loc X.env.scope x) (he : We X Θ e te) (hs : swapsWith e (some (.Name x pos')) pos.line X.env = pure false := by rfl) (hf : X.fn x = true ∨ X.env.scope.names.lookup x = some .local := by first | exact .inl rfl | exact .inr rfl | assumption) :
    Ws X Θ (.Assign [.Name x pos'] e pos) (tAsg te (gName i)) := by
  refine ⟨fun pins s σ H D I θ h => ?_⟩
  refine wpAny_Assign_Name (thn (he.run pins s σ H _ I θ h) fun v s1 hh => ?_) hs
  obtain ⟨g1, z, H1, I1, r1, q1⟩ := hh
  exact put_ok I1 hN hi hx r1 (fun s2 I2 up pt => ⟨C.st I1 ne up pt g1, _, H1, I2, q1⟩) hf
theorem ws_if {ce : Expr} (hc : Wt X Θ ce tt) (ha : Wss X Θ a ts) (hb : Wss X Θ b tr) : Ws X Θ (.If ce a b pos) (tIfS tt ts tr) := by
  refine ⟨fun pins s σ H D I θ h => ?_⟩
  refine wpAny_If (thn (hc.run pins s σ H _ I θ h) fun d s1 hh => ?_)
  obtain ⟨g1, H1, I1, q1⟩ := hh
  cases d with
  | true => exact ha.run pins s1 σ H1 D I1 g1 q1
  | false => exact hb.run pins s1 σ H1 D I1 g1 q1
theorem ws_ret (he : We X Θ e te) : Ws X Θ (.Return (some e) pos) (tRet te) := by
  refine ⟨fun pins s σ H D I θ h => ?_⟩
  refine wpAny_Return_some (thn (he.run pins s σ H _ I θ h) fun v s1 hh => ?_)
  obtain ⟨g1, x, H1, I1, r1, q1⟩ := hh
  exact ⟨g1, x, σ, H1, I1, r1, q1⟩
end
/-- Known, of a local name -/
theorem known_local {X : Cx} {y : Str} {u : Value} {n : Nat} (hk : X.env.kindOf y = some .local) (good : Tkn 0 [u] n) : Known X (fun s => Raw X y u s ∧ n ≤ s.toks) y :=
  ⟨fun s h => ⟨u, fun b t e one => ⟨(good b t e one).1, Nat.lt_of_lt_of_le (good b t e one).2 h.2⟩, .inl ⟨hk, h.1⟩⟩⟩
end Sq
set_option Elab.async false
set_option linter.all false
set_option maxRecDepth 100000
set_option maxHeartbeats 4000000
namespace Sq
open PySem PySem.Spec PyProof.Rows L2 GenW
section
variable {P : Program} {w : World} {K : PySem.W.Frag} {mg : Str → Option Value} {base : Heap} {k j : Nat} {f : Addr} {fd : FuncData} {ps : List Str} {sp spA spB : Sp}
theorem FnT.of (F : FnOk P w K mg base CX0 k f fd ps sp) : FnT P w K mg base k f fd ps j sp :=
  ⟨F.len, fun A outer s H args us vs Q hr e0 hb r _ h => codeAny_mono (F.run A outer s H args us vs Q E0 hr e0 hb r h) fun r s' hq => by
    match r, hq with
    | .error e, hq => exact hq
    | .ok (.ret u), hq => exact hq
    | .ok .next, hq => exact hq
    | .ok .brk, hq => exact hq
    | .ok .cont, hq => exact hq⟩
theorem FnT.mono {k2 : Nat} (a : FnT P w K mg base k f fd ps j sp) (h : k ≤ k2) : FnT P w K mg base k2 f fd ps j sp :=
  ⟨a.len, fun A outer s H args us vs Q hr e0 hb r tk q => a.run A outer s H args us vs Q (hr.mono h) e0 hb r tk q⟩
/-- the argument is a plain local -/
theorem fnt_ofL {x qual y : Str} {st : Stmt} {N : List Str} (F : Fun K x qual st f fd) (S : FnScope N ps (defScope st)) (len : ∀ vs H Q E, sp vs H Q E → vs.length = ps.length)
    (hy : ps[j]? = some y) (hk : (defScope st).names.lookup y = some .local)
    (walk : ∀ (cdv : Value) (A : Around) (outer : List Env) (s : Shared) (H : Hp) (us : List Value) (vs : List V) (Q : VK) (u0 : Value), Room k (A.deeper (envOfC qual (defScope st) s.heap.objs.size f cdv)) → sp vs H Q E0 → Vals vs us → Tkn j us s.toks → us[j]? = some u0 →
      ∃ t, Wu (cxOf CX0 P w K mg base N qual (defScope st) f cdv A outer s H E0).nox (fun s' => Raw (cxOf CX0 P w K mg base N qual (defScope st) f cdv A outer s H E0).nox y u0 s' ∧ s.toks ≤ s'.toks) (defBody st) t ∧ t { nx := fun _ H' => Q .non H', rt := Q } (L2.start N vs) H) : FnT P w K mg base (k + 1) f fd ps j sp := by
  obtain ⟨oc, od, kV, doc, pm, an, cdv, ct, osl, rfl, lk, hcd⟩ := F.ex
  refine ⟨len, fun A outer s H args us vs Q hr e0 hb r tkn hsp => ?_⟩
  have hl := len _ _ _ _ hsp
  have KX : K.In s.heap := e0.mod.kin.keeps fun b o e => (e0.bs b o e).1
  have lim : s.heap.NoLimit := e0.mod.nolimit.keeps fun b o e => (e0.bs b o e).1
  have hkind : ∀ y ∈ ps.zip us, (defScope st).names.lookup y.1 = some .local ∨ ((defScope st).names.lookup y.1 = some .cell ∧ ((cellsFrom (s.heap.objs.size + 1) (defScope st).names []).lookup y.1).isSome = true) := fun ⟨n, v⟩ hy =>
    (S.par n (List.of_mem_zip hy).1).elim .inl fun z => .inr ⟨z, PySem.W.cellsFrom_some _ _ _ (.inl z)⟩
  refine codeAny_call_function hr.depth (KX _ _ lk) rfl S.co S.gen rfl (PySem.W.codeRec_of KX hcd) (hb _ _ _ _ ?_)
  refine PySem.wpAny_with_toks (Nat.le_refl s.toks) (wpAny_newFunctionEnv_cells S.kind hkind fun env he s1 made toks1 => ?_)
  subst he
  refine ⟨lim.keeps made.toInCall.keep, codeAny_func ?_⟩
  have jl : j < ps.length := (List.getElem?_eq_some_iff.mp hy).1
  obtain ⟨u0, hu⟩ : ∃ u0, us[j]? = some u0 := ⟨us[j]'(by rw [← r.length, hl]; exact jl), List.getElem?_eq_getElem _⟩
  have ndP : ps.Nodup := by rw [← S.pre]; exact S.nd.sublist (List.take_sublist _ _)
  have at1 := bindL_get (kindOf := (envOfC qual (defScope st) s.heap.objs.size f cdv).kindOf) (m := fun _ => none) ndP hy hu hk
  obtain ⟨t, ht, hq⟩ := walk cdv A outer s H us vs Q u0 (hr.deeper _) hsp r tkn hu
  have I : Inv (cxOf CX0 P w K mg base N qual (defScope st) f cdv A outer s H E0).nox [] (start N vs) H s1 := (inv_start S hr.hd e0 hl r made).wish _
  refine wpAny_mono (ht.run [] s1 (start N vs) H _ I ⟨⟨_, made.toInCall.ns, at1⟩, toks1⟩ hq) (fun fl s' hs => ?_) fun e s' hs => False.elim hs
  match fl, hs with
  | .ret u, ⟨v, σ', H', J, rv, q⟩ => exact ⟨v, H', J.os, J.bare, J.base, J.hok, rv, q⟩
  | .next, ⟨σ', H', J, q⟩ => exact ⟨V.non, H', J.os, J.bare, J.base, J.hok, rfl, q⟩
  | .brk, ⟨_, _, _, q⟩ => exact False.elim q
  | .cont, ⟨_, _, _, q⟩ => exact False.elim q
end
end Sq
set_option Elab.async false
set_option linter.all false
set_option maxRecDepth 100000
set_option maxHeartbeats 4000000
set_option Elab.async false
set_option linter.all false
set_option maxRecDepth 100000
set_option maxHeartbeats 4000000
set_option Elab.async false
set_option linter.all false
set_option maxRecDepth 100000
set_option maxHeartbeats 4000000
set_option Elab.async false
set_option linter.all false
set_option maxRecDepth 100000
set_option maxHeartbeats 4000000
namespace Sq
open PySem PySem.Spec PyProof.Rows L2 GenW
/-- the instance at a of the class at C, its dict at dx -/
def insO (a C dx : Addr) : HO := .ext fun h => h.get? a = some (PySem.W.instObj C dx)
/-- a dict of attributes: m, no names but ks -/
def dicO (dx : Addr) (m : Str → Option Value) (ks : List Str) : HO := .ext fun h => h.Ns1 dx m ∧ PySem.Within m ks
structure Live (H : Hp) (a C dx : Addr) (m : Str → Option Value) (ks : List Str) : Prop where
  i : H a = some (insO a C dx)
  d : H dx = some (dicO dx m ks)
  ne : dx ≠ a
theorem Live.same {H H' : Hp} {a C dx : Addr} {m : Str → Option Value} {ks : List Str} (L : Live H a C dx m ks) (s : Same H H') : Live H' a C dx m ks := ⟨s _ _ L.i, s _ _ L.d, L.ne⟩
theorem Live.obj {P : Program} {w : World} {H : Hp} {h : Heap} {a C dx : Addr} {m : Str → Option Value} {ks : List Str} (L : Live H a C dx m ks) (ok : HOk P w H h) : ObjM h a dx C m ∧ PySem.Within m ks := by
  have x1 : ObjOk P w H h a (insO a C dx) := ok a _ L.i
  have x2 : ObjOk P w H h dx (dicO dx m ks) := ok dx _ L.d
  exact ⟨⟨x1.1, x2.1.1, L.ne⟩, x2.1.2⟩
/-- one more attribute -/
def putM (m : Str → Option Value) (f : Str) (u : Value) : Str → Option Value := fun y => if y = f then some u else m y
theorem within_put {m : Str → Option Value} {ks : List Str} {f : Str} {u : Value} (w : PySem.Within m ks) : PySem.Within (putM m f u) (f :: ks) := fun y hy => by
  by_cases e : y = f
  · rw [e]; exact List.mem_cons_self
  · refine List.mem_cons_of_mem _ (w y ?_)
    have z : putM m f u y = m y := if_neg e
    rw [← z]
    exact hy
section
variable {X : Cx} {pins : List (Addr × Obj)} {σ : L2.St} {H : Hp} {s : Shared} {a C dx : Addr} {m : Str → Option Value} {ks : List Str} {f : Str} {A : Around} {E : Value → Shared → Prop}
theorem live_get {b : Bool} {u : Value} {Q : Value → Shared → Prop} (I : Inv X pins σ H s) (L : Live H a C dx m ks) (c : Cls X.K C) (n : NoAttr X.K C f) (hu : m f = some u) (hh : PySem.W.handedIn u = true)
    (h : Inv X pins σ H { s with toks := s.toks + 1 } → Q u { s with toks := s.toks + 1 }) : wpAny (model X.prog X.w) A (getAttr (.ref a) f b) Q E s :=
  get_map I.kIn (L.obj I.hok).1 (c.get f) c.hd n hu hh (h (I.tok _))
theorem live_meth {g : Addr} {pl : Sem Bool} {Q : Value × List Value → Shared → Prop} (I : Inv X pins σ H s) (L : Live H a C dx m ks) (c : Cls X.K C) (k : Meth X.K C f g) (hn : m f = none)
    (h : Q (.ref g, [.ref a]) s) : wpAny (model X.prog X.w) A (getMethod (.ref a) f pl) Q E s :=
  get_meth I.kIn (L.obj I.hok).1 (c.get f) k.at_ k.fn hn h
theorem live_set {u : Value} {Q : Unit → Shared → Prop} (I : Inv X pins σ H s) (L : Live H a C dx m ks) (c : Cls X.K C) (n : NoAttr X.K C f) (hl : ks.length < 1000)
    (h : ∀ s', Inv X pins σ (upd H dx (dicO dx (putM m f u) (f :: ks))) s' → Live (upd H dx (dicO dx (putM m f u) (f :: ks))) a C dx (putM m f u) (f :: ks) → s.toks ≤ s'.toks → Q () s') : wpAny (model X.prog X.w) A (setAttr (.ref a) f u) Q E s := by
  obtain ⟨O, wi⟩ := L.obj I.hok
  have hz : ks.length ≤ sizeLine := by rw [sizeLine_eq]; omega
  refine set_map I.kIn O c.sa c.po n.taker c.hd wi hz fun h' O' sb => h _ ?_ ⟨by rw [upd_ne (Ne.symm L.ne)]; exact L.i, upd_same, L.ne⟩ (Nat.le_add_right _ _)
  have hd : ∃ o, h'.get? dx = some o := let ⟨o, _, _, e', _⟩ := O'.ns; ⟨o, e'⟩
  refine I.write (x := dx) (e := dx) (by rw [L.d]; exact True.intro) (.inl rfl) (fun b q hb z => (sb.2 b hb).trans z) hd ⟨⟨O'.ns, within_put wi⟩, hd, fun h1 h2 p k => ⟨?_, p.2⟩⟩
  obtain ⟨o, es, ep, e1, rest⟩ := p.1
  exact ⟨o, es, ep, k o e1, rest⟩
/-- a new instance -/
theorem live_made (I : Inv X pins σ H s) : Inv X pins σ (upd (upd H s.heap.objs.size (dicO s.heap.objs.size (fun _ => none) [])) (s.heap.objs.size + 1) (insO (s.heap.objs.size + 1) C s.heap.objs.size))
    { s with heap := (s.heap.push PySem.W.emptyDict).push (PySem.W.instObj C s.heap.objs.size) } := by
  have e1 : (s.heap.push PySem.W.emptyDict).get? s.heap.objs.size = some PySem.W.emptyDict := Heap.get?_push_size s.heap rfl
  have e2 : ((s.heap.push PySem.W.emptyDict).push (PySem.W.instObj C s.heap.objs.size)).get? (s.heap.objs.size + 1) = some (PySem.W.instObj C s.heap.objs.size) := by
    have := Heap.get?_push_size (s.heap.push PySem.W.emptyDict) (o := PySem.W.instObj C s.heap.objs.size) rfl
    rwa [Heap.size_push] at this
  have e3 : (s.heap.push PySem.W.emptyDict).Ns s.heap.objs.size (fun _ => none) := ⟨PySem.W.emptyDict, #[], _, e1, rfl, (fun e he => absurd he (by simp)), fun _ => rfl⟩
  have I1 := I.laid (a := s.heap.objs.size) (o := dicO s.heap.objs.size (fun _ => none) []) (h' := s.heap.push PySem.W.emptyDict) (t' := s.toks) (fun b u q => Heap.get?_push_of_some _ q) (Nat.le_refl _)
    ⟨⟨Heap.Ns1.of_empty e3, fun y hy => absurd rfl hy⟩, ⟨_, e1⟩, fun h1 h2 p k => ⟨p.1.at k, p.2⟩⟩
  exact I1.laid (a := s.heap.objs.size + 1) (o := insO (s.heap.objs.size + 1) C s.heap.objs.size) (t' := s.toks) (fun b u q => Heap.get?_push_of_some _ q) (Nat.le_of_eq (Heap.size_push _ _)) ⟨e2, ⟨_, e2⟩, fun h1 h2 p k => k _ p⟩
end
structure FnW (P : Program) (w : World) (K : PySem.W.Frag) (mg : Str → Option Value) (base : Heap) (k : Nat) (f : Addr) (fd : FuncData) (ps : List Str) (j : Nat) (sp : Nat → Value → Sp) : Prop where
  len : ∀ n u vs H Q E, sp n u vs H Q E → vs.length = ps.length
  run : ∀ (A : Around) (outer : List Env) (s : Shared) (H : Hp) (args : Args) (us : List Value) (vs : List V) (Q : VK) (n : Nat) (u0 : Value), Room k A → Env0 P w K mg base A outer s H → BindsTo s fd args (ps.zip us) → Vals vs us → n ≤ s.toks → us[j]? = some u0 → sp n u0 vs H Q E0 →
    codeAny (model P w) A (.call (.ref f) args) (fun r s' => match r with | .ok (.ret u) => CE outer P w H s Q u s' | _ => False) s
section
variable {P : Program} {w : World} {K : PySem.W.Frag} {mg : Str → Option Value} {base : Heap} {k j : Nat} {f : Addr} {fd : FuncData} {ps : List Str}
/-- .. from a walk that knows a plain argument's raw value too -/
theorem fnw_ofL {x qual y : Str} {st : Stmt} {N : List Str} {sp : Nat → Value → Sp} (F : Fun K x qual st f fd) (S : FnScope N ps (defScope st)) (len : ∀ n u vs H Q E, sp n u vs H Q E → vs.length = ps.length)
    (hy : ps[j]? = some y) (hk : (defScope st).names.lookup y = some .local)
    (walk : ∀ (cdv : Value) (A : Around) (outer : List Env) (s : Shared) (H : Hp) (us : List Value) (vs : List V) (Q : VK) (n : Nat) (u0 : Value), Room k (A.deeper (envOfC qual (defScope st) s.heap.objs.size f cdv)) → sp n u0 vs H Q E0 → Vals vs us → us[j]? = some u0 →
      ∃ t, Wu (cxOf CX0 P w K mg base N qual (defScope st) f cdv A outer s H E0).nox (fun s' => Raw (cxOf CX0 P w K mg base N qual (defScope st) f cdv A outer s H E0).nox y u0 s' ∧ n ≤ s'.toks) (defBody st) t ∧ t { nx := fun _ H' => Q .non H', rt := Q } (L2.start N vs) H) : FnW P w K mg base (k + 1) f fd ps j sp := by
  obtain ⟨oc, od, kV, doc, pm, an, cdv, ct, osl, rfl, lk, hcd⟩ := F.ex
  refine ⟨len, fun A outer s H args us vs Q n u0 hr e0 hb r hn hu hsp => ?_⟩
  have hl := len _ _ _ _ _ _ hsp
  have KX : K.In s.heap := e0.mod.kin.keeps fun b o e => (e0.bs b o e).1
  have lim : s.heap.NoLimit := e0.mod.nolimit.keeps fun b o e => (e0.bs b o e).1
  have hkind : ∀ y ∈ ps.zip us, (defScope st).names.lookup y.1 = some .local ∨ ((defScope st).names.lookup y.1 = some .cell ∧ ((cellsFrom (s.heap.objs.size + 1) (defScope st).names []).lookup y.1).isSome = true) := fun ⟨n, v⟩ hy =>
    (S.par n (List.of_mem_zip hy).1).elim .inl fun z => .inr ⟨z, PySem.W.cellsFrom_some _ _ _ (.inl z)⟩
  refine codeAny_call_function hr.depth (KX _ _ lk) rfl S.co S.gen rfl (PySem.W.codeRec_of KX hcd) (hb _ _ _ _ ?_)
  refine PySem.wpAny_with_toks (Nat.le_refl s.toks) (wpAny_newFunctionEnv_cells S.kind hkind fun env he s1 made toks1 => ?_)
  subst he
  refine ⟨lim.keeps made.toInCall.keep, codeAny_func ?_⟩
  have ndP : ps.Nodup := by rw [← S.pre]; exact S.nd.sublist (List.take_sublist _ _)
  have at1 := bindL_get (kindOf := (envOfC qual (defScope st) s.heap.objs.size f cdv).kindOf) (m := fun _ => none) ndP hy hu hk
  obtain ⟨t, ht, hq⟩ := walk cdv A outer s H us vs Q n u0 (hr.deeper _) hsp r hu
  have I : Inv (cxOf CX0 P w K mg base N qual (defScope st) f cdv A outer s H E0).nox [] (start N vs) H s1 := (inv_start S hr.hd e0 hl r made).wish _
  refine wpAny_mono (ht.run [] s1 (start N vs) H _ I ⟨⟨_, made.toInCall.ns, at1⟩, Nat.le_trans hn toks1⟩ hq) (fun fl s' hs => ?_) fun e s' hs => False.elim hs
  match fl, hs with
  | .ret u, ⟨v, σ', H', J, rv, q⟩ => exact ⟨v, H', J.os, J.bare, J.base, J.hok, rv, q⟩
  | .next, ⟨σ', H', J, q⟩ => exact ⟨V.non, H', J.os, J.bare, J.base, J.hok, rfl, q⟩
  | .brk, ⟨_, _, _, q⟩ => exact False.elim q
  | .cont, ⟨_, _, _, q⟩ => exact False.elim q
end
end Sq
set_option Elab.async false
set_option linter.all false
set_option maxRecDepth 100000
set_option maxHeartbeats 4000000
namespace Sq
open PySem PySem.Spec PyProof.Rows L2 GenW
/-- f(self, *others) -/
structure FnV (P : Program) (w : World) (K : PySem.W.Frag) (mg : Str → Option Value) (base : Heap) (k : Nat) (f : Addr) (sp : Nat → Sp) : Prop where
  run : ∀ (A : Around) (outer : List Env) (s : Shared) (H : Hp) (u1 : Value) (us : List Value) (x : V) (vs : List V) (Q : VK) (n : Nat), Room k A → Env0 P w K mg base A outer s H → Vals (x :: vs) (u1 :: us) → n ≤ s.toks → us.length ≤ sizeLine → (∀ T, H T = none → sp n [x, .ref T] (upd H T (.tup vs)) Q E0) →
    codeAny (model P w) A (.call (.ref f) ⟨u1 :: us, []⟩) (fun r s' => match r with | .ok (.ret u) => CE outer P w H s Q u s' | _ => False) s
section
variable {P : Program} {w : World} {K : PySem.W.Frag} {mg : Str → Option Value} {base : Heap} {k : Nat} {f : Addr} {fd : FuncData}
theorem fnv_of {x qual y1 y2 : Str} {st : Stmt} {N : List Str} {sp : Nat → Sp} (F : Fun K x qual st f fd) (S : FnScope N [y1, y2] (defScope st)) (len : ∀ n vs H Q E, sp n vs H Q E → vs.length = 2)
    (bind : ∀ (kV doc pm : Value) (an : Option Addr) (cdv ct : Value) (u1 : Value) (us : List Value), bindArgs (PySem.W.fnOf x qual (defArgs st) (defBody st) (defScope st) .none kV doc pm an cdv ct) ⟨u1 :: us, []⟩ = (newTuple us >>= fun t => pure [(y1, u1), (y2, t)]))
    (walk : ∀ (cdv : Value) (A : Around) (outer : List Env) (s : Shared) (H : Hp) (vs : List V) (Q : VK) (n : Nat), Room k (A.deeper (envOfC qual (defScope st) s.heap.objs.size f cdv)) → sp n vs H Q E0 →
      ∃ t, Wu (cxOf CX0 P w K mg base N qual (defScope st) f cdv A outer s H E0).nox (fun s' => n ≤ s'.toks) (defBody st) t ∧ t { nx := fun _ H' => Q .non H', rt := Q } (L2.start N vs) H) : FnV P w K mg base (k + 1) f sp := by
  obtain ⟨oc, od, kV, doc, pm, an, cdv, ct, osl, rfl, lk, hcd⟩ := F.ex
  refine ⟨fun A outer s H u1 us x1 vs Q n hr e0 r hn few hsp => ?_⟩
  have KX : K.In s.heap := e0.mod.kin.keeps fun b o e => (e0.bs b o e).1
  have lim : s.heap.NoLimit := e0.mod.nolimit.keeps fun b o e => (e0.bs b o e).1
  refine codeAny_call_function hr.depth (KX _ _ lk) rfl S.co S.gen rfl (PySem.W.codeRec_of KX hcd) ?_
  rw [bind]
  refine wpAny_bind (wpAny_newTuple (wpAny_pure ?_) few)
  -- the tuple stands
  have kept : ∀ b o, s.heap.get? b = some o → (s.heap.push { cls := .type "tuple", data := .seq us.toArray }).get? b = some o := fun b o e => Heap.get?_push_of_some _ e
  have fresh : H s.heap.objs.size = none := e0.hok.fresh (Nat.le_refl _)
  have tup : ObjOk P w (upd H s.heap.objs.size (.tup vs)) (s.heap.push { cls := .type "tuple", data := .seq us.toArray }) s.heap.objs.size (.tup vs) := by
    cases r with
    | cons r1 rr => exact ⟨by rw [rr.length]; exact few, us, rr, IsTup.new s.heap _⟩
  have un1 : Un (frs outer) [] H (upd H s.heap.objs.size (.tup vs)) s.heap (s.heap.push { cls := .type "tuple", data := .seq us.toArray }) := Un.laid kept (Nat.le_refl _) fresh
  have hok1 : HOk P w (upd H s.heap.objs.size (.tup vs)) (s.heap.push { cls := .type "tuple", data := .seq us.toArray }) := e0.hok.laid kept (Nat.le_refl _) tup
  have neB : ∀ b, (∃ o, s.heap.get? b = some o) → b ≠ s.heap.objs.size := fun b ⟨o, e⟩ => Nat.ne_of_lt (Heap.lt_size e)
  have e1 : Env0 P w K mg base A outer { s with heap := s.heap.push { cls := .type "tuple", data := .seq us.toArray } } (upd H s.heap.objs.size (.tup vs)) := by
    refine ⟨e0.frames, e0.mod, fun b o e => ?_, ?_, ?_, fun b hb => ?_, hok1, e0.bare⟩
    · obtain ⟨q1, q2⟩ := e0.bs b o e
      exact ⟨kept _ _ q1, by rw [upd_ne (neB b ⟨o, q1⟩)]; exact q2⟩
    · exact Nat.le_trans e0.bsz (by rw [Heap.size_push]; exact Nat.le_succ _)
    · exact Heap.FunFrames.of_keeps (fun b o e _ => ⟨o, kept b o e, rfl⟩) e0.funs
    · have q := e0.funs.mem hb
      obtain ⟨_, o, e, _⟩ := q
      rw [upd_ne (neB b ⟨o, e⟩)]
      exact e0.frf b hb
  have r2 : Vals [x1, V.ref s.heap.objs.size] [u1, Value.ref s.heap.objs.size] := by
    cases r with
    | cons r1 rr => exact .cons r1 (.cons rfl .nil)
  have hq0 := hsp s.heap.objs.size fresh
  generalize es : ({ s with heap := s.heap.push { cls := .type "tuple", data := .seq us.toArray } } : Shared) = s1 at e1
  have hs1 : s1.heap = s.heap.push { cls := .type "tuple", data := .seq us.toArray } := by rw [← es]
  have ht1 : s1.toks = s.toks := by rw [← es]
  have ho1 : s1.os = s.os := by rw [← es]
  generalize upd H s.heap.objs.size (.tup vs) = H1 at e1 hq0 un1
  have hkind : ∀ y ∈ [y1, y2].zip [u1, Value.ref s.heap.objs.size], (defScope st).names.lookup y.1 = some .local ∨ ((defScope st).names.lookup y.1 = some .cell ∧ ((cellsFrom (s1.heap.objs.size + 1) (defScope st).names []).lookup y.1).isSome = true) := fun ⟨n, v⟩ hy =>
    (S.par n (List.of_mem_zip hy).1).elim .inl fun z => .inr ⟨z, PySem.W.cellsFrom_some _ _ _ (.inl z)⟩
  show wpAny _ _ (newFunctionEnv _ _ _ ([y1, y2].zip [u1, Value.ref s.heap.objs.size]) _ _ _ _ _) _ _ s1
  refine PySem.wpAny_with_toks (Nat.le_refl s1.toks) (wpAny_newFunctionEnv_cells S.kind hkind fun env he s2 made toks1 => ?_)
  subst he
  have lim1 : s1.heap.NoLimit := by rw [hs1]; exact lim.keeps kept
  refine ⟨lim1.keeps made.toInCall.keep, codeAny_func ?_⟩
  obtain ⟨t, ht, hq⟩ := walk cdv A outer s1 H1 [x1, V.ref s.heap.objs.size] Q n (hr.deeper _) hq0
  have I : Inv (cxOf CX0 P w K mg base N qual (defScope st) f cdv A outer s1 H1 E0).nox [] (start N [x1, V.ref s.heap.objs.size]) H1 s2 := (inv_start S hr.hd e1 rfl r2 made).wish _
  refine wpAny_mono (ht.run [] s2 (start N [x1, V.ref s.heap.objs.size]) H1 _ I (Nat.le_trans (by rw [ht1]; exact hn) toks1) hq) (fun fl s' hs => ?_) fun e s' hs => False.elim hs
  have fin : ∀ {v : V} {u : Value} {σ' H'}, Inv (cxOf CX0 P w K mg base N qual (defScope st) f cdv A outer s1 H1 E0).nox [] σ' H' s' → RelV v u → Q v H' → CE outer P w H s Q u s' := fun {v u σ' H'} J rv q =>
    ⟨v, H', J.os.trans ho1, J.bare, un1.trans (by rw [← hs1]; exact J.base), J.hok, rv, q⟩
  match fl, hs with
  | .ret u, ⟨v, σ', H', J, rv, q⟩ => exact fin J rv q
  | .next, ⟨σ', H', J, q⟩ => exact fin (v := V.non) J rfl q
  | .brk, ⟨_, _, _, q⟩ => exact False.elim q
  | .cont, ⟨_, _, _, q⟩ => exact False.elim q
end
end Sq
set_option Elab.async false
set_option linter.all false
set_option maxRecDepth 100000
set_option maxHeartbeats 4000000
namespace Sq
open PySem PySem.Spec PyProof.Rows L2 GenW
def tFldL (K : PySem.W.Frag) (ta : TE) (f : Str) : TE := fun σ H Q => ta σ H fun x H1 => ∃ a C dx m ks u v, x = .ref a ∧ Live H1 a C dx m ks ∧ Cls K C ∧ NoAttr K C f ∧ m f = some u ∧ RelV v u ∧ Q v H1
def sFldL (K : PySem.W.Frag) (ta tv : TE) (f : Str) : TS := fun D σ H => tv σ H fun y H1 => ta σ H1 fun x H2 => ∃ a C dx m ks, x = .ref a ∧ Live H2 a C dx m ks ∧ Cls K C ∧ NoAttr K C f ∧ ks.length < 1000 ∧
  ∀ u, RelV y u → D.nx σ (upd H2 dx (dicO dx (putM m f u) (f :: ks)))
/-- .. of the name in slot i, whose raw value is u -/
def sFldK (K : PySem.W.Frag) (ta : TE) (i : Nat) (u : Value) (f : Str) : TS := fun D σ H => ∃ y, σ[i]? = some (some y) ∧ (RelV y u → ta σ H fun x H2 => ∃ a C dx m ks, x = .ref a ∧ Live H2 a C dx m ks ∧ Cls K C ∧ NoAttr K C f ∧ ks.length < 1000 ∧
  D.nx σ (upd H2 dx (dicO dx (putM m f u) (f :: ks))))
def tML (C : Addr) (m : Str) (sp : Sp) (ta : TE) (t : TA) : TE := fun σ H Q => ta σ H fun x H1 => ∃ a dx mA ks, x = .ref a ∧ Live H1 a C dx mA ks ∧ mA m = none ∧ t σ H1 fun vs H2 => sp (x :: vs) H2 Q E0
def tMV (C : Addr) (m : Str) (sp : Sp) (ta : TE) (t : TA) : TE := fun σ H Q => ta σ H fun x H1 => ∃ a dx mA ks, x = .ref a ∧ Live H1 a C dx mA ks ∧ mA m = none ∧ t σ H1 fun vs H2 => vs.length ≤ sizeLine ∧ ∀ T, H2 T = none → sp [x, .ref T] (upd H2 T (.tup vs)) Q E0
def tPrL (C : Addr) (sp : Sp) (ta : TE) : TE := fun σ H Q => ta σ H fun x H1 => ∃ a dx m ks, x = .ref a ∧ Live H1 a C dx m ks ∧ sp [.ref a] H1 Q E0
/-- the making: the raw value of the argument behind the first is u -/
def tNewW (C : Addr) (sp : Value → Sp) (t : L2.St → Hp → (Value → List V → Hp → Prop) → Prop) : TE := fun σ H Q => t σ H fun u vs H1 => ∀ x dx, H1 x = none → H1 dx = none → dx ≠ x → sp u (.ref x :: vs) (upd (upd H1 dx (dicO dx (fun _ => none) [])) x (insO x C dx)) (fun v H2 => v = .non ∧ Q (.ref x) H2) E0
/-- raw arguments of which the j-th is u -/
structure Wq (X : Cx) (Θ : Shared → Prop) (j : Nat) (es : List Expr) (t : L2.St → Hp → (Value → List V → Hp → Prop) → Prop) : Prop where
  run : ∀ (pos : Pos) (pins : List (Addr × Obj)) (s : Shared) (σ : L2.St) (H : Hp) (Q : Value → List V → Hp → Prop), Inv X pins σ H s → Θ s → t σ H Q → wpAny (model X.prog X.w) X.A (spliced (backTo pos (starEach es X.env))) (fun us s' => Θ s' ∧ ∃ u, us[j]? = some u ∧ AP X pins σ (Q u) us s') X.xe s
def tQName (i : Nat) (u : Value) (t : TA) : L2.St → Hp → (Value → List V → Hp → Prop) → Prop := fun σ H Q => ∃ v, σ[i]? = some (some v) ∧ (RelV v u → t σ H fun vs H1 => Q u (v :: vs) H1)
def tQSkip (te : TE) (t : L2.St → Hp → (Value → List V → Hp → Prop) → Prop) : L2.St → Hp → (Value → List V → Hp → Prop) → Prop := fun σ H Q => te σ H fun v H1 => t σ H1 fun u vs H2 => Q u (v :: vs) H2
/-- the raw value of the name y is u -/
structure KnownU (X : Cx) (Θ : Shared → Prop) (y : Str) (u : Value) : Prop where
  kn : ∀ (s : Shared), Θ s → (X.env.kindOf y = some .local ∧ Raw X y u s) ∨ (X.env.kindOf y = some .cell ∧ ∃ c, X.env.cells.lookup y = some c ∧ s.heap.IsCell c (some u))
section
variable {X : Cx} {Θ : Shared → Prop} {ys : List Str} {pins : List (Addr × Obj)} {σ : L2.St} {H : Hp} {s : Shared} {x y f m : Str} {p pos pos' apos : Pos} {o e value : Expr} {es : List Expr} {ta te tv : TE} {t : TA} {C : Addr} {sp : Sp} {k i j n : Nat} {u0 : Value} {tq : L2.St → Hp → (Value → List V → Hp → Prop) → Prop} {pl : Sem Bool} {st : Stmt} {ts : TS} {tt : TT} {sts : List Stmt} {ps : List Str}
theorem we_ofP (h : PE X e te) : We X (fun s => n ≤ s.toks) e te := ⟨fun pins s σ H Q I θ q => wpAny_mono (PySem.wpAny_toks_of θ (h.run pins s σ H Q I q)) (fun _ _ z => z) fun _ _ z => z.2⟩
theorem wa_ofP (h : PA X es t) : Wa X (fun s => n ≤ s.toks) es t := ⟨fun pos pins s σ H Q I θ q => wpAny_mono (PySem.wpAny_toks_of θ (h.run pos pins s σ H Q I q)) (fun _ _ z => z) fun _ _ z => z.2⟩
theorem wt_ofP (h : PT X e tt) : Wt X (fun s => n ≤ s.toks) e tt := ⟨fun pins s σ H Q I θ q => wpAny_mono (PySem.wpAny_toks_of θ (h.run pins s σ H Q I q)) (fun _ _ z => z) fun _ _ z => z.2⟩
theorem ws_ofP (h : PS X st ts) : Ws X (fun s => n ≤ s.toks) st ts := ⟨fun pins s σ H D I θ q => wpAny_mono (PySem.wpAny_toks_of θ (h.run pins s σ H D I q)) (fun _ _ z => z) fun _ _ z => z.2⟩
theorem pe_fldL (he : PE X e ta) (hb : attributeBase e f X.env (eval e X.env) = eval e X.env := by rfl) : PE X (.Attribute e f pos) (tFldL X.K ta f) := by
  refine ⟨fun pins s σ H Q I h => ?_⟩
  refine attr_of hb (thn (he.run pins s σ H _ I h) fun u s1 hh => ?_)
  obtain ⟨x, H1, I1, rx, a, C, dx, m, ks, u1, v, ex, L, c, n, hu, rv, q⟩ := hh
  subst ex
  obtain rfl : u = Value.ref a := rx
  exact live_get I1 L c n hu (handed_of rv) fun I2 => ⟨v, H1, I2, rv, q⟩
theorem ps_fldL (ha : PE X o ta) (hv : PE X value tv) (hs : swapsWith value (some (.Attribute o f pos')) pos.line X.env = pure false := by rfl) : PS X (.Assign [.Attribute o f pos'] value pos) (sFldL X.K ta tv f) := by
  refine ⟨fun pins s σ H D I h => ?_⟩
  refine plainObj_wpAny_Assign_Attribute (thn (hv.run pins s σ H _ I h) fun u s1 hh => ?_) hs
  obtain ⟨y, H1, I1, ry, q⟩ := hh
  refine thn (ha.run pins s1 σ H1 _ I1 q) fun ov s2 hh => ?_
  obtain ⟨x, H2, I2, rx, a, C, dx, m, ks, ex, L, c, n, l, q2⟩ := hh
  subst ex
  obtain rfl : ov = Value.ref a := rx
  exact live_set I2 L c n l fun s3 I3 _ _ => ⟨σ, _, I3, q2 u ry⟩
theorem knownU_eval {E Q : Value → Shared → Prop} {v : V} (Kn : KnownU X Θ y u0) (I : Inv X pins σ H s) (θ : Θ s) (hN : X.N[i]? = some y) (hv : Vis X.env.scope y) (h : σ[i]? = some (some v)) (fin : RelV v u0 → Q u0 s) (hd : (y == ("__debug__" : Str)) = false := by decide) :
    wpAny (model X.prog X.w) X.A (eval (.Name y p) X.env) Q E s := by
  obtain ⟨mm, hns, look⟩ := I.loc
  obtain ⟨u2, r, l⟩ := look i y v hN h hv
  rcases Kn.kn s θ with ⟨k, m2, ns2, e2⟩ | ⟨k, c, hc, cell⟩
  · have eu : u2 = u0 := by
      rcases l with ⟨_, q⟩ | ⟨k1, _⟩
      · rw [hns.agree ns2 y, e2] at q
        exact (Option.some.inj q).symm
      · rw [k] at k1
        rcases k1 with z | z <;> cases z
    exact wpAny_Name (wpAny_loadName_local I.ok.kind k ns2 e2 (fin (eu ▸ r))) hd
  · have eu : u2 = u0 := by
      rcases l with ⟨k1, _⟩ | ⟨_, c1, e1, cell1⟩
      · rw [k] at k1
        cases k1
      · rw [hc] at e1
        obtain rfl : c = c1 := Option.some.inj e1
        obtain ⟨o1, g1, d1⟩ := cell
        obtain ⟨o2, g2, d2⟩ := cell1
        rw [g1] at g2
        obtain rfl : o1 = o2 := Option.some.inj g2
        rw [d1] at d2
        injection d2 with d2
        exact (Option.some.inj d2).symm
    exact wpAny_Name (wpAny_loadName_cell I.ok.kind k hc cell (fin (eu ▸ r))) hd
theorem ps_fldK (Kn : KnownU X Θ y u0) (hN : X.N[i]? = some y) (hv : Vis X.env.scope y) (ha : We X Θ o ta) (hr : Wu X (fun s => n ≤ s.toks) sts ts) (hn : ∀ s, Θ s → n ≤ s.toks) (hs : swapsWith (.Name y p) (some (.Attribute o f pos')) pos.line X.env = pure false := by rfl) (hd : (y == ("__debug__" : Str)) = false := by decide) :
    Wu X Θ (.Assign [.Attribute o f pos'] (.Name y p) pos :: sts) (tSeq (sFldK X.K ta i u0 f) ts) := by
  refine ⟨fun pins s σ H D I θ h => ?_⟩
  obtain ⟨v, e, q⟩ := h
  refine wpAny_execs_cons (plainObj_wpAny_Assign_Attribute (knownU_eval Kn I θ hN hv e (fun r => ?_) hd) hs)
  refine thn (ha.run pins s σ H _ I θ (q r)) fun ov s2 hh => ?_
  obtain ⟨g2, x, H2, I2, rx, a, C, dx, m, ks, ex, L, c, nn, l, q2⟩ := hh
  subst ex
  obtain rfl : ov = Value.ref a := rx
  exact live_set I2 L c nn l fun s3 I3 _ up => hr.run pins s3 σ _ D I3 (Nat.le_trans (hn s2 g2) up) q2
theorem wq_name (Kn : KnownU X Θ y u0) (hN : X.N[i]? = some y) (hv : Vis X.env.scope y) (hr : Wa X Θ es t) (hs : starEach (.Name y p :: es) X.env = (false, eval (.Name y p) X.env) :: starEach es X.env := by rfl) (hd : (y == ("__debug__" : Str)) = false := by decide) :
    Wq X Θ 0 (.Name y p :: es) (tQName i u0 t) := by
  refine ⟨fun pos pins s σ H Q I θ h => ?_⟩
  rw [hs]
  show wpAny _ _ (spliced ((false, eval (.Name y p) X.env) :: backTo pos (starEach es X.env))) _ _ s
  obtain ⟨v, e, q⟩ := h
  refine Calls.spliced_cons (knownU_eval Kn I θ hN hv e (fun r => ?_) hd)
  refine thn (hr.run pos pins s σ H _ I θ (q r)) fun us s2 hh => ?_
  obtain ⟨g2, xs, H2, I2, r2, q2⟩ := hh
  exact ⟨g2, u0, rfl, v :: xs, H2, I2, .cons r r2, q2⟩
theorem wq_skip (ha : We X Θ e te) (hr : Wq X Θ j es tq) (hs : starEach (e :: es) X.env = (false, eval e X.env) :: starEach es X.env := by rfl) : Wq X Θ (j + 1) (e :: es) (tQSkip te tq) := by
  refine ⟨fun pos pins s σ H Q I θ h => ?_⟩
  rw [hs]
  show wpAny _ _ (spliced ((false, eval e X.env) :: backTo pos (starEach es X.env))) _ _ s
  refine Calls.spliced_cons (thn (ha.run pins s σ H _ I θ h) fun v s1 hh => ?_)
  obtain ⟨g1, w, H1, I1, r1, q1⟩ := hh
  exact thn (hr.run pos pins s1 σ H1 _ I1 g1 q1) fun us s2 ⟨g2, u, eu, xs, H2, I2, r2, q2⟩ => ⟨g2, u, eu, w :: xs, H2, I2, .cons r1 r2, q2⟩
/-- o.m(..), m a def with *others -/
structure MtV (P : Program) (w : World) (K : PySem.W.Frag) (mg : Str → Option Value) (base : Heap) (k : Nat) (C : Addr) (m : Str) (sp : Nat → Sp) : Prop where
  ex : ∃ f, FnV P w K mg base k f sp ∧ Meth K C m f
  cl : Cls K C
theorem we_mV {spn : Nat → Sp} (Cl : Clo X ys Θ) (D : MtV X.prog X.w X.K X.mg X.base k C m spn) (hn : ∀ s, Θ s → n ≤ s.toks) (hr : Room k X.A) (he : We X Θ o ta) (ha : Wa X Θ (e :: es) t)
    (hst : starEach (e :: es) X.env = (false, eval e X.env) :: starEach es X.env := by rfl) (hpl : (backTo pos (starEach es X.env)).any (·.1) = false := by rfl)
    (ht : eval (.Call (.Attribute o m apos) (e :: es) [] pos) X.env = (do
      let ov ← eval o X.env
      standAt apos.atName
      let (f, first) ← holding [ov] (getMethod ov m pl)
      callWith pos f first (backTo pos (starEach (e :: es) X.env)) (backToKw pos (keywordEach [] X.env))) := by rfl) :
    We X Θ (.Call (.Attribute o m apos) (e :: es) [] pos) (tMV C m (spn n) ta t) := by
  obtain ⟨⟨g, F, hm⟩, c⟩ := D
  refine ⟨fun pins s σ H Q I θ h => ?_⟩
  refine PySem.W.methodCall_KW (pl := pl) (thn (he.run pins s σ H _ I θ h) fun u s1 hh => ?_) ht
  obtain ⟨g1, x, H1, I1, rx, a, dx, mA, ks, ex, L, l, q⟩ := hh
  subst ex
  obtain rfl : u = Value.ref a := rx
  refine live_meth I1 L c hm l ?_
  refine PySem.W.callWith_K (first := [.ref a]) (h₀ := X.base) I.ok.mod.kin hm.kp (thn (ha.run pos pins s1 σ H1 _ I1 g1 q) fun us s2 hh => ?_) hst hpl
  obtain ⟨g2, vs, H2, I2, r, few, q2⟩ := hh
  refine ⟨I2.kIn, ?_⟩
  have called : wpAny (model X.prog X.w) X.A (call (.ref g) (.ref a :: us)) (fun u s' => (s2.toks ≤ s'.toks → Θ s') ∧ EP X pins σ Q u s') X.xe s2 := by
    refine wpAny_call (codeAny_mono (F.run X.A X.stack s2 H2 (.ref a) us (.ref a) vs Q n hr I2.env0 (.cons rfl r) (hn s2 g2) (by rw [← r.length]; exact few) q2) fun r s' hq => ?_)
    match r, hq with
    | .ok (.ret u), hq =>
      have ce : CE X.stack X.prog X.w H2 s2 Q u s' := hq
      obtain ⟨_, _, _, _, un, _⟩ := id ce
      exact ⟨fun up => Cl.un0 I2 up un g2, I2.after ce⟩
  exact wpAny_mono (PySem.wpAny_toks called) (fun u s' z => ⟨z.2.1 z.1, z.2.2⟩) fun _ _ z => z.2
/-- a property -/
theorem pe_prL (D : Pr X.prog X.w X.K X.mg X.base k C f sp) (hr : Room (k + 1) X.A) (he : PE X e ta) (hab : attributeBase e f X.env (eval e X.env) = eval e X.env := by rfl) : PE X (.Attribute e f pos) (tPrL C sp ta) := by
  obtain ⟨⟨q, g, fd, hp, F, hb⟩, c⟩ := D
  refine ⟨fun pins s σ H Q I h => ?_⟩
  refine attr_of hab (thn (he.run pins s σ H _ I h) fun u s1 hh => ?_)
  obtain ⟨x, H1, I1, rx, a, dx, m, ks, ex, L, q2⟩ := hh
  subst ex
  obtain rfl : u = Value.ref a := rx
  obtain ⟨od, J, _⟩ := (L.obj I1.hok).1.look
  obtain ⟨rest, isProp⟩ := hp.rec_
  have I2 := I1.tok (s1.toks + 1)
  have known : (PySem.W.clsIn X.K C).isSome = true := by
    obtain ⟨cd, hc, _⟩ := PySem.W.any_some c.hd
    rw [hc]
    rfl
  refine PySem.W.get_bind I1.kIn J (PySem.W.plainGet_of (c.get f)).1 (PySem.W.findObj_data known hp.at_ hp.get hp.tak) (PySem.W.plainGet_of (c.get f)).2 (wpAny_call (PySem.W.prop_get (s := { s1 with toks := s1.toks + 1 }) I1.kIn isProp ?_))
  have bind := hb _ [Value.ref a] I2.kIn rfl
  rw [List.append_nil] at bind
  refine codeAny_mono (F.run X.A.in1 X.stack { s1 with toks := s1.toks + 1 } H1 ⟨[.ref a], []⟩ [.ref a] [.ref a] Q E0 hr.in1 I2.env0.in1 bind (.cons rfl .nil) q2) fun r s' hq => ?_
  match r, hq with
  | .error er, hq => exact False.elim hq
  | .ok (.ret w), hq =>
    obtain ⟨v, H', I3, rv, q3⟩ := I2.after hq
    show wpAny _ _ (handedOut w) _ _ _
    rw [PySem.W.handedOut_of (handed_of rv)]
    exact wpAny_pure ⟨v, H', I3, rv, q3⟩
structure MkW (P : Program) (w : World) (K : PySem.W.Frag) (mg : Str → Option Value) (base : Heap) (k : Nat) (x : Str) (C : Addr) (ps : List Str) (j : Nat) (sp : Nat → Value → Sp) : Prop where
  ex : ∃ f fd, Mk K C f ∧ FnW P w K mg base k f fd ps (j + 1) sp ∧ Binds K fd ps []
  at_ : mg x = some (.ref C)
theorem we_new {spn : Nat → Value → Sp} (Cl : Clo X ys Θ) (D : MkW X.prog X.w X.K X.mg X.base k x C ps j spn) (hn : ∀ s, Θ s → n ≤ s.toks) (hr : Room (k + 1) X.A) (hg : Gl X x) (ha : Wq X Θ j (e :: es) tq) (hdb : (x == ("__debug__" : Str)) = false := by decide)
    (he : starEach (e :: es) X.env = (false, eval e X.env) :: starEach es X.env := by rfl) (hpl : (backTo pos (starEach es X.env)).any (·.1) = false := by rfl) :
    We X Θ (.Call (.Name x p) (e :: es) [] pos) (tNewW C (spn n) tq) := by
  obtain ⟨⟨g, fd, M, F, hb⟩, hm⟩ := D
  refine ⟨fun pins s σ H Q I θ h => ?_⟩
  refine wpAny_Call_Name_kw (ld_glob I hg hm ?_ hdb)
  refine PySem.W.callWith_K (h₀ := X.base) I.ok.mod.kin M.kp (thn (ha.run pos pins s σ H _ I θ h) fun us s1 hh => ?_) he hpl
  obtain ⟨g1, u0, eu, vs, H1, I1, r, q⟩ := hh
  refine ⟨I1.kIn, ?_⟩
  have hq := q (s1.heap.objs.size + 1) s1.heap.objs.size (I1.hok.fresh (Nat.le_succ _)) (I1.hok.fresh (Nat.le_refl _)) (Nat.ne_of_lt (Nat.lt_succ_self _))
  have I2 := live_made (C := C) I1
  have r2 : Vals (V.ref (s1.heap.objs.size + 1) :: vs) (Value.ref (s1.heap.objs.size + 1) :: us) := .cons rfl r
  have hl : (Value.ref (s1.heap.objs.size + 1) :: us ++ []).length = ps.length := by
    have e := r2.length
    rw [F.len _ _ _ _ _ _ hq] at e
    rw [List.append_nil]
    exact e.symm
  have b := hb _ (Value.ref (s1.heap.objs.size + 1) :: us) I2.kIn hl
  rw [List.append_nil] at b
  have un1 : Un (frs X.stack) [] H1 (upd (upd H1 s1.heap.objs.size (dicO s1.heap.objs.size (fun _ => none) [])) (s1.heap.objs.size + 1) (insO (s1.heap.objs.size + 1) C s1.heap.objs.size)) s1.heap ((s1.heap.push PySem.W.emptyDict).push (PySem.W.instObj C s1.heap.objs.size)) := by
    have f2 : (upd H1 s1.heap.objs.size (dicO s1.heap.objs.size (fun _ => none) [])) (s1.heap.objs.size + 1) = none := by
      rw [upd_ne (Nat.succ_ne_self _)]
      exact I1.hok.fresh (Nat.le_succ _)
    exact (Un.laid (h' := s1.heap.push PySem.W.emptyDict) (fun b u q => Heap.get?_push_of_some _ q) (Nat.le_refl _) (I1.hok.fresh (Nat.le_refl _))).trans (Un.laid (fun b u q => Heap.get?_push_of_some _ q) (Nat.le_of_eq (Heap.size_push _ _)) f2)
  have called : wpAny (model X.prog X.w) X.A (call (.ref C) us) (fun u s' => (s1.toks ≤ s'.toks → Θ s') ∧ EP X pins σ Q u s') X.xe s1 := by
    refine wpAny_call (make_map (f := g) I1.kIn M.makes M.init (beq_iff_eq.mp M.fn) (codeAny_mono (F.run _ X.stack _ _ ⟨Value.ref (s1.heap.objs.size + 1) :: us, []⟩ (Value.ref (s1.heap.objs.size + 1) :: us) _ _ n u0 (hr.make C us [])
      (I2.env0.make C us []) b r2 (hn s1 g1) eu hq) fun r s' hq' => ?_))
    match r, hq' with
    | .ok (.ret u), hq' =>
      have ce : CE X.stack X.prog X.w _ _ _ u s' := hq'
      obtain ⟨_, _, _, _, un, _⟩ := id ce
      obtain ⟨v, H', I3, rv, ev, q3⟩ := I2.after ce
      subst ev
      exact ⟨rv, fun up => Cl.un0 I1 up (un1.trans un) g1, V.ref (s1.heap.objs.size + 1), H', I3, rfl, q3⟩
  exact wpAny_mono (PySem.wpAny_toks called) (fun u s' z => ⟨z.2.1 z.1, z.2.2⟩) fun _ _ z => z.2
end
end Sq
set_option Elab.async false
set_option linter.all false
set_option maxRecDepth 100000
set_option maxHeartbeats 4000000
namespace Sq
open PySem PySem.Spec PyProof.Rows L2
theorem enumT_meets (tp : Addr) (items : Array Value) (ob : Obj) (hcl : ob.cls = .type "tuple") (m : Nat) (hda : ob.data = .seq items m) :
    Meets (Builtin.«enumerate.__new__» ⟨[.type "enumerate", .ref tp], []⟩) (fun _ R s => s.heap.get? tp = some ob ∧
      R (.ok (.ret (.ref (s.heap.push { cls := .type "tuple_iterator", data := .fields #[.ref tp, .int 0 0] }).objs.size)))
        { s with heap := (s.heap.push { cls := .type "tuple_iterator", data := .fields #[.ref tp, .int 0 0] }).push { cls := .type "enumerate", data := .fields #[.none, .bool false, .ref s.heap.objs.size, rawInt 0, .none, .none] } }) :=
  .of_wp fun prog w A R s hh => by
    obtain ⟨h1, h2, h3, h4, h5⟩ := s
    obtain ⟨gt, hR⟩ := hh
    have isEnumCls := sub_enumerate
    have isT : Heap.IsTuple (Shared.heap ⟨h1, h2, h3, h4, h5⟩) tp items := ⟨_, gt, hcl, m, hda⟩
    wp_walk using AutoSeq1.wpAny_loadPart' gt
    refine wpAny_stack_any fun st => wpAny_pure ?_
    split
    · rename_i c _ _ _ _ _
      cases (c == Value.type "enumerate")
      · wp_walk using AutoSeq1.wpAny_loadPart' gt, wpAny_pyIter_tuple isT
        exact ⟨_, rfl, hR⟩
      · wp_walk using AutoSeq1.wpAny_loadPart' gt, wpAny_pyIter_tuple isT
        exact ⟨_, rfl, hR⟩
    · wp_walk using AutoSeq1.wpAny_loadPart' gt, wpAny_pyIter_tuple isT
      exact ⟨_, rfl, hR⟩
theorem enumT_call {prog : Program} {w : World} {A : Around} {E : Value → Shared → Prop} {s : Shared} {tp : Addr} {items : Array Value} {Q : Value → Shared → Prop} (isT : s.heap.IsTuple tp items)
    (fin : ∀ h', IsEnum h' (s.heap.objs.size + 1) s.heap.objs.size 0 .none → h'.IsTupleIter s.heap.objs.size tp 0 → h'.objs.size = s.heap.objs.size + 2 →
      (∀ b o, s.heap.get? b = some o → h'.get? b = some o) → Q (.ref (s.heap.objs.size + 1)) { s with heap := h' }) :
    wpAny (model prog w) A (call (.type "enumerate") [.ref tp]) Q E s := by
  obtain ⟨ob, gt, hcl, m, hda⟩ := isT
  refine callType_new F.called_enumerate (by decide) (F.typeCall_enumerate_1 _) (F.newCall_enumerate_1 _) (fun obj => F.args_object_init_2 obj _) F.entry_enumerate_new
    (enumT_meets tp items ob hcl m hda) ⟨gt, ?_⟩
  have sz : (s.heap.push { cls := .type "tuple_iterator", data := .fields #[.ref tp, .int 0 0] }).objs.size = s.heap.objs.size + 1 := Heap.size_push ..
  show _ ∧ _
  rw [sz]
  have isE : IsEnum ((s.heap.push { cls := .type "tuple_iterator", data := .fields #[.ref tp, .int 0 0] }).push
      { cls := .type "enumerate", data := .fields #[.none, .bool false, .ref s.heap.objs.size, rawInt 0, .none, .none] }) (s.heap.objs.size + 1) s.heap.objs.size 0 .none := by
    have z := Heap.get?_push_size (s.heap.push { cls := .type "tuple_iterator", data := .fields #[.ref tp, .int 0 0] })
      (o := { cls := .type "enumerate", data := .fields #[.none, .bool false, .ref s.heap.objs.size, rawInt 0, .none, .none] }) rfl
    rw [sz] at z
    exact z
  refine ⟨⟨_, isE, rfl⟩, fin _ isE ⟨_, Heap.get?_push_of_some _ (Heap.get?_push_size _ rfl), rfl, rfl⟩ (by rw [Heap.size_push, sz]) fun b o y => Heap.get?_push_of_some _ (Heap.get?_push_of_some _ y)⟩
/-- the items of a tuple with their places, in new pairs -/
def IteT (K : PySem.W.Frag) (a : Addr) (xs : List V) : It :=
  ⟨fun i H => SqT K H a xs ∧ i < xs.length, fun i H v H' => ∃ (T : Addr) (x : V), v = .ref T ∧ H T = none ∧ H' = upd H T (.tup [.int (i : Nat), x]) ∧ xs[i]? = some x, fun i H => SqT K H a xs ∧ i = xs.length⟩
theorem turn_enumT {P : Program} {w : World} {K : PySem.W.Frag} {elts : List Expr} {kk : Nat} {tpos : Pos} (en it a : Addr) (xs : List V) :
    Turn P w K (.Tuple elts kk tpos) (IteT K a xs) [en, it] en (fun i h => (∃ old, IsEnum h en it ((i : Nat) : Int) old) ∧ h.IsTupleIter it a i ∧ en ≠ it ∧ a ≠ it ∧ a ≠ en) where
  mem := List.mem_cons_self
  obj := fun i h st b hb => by
    obtain ⟨⟨old, isE⟩, ⟨o, ho, cls, dat⟩, _⟩ := st
    rcases List.mem_cons.mp hb with z | z
    · rw [z]
      exact ⟨_, isE, fun v q => nomatch q⟩
    · rw [List.mem_singleton.mp z]
      exact ⟨o, ho, fun v q => by rw [dat] at q; cases q⟩
  keep := fun i h h' st k => by
    obtain ⟨⟨old, isE⟩, ⟨o, ho, r⟩, ne⟩ := st
    exact ⟨⟨old, k en (by simp) _ isE⟩, ⟨o, k it (by simp) o ho, r⟩, ne⟩
  item := by
    intro X hP hw hK hc i pins s σ H E I hf st hg
    subst hP hw hK
    obtain ⟨⟨old, isE⟩, isI, ne, na, nb⟩ := st
    obtain ⟨hS, il⟩ := hg
    obtain ⟨its, rv, isT, hz⟩ := I.tuple hS
    have quiet : X.A.in1.handled = none := by simp [I.ok.hd hc]
    have lowE : en < s.heap.objs.size := Heap.lt_size isE
    have lowI : it < s.heap.objs.size := by
      obtain ⟨_, q, _⟩ := isI
      exact Heap.lt_size q
    have isT' : s.heap.IsTuple a its.toArray := isT
    have il2 : i < its.toArray.size := by rw [List.size_toArray, ← rv.length]; exact il
    have nfp : en ∉ [it, a] := fun z => by
      rcases List.mem_cons.mp z with z | z
      · exact ne z
      · exact nb (List.mem_singleton.mp z).symm
    refine wpAny_pyNext_enum_itemD (Draws.tuple quiet it a na its.toArray) isE ⟨isI, isT'⟩ il2 ne nfp fun v h' tk pv out isI' hT hsz hk => ?_
    have pv' : its[i]? = some v := by simpa using pv
    obtain ⟨x, ex⟩ : ∃ x, xs[i]? = some x := ⟨_, List.getElem?_eq_getElem il⟩
    obtain ⟨u, eu, ru⟩ := rv.get ex
    obtain rfl : u = v := by rw [eu] at pv'; exact Option.some.inj pv'
    refine ⟨_, rfl, wpAny_letOwnedTupleGo_enum (s := { s with heap := h', toks := tk + 1 }) out fun h2 isE2 sb => ?_⟩
    have fresh : H s.heap.objs.size = none := I.hok.fresh (Nat.le_refl _)
    have hT2 : h2.get? s.heap.objs.size = some { cls := .type "tuple", data := .seq #[.int i tk, u] } := (sb.2 _ (Nat.ne_of_gt lowE)).trans hT
    have made : ObjOk X.prog X.w (upd H s.heap.objs.size (.tup [.int (i : Nat), x])) h2 s.heap.objs.size (.tup [.int (i : Nat), x]) :=
      ⟨by show 2 ≤ sizeLine; rw [sizeLine_eq]; decide, [.int i tk, u], .cons ⟨_, rfl⟩ (.cons ru .nil), ⟨_, hT2, rfl, _, rfl⟩⟩
    have I1 : Inv X pins σ (upd H s.heap.objs.size (.tup [.int (i : Nat), x])) { s with heap := h2, toks := tk + 1 } :=
      I.turnedNew (ch := [en, it]) (fun b ob hb q => (sb.2 b (fun z => hb (by simp [z]))).trans (hk b ob (fun z => hb (by simp [z])) (fun z => hb (by simp [z])) q)) hf (Nat.le_refl _) made
    obtain ⟨⟨oi, eoi, ri⟩, _⟩ := isI'
    refine ⟨.ref s.heap.objs.size, _, I1, rfl, ⟨_, x, rfl, fresh, rfl, ex⟩, ⟨⟨u, ?_⟩, ⟨oi, (sb.2 it (Ne.symm ne)).trans eoi, ri⟩, ne, na, nb⟩, fun b hb => ?_⟩
    · rw [show ((i + 1 : Nat) : Int) = (i : Int) + 1 by omega]
      exact isE2
    · have lowB : b < s.heap.objs.size := by
        rcases List.mem_cons.mp hb with z | z
        · rw [z]
          exact lowE
        · rw [List.mem_singleton.mp z]
          exact lowI
      rw [upd_ne (Nat.ne_of_lt lowB)]
      exact (hf b hb).1
  done := by
    intro X hP hw hK hc i pins s σ H E I hf st hg
    subst hP hw hK
    obtain ⟨⟨old, isE⟩, isI, ne, na, nb⟩ := st
    obtain ⟨hS, last⟩ := hg
    obtain ⟨its, rv, isT, hz⟩ := I.tuple hS
    have quiet : X.A.in1.handled = none := by simp [I.ok.hd hc]
    have isT' : s.heap.IsTuple a its.toArray := isT
    have il2 : i = its.toArray.size := by rw [List.size_toArray, ← rv.length]; exact last
    obtain ⟨f0, f1, f2, f3, f4, f5⟩ := hf it (by simp)
    subst il2
    exact wpAny_pyNext_enum_endD (Draws.tuple quiet it a na its.toArray) isE ⟨isI, isT'⟩ fun h2 eb => ⟨rfl, I.turned (t' := s.toks) (fun b o hb q => eb b o hb q) f0 f1 f3 f4 f5⟩
  self := fun A i s Q E st h => by
    obtain ⟨⟨_, isE⟩, _⟩ := st
    exact wpAny_pyIter_enum isE h
def iEnumT (K : PySem.W.Frag) (ta : TA) : TI := fun σ H R => ta σ H fun vs H1 => ∃ a xs, vs = [.ref a] ∧ SqT K H1 a xs ∧ R (IteT K a xs) H1
theorem pi_enumT {X : Cx} {e : Expr} {ta : TA} {p pos tpos : Pos} {elts : List Expr} {kk : Nat} (hg : Gl X "enumerate") (hm : X.mg "enumerate" = none) (ha : PA X [e] ta) (hs : starEach [e] X.env = [(false, eval e X.env)] := by rfl) :
    PI X (.Tuple elts kk tpos) (.Call (.Name "enumerate" p) [e] [] pos) (iEnumT X.K ta) := by
  refine ⟨fun pins s σ H R I h => ?_⟩
  refine Call_ (ld_blt I hg hm boot_enumerate (PyProof.Rows.callWith_type1 (thn (ha.run pos pins s σ H _ I h) fun us s1 hh => ?_) hs rfl))
  obtain ⟨vs, H1, I1, r1, a, xs, ex, hq, q⟩ := hh
  subst ex
  obtain ⟨u, rfl, rfl⟩ := vals1 r1
  obtain ⟨its, rv, isT, hz⟩ := I1.tuple hq
  have isT' : s1.heap.IsTuple a its.toArray := isT
  have low : a < s1.heap.objs.size := by
    obtain ⟨o, e, _⟩ := isT'
    exact Heap.lt_size e
  refine enumT_call isT' fun h' isE isI hsz hk => wpAny_pyIter_enum isE ?_
  refine ⟨s1.heap.objs.size + 1, [s1.heap.objs.size + 1, s1.heap.objs.size], _, _, H1, rfl, I1.kept (t' := s1.toks) hk, turn_enumT (s1.heap.objs.size + 1) s1.heap.objs.size a xs, ⟨⟨.none, isE⟩, isI, Nat.succ_ne_self _, Nat.ne_of_lt low, Nat.ne_of_lt (Nat.lt_succ_of_lt low)⟩, fun b hb => ?_, q⟩
  have up : s1.heap.objs.size ≤ b := by
    rcases List.mem_cons.mp hb with z | z
    · rw [z]
      exact Nat.le_add_right _ _
    · rw [List.mem_singleton.mp z]
      exact Nat.le_refl _
  exact I1.fpOk up (I1.hok.fresh up)
theorem walk_enumT {K : PySem.W.Frag} {a : Addr} {xs : List V} : Walk (IteT K a xs) xs.length (fun H => SqT K H a xs) (fun i H v H' => ∃ (T : Addr) (x : V), v = .ref T ∧ H T = none ∧ H' = upd H T (.tup [.int (i : Nat), x]) ∧ xs[i]? = some x) :=
  ⟨fun i H hi q => ⟨q, hi⟩, fun H q => ⟨q, rfl⟩, fun i H v H' _ q h => h⟩
end Sq
set_option Elab.async false
set_option linter.all false
set_option maxRecDepth 100000
set_option maxHeartbeats 1000000
namespace L2
open PySem PySem.Spec PyProof.Rows
end L2
set_option Elab.async false
set_option linter.all false
set_option maxRecDepth 100000
set_option maxHeartbeats 8000000
set_option exponentiation.threshold 2000
namespace Sq
open PySem PySem.Spec PyProof.Rows L2
def topS (i : Nat) : Stmt := PySem.Challenge.pw_squeezelists_k22_live_texts_copy.main.body.getD i (.Pass ⟨0, 0, 0, 0⟩)
abbrev s_checklist : Stmt := topS 7
theorem sc_checklist : FnScope ["replacements", "index", "number"] ["replacements"] (defScope s_checklist) := ⟨rfl, rfl, rfl, by decide +kernel, rfl, by decide +kernel, by decide +kernel⟩
abbrev s_checkcharacter : Stmt := topS 8
theorem sc_checkcharacter : FnScope ["character"] ["character"] (defScope s_checkcharacter) := ⟨rfl, rfl, rfl, by decide +kernel, rfl, by decide +kernel, by decide +kernel⟩
abbrev s_squeezetext : Stmt := topS 10
theorem sc_squeezetext : FnScope ["text", "character", "replacements", "lengths", "after", "others", "length", "other"] ["text", "character", "replacements"] (defScope s_squeezetext) := ⟨rfl, rfl, rfl, by decide +kernel, rfl, by decide +kernel, by decide +kernel⟩
abbrev s_lengthsbetween : Stmt := topS 13
theorem sc_lengthsbetween : FnScope ["text", "character", "lengths", "run", "sign"] ["text", "character"] (defScope s_lengthsbetween) := ⟨rfl, rfl, rfl, by decide +kernel, rfl, by decide +kernel, by decide +kernel⟩
abbrev s_lengthafter : Stmt := topS 11
theorem sc_lengthafter : FnScope ["length", "replacements", "present", "number"] ["length", "replacements"] (defScope s_lengthafter) := ⟨rfl, rfl, rfl, by decide +kernel, rfl, by decide +kernel, by decide +kernel⟩
abbrev s_lengthafterone : Stmt := topS 12
theorem sc_lengthafterone : FnScope ["length", "number", "groups", "left"] ["length", "number"] (defScope s_lengthafterone) := ⟨rfl, rfl, rfl, by decide +kernel, rfl, by decide +kernel, by decide +kernel⟩
abbrev s_SqueezedTextinit : Stmt := inClass (topS 15) 0
theorem sc_SqueezedTextinit : FnScope ["self", "text", "character"] ["self", "text", "character"] (defScope s_SqueezedTextinit) := ⟨rfl, rfl, rfl, by decide +kernel, rfl, by decide +kernel, by decide +kernel⟩
abbrev s_SqueezedTexttext : Stmt := inClass (topS 15) 3
theorem sc_SqueezedTexttext : FnScope ["self"] ["self"] (defScope s_SqueezedTexttext) := ⟨rfl, rfl, rfl, by decide +kernel, rfl, by decide +kernel, by decide +kernel⟩
abbrev s_SqueezedTextreplacements : Stmt := inClass (topS 15) 4
theorem sc_SqueezedTextreplacements : FnScope ["self"] ["self"] (defScope s_SqueezedTextreplacements) := ⟨rfl, rfl, rfl, by decide +kernel, rfl, by decide +kernel, by decide +kernel⟩
abbrev s_SqueezedTextlongest : Stmt := inClass (topS 15) 5
theorem sc_SqueezedTextlongest : FnScope ["self"] ["self"] (defScope s_SqueezedTextlongest) := ⟨rfl, rfl, rfl, by decide +kernel, rfl, by decide +kernel, by decide +kernel⟩
abbrev s_SqueezedTextsqueeze : Stmt := inClass (topS 15) 6
theorem sc_SqueezedTextsqueeze : FnScope ["self", "replacements", "longest", "number", "after"] ["self", "replacements"] (defScope s_SqueezedTextsqueeze) := ⟨rfl, rfl, rfl, by decide +kernel, rfl, by decide +kernel, by decide +kernel⟩
abbrev s_SqueezedTextundo : Stmt := inClass (topS 15) 7
theorem sc_SqueezedTextundo : FnScope ["self"] ["self"] (defScope s_SqueezedTextundo) := ⟨rfl, rfl, rfl, by decide +kernel, rfl, by decide +kernel, by decide +kernel⟩
abbrev s_lawpool : Stmt := topS 17
theorem sc_lawpool : FnScope ["script", "at", "cell"] ["script", "at"] (defScope s_lawpool) := ⟨rfl, rfl, rfl, by decide +kernel, rfl, by decide +kernel, by decide +kernel⟩
abbrev s_lawdraw : Stmt := topS 18
theorem sc_lawdraw : FnScope ["pool", "many", "drawn", "mixed"] ["pool", "many"] (defScope s_lawdraw) := ⟨rfl, rfl, rfl, by decide +kernel, rfl, by decide +kernel, by decide +kernel⟩
abbrev s_lawlist : Stmt := topS 19
theorem sc_lawlist : FnScope ["pool", "most", "far", "found", "turn", "wide"] ["pool", "most", "far"] (defScope s_lawlist) := ⟨rfl, rfl, rfl, by decide +kernel, rfl, by decide +kernel, by decide +kernel⟩
abbrev s_lawtext : Stmt := topS 20
theorem sc_lawtext : FnScope ["pool", "most", "sign", "found", "turn", "long", "letter"] ["pool", "most"] (defScope s_lawtext) := ⟨rfl, rfl, rfl, by decide +kernel, rfl, by decide +kernel, by decide +kernel⟩
abbrev s_lawreplaced : Stmt := topS 21
theorem sc_lawreplaced : FnScope ["written", "sign", "numbers", "number"] ["written", "sign", "numbers"] (defScope s_lawreplaced) := ⟨rfl, rfl, rfl, by decide +kernel, rfl, by decide +kernel, by decide +kernel⟩
abbrev s_lawruns : Stmt := topS 22
theorem sc_lawruns : FnScope ["written", "sign", "found", "many", "one"] ["written", "sign"] (defScope s_lawruns) := ⟨rfl, rfl, rfl, by decide +kernel, rfl, by decide +kernel, by decide +kernel⟩
abbrev s_lawtoldright : Stmt := topS 23
theorem sc_lawtoldright : FnScope ["live", "passed", "numbers", "sign", "runs_here"] ["live", "passed", "numbers", "sign"] (defScope s_lawtoldright) := ⟨rfl, rfl, rfl, by decide +kernel, rfl, by decide +kernel, by decide +kernel⟩
abbrev s_lawon : Stmt := topS 24
theorem sc_lawon : FnScope ["passed", "sign", "numbers", "found", "number"] ["passed", "sign", "numbers"] (defScope s_lawon) := ⟨rfl, rfl, rfl, by decide +kernel, rfl, by decide +kernel, by decide +kernel⟩
abbrev s_SqueezedTextruns : Stmt := inClass (topS 15) 8
theorem sc_SqueezedTextruns : GScope ["self", "length"] ["self"] (defScope s_SqueezedTextruns) := ⟨rfl, rfl, rfl, by decide +kernel, rfl, by decide +kernel, by decide +kernel⟩
structure Rng (H : Hp) (l : Addr) (seed cnt : Int) : Prop where
  ob : ∃ dg, H l = some (.lst [.int dg, .int seed, .int cnt])
  s0 : 0 ≤ seed
  s1 : seed < 4611686018427387904
  c0 : 0 ≤ cnt
theorem Rng.same {H H' : Hp} {l : Addr} {seed cnt : Int} (S : Rng H l seed cnt) (s : Same H H') : Rng H' l seed cnt :=
  let ⟨dg, h⟩ := S.ob
  ⟨⟨dg, s _ _ h⟩, S.s0, S.s1, S.c0⟩
/-- all but the object at l is as it was -/
def Keep1 (H H' : Hp) (l : Addr) : Prop := ∀ b o, H b = some o → b ≠ l → H' b = some o
theorem Keep1.trans {H H1 H2 : Hp} {l : Addr} (a : Keep1 H H1 l) (b : Keep1 H1 H2 l) : Keep1 H H2 l := fun c o h n => b c o (a c o h n) n
theorem Keep1.of {H H' : Hp} {l : Addr} (s : Same H H') : Keep1 H H' l := fun b o h _ => s b o h
theorem Keep1.set {H : Hp} {l : Addr} {o : HO} : Keep1 H (upd H l o) l := fun c x h n => by
  rw [upd_ne n]
  exact h
section
variable {P : Program} {w : World} {K : PySem.W.Frag} {mg : Str → Option Value} {base : Heap}
def spPool (K : PySem.W.Frag) : Sp := fun vs H Q _ => ∃ (a : Addr) (ns : List Int) (j : Nat), vs = [.ref a, .int (j : Int)] ∧ SqL K H a (ns.map V.int) ∧ ns.length ≤ 63 ∧ j ≤ 100 ∧ ∀ l seed H', H l = none → Same H H' → Rng H' l seed 0 → Q (.ref l) H'
theorem ok_lawpool {f : Addr} {fd : FuncData} (F : Fun K "_law_pool" "_law_pool" s_lawpool f fd) (B : Bi mg) : FnOk P w K mg base CX0 1 f fd ["script", "at"] (spPool K) := by
  refine F.ok sc_lawpool (fun vs H Q E h => ?_) (fun cdv A outer s H vs Q E hr h => ?_)
  · obtain ⟨a, ns, j, rfl, _⟩ := h
    rfl
  · obtain ⟨a, ns, j, rfl, hS, hn, hj, q⟩ := h
    refine ⟨_, (pss_cons (ps_set (i := 2) sc_lawpool.nd rfl (Or.inl rfl) pe_int)
 (pss_cons (ps_if (pt_cmpR op_lt (pv 1) (pe_callB (id := "len") (r := rLenK K) call_lenK (by rfl) B.n_len (by decide +kernel) (pa_cons (pv 0) pa_nil)) (nomark _))
 (pss_one (ps_set (i := 2) sc_lawpool.nd rfl (Or.inl rfl) (pe_ix (r := rIxL K) ix_list (pv 0) (pv 1) (fun _ _ => rfl))))
 pss_nil)
 (pss_one (ps_ret (pe_lst (pa_cons (pe_callB (id := "max") (call_max2 rfl) (by rfl) B.n_max (by decide +kernel) (pa_cons pe_int (pa_cons (pe_op op_sub (pe_callB (id := "abs") call_abs (by rfl) B.n_abs (by decide +kernel) (pa_cons (pv 2) pa_nil)) (pe_op op_pow pe_int pe_int)) pa_nil))) (pa_cons (pe_op op_add (pe_op op_mod (pv 2) pe_int) (pe_op op_mul pe_int (pe_op op_add (pv 1) pe_int))) (pa_cons pe_int pa_nil)))))))), ?_⟩
    have rest : ∀ (cell : Int) (l : Addr), H l = none → Q (.ref l) (upd H l (.lst [.int (if (if cell < 0 then -cell else cell) - 10 ^ (18 : Int).toNat > 0 then (if cell < 0 then -cell else cell) - 10 ^ (18 : Int).toNat else 0), .int (cell % 2305843009213693951 + 3367900279 * ((j : Int) + 1)), .int 0])) := fun cell l hl => by
      have s0 : 0 ≤ cell % 2305843009213693951 := Int.emod_nonneg _ (by decide)
      have s1 : cell % 2305843009213693951 < 2305843009213693951 := Int.emod_lt_of_pos _ (by decide)
      exact q l _ _ hl (same_new hl) ⟨⟨_, upd_same⟩, by omega, by omega, Int.le_refl 0⟩
    have w3 : 3 ≤ sizeLine := Nat.le_of_lt (small1000 (by decide))
    refine ⟨_, rfl, _, rfl, a, _, rfl, .inl hS, _, _, rfl, rfl, _, rfl, ite2 (fun c => ?_) (fun c => ?_)⟩
    · have jl : j < ns.length := by
        have := of_decide_eq_true c
        rw [List.length_map] at this
        omega
      refine ⟨_, rfl, _, rfl, a, _, _, .int ns[j], rfl, rfl, hS, at_of (j := j) rfl (by rw [List.getElem?_map, List.getElem?_eq_getElem jl]; rfl), ?_⟩
      refine ⟨_, rfl, _, rfl, 10, 18, rfl, rfl, ⟨by decide, by decide, by decide⟩, _, _, rfl, rfl, 0, _, rfl, ?_⟩
      exact ⟨_, rfl, _, _, rfl, rfl, (by decide : (0 : Int) < 2305843009213693951), _, rfl, _, 1, rfl, rfl, 3367900279, _, rfl, rfl, .inl ⟨by decide, by decide⟩, _, _, rfl, rfl, w3, fun l hl => rest _ l hl⟩
    · refine ⟨_, rfl, _, rfl, 10, 18, rfl, rfl, ⟨by decide, by decide, by decide⟩, _, _, rfl, rfl, 0, _, rfl, ?_⟩
      exact ⟨_, rfl, _, _, rfl, rfl, (by decide : (0 : Int) < 2305843009213693951), _, rfl, _, 1, rfl, rfl, 3367900279, _, rfl, rfl, .inl ⟨by decide, by decide⟩, _, _, rfl, rfl, w3, fun l hl => rest _ l hl⟩
def spDraw : Sp := fun vs H Q _ => ∃ (l : Addr) (seed cnt limit : Int), vs = [.ref l, .int limit] ∧ Rng H l seed cnt ∧ cnt < 1000000 ∧ 0 < limit ∧ limit.natAbs < 2 ^ 700 ∧
  ∀ z cnt' H', 0 ≤ z → z < limit → Rng H' l seed cnt' → cnt' ≤ cnt + 1 → Keep1 H H' l → Q (.int z) H'
theorem ok_lawdraw {f : Addr} {fd : FuncData} (F : Fun K "_law_draw" "_law_draw" s_lawdraw f fd) : FnOk P w K mg base CX0 1 f fd ["pool", "many"] spDraw := by
  refine F.ok sc_lawdraw (fun vs H Q E h => ?_) (fun cdv A outer s H vs Q E hr h => ?_)
  · obtain ⟨l, seed, cnt, limit, rfl, _⟩ := h
    rfl
  · obtain ⟨l, seed, cnt, limit, rfl, S, hc, hm, hw, q⟩ := h
    refine ⟨_, (pss_cons (ps_if (pt_cmpR op_gt (pe_ix (r := rIxL K) ix_list (pv 0) pe_int (fun _ _ => rfl)) pe_int (nomark _))
 (pss_cons (ps_set (i := 2) sc_lawdraw.nd rfl (Or.inl rfl) (pe_op op_mod (pe_ix (r := rIxL K) ix_list (pv 0) pe_int (fun _ _ => rfl)) (pv 1)))
 (pss_cons (ps_asg (pe_op op_fdivW (pe_ix (r := rIxL K) ix_list (pv 0) pe_int (fun _ _ => rfl)) (pv 1)) (pg_sub (pv 0) pe_int set_list))
 (pss_one (ps_ret (pv 2)))))
 pss_nil)
 (pss_cons (ps_asg (pe_op op_add (pe_ix (r := rIxL K) ix_list (pv 0) pe_int (fun _ _ => rfl)) pe_int) (pg_sub (pv 0) pe_int set_list))
 (pss_cons (ps_set (i := 3) sc_lawdraw.nd rfl (Or.inl rfl) (pe_op op_mod (pe_op op_powW (pe_op op_add (pe_ix (r := rIxL K) ix_list (pv 0) pe_int (fun _ _ => rfl)) (pe_op op_mul pe_int (pe_ix (r := rIxL K) ix_list (pv 0) pe_int (fun _ _ => rfl)))) pe_int) pe_int))
 (pss_cons (ps_set (i := 3) sc_lawdraw.nd rfl (Or.inl rfl) (pe_op op_mod (pe_op op_powW (pe_op op_add (pv 3) (pe_op op_mul pe_int (pe_ix (r := rIxL K) ix_list (pv 0) pe_int (fun _ _ => rfl)))) pe_int) pe_int))
 (pss_one (ps_ret (pe_op op_mod (pe_op op_fdiv (pv 3) pe_int) (pv 1)))))))), ?_⟩
    have s0 := S.s0
    have s1 := S.s1
    have c0 := S.c0
    obtain ⟨dg, hl⟩ := S.ob
    refine ⟨_, rfl, l, _, 0, _, rfl, rfl, SqL.of hl, rfl, dg, 0, rfl, rfl, _, rfl, ite2 (fun c1 => ?_) (fun c1 => ?_)⟩
    · refine ⟨_, rfl, l, _, 0, _, rfl, rfl, SqL.of hl, rfl, _, rfl, dg, limit, rfl, rfl, hm, ?_⟩
      refine ⟨_, rfl, l, _, 0, _, rfl, rfl, SqL.of hl, rfl, _, rfl, dg, limit, rfl, rfl, wide_div hm hw (by decide) (by decide), ?_⟩
      refine ⟨_, rfl, l, _, 0, 0, rfl, rfl, hl, rfl, _, rfl, ?_⟩
      exact q _ cnt _ (Int.emod_nonneg _ (by omega)) (Int.emod_lt_of_pos _ hm) ⟨⟨dg / limit, upd_same⟩, s0, s1, c0⟩ (by omega) Keep1.set
    · refine ⟨_, rfl, l, _, 2, _, rfl, rfl, SqL.of hl, rfl, cnt, 1, rfl, rfl, _, rfl, l, _, 2, 2, rfl, rfl, hl, rfl, ?_⟩
      have hl3 : (upd H l (.lst [.int dg, .int seed, .int (cnt + 1)])) l = some (.lst [.int dg, .int seed, .int (cnt + 1)]) := upd_same
      have b1 : (seed + 15493301 * (cnt + 1)).natAbs < 2 ^ 63 := by omega
      refine ⟨_, rfl, l, _, 1, _, rfl, rfl, SqL.of hl3, rfl, _, rfl, l, _, 2, _, rfl, rfl, SqL.of hl3, rfl, 15493301, cnt + 1, rfl, rfl, .inl ⟨by decide, by decide⟩, seed, _, rfl, rfl, _, 3, rfl, rfl, powW_of (by decide) b1 (by decide) (by decide), _, _, rfl, rfl, (by decide : (0 : Int) < 162259276829213363391578010288127), ?_⟩
      have p0 : 0 ≤ (seed + 15493301 * (cnt + 1)) ^ (3 : Int).toNat % 162259276829213363391578010288127 := Int.emod_nonneg _ (by decide)
      have p1 : (seed + 15493301 * (cnt + 1)) ^ (3 : Int).toNat % 162259276829213363391578010288127 < 162259276829213363391578010288127 := Int.emod_lt_of_pos _ (by decide)
      have b2 : ((seed + 15493301 * (cnt + 1)) ^ (3 : Int).toNat % 162259276829213363391578010288127 + 32454031 * (cnt + 1)).natAbs < 2 ^ 110 := by
        generalize (seed + 15493301 * (cnt + 1)) ^ (3 : Int).toNat % 162259276829213363391578010288127 = y at p0 p1
        omega
      refine ⟨_, rfl, _, rfl, l, _, 2, _, rfl, rfl, SqL.of hl3, rfl, 32454031, cnt + 1, rfl, rfl, .inl ⟨by decide, by decide⟩, _, _, rfl, rfl, _, 5, rfl, rfl, powW_of (by decide) b2 (by decide) (by decide), _, _, rfl, rfl, (by decide : (0 : Int) < 170141183460469231731687303715884105727), ?_⟩
      refine ⟨_, rfl, _, 1048576, rfl, rfl, ⟨by decide, by decide⟩, _, rfl, _, limit, rfl, rfl, hm, ?_⟩
      exact q _ (cnt + 1) _ (Int.emod_nonneg _ (by omega)) (Int.emod_lt_of_pos _ hm) ⟨⟨dg, hl3⟩, s0, s1, by omega⟩ (by omega) Keep1.set
end
theorem Rng.free {H H' : Hp} {l p : Addr} {seed cnt : Int} (k : Keep1 H H' l) (S : Rng H' l seed cnt) (h : H' p = none) : H p = none := by
  obtain ⟨dg, hl⟩ := S.ob
  cases e : H p with
  | none => rfl
  | some o =>
    have := k p o e (fun z => by rw [z, hl] at h; cases h)
    rw [h] at this
    cases this
theorem Rng.ne {H : Hp} {l p : Addr} {seed cnt : Int} (S : Rng H l seed cnt) (h : H p = none) : p ≠ l := fun z => by
  obtain ⟨dg, hl⟩ := S.ob
  rw [z, hl] at h
  cases h
theorem Rng.upd {H : Hp} {l p : Addr} {seed cnt : Int} {o : HO} (S : Rng H l seed cnt) (h : p ≠ l) : Rng (upd H p o) l seed cnt :=
  let ⟨dg, hl⟩ := S.ob
  ⟨⟨dg, by rw [upd_ne h.symm]; exact hl⟩, S.s0, S.s1, S.c0⟩
theorem nth_of {xs : List Int} {z : Int} (h0 : 0 ≤ z) (h : z < xs.length) : ∃ k, k ∈ xs ∧ atI (xs.map V.int) z = some (.int k) := by
  have lt : z.toNat < xs.length := by omega
  refine ⟨xs[z.toNat], List.getElem_mem lt, at_of (j := z.toNat) (by omega) ?_⟩
  rw [List.getElem?_map, List.getElem?_eq_getElem lt]
  rfl
theorem lim10 {i : Int} (h : i.natAbs ≤ 10 ^ 31) : i.natAbs < 2 ^ 700 := Nat.lt_of_le_of_lt h (by decide)
section
variable {P : Program} {w : World} {K : PySem.W.Frag} {mg : Str → Option Value} {base : Heap}
def spList : Sp := fun vs H Q _ => ∃ (l : Addr) (seed cnt M far : Int), vs = [.ref l, .int M, .int far] ∧ 0 ≤ M ∧ M ≤ 100 ∧ 2 ≤ far ∧ far ≤ 1000000 ∧ Rng H l seed cnt ∧ cnt < 500000 ∧
  ∀ p ks cnt' H', H p = none → Rng H' l seed cnt' → cnt' ≤ cnt + 1 + 2 * M → Keep1 H H' l → H' p = some (.lst (List.map V.int ks)) → ks.length ≤ M → (∀ k ∈ ks, 2 ≤ k ∧ k ≤ far) → Q (.ref p) H'
theorem ok_lawlist {f : Addr} {fd : FuncData} (F : Fun K "_law_list" "_law_list" s_lawlist f fd) (B : Bi mg) (D_lawdraw : Df P w K mg base 1 "_law_draw" ["pool", "many"] spDraw) : FnOk P w K mg base CX0 2 f fd ["pool", "most", "far"] spList := by
  refine F.ok sc_lawlist (fun vs H Q E h => ?_) (fun cdv A outer s H vs Q E hr h => ?_)
  · obtain ⟨l, seed, cnt, M, far, rfl, _⟩ := h
    rfl
  · obtain ⟨l, seed, cnt, M, far, rfl, M0, M1, f0, f1, S, hc, q⟩ := h
    refine ⟨_, (pss_cons (ps_set (i := 3) sc_lawlist.nd rfl (Or.inl rfl) (pe_lst pa_nil))
 (pss_cons (ps_for PassesOwn.never rfl (pi_range1 (by rfl) B.n_range (pa_cons (pe_callD D_lawdraw (hr.mono (by omega)) (by rfl) (pa_cons (pv 0) (pa_cons (pe_op op_add (pv 1) pe_int) pa_nil))) pa_nil)) (pg_name (i := 4) sc_lawlist.nd rfl (Or.inl rfl))
 (pss_cons (ps_set (i := 5) sc_lawlist.nd rfl (Or.inl rfl) (pe_callB (id := "min") (call_min2 rfl) (by rfl) B.n_min (by decide +kernel) (pa_cons (pe_op op_sub (pv 2) pe_int) (pa_cons (pe_ix (r := rIxL K) ix_list (pe_lst (pa_cons pe_int (pa_cons pe_int (pa_cons pe_int (pa_cons (pe_op op_sub (pv 2) pe_int) pa_nil))))) (pe_callD D_lawdraw (hr.mono (by omega)) (by rfl) (pa_cons (pv 0) (pa_cons pe_int pa_nil))) (fun _ _ => rfl)) pa_nil))))
 (pss_one (ps_expr (pe_bm PySem.F.plainAttrs_list PySem.F.slot_list_append PySem.F.type_list_append mt_append (pv 3) (pa_cons (pe_op op_add pe_int (pe_callD D_lawdraw (hr.mono (by omega)) (by rfl) (pa_cons (pv 0) (pa_cons (pv 5) pa_nil)))) pa_nil))))))
 (pss_one (ps_ret (pv 3))))), ?_⟩
    have w4 : 4 ≤ sizeLine := Nat.le_of_lt (small1000 (by decide))
    refine ⟨Nat.zero_le _, fun p hp => ?_⟩
    have npl := S.ne hp
    refine ⟨_, rfl, _, rfl, M, 1, rfl, rfl, l, seed, cnt, M + 1, rfl, S.same (same_new hp), by omega, by omega, lim10 (by omega), fun m c1 H1 m0 m1 S1 hc1 k1 => ?_⟩
    have gp1 := k1 _ _ (upd_same (H := H) (o := .lst [])) npl
    have k01 : Keep1 H H1 l := (Keep1.of (same_new hp)).trans k1
    refine ⟨m, rfl, by omega, by omega, for_range (lo := 0) (n := m.toNat) (fun i σ H' => ∃ ks cnt' y4 y5, σ = [some (.ref l), some (.int M), some (.int far), some (.ref p), y4, y5] ∧ Rng H' l seed cnt' ∧ cnt' ≤ cnt + 1 + 2 * i ∧ (∀ b o, H b = some o → b ≠ l → H' b = some o) ∧ H' p = some (.lst (List.map V.int ks)) ∧ ks.length = i ∧ ∀ k ∈ ks, 2 ≤ k ∧ k ≤ far)
      ⟨[], c1, none, none, rfl, S1, by omega, k01, gp1, rfl, fun k z => (nomatch z)⟩ ?_ ?_⟩
    · rintro i σ H3 hi ⟨ks, cnt3, y4, y5, rfl, S3, hc3, k3, gp3, lk, hk⟩
      refine ⟨_, rfl, far, 1, rfl, rfl, _, rfl, far, 1, rfl, rfl, w4, fun t ht => ?_⟩
      have nt := S3.ne ht
      refine ⟨_, rfl, l, seed, cnt3, 4, rfl, S3.same (same_new ht), by omega, by decide, by decide, fun z c4 H4 z0 z1 S4 hc4 k4 => ?_⟩
      obtain ⟨v, vm, va⟩ := nth_of (xs := [2, 5, 30, far - 1]) z0 z1
      have vb : 1 ≤ v := by
        simp only [List.mem_cons, List.not_mem_nil, or_false] at vm
        omega
      refine ⟨t, _, z, .int v, rfl, rfl, SqL.of (k4 _ _ upd_same nt), va, _, _, rfl, ?_⟩
      obtain ⟨wd, ewd⟩ : ∃ wd, wd = (if v < far - 1 then v else far - 1) := ⟨_, rfl⟩
      have wb : 1 ≤ wd ∧ wd ≤ far - 1 := by
        rw [ewd]
        split <;> omega
      rw [← ewd]
      have gp4 := k4 _ _ (same_new ht _ _ gp3) npl
      refine ⟨_, rfl, .inl ⟨rfl, _, SqL.of gp4⟩, _, rfl, _, rfl, l, seed, c4, wd, rfl, S4, by omega, by omega, lim10 (by omega), fun z5 c5 H5 z50 z51 S5 hc5 k5 => ⟨2, z5, rfl, rfl, p, _, _, rfl, rfl, k5 _ _ gp4 npl, small1000 (by rw [List.length_map]; omega), ?_⟩⟩
      refine ⟨ks ++ [2 + z5], c5, _, _, rfl, S5.upd npl, by omega, fun b o e nb => ?_, ?_, by rw [List.length_append, lk]; rfl, fun x hx => ?_⟩
      · rw [upd_ne (ne_of_none e hp)]
        exact k5 _ _ (k4 _ _ (same_new ht _ _ (k3 _ _ e nb)) nb) nb
      · rw [upd_same, List.map_append]
        rfl
      · rcases List.mem_append.mp hx with h | h
        · exact hk x h
        · rw [List.mem_singleton.mp h]
          omega
    · rintro σ H3 ⟨ks, cnt3, y4, y5, rfl, S3, hc3, k3, gp3, lk, hk⟩
      exact ⟨_, rfl, q p ks cnt3 H3 hp S3 (by omega) k3 gp3 (by omega) hk⟩
end
end Sq
set_option Elab.async false
set_option linter.all false
set_option maxRecDepth 100000
set_option maxHeartbeats 8000000
set_option exponentiation.threshold 2000
namespace Sq
open PySem PySem.Spec PyProof.Rows L2
section
variable {P : Program} {w : World} {K : PySem.W.Frag} {mg : Str → Option Value} {base : Heap}
def spCheckList (K : PySem.W.Frag) : Sp := fun vs H Q _ => ∃ (a : Addr) (ks : List Int), vs = [.ref a] ∧ SqL K H a (ks.map V.int) ∧ (∀ k ∈ ks, 2 ≤ k) ∧ ∀ H', Same H H' → Q .non H'
theorem ok_checklist {f : Addr} {fd : FuncData} (F : Fun K "check_list" "check_list" s_checklist f fd) (B : Bi mg) : FnOk P w K mg base CX0 1 f fd ["replacements"] (spCheckList K) := by
  refine F.ok sc_checklist (fun vs H Q E h => ?_) (fun cdv A outer s H vs Q E hr h => ?_)
  · obtain ⟨a, ks, rfl, _⟩ := h
    rfl
  · obtain ⟨a, ks, rfl, hS, hk, q⟩ := h
    refine ⟨_, (pss_one (ps_for PassesOwn.never rfl (pi_enum (by rfl) B.n_enumerate (pa_cons (pv 0) pa_nil)) (pg_tup rfl (pgs_cons (pg_name (i := 1) sc_checklist.nd rfl (Or.inl rfl)) (pgs_cons (pg_name (i := 2) sc_checklist.nd rfl (Or.inl rfl)) pgs_nil)))
 (pss_one (ps_if (pt_cmpR op_lt (pv 2) pe_int (nomark _))
 (pss_one ps_never)
 pss_nil)))), ?_⟩
    refine ⟨_, rfl, a, ks.map V.int, rfl, hS, for_it walk_enum (fun i σ H' => Same H H' ∧ ∃ y z, σ = [some (.ref a), y, z]) ⟨Same.refl H, none, none, rfl⟩ (fun i σ H' _ h => h.1.seq hS) ?_ ?_⟩
    · rintro i σ H' v H2 hi ⟨sm, y, z, rfl⟩ ⟨T, x1, x2, rfl, nT, rfl, e1, e2⟩
      obtain ⟨k, hk', rfl⟩ := map_at e2
      cases e1
      refine ⟨T, _, rfl, .inl (.inl upd_same), rfl, _, _, rfl, _, _, rfl, rfl, ?_⟩
      refine ⟨_, rfl, _, _, rfl, rfl, _, rfl, ite2 (fun c => ?_) (fun c => ?_)⟩
      · have := hk k (List.mem_of_getElem? hk')
        have c' : k < 2 := of_decide_eq_true c
        omega
      · exact ⟨sm.trans (same_new nT), _, _, rfl⟩
    · rintro σ H' ⟨sm, y, z, rfl⟩
      exact q H' sm
end
section
variable {P : Program} {w : World} {K : PySem.W.Frag} {mg : Str → Option Value} {base : Heap} {c fI : Nat → Addr} {qn : Nat → Str} {cB : Addr}
def spOnceS : Sp := fun vs H Q _ => ∃ (n k : Int), vs = [.int n, .int k] ∧ 2 ≤ k ∧ k < 1073741824 ∧ ∀ H', Same H H' → Q (.int (once n k)) H'
theorem ok_lengthafterone {f : Addr} {fd : FuncData} (F : Fun K "length_after_one" "length_after_one" s_lengthafterone f fd) (B : Bi mg) : FnOk P w K mg base CX0 1 f fd ["length", "number"] spOnceS := by
  refine F.ok sc_lengthafterone (fun vs H Q E h => ?_) (fun cdv A outer s H vs Q E hr h => ?_)
  · obtain ⟨n, k, rfl, _⟩ := h
    rfl
  · obtain ⟨n, k, rfl, k1, k2, q⟩ := h
    refine ⟨_, (pss_cons (ps_asg (pe_callB (id := "divmod") call_divmod (by rfl) B.n_divmod (by decide +kernel) (pa_cons (pv 0) (pa_cons (pv 1) pa_nil))) (pg_tup rfl (pgs_cons (pg_name (i := 2) sc_lengthafterone.nd rfl (Or.inl rfl)) (pgs_cons (pg_name (i := 3) sc_lengthafterone.nd rfl (Or.inl rfl)) pgs_nil))))
 (pss_one (ps_ret (pe_op op_add (pv 2) (pv 3))))), ?_⟩
    refine ⟨_, rfl, _, rfl, n, k, rfl, ⟨by omega, k2⟩, fun p hp => ?_⟩
    exact ⟨p, _, rfl, .inl (.inl upd_same), rfl, _, _, rfl, _, _, rfl, rfl, _, rfl, _, rfl, _, _, rfl, rfl, q _ (same_new hp)⟩
def spSqzS (K : PySem.W.Frag) : Sp := fun vs H Q _ => ∃ (n : Int) (a : Addr) (ks : List Int), vs = [.int n, .ref a] ∧ SqL K H a (ks.map V.int) ∧ Rpl ks ∧ ∀ H', Same H H' → Q (.int (sq n ks)) H'
theorem ok_lengthafter {f : Addr} {fd : FuncData} (F : Fun K "length_after" "length_after" s_lengthafter f fd) (D_lengthafterone : Df P w K mg base 1 "length_after_one" ["length", "number"] spOnceS) : FnOk P w K mg base CX0 2 f fd ["length", "replacements"] (spSqzS K) := by
  refine F.ok sc_lengthafter (fun vs H Q E h => ?_) (fun cdv A outer s H vs Q E hr h => ?_)
  · obtain ⟨n, a, ks, rfl, _⟩ := h
    rfl
  · obtain ⟨n, a, ks, rfl, hS, hk, q⟩ := h
    refine ⟨_, (pss_cons (ps_set (i := 2) sc_lengthafter.nd rfl (Or.inl rfl) (pv 0))
 (pss_cons (ps_for PassesOwn.never rfl (pi_list (pv 1)) (pg_name (i := 3) sc_lengthafter.nd rfl (Or.inl rfl))
 (pss_one (ps_set (i := 2) sc_lengthafter.nd rfl (Or.inl rfl) (pe_callD D_lengthafterone (hr.mono (by omega)) (by rfl) (pa_cons (pv 2) (pa_cons (pv 3) pa_nil))))))
 (pss_one (ps_ret (pv 2))))), ?_⟩
    refine ⟨_, rfl, _, rfl, a, rfl, ⟨_, hS⟩, for_list (K := K) (a := a) (xs := ks.map V.int) (fun i σ H' => Same H H' ∧ ∃ y, σ = [some (.int n), some (.ref a), some (.int (sq n (ks.take i))), y]) ⟨Same.refl H, none, rfl⟩ (fun i σ H' _ h => h.1.seq hS) ?_ ?_⟩
    · rintro i x σ H' hi ⟨sm, y, rfl⟩
      obtain ⟨k, e, rfl⟩ := map_at hi
      have hm := hk k (List.mem_of_getElem? e)
      refine ⟨_, rfl, _, rfl, _, k, rfl, hm.1, hm.2, fun H'' s2 => ⟨sm.trans s2, some (.int k), ?_⟩⟩
      rw [List.take_add_one, e]
      show _ = [_, _, some (V.int (sq n (ks.take i ++ [k]))), _]
      rw [sq_concat]
      rfl
    · rintro σ H' ⟨sm, y, rfl⟩
      rw [List.length_map, List.take_length]
      exact ⟨_, rfl, q _ sm⟩
end
theorem z1 : 1 ≤ sizeLine := Nat.le_of_lt (small1000 (by decide))
section
variable {P : Program} {w : World} {K : PySem.W.Frag} {mg : Str → Option Value} {base : Heap}
def spCheckChr : Sp := fun vs H Q _ => ∃ b : Str, vs = [.str b] ∧ b.length = 1 ∧ Q .non H
theorem ok_checkcharacter {f : Addr} {fd : FuncData} (F : Fun K "check_character" "check_character" s_checkcharacter f fd) (B : Bi mg) : FnOk P w K mg base CX0 1 f fd ["character"] spCheckChr := by
  refine F.ok sc_checkcharacter (fun vs H Q E h => ?_) (fun cdv A outer s H vs Q E hr h => ?_)
  · obtain ⟨b, rfl, _⟩ := h
    rfl
  · obtain ⟨b, rfl, hb, q⟩ := h
    refine ⟨_, (pss_one (ps_if (PW.pt (pw_or (pt_not (pt_val (pe_callB (id := "isinstance") call_isi (by rfl) B.n_isinstance (by decide +kernel) (pa_cons (pv 0) (pa_cons (pe_bltn (v := .ty "str") (by rfl) B.n_str (by decide +kernel) rfl) pa_nil))))) (pw_or1 (pt_cmpR op_ne (pe_callB (id := "len") call_len_str (by rfl) B.n_len (by decide +kernel) (pa_cons (pv 0) pa_nil)) pe_int (nomark _)))))
 (pss_one ps_never)
 pss_nil)), ?_⟩
    have h1 : (b.length : Int) = 1 := by omega
    refine ⟨_, rfl, _, _, _, _, true, rfl, .ty _, (.base (.str b)), kit_ty (by decide +kernel), _, rfl, iteF ?_⟩
    refine ⟨_, rfl, b, rfl, by rw [hb]; exact z1, rfl, _, rfl, ?_⟩
    rw [h1, show (!decide (V.int 1 = V.int 1)) = false by rw [decide_eq_true rfl]; rfl]
    exact iteF q
/-- how often a character stands before each other one, and at the end -/
def lbw (b : Nat) : List Nat → Int → List Int
  | [], r => [r]
  | x :: xs, r => if x = b then lbw b xs (r + 1) else r :: lbw b xs 0
theorem lbw_cons (b x : Nat) (xs : List Nat) (r : Int) : lbw b (x :: xs) r = if x = b then lbw b xs (r + 1) else r :: lbw b xs 0 := rfl
theorem lbw_len (b : Nat) : ∀ (xs : List Nat) (r : Int), (lbw b xs r).length = (xs.filter fun x => decide (x ≠ b)).length + 1
  | [], _ => rfl
  | x :: xs, r => by
    unfold lbw
    by_cases c : x = b
    · rw [if_pos c, lbw_len b xs, List.filter_cons, if_neg (by rw [decide_eq_false (fun z => z c)]; exact Bool.false_ne_true)]
    · rw [if_neg c, List.length_cons, lbw_len b xs, List.filter_cons, if_pos (decide_eq_true c)]
      rfl
theorem lbw_mem (b : Nat) : ∀ (xs : List Nat) (r : Int), 0 ≤ r → ∀ k ∈ lbw b xs r, 0 ≤ k ∧ k ≤ r + xs.length
  | [], r, h, k, hk => by
    rw [List.mem_singleton.mp hk]
    exact ⟨h, by simp⟩
  | x :: xs, r, h, k, hk => by
    unfold lbw at hk
    rw [List.length_cons]
    by_cases c : x = b
    · rw [if_pos c] at hk
      have := lbw_mem b xs (r + 1) (by omega) k hk
      omega
    · rw [if_neg c] at hk
      rcases List.mem_cons.mp hk with e | hk
      · omega
      · have := lbw_mem b xs 0 (by decide) k hk
        omega
def spBetween : Sp := fun vs H Q _ => ∃ (x : Str) (b : Nat), vs = [.str x, .str ⟨#[b]⟩] ∧ x.length ≤ 4000 ∧ ∀ p H', H p = none → Same H H' → H' p = some (.lst ((lbw b x.cps.toList 0).map V.int)) → Q (.ref p) H'
theorem ok_between {f : Addr} {fd : FuncData} (F : Fun K "lengths_between" "lengths_between" s_lengthsbetween f fd) (B : Bi mg) : FnOk P w K mg base CX0 1 f fd ["text", "character"] spBetween := by
  refine F.ok sc_lengthsbetween (fun vs H Q E h => ?_) (fun cdv A outer s H vs Q E hr h => ?_)
  · obtain ⟨x, b, rfl, _⟩ := h
    rfl
  · obtain ⟨x, b, rfl, hx, q⟩ := h
    refine ⟨_, (pss_cons (ps_set (i := 2) sc_lengthsbetween.nd rfl (Or.inl rfl) (pe_lst pa_nil))
 (pss_cons (ps_set (i := 3) sc_lengthsbetween.nd rfl (Or.inl rfl) pe_int)
 (pss_cons (ps_for PassesOwn.never rfl (pi_str (pv 0)) (pg_name (i := 4) sc_lengthsbetween.nd rfl (Or.inl rfl))
 (pss_one (ps_if (pt_cmpR op_eq (pv 4) (pv 1) (nomark _))
 (pss_one (ps_aug (i := 3) sc_lengthsbetween.nd rfl (Or.inl rfl) pe_int ip_add))
 (pss_cons (ps_expr (pe_bm PySem.F.plainAttrs_list PySem.F.slot_list_append PySem.F.type_list_append mt_append (pv 2) (pa_cons (pv 3) pa_nil)))
 (pss_one (ps_set (i := 3) sc_lengthsbetween.nd rfl (Or.inl rfl) pe_int))))))
 (pss_cons (ps_expr (pe_bm PySem.F.plainAttrs_list PySem.F.slot_list_append PySem.F.type_list_append mt_append (pv 2) (pa_cons (pv 3) pa_nil)))
 (pss_one (ps_ret (pv 2))))))), ?_⟩
    have szl : sizeLine = 16777216 := sizeLine_eq
    refine ⟨Nat.zero_le _, fun p hp => ?_⟩
    have tl : x.cps.toList.length = x.length := rfl
    have fin : ∀ (H' : Hp) (acc : List Int) (r : Int) (rest : List Nat), Same H (wo H' p) → H' p = some (.lst (acc.map V.int)) → acc ++ lbw b rest r = lbw b x.cps.toList 0 → rest = [] → acc.length < sizeLine ∧ Q (.ref p) (upd H' p (.lst (acc.map V.int ++ [.int r]))) := fun H' acc r rest s1 g e er => by
      subst er
      have e' : acc ++ [r] = lbw b x.cps.toList 0 := e
      have l1 := congrArg List.length e'
      have l2 := lbw_len b x.cps.toList 0
      have l3 := List.length_filter_le (fun x => decide (x ≠ b)) x.cps.toList
      rw [List.length_append, List.length_singleton] at l1
      refine ⟨by omega, q p _ hp (fun a o e => ?_) ?_⟩
      · have ne : a ≠ p := fun z => by rw [z, hp] at e; cases e
        rw [upd_ne ne]
        exact wo_same _ _ (s1 _ _ e)
      · rw [upd_same, ← e', List.map_append]
        rfl
    refine ⟨_, rfl, x, rfl, for_it walk_str (fun i σ H' => ∃ acc r y, σ = [some (.str x), some (.str ⟨#[b]⟩), some (.ref p), some (.int r), y] ∧ Same H (wo H' p) ∧ H' p = some (.lst (acc.map V.int)) ∧ acc ++ lbw b (x.cps.toList.drop i) r = lbw b x.cps.toList 0)
      ⟨[], 0, none, rfl, by rw [wo_upd]; exact same_wo (Same.refl _) hp, upd_same, rfl⟩ (fun _ _ _ _ _ => trivial) ?_ ?_⟩
    · rintro i v σ H1 H2 hi ⟨acc, r, y, rfl, s1, g, e⟩ ⟨rfl, ch, ec, rfl⟩
      have ec' : x.cps.toList[i]? = some ch := by rw [Array.getElem?_toList]; exact ec
      have ed : x.cps.toList.drop i = ch :: x.cps.toList.drop (i + 1) := by
        obtain ⟨_, ee⟩ := List.getElem?_eq_some_iff.mp ec'
        rw [List.drop_eq_getElem_cons (by exact hi), ee]
      rw [ed] at e
      refine ⟨_, rfl, _, rfl, rfl, _, rfl, ite2 (fun c1 => ?_) (fun c1 => ?_)⟩
      · have cb : ch = b := by
          have h := of_decide_eq_true c1
          injection h with h
          injection h with h
          injection h with h
          injection h
        rw [lbw_cons, if_pos cb] at e
        exact ⟨_, rfl, _, _, rfl, rfl, acc, r + 1, _, rfl, s1, g, e⟩
      · have cb : ch ≠ b := fun z => c1 (by rw [z]; exact decide_eq_true rfl)
        rw [lbw_cons, if_neg cb] at e
        have l1 := congrArg List.length e
        rw [List.length_append, List.length_cons, lbw_len, lbw_len] at l1
        have l3 := List.length_filter_le (fun x => decide (x ≠ b)) x.cps.toList
        refine ⟨_, rfl, .inl ⟨rfl, _, SqL.of g⟩, _, rfl, p, _, _, rfl, rfl, g, by rw [List.length_map]; omega, acc ++ [r], 0, _, rfl, ?_, ?_, ?_⟩
        · rw [wo_upd]
          exact s1
        · rw [upd_same, List.map_append]
          rfl
        · rw [List.append_assoc]
          exact e
    · rintro σ H' ⟨acc, r, y, rfl, s1, g, e⟩
      obtain ⟨l, q1⟩ := fin H' acc r _ s1 g e (by simp)
      exact ⟨_, rfl, .inl ⟨rfl, _, SqL.of g⟩, _, rfl, p, _, _, rfl, rfl, g, by rw [List.length_map]; exact l, _, rfl, q1⟩
end
open StrLaws (replL replL_nil replL_hit replL_miss replace_list)
def kvF (xs : List Int) (f : Int → Int) : List (Key × V) := xs.map fun x => (.inl x, .int (f x))
theorem valV_kvF (f : Int → Int) (k : Int) : ∀ xs : List Int, valV (kvF xs f) (.inl k) = if k ∈ xs then some (.int (f k)) else none
  | [] => rfl
  | x :: xs => by
    show valV ((.inl x, .int (f x)) :: kvF xs f) (.inl k) = _
    by_cases c : x = k
    · subst c
      rw [valV_pos rfl, if_pos (List.mem_cons_self ..)]
    · rw [valV_neg (by intro z; cases z; exact c rfl), valV_kvF f k xs]
      by_cases m : k ∈ xs
      · rw [if_pos m, if_pos (List.mem_cons_of_mem _ m)]
      · rw [if_neg m, if_neg (by
          intro z
          rcases List.mem_cons.mp z with z | z
          · exact c z.symm
          · exact m z)]
theorem kvF_put (f : Int → Int) {xs : List Int} {y : Int} (h : y ∉ xs) : putK (kvF xs f) (.inl y) (.int (f y)) = kvF (xs ++ [y]) f := by
  rw [putK_new _ (by rw [valV_kvF, if_neg h])]
  unfold kvF
  rw [List.map_append]
  rfl
theorem nodup_take {xs : List Int} (h : xs.Nodup) {i : Nat} {y : Int} (e : xs[i]? = some y) : y ∉ xs.take i := fun z => by
  have h2 : (xs.take i ++ xs.drop i).Nodup := by rw [List.take_append_drop]; exact h
  have m : y ∈ xs.drop i := by
    obtain ⟨hi, ei⟩ := List.getElem?_eq_some_iff.mp e
    rw [List.drop_eq_getElem_cons hi, ei]
    exact List.mem_cons_self ..
  exact (List.nodup_append.mp h2).2.2 y z y m rfl
theorem once_le_self {k n : Int} (hk : 2 ≤ k) (h0 : 0 ≤ n) : once n k ≤ n := by
  unfold once
  have a := Int.mul_ediv_add_emod n k
  have b : 0 ≤ n / k := Int.ediv_nonneg h0 (by omega)
  have d : n / k ≤ k * (n / k) := by
    have := Int.mul_le_mul_of_nonneg_right (show (1 : Int) ≤ k by omega) b
    omega
  omega
theorem sq_le_self : ∀ (ks : List Int) (n : Int), (∀ k ∈ ks, 2 ≤ k) → 0 ≤ n → sq n ks ≤ n
  | [], n, _, _ => Int.le_refl n
  | k :: r, n, h, h0 => by
    have h2 := h k List.mem_cons_self
    have i := sq_le_self r (once n k) (fun x hx => h x (List.mem_cons_of_mem _ hx)) (once_nonneg h2 h0)
    have j := once_le_self h2 h0
    show sq (once n k) r ≤ n
    omega
/-- a text with all runs of b squeezed; r: how many of b stand before -/
def sqT (b : Nat) (ks : List Int) : List Nat → Int → List Nat
  | [], r => List.replicate (sq r ks).toNat b
  | x :: xs, r => if x = b then sqT b ks xs (r + 1) else List.replicate (sq r ks).toNat b ++ x :: sqT b ks xs 0
theorem sqT_cons (b : Nat) (ks : List Int) (x : Nat) (xs : List Nat) (r : Int) : sqT b ks (x :: xs) r = if x = b then sqT b ks xs (r + 1) else List.replicate (sq r ks).toNat b ++ x :: sqT b ks xs 0 := rfl
/-- the others, each as a text, and an empty one -/
def oth (b : Nat) (xs : List Nat) : List (List Nat) := (xs.filter fun x => decide (x ≠ b)).map (fun c => [c]) ++ [[]]
theorem oth_len (b : Nat) (xs : List Nat) : (oth b xs).length = (xs.filter fun x => decide (x ≠ b)).length + 1 := by
  unfold oth
  rw [List.length_append, List.length_map]
  rfl
theorem sqT_zip (b : Nat) (ks : List Int) : ∀ (xs : List Nat) (r : Int), (((lbw b xs r).zip (oth b xs)).map fun p => List.replicate (sq p.1 ks).toNat b ++ p.2).flatten = sqT b ks xs r
  | [], r => by
    show (List.replicate (sq r ks).toNat b ++ []) ++ [] = List.replicate (sq r ks).toNat b
    rw [List.append_nil, List.append_nil]
  | x :: xs, r => by
    rw [lbw_cons, sqT_cons]
    by_cases c : x = b
    · rw [if_pos c, if_pos c]
      have e : oth b (x :: xs) = oth b xs := by
        unfold oth
        rw [List.filter_cons, if_neg (by rw [decide_eq_false (fun z => z c)]; exact Bool.false_ne_true)]
      rw [e]
      exact sqT_zip b ks xs (r + 1)
    · rw [if_neg c, if_neg c]
      have e : oth b (x :: xs) = [x] :: oth b xs := by
        unfold oth
        rw [List.filter_cons, if_pos (decide_eq_true c)]
        rfl
      rw [e, List.zip_cons_cons, List.map_cons, List.flatten_cons, sqT_zip b ks xs 0, List.append_assoc]
      rfl
theorem repl_one (b : Nat) : ∀ l : List Nat, replL [b] [] l = l.filter fun x => decide (x ≠ b)
  | [] => replL_nil
  | x :: l => by
    by_cases c : x = b
    · rw [replL_hit (List.cons_ne_nil b []) (by rw [c]; rfl), List.filter_cons, if_neg (by rw [decide_eq_false (fun z => z c)]; exact Bool.false_ne_true)]
      exact repl_one b l
    · rw [replL_miss (y := [b]) (z := []) (c := x) (r := l) (fun z => c (Option.some.inj (congrArg List.head? z))), List.filter_cons, if_pos (decide_eq_true c), repl_one b l]
theorem repl_chr (x : Str) (b : Nat) : (Txt.replace x ⟨#[b]⟩ "").cps.toList = x.cps.toList.filter fun y => decide (y ≠ b) := by
  rw [replace_list (by exact Nat.le_refl 1)]
  exact repl_one b _
theorem oth_short {b : Nat} {xs o : List Nat} (h : o ∈ oth b xs) : o.length ≤ 1 := by
  unfold oth at h
  rcases List.mem_append.mp h with z | z
  · obtain ⟨c, _, rfl⟩ := List.mem_map.mp z
    exact Nat.le_refl _
  · rw [List.mem_singleton.mp z]
    exact Nat.zero_le _
theorem joinL_flat : ∀ ps : List (List Nat), TL.joinL [] ps = ps.flatten
  | [] => rfl
  | [p] => (List.append_nil p).symm
  | p :: q :: r => by
    show p ++ ([] ++ TL.joinL [] (q :: r)) = p ++ (q :: r).flatten
    rw [joinL_flat (q :: r), List.nil_append]
theorem mul_fold (b : Nat) : ∀ (k : Nat) (acc : Array Nat), ((List.replicate k #[b]).foldl (· ++ ·) acc).toList = acc.toList ++ List.replicate k b
  | 0, acc => (List.append_nil _).symm
  | k + 1, acc => by
    rw [List.replicate_succ, List.foldl_cons, mul_fold b k, Array.toList_append, List.append_assoc]
    rfl
theorem mul_chr (b : Nat) {n : Int} (h0 : 0 ≤ n) : _root_.PySem.Txt.mul ⟨#[b]⟩ n = SX.S (List.replicate n.toNat b) := by
  unfold _root_.PySem.Txt.mul
  split
  · rw [show n.toNat = 0 by omega]
    rfl
  · split
    · rename_i h1 h2
      have e : n = 1 := by
        rcases Bool.or_eq_true_iff.mp h2 with z | z
        · exact eq_of_beq z
        · cases z
      rw [e]
      rfl
    · refine TL.ext_tl ?_
      show ((List.replicate n.toNat #[b]).foldl (· ++ ·) #[]).toList = _
      rw [mul_fold]
      rfl
theorem mul_chr_ok (b : Nat) {n : Int} (h0 : 0 ≤ n) (h1 : n ≤ 4000) : _root_.PySem.MulOk ⟨#[b]⟩ n := by
  have l1 : (⟨#[b]⟩ : Str).length = 1 := rfl
  unfold _root_.PySem.MulOk
  rw [l1]
  refine ⟨?_, fun c _ => ?_, fun c _ => ?_⟩
  · rw [decide_eq_false (by omega), decide_eq_false (by omega)]
    rfl
  · have : (1 : Int) ≤ (2 ^ 63 - 1) / n := Int.le_ediv_of_mul_le (by omega) (by omega)
    show ¬ ((1 : Int) > (2 ^ 63 - 1) / n)
    omega
  · have szl : sizeLine = 16777216 := sizeLine_eq
    exact decide_eq_false (by omega)
theorem sqT_len {b : Nat} {ks : List Int} (h : ∀ k ∈ ks, 2 ≤ k) : ∀ (xs : List Nat) (r : Int), 0 ≤ r → ((sqT b ks xs r).length : Int) ≤ r + xs.length
  | [], r, h0 => by
    show ((List.replicate (sq r ks).toNat b).length : Int) ≤ r + 0
    rw [List.length_replicate]
    have := sq_le_self ks r h h0
    omega
  | x :: xs, r, h0 => by
    rw [sqT_cons, List.length_cons]
    by_cases c : x = b
    · rw [if_pos c]
      have := sqT_len (b := b) h xs (r + 1) (by omega)
      omega
    · rw [if_neg c, List.length_append, List.length_replicate, List.length_cons]
      have a := sq_le_self ks r h h0
      have b := sqT_len (b := b) h xs 0 (by decide)
      omega
theorem sq_low : ∀ {ks : List Int} (n : Int), (∀ k ∈ ks, 2 ≤ k) → 0 ≤ n → 0 ≤ sq n ks
  | [], n, _, h0 => h0
  | k :: r, n, h, h0 => sq_low (ks := r) (once n k) (fun x hx => h x (List.mem_cons_of_mem _ hx)) (once_nonneg (h k List.mem_cons_self) h0)
section
variable {P : Program} {w : World} {K : PySem.W.Frag} {mg : Str → Option Value} {base : Heap}
def spSqT (K : PySem.W.Frag) : Sp := fun vs H Q _ => ∃ (x : Str) (b : Nat) (a : Addr) (ks : List Int), vs = [.str x, .str ⟨#[b]⟩, .ref a] ∧ SqL K H a (ks.map V.int) ∧ Rpl ks ∧ x.length ≤ 3000 ∧ ∀ H', Same H H' → Q (.str ⟨(sqT b ks x.cps.toList 0).toArray⟩) H'
theorem ok_squeezetext {f : Addr} {fd : FuncData} (F : Fun K "squeeze_text" "squeeze_text" s_squeezetext f fd) (B : Bi mg) (D_checkcharacter : Df P w K mg base 1 "check_character" ["character"] spCheckChr) (D_checklist : Df P w K mg base 1 "check_list" ["replacements"] (spCheckList K))
    (D_lengthsbetween : Df P w K mg base 1 "lengths_between" ["text", "character"] spBetween) (D_lengthafter : Df P w K mg base 2 "length_after" ["length", "replacements"] (spSqzS K)) : FnT P w K mg base 4 f fd ["text", "character", "replacements"] 1 (spSqT K) := by
  refine fnt_of F sc_squeezetext (fun vs H Q E h => ?_) (y := "character") rfl rfl (fun cdv A outer s H us vs Q c u0 hr h rv tkn hu Ce => ?_)
  · obtain ⟨x, b, a, ks, rfl, _⟩ := h
    rfl
  · obtain ⟨x, b, a, ks, rfl, hS, hk, hx, q⟩ := h
    obtain ⟨tb, rfl⟩ : ∃ tb, u0 = .str ⟨#[b]⟩ tb := by
      obtain ⟨u, e, t, et⟩ := rv.get (i := 1) rfl
      rw [e] at hu
      exact ⟨t, (Option.some.inj hu).symm.trans et⟩
    have good := tkn _ _ hu rfl
    refine ⟨_, jrs_cons (jst_expr (je_callD Ce D_checkcharacter (hr.mono (by omega)) (by rfl) (ja_cons (jv 1) ja_nil)))
      (jrs_cons (jst_expr (je_callD Ce D_checklist (hr.mono (by omega)) (by rfl) (ja_cons (jv 2) ja_nil)))
      (jrs_cons (jst_set (i := 3) Ce (by decide) sc_squeezetext.nd rfl (Or.inl rfl) (je_callD Ce D_lengthsbetween (hr.mono (by omega)) (by rfl) (ja_cons (jv 0) (ja_cons (jv 1) ja_nil))))
      (jrs_cons (jst_set (i := 4) Ce (by decide) sc_squeezetext.nd rfl (Or.inr rfl) (je_dc Ce (own := [("length", 6)]) (g := gName 6) rfl sc_squeezetext.nd (ji_list (je_callB (id := "sorted") (r := rSortedSetI w) (cj_sortedSetI rfl) (by rfl) B.n_sorted (by decide +kernel) (ja_cons (je_callTy (T := "set") (r := rSetL K w) (cj_setL rfl) (by rfl) B.n_set (by decide +kernel) (ja_cons (jv 3) ja_nil)) ja_nil)))
        (blkOk_by (own := [("length", 6)]) (N := ["text", "character", "replacements", "lengths", "after", "others", "length", "other"]) (sc := defScope s_squeezetext) (by decide +kernel)) (fun _ _ _ _ _ => (pg_name (i := 6) sc_squeezetext.nd rfl (Or.inl rfl))) (fun _ _ _ _ _ => pts_nil) (fun _ _ _ _ _ => (pv 6)) (fun _ _ _ _ _ => (pe_callD D_lengthafter (hr.mono (by omega)) (by rfl) (pa_cons (pv 6) (pa_cons (pv 2) pa_nil))))))
      (jrs_set (i := 5) sc_squeezetext.nd rfl (Or.inl rfl) (jr_op op_cat (jr_callTy (T := "list") (call_listStr rfl) (by rfl) B.n_list (by decide +kernel) (jr_rep (i := 0) rfl (Or.inl rfl) rfl Ce.is good rfl)) (pe_lst (pa_cons pe_str pa_nil)))
      (pss_one (ps_ret (pe_join pe_str (pe_lc (own := [("length", 6), ("other", 7)]) (g := gTup K 2 (gCons (gName 6) (gCons (gName 7) gNil))) rfl sc_squeezetext.nd (pi_zip (by rfl) B.n_zip (pa_cons (pv 3) (pa_cons (pv 5) pa_nil))) (blkOk_by (own := [("length", 6), ("other", 7)]) (N := ["text", "character", "replacements", "lengths", "after", "others", "length", "other"]) (sc := defScope s_squeezetext) (by decide +kernel)) (fun _ _ _ _ _ => (pg_tup rfl (pgs_cons (pg_name (i := 6) sc_squeezetext.nd rfl (Or.inl rfl)) (pgs_cons (pg_name (i := 7) sc_squeezetext.nd rfl (Or.inl rfl)) pgs_nil)))) (fun _ _ _ _ _ => pts_nil) (fun _ _ _ _ _ => (pe_op op_add_str (pe_op op_mulS (pv 1) (pe_dget (hu_of hr) (pv 4) (pv 6) (fun _ _ => rfl))) (pv 7))))))))))), ?_⟩
    have szl : sizeLine = 16777216 := sizeLine_eq
    have xl : x.cps.toList.length = x.length := rfl
    obtain ⟨ls, els⟩ : ∃ ls, ls = lbw b x.cps.toList 0 := ⟨_, rfl⟩
    have lsl : ls.length = (x.cps.toList.filter fun x => decide (x ≠ b)).length + 1 := by rw [els, lbw_len]
    have fl := List.length_filter_le (fun x => decide (x ≠ b)) x.cps.toList
    have lsm : ∀ k ∈ ls, 0 ≤ k ∧ k ≤ x.length := fun k hk => by
      rw [els] at hk
      have := lbw_mem b _ 0 (by decide) k hk
      omega
    refine ⟨_, rfl, ⟨#[b]⟩, rfl, rfl, ?_⟩
    refine ⟨_, rfl, a, ks, rfl, hS, hk.two, fun H1 s1 => ?_⟩
    refine ⟨_, rfl, _, rfl, x, b, rfl, by omega, fun p H2 hp s2 gp => ?_⟩
    rw [← els] at gp
    refine ⟨_, rfl, p, ls, rfl, SqL.of gp, by omega, fun ps m hps lm im => ?_⟩
    refine ⟨ps, _, m, rfl, upd_same, by omega, fun ns pl asc mem len hpl => ?_⟩
    have s3 := (same_new (o := SetO w ps (fun j => decide (j ∈ ls)) m) hps).trans (same_new (o := .lst (ns.map V.int)) hpl)
    have hS3 := s3.seq (s2.seq (s1.seq hS))
    have gpl := upd_same (H := upd H2 ps (SetO w ps (fun j => decide (j ∈ ls)) m)) (a := pl) (o := .lst (ns.map V.int))
    have gp3 := s3 _ _ gp
    generalize upd (upd H2 ps (SetO w ps (fun j => decide (j ∈ ls)) m)) pl (.lst (ns.map V.int)) = H3 at s3 hS3 gpl gp3
    refine ⟨pl, rfl, ⟨_, SqL.of gpl⟩, fun D hD => walkL (K := K) (a := pl) (xs := ns.map V.int) (fun i H' => Same H3 H' ∧ H' D = some (.dK (kvF (ns.take i) fun l => sq l ks))) ⟨same_new hD, upd_same⟩ (fun i H' _ h => SqL.of (h.1 _ _ gpl)) ?_ ?_⟩
    · rintro i v H4 hi ⟨s4, gD⟩
      obtain ⟨y, hy, rfl⟩ := map_at hi
      have il := (List.getElem?_eq_some_iff.mp hy).1
      refine ⟨rfl, _, rfl, _, rfl, _, rfl, y, a, ks, rfl, s4.seq hS3, hk, fun H5 s5 => ⟨_, .inl y, rfl, s5 _ _ gD, ?_, fun c o e => ?_, ?_⟩⟩
      · unfold kvF
        rw [List.length_map, List.length_take]
        omega
      · rw [upd_ne (ne_of_none e hD)]
        exact s5 _ _ (s4 _ _ e)
      · rw [upd_same, kvF_put (fun l => sq l ks) (nodup_take (asc_nodup asc) hy), List.take_add_one, hy]
        rfl
    · rintro H4 ⟨s4, gD⟩
      rw [List.length_map, List.take_length] at gD
      have gp4 := s4 _ _ gp3
      have look : ∀ l ∈ ls, valV (kvF ns fun l => sq l ks) (.inl l) = some (.int (sq l ks)) := fun l hl => by
        rw [valV_kvF, if_pos ((mem l).mpr (decide_eq_true hl))]
      obtain ⟨os, eos⟩ : ∃ os, os = oth b x.cps.toList := ⟨_, rfl⟩
      have osl : os.length = ls.length := by rw [eos, oth_len, lsl]
      refine ⟨x, rfl, by show x.length + (x.length + 1) * 0 ≤ 16777216; omega, ?_⟩
      have er := repl_chr x b
      refine ⟨_, rfl, ?_, fun q1 hq1 => ?_⟩
      · show (Txt.replace x ⟨#[b]⟩ "").cps.toList.length ≤ sizeLine
        exact Nat.le_trans (Nat.le_of_eq (congrArg List.length er)) (Nat.le_trans fl (by omega))
      have sg : signsV (Txt.replace x ⟨#[b]⟩ "") = (x.cps.toList.filter fun y => decide (y ≠ b)).map fun c => V.str ⟨#[c]⟩ := by
        unfold signsV
        rw [← er]
      have sl : (x.cps.toList.filter fun y => decide (y ≠ b)).length + 1 ≤ sizeLine := by
        have := fl
        omega
      have eo : ((x.cps.toList.filter fun y => decide (y ≠ b)).map fun c => V.str ⟨#[c]⟩) ++ [V.str ""] = (os.map SX.S).map V.str := by
        rw [eos]
        unfold oth
        rw [List.map_append, List.map_append, List.map_map, List.map_map]
        rfl
      refine ⟨z1, fun q2 hq2 => ⟨q1, q2, (x.cps.toList.filter fun y => decide (y ≠ b)).map fun c => V.str ⟨#[c]⟩, [V.str ""], rfl, rfl, ?_, upd_same, by rw [List.length_map]; exact sl, fun r hr => ?_⟩⟩
      · refine same_new hq2 _ _ ?_
        rw [upd_same, sg]
      have s5 := ((same_new (o := .lst (signsV (Txt.replace x ⟨#[b]⟩ ""))) hq1).trans (same_new (o := .lst [V.str ""]) hq2)).trans (same_new (o := .lst (((x.cps.toList.filter fun y => decide (y ≠ b)).map fun c => V.str ⟨#[c]⟩) ++ [V.str ""])) hr)
      have gr := upd_same (H := upd (upd H4 q1 (.lst (signsV (Txt.replace x ⟨#[b]⟩ "")))) q2 (.lst [V.str ""])) (a := r) (o := .lst (((x.cps.toList.filter fun y => decide (y ≠ b)).map fun c => V.str ⟨#[c]⟩) ++ [V.str ""]))
      generalize upd (upd (upd H4 q1 (.lst (signsV (Txt.replace x ⟨#[b]⟩ "")))) q2 (.lst [V.str ""])) r (.lst (((x.cps.toList.filter fun y => decide (y ≠ b)).map fun c => V.str ⟨#[c]⟩) ++ [V.str ""])) = H5 at s5 gr
      rw [eo] at gr
      have gp5 := s5 _ _ gp4
      have gD5 := s5 _ _ gD
      obtain ⟨f, ef⟩ : ∃ f : Int × List Nat → List Nat, f = fun p => List.replicate (sq p.1 ks).toNat b ++ p.2 := ⟨_, rfl⟩
      have zl : (ls.zip os).length = ls.length := by rw [List.length_zip, osl, Nat.min_self]
      refine ⟨⟨_, rfl⟩, _, rfl, _, rfl, p, r, ls.map V.int, (os.map SX.S).map V.str, rfl, SqL.of gp5, SqL.of gr, fun E hE => lc_it (walk_zip (K := K) (a := p) (b := r) (xs := ls.map V.int) (ys := (os.map SX.S).map V.str) (n := ls.length) (by rw [List.length_map, List.length_map, List.length_map, osl, Nat.min_self]))
        (fun i H' => Same H5 (wo H' E) ∧ H' E = some (.lst (((((ls.zip os).take i).map f).map SX.S).map V.str)))
        ⟨by rw [wo_upd]; exact same_wo (Same.refl _) hE, upd_same⟩ (fun i H' _ h => ⟨SqL.of (wo_same _ _ (h.1 _ _ gp5)), SqL.of (wo_same _ _ (h.1 _ _ gr))⟩) ?_ ?_⟩
      · rintro i v H6 H7 hi ⟨s6, gE⟩ ⟨T, x1, x2, rfl, nT, rfl, e1, e2⟩
        have e1' : (ls.map V.int)[i]? = some x1 := e1
        have e2' : ((os.map SX.S).map V.str)[i]? = some x2 := e2
        obtain ⟨l, hl, rfl⟩ := map_at e1'
        obtain ⟨o, ho, rfl⟩ : ∃ o, os[i]? = some o ∧ x2 = .str (SX.S o) := by
          rw [List.getElem?_map, List.getElem?_map] at e2'
          cases z : os[i]? with
          | none => rw [z] at e2'; cases e2'
          | some o => rw [z] at e2'; exact ⟨o, rfl, (Option.some.inj e2').symm⟩
        have lm := lsm l (List.mem_of_getElem? hl)
        have sl0 := sq_low l hk.two lm.1
        have sl1 := sq_le_self ks l hk.two lm.1
        have ol : o.length ≤ 1 := oth_short (by rw [← eos]; exact List.mem_of_getElem? ho)
        have s6' : Same H5 H6 := s6.trans wo_same
        have gD7 := same_new (o := .tup [V.int l, .str (SX.S o)]) nT _ _ (s6' _ _ gD5)
        have gE7 := same_new (o := .tup [V.int l, .str (SX.S o)]) nT _ _ gE
        have nTE : E ≠ T := ne_of_none gE nT
        have dg := DGet.k (k := .inl l) gD7
        rw [look l (List.mem_of_getElem? hl)] at dg
        have mc := mul_chr b sl0
        refine ⟨T, _, rfl, .inl (.inl upd_same), rfl, _, _, rfl, _, _, rfl, rfl, rfl, _, rfl, _, rfl, _, rfl, D, _, rfl, dg, ⟨#[b]⟩, sq l ks, rfl, rfl, mul_chr_ok b sl0 (by omega), _, rfl, _, _, rfl, rfl, ?_, _, gE7, ?_, ?_, ?_⟩
        · rw [mc, SX.S_len, SX.S_len, List.length_replicate]
          omega
        · rw [List.length_map, List.length_map, List.length_map, List.length_take]
          omega
        · rw [wo_upd]
          intro z o' e
          have g := s6 z o' e
          have nz : z ≠ E := fun y => by rw [y, wo_self] at g; cases g
          rw [wo_ne nz] at g ⊢
          exact same_new nT _ _ g
        · rw [upd_same, mc, SX.S_cat, List.take_add_one]
          have ez : (ls.zip os)[i]? = some (l, o) := List.getElem?_zip_eq_some.mpr ⟨hl, ho⟩
          rw [ez, List.map_append, List.map_append, List.map_append, ef]
          rfl
      · rintro H6 ⟨s6, gE⟩
        rw [show (ls.zip os).take ls.length = ls.zip os from List.take_of_length_le (by rw [zl]; exact Nat.le_refl _)] at gE
        have fz : ((ls.zip os).map f).flatten = sqT b ks x.cps.toList 0 := by rw [ef, els, eos]; exact sqT_zip b ks _ 0
        have tl := sqT_len (b := b) hk.two x.cps.toList 0 (by decide)
        refine ⟨"", E, ((ls.zip os).map f).map SX.S, rfl, rfl, .inl (SqL.of gE), ?_, ?_⟩
        · have e : ((((ls.zip os).map f).map SX.S).map fun y => y.length) = ((ls.zip os).map f).map List.length := by
            rw [List.map_map]
            exact List.map_congr_left fun y _ => SX.S_len y
          show _ + _ * 0 ≤ 16777216
          rw [e, ← List.length_flatten, fz]
          omega
        · have ej : Txt.join "" (((ls.zip os).map f).map SX.S) = ⟨(sqT b ks x.cps.toList 0).toArray⟩ := by
            have j := SX.join_S [] ((ls.zip os).map f)
            rw [joinL_flat, fz] at j
            exact j
          rw [ej]
          exact q _ ((((s1.trans s2).trans s3).trans s4).trans (s5.trans (s6.trans wo_same)))
end
end Sq
set_option Elab.async false
set_option linter.all false
set_option maxRecDepth 100000
set_option maxHeartbeats 4000000
namespace Sq
open PySem PySem.Spec PyProof.Rows L2 GenW
section
variable {X : Cx} {Θ : Shared → Prop} {ys : List Str} {x f : Str} {p pos op : Pos} {e : Expr} {es : List Expr} {te ta : TE} {t : TA} {tb : TS} {body : List Stmt} {n : Nat}
/-- o.f, its raw value good for n -/
def tFldG (K : PySem.W.Frag) (n : Nat) (ta : TE) (f : Str) : TE := fun σ H Q => ta σ H fun x H1 => ∃ a C dx m ks u v, x = .ref a ∧ Live H1 a C dx m ks ∧ Cls K C ∧ NoAttr K C f ∧ m f = some u ∧ Tkn 0 [u] n ∧ RelV v u ∧ Q v H1
theorem wx_fld (Cl : Clo X ys Θ) (hn : ∀ s, Θ s → n ≤ s.toks) (he : We X Θ e ta) (hr : Wa X Θ es t) (hb : attributeBase e f X.env (eval e X.env) = eval e X.env := by rfl) (hs : starEach (.Attribute e f p :: es) X.env = (false, eval (.Attribute e f p) X.env) :: starEach es X.env := by rfl) :
    Wx X Θ 0 (.Attribute e f p :: es) (tCons (tFldG X.K n ta f) t) := by
  refine ⟨fun pos pins s σ H Q I θ h => ?_⟩
  rw [hs]
  show wpAny _ _ (spliced ((false, eval (.Attribute e f p) X.env) :: backTo pos (starEach es X.env))) _ _ s
  refine Calls.spliced_cons (attr_of hb (thn (he.run pins s σ H _ I θ h) fun u s1 hh => ?_))
  obtain ⟨g1, z, H1, I1, rx, a, C, dx, m, ks, u1, v, ex, L, c, nn, hu, good, rv, q⟩ := hh
  subst ex
  obtain rfl : u = Value.ref a := rx
  refine live_get I1 L c nn hu (handed_of rv) fun I2 => ?_
  refine wpAny_mono (PySem.wpAny_toks (hr.run pos pins _ σ H1 _ I2 (Cl.tok I1 g1) q)) (fun us s3 hh => ?_) fun _ _ z => z.2
  obtain ⟨up, g3, xs, H3, I3, r3, q3⟩ := hh
  have up' : s1.toks + 1 ≤ s3.toks := up
  refine ⟨⟨g3, fun b tk eb one => ?_⟩, v :: xs, H3, I3, .cons rv r3, q3⟩
  have g := good b tk eb one
  exact ⟨g.1, Nat.lt_of_lt_of_le g.2 (Nat.le_trans (hn s1 g1) (Nat.le_of_succ_le up'))⟩
/-- for x in a tuple -/
def tForT (K : PySem.W.Frag) (te : TE) (g : TG) (tb : TS) : TS := fun D σ H => te σ H fun v H1 => ∃ (a : Addr) (xs : List V), v = .ref a ∧ SqT K H1 a xs ∧ ∃ Pv : Nat → L2.St → Hp → Prop, Pv 0 σ H1 ∧ (∀ i σ H, Pv i σ H → SqT K H a xs) ∧
  (∀ (i : Nat) (z : V) (σ : L2.St) (H : Hp), xs[i]? = some z → Pv i σ H → g z σ H fun σ2 H2 => tb { nx := Pv (i + 1), ct := Pv (i + 1), bk := D.nx, rt := D.rt } σ2 H2) ∧ ∀ σ H, Pv xs.length σ H → D.nx σ H
/-- storing the loop's name -/
structure Wg (X : Cx) (Θ : Shared → Prop) (tg : Expr) (t : TG) : Prop where
  run : ∀ (pins : List (Addr × Obj)) (s : Shared) (σ : L2.St) (H : Hp) (v : V) (u : Value) (Q : L2.St → Hp → Prop), Inv X pins σ H s → Θ s → RelV v u → t v σ H Q → wpAny (model X.prog X.w) X.A (assign tg X.env u) (fun _ s' => Θ s' ∧ ∃ σ' H', Inv X pins σ' H' s' ∧ Q σ' H') X.xe s
theorem wg_name {i : Nat} (Cl : Clo X ys Θ) (ne : x ∉ ys) (hN : X.N.Nodup) (hi : X.N[i]? = some x) (hx : Loc X.env.scope x) (hf : X.fn x = true ∨ X.env.scope.names.lookup x = some .local := by first | exact .inl rfl | exact .inr rfl | assumption) : Wg X Θ (.Name x pos) (gName i) :=
  ⟨fun pins s σ H v u Q I θ r h => wpAny_assign_Name (put_ok I hN hi hx r (fun s2 I2 up pt => ⟨Cl.st I ne up pt θ, _, H, I2, h⟩) hf)⟩
theorem ws_forT {g : TG} (hcalm : X.calm = true) (own : PassesOwn (model X.prog X.w) X.A X.env X.xe) (Cl : Clo X ys Θ) (he : We X Θ e te) (hg : Wg X Θ (.Name x op) g) (hb : Wss X Θ body tb)
    (hfs : ∀ z, foldedSetIterable e X.env z = pure z := by intro _; rfl) : Ws X Θ (.For (.Name x op) e body [] pos) (tForT X.K te g tb) := by
  refine ⟨fun pins s σ H D I θ h => ?_⟩
  refine wpAny_mono (wpAny_For (Q := fun f s' => Θ s' ∧ SP X pins D f s') (thn (he.run pins s σ H _ I θ h) fun v s1 hh => ?_) hfs) (fun _ _ z => z) fun _ _ z => z
  obtain ⟨θ1, w, H1, I1, r1, a, xs, ew, hq, Pv, p0, hl, turn, fin⟩ := hh
  subst ew
  obtain rfl : v = Value.ref a := r1
  obtain ⟨its, rv, isT, hz⟩ := I1.tuple hq
  refine wpAny_pyIter_tuple (show s1.heap.IsTuple a its.toArray from isT) ?_
  obtain ⟨it, eit⟩ : ∃ it, it = s1.heap.objs.size := ⟨_, rfl⟩
  rw [← eit]
  have kept : ∀ b o, s1.heap.get? b = some o → (s1.heap.push { cls := .type "tuple_iterator", data := .fields #[.ref a, .int 0 0] }).get? b = some o := fun b o e => Heap.get?_push_of_some _ e
  have fpk : FpOk X pins H1 it := I1.fpOk (Nat.le_of_eq eit.symm) (by rw [eit]; exact I1.hok.fresh (Nat.le_refl _))
  have away : ∀ b ∈ [it], b ≠ X.env.locals ∧ ∀ x c, X.env.cells.lookup x = some c → c ≠ b := fun b hb => by
    rw [List.mem_singleton.mp hb]
    exact ⟨fpk.2.1, fpk.2.2.2.2.1⟩
  refine codeAny_forLoop_any (fun m s' => ∃ i σ' H', m = xs.length - i ∧ i ≤ xs.length ∧ Θ s' ∧ Inv X pins σ' H' s' ∧ s'.heap.IsTupleIter it a i ∧ H' it = none ∧ Pv i σ' H') (fun m s' hs' => ?_) xs.length
    ⟨0, σ, H1, rfl, Nat.zero_le _, Cl.kept (s' := { s1 with heap := s1.heap.push { cls := .type "tuple_iterator", data := .fields #[.ref a, .int 0 0] } }) I1 (Nat.le_refl _) kept θ1, I1.kept (t' := s1.toks) kept, by rw [eit]; exact ⟨_, Heap.get?_push_size _ rfl, rfl, rfl⟩, fpk.1, p0⟩
  obtain ⟨i, σ', H', rfl, hi, θ2, I2, st, free, pv⟩ := hs'
  obtain ⟨its2, rv2, isT2, hz2⟩ := I2.tuple (hl i σ' H' pv)
  have isT3 : s'.heap.IsTuple a its2.toArray := isT2
  have hlen := rv2.length
  have fpk2 : FpOk X pins H' it := ⟨free, fpk.2⟩
  by_cases lt : i < xs.length
  · obtain ⟨z, hz3⟩ : ∃ z, xs[i]? = some z := ⟨_, List.getElem?_eq_getElem lt⟩
    obtain ⟨u, hu, ru⟩ := rv2.get hz3
    refine wpAny_pyNext_tuple_item st isT3 (x := u) (by simpa using hu) fun h' st' sb => ?_
    obtain ⟨f0, f1, f2, f3, f4, f5⟩ := fpk2
    have I3 : Inv X pins σ' H' { s' with heap := h' } := I2.turned (t' := s'.toks) (fun b o hb e => (sb.2 b hb).trans e) f0 f1 f3 f4 f5
    obtain ⟨oi, eoi, ci, di⟩ := id st'
    have I4 := I3.pinned (fp := [it]) (fun b hb => by rw [List.mem_singleton.mp hb]; exact ⟨free, fpk.2⟩) (fun b hb => by
      rw [List.mem_singleton.mp hb]
      exact ⟨oi, eoi, fun v q => by rw [di] at q; cases q⟩)
    have θ3 : Θ { s' with heap := h' } := Cl.but [it] I2 (Nat.le_refl _) away (fun b o hb e => (sb.2 b (fun z => hb (by rw [z]; exact List.mem_singleton_self _))).trans e) θ2
    refine go_of (s := { s' with heap := h' }) eoi ci di (by decide) ?_
    refine wpAny_passesOwn own (thn (hg.run _ { s' with heap := h' } σ' H' z u _ I4 θ3 ru (turn i z σ' H' hz3 pv)) fun _ s4 h4 => ?_)
    obtain ⟨θ4, σ4, H4, I5, q4⟩ := h4
    refine wpAny_passesOwn own (thn (hb.run _ s4 σ4 H4 _ I5 θ4 q4) fun fl s5 h5 => ?_)
    obtain ⟨θ5, q5⟩ := h5
    have again : ∀ σ5 H5, Inv X (pins ++ pinsAt [it] h') σ5 H5 s5 → Pv (i + 1) σ5 H5 → ∃ m, m < xs.length - i ∧ ∃ i' σ' H', m = xs.length - i' ∧ i' ≤ xs.length ∧ Θ s5 ∧ Inv X pins σ' H' s5 ∧ s5.heap.IsTupleIter it a i' ∧ H' it = none ∧ Pv i' σ' H' := fun σ5 H5 I6 pv5 => by
      have pi := I6.pin (it, oi) (List.mem_append_right _ (List.mem_append_right _ (mem_pinsAt (by simp) eoi)))
      exact ⟨xs.length - (i + 1), by omega, i + 1, σ5, H5, rfl, lt, θ5, I6.unpinned, ⟨oi, pi.1, ci, di⟩, pi.2.1, pv5⟩
    match fl, q5 with
    | .next, ⟨σ5, H5, I6, pv5⟩ => exact again σ5 H5 I6 pv5
    | .cont, ⟨σ5, H5, I6, pv5⟩ => exact again σ5 H5 I6 pv5
    | .brk, ⟨σ5, H5, I6, qd⟩ => exact ⟨θ5, σ5, H5, I6.unpinned, qd⟩
    | .ret v, ⟨x5, σ5, H5, I6, rv5, qd⟩ => exact ⟨θ5, x5, σ5, H5, I6.unpinned, rv5, qd⟩
  · obtain rfl : i = xs.length := by omega
    refine wpAny_pyNext_tuple_end (I2.ok.hd hcalm) st isT3 (by simp; omega) fun h2 eb => ?_
    obtain ⟨f0, f1, f2, f3, f4, f5⟩ := fpk2
    have I3 : Inv X pins σ' H' { s' with heap := h2 } := I2.turned (t' := s'.toks) (fun b o hb q => eb b o hb q) f0 f1 f3 f4 f5
    have θ3 : Θ { s' with heap := h2 } := Cl.but [it] I2 (Nat.le_refl _) away (fun b o hb e => eb b o (fun z => hb (by rw [z]; exact List.mem_singleton_self _)) e) θ2
    refine wpAny_execs_nil ⟨θ3, σ', H', I3, fin σ' H' pv⟩
/-- for x in a list -/
theorem ws_forL {g : TG} (hcalm : X.calm = true) (own : PassesOwn (model X.prog X.w) X.A X.env X.xe) (Cl : Clo X ys Θ) (he : We X Θ e te) (hg : Wg X Θ (.Name x op) g) (hb : Wss X Θ body tb)
    (hfs : ∀ z, foldedSetIterable e X.env z = pure z := by intro _; rfl) : Ws X Θ (.For (.Name x op) e body [] pos) (tForJ X.K te g tb) := by
  refine ⟨fun pins s σ H D I θ h => ?_⟩
  refine wpAny_mono (wpAny_For (Q := fun f s' => Θ s' ∧ SP X pins D f s') (thn (he.run pins s σ H _ I θ h) fun v s1 hh => ?_) hfs) (fun _ _ z => z) fun _ _ z => z
  obtain ⟨θ1, w, H1, I1, r1, a, xs, ew, hq, Pv, p0, hl, turn, fin⟩ := hh
  subst ew
  obtain rfl : v = Value.ref a := r1
  obtain ⟨its, rv, isT, hz⟩ := I1.list hq
  refine wpAny_pyIter_list isT.isList ?_
  obtain ⟨it, eit⟩ : ∃ it, it = s1.heap.objs.size := ⟨_, rfl⟩
  rw [← eit]
  have kept : ∀ b o, s1.heap.get? b = some o → (s1.heap.push { cls := .type "list_iterator", data := .fields #[.ref a, .int 0 0] }).get? b = some o := fun b o e => Heap.get?_push_of_some _ e
  have fpk : FpOk X pins H1 it := I1.fpOk (Nat.le_of_eq eit.symm) (by rw [eit]; exact I1.hok.fresh (Nat.le_refl _))
  have away : ∀ b ∈ [it], b ≠ X.env.locals ∧ ∀ x c, X.env.cells.lookup x = some c → c ≠ b := fun b hb => by
    rw [List.mem_singleton.mp hb]
    exact ⟨fpk.2.1, fpk.2.2.2.2.1⟩
  refine codeAny_forLoop_any (fun m s' => ∃ i σ' H', m = xs.length - i ∧ i ≤ xs.length ∧ Θ s' ∧ Inv X pins σ' H' s' ∧ s'.heap.IsListIter it a i ∧ H' it = none ∧ Pv i σ' H') (fun m s' hs' => ?_) xs.length
    ⟨0, σ, H1, rfl, Nat.zero_le _, Cl.kept (s' := { s1 with heap := s1.heap.push { cls := .type "list_iterator", data := .fields #[.ref a, .int 0 0] } }) I1 (Nat.le_refl _) kept θ1, I1.kept (t' := s1.toks) kept, by rw [eit]; exact ⟨_, Heap.get?_push_size _ rfl, rfl, rfl⟩, fpk.1, p0⟩
  obtain ⟨i, σ', H', rfl, hi, θ2, I2, st, free, pv⟩ := hs'
  obtain ⟨its2, rv2, isT2, hz2⟩ := I2.list (hl i σ' H' pv)
  have hlen := rv2.length
  have fpk2 : FpOk X pins H' it := ⟨free, fpk.2⟩
  by_cases lt : i < xs.length
  · obtain ⟨z, hz3⟩ : ∃ z, xs[i]? = some z := ⟨_, List.getElem?_eq_getElem lt⟩
    obtain ⟨u, hu, ru⟩ := rv2.get hz3
    refine wpAny_pyNext_list_item st isT2.isList (x := u) (by simpa using hu) fun h' st' sb => ?_
    obtain ⟨f0, f1, f2, f3, f4, f5⟩ := fpk2
    have I3 : Inv X pins σ' H' { s' with heap := h' } := I2.turned (t' := s'.toks) (fun b o hb e => (sb.2 b hb).trans e) f0 f1 f3 f4 f5
    obtain ⟨oi, eoi, ci, di⟩ := id st'
    have I4 := I3.pinned (fp := [it]) (fun b hb => by rw [List.mem_singleton.mp hb]; exact ⟨free, fpk.2⟩) (fun b hb => by
      rw [List.mem_singleton.mp hb]
      exact ⟨oi, eoi, fun v q => by rw [di] at q; cases q⟩)
    have θ3 : Θ { s' with heap := h' } := Cl.but [it] I2 (Nat.le_refl _) away (fun b o hb e => (sb.2 b (fun z => hb (by rw [z]; exact List.mem_singleton_self _))).trans e) θ2
    refine go_of (s := { s' with heap := h' }) eoi ci di (by decide) ?_
    refine wpAny_passesOwn own (thn (hg.run _ { s' with heap := h' } σ' H' z u _ I4 θ3 ru (turn i z σ' H' hz3 pv)) fun _ s4 h4 => ?_)
    obtain ⟨θ4, σ4, H4, I5, q4⟩ := h4
    refine wpAny_passesOwn own (thn (hb.run _ s4 σ4 H4 _ I5 θ4 q4) fun fl s5 h5 => ?_)
    obtain ⟨θ5, q5⟩ := h5
    have again : ∀ σ5 H5, Inv X (pins ++ pinsAt [it] h') σ5 H5 s5 → Pv (i + 1) σ5 H5 → ∃ m, m < xs.length - i ∧ ∃ i' σ' H', m = xs.length - i' ∧ i' ≤ xs.length ∧ Θ s5 ∧ Inv X pins σ' H' s5 ∧ s5.heap.IsListIter it a i' ∧ H' it = none ∧ Pv i' σ' H' := fun σ5 H5 I6 pv5 => by
      have pi := I6.pin (it, oi) (List.mem_append_right _ (List.mem_append_right _ (mem_pinsAt (by simp) eoi)))
      exact ⟨xs.length - (i + 1), by omega, i + 1, σ5, H5, rfl, lt, θ5, I6.unpinned, ⟨oi, pi.1, ci, di⟩, pi.2.1, pv5⟩
    match fl, q5 with
    | .next, ⟨σ5, H5, I6, pv5⟩ => exact again σ5 H5 I6 pv5
    | .cont, ⟨σ5, H5, I6, pv5⟩ => exact again σ5 H5 I6 pv5
    | .brk, ⟨σ5, H5, I6, qd⟩ => exact ⟨θ5, σ5, H5, I6.unpinned, qd⟩
    | .ret v, ⟨x5, σ5, H5, I6, rv5, qd⟩ => exact ⟨θ5, x5, σ5, H5, I6.unpinned, rv5, qd⟩
  · obtain rfl : i = xs.length := by omega
    refine wpAny_pyNext_list_end (I2.ok.hd hcalm) st isT2.isList (by simp; omega) fun h2 eb => ?_
    obtain ⟨f0, f1, f2, f3, f4, f5⟩ := fpk2
    have I3 : Inv X pins σ' H' { s' with heap := h2 } := I2.turned (t' := s'.toks) (fun b o hb q => eb b o hb q) f0 f1 f3 f4 f5
    have θ3 : Θ { s' with heap := h2 } := Cl.but [it] I2 (Nat.le_refl _) away (fun b o hb e => eb b o (fun z => hb (by rw [z]; exact List.mem_singleton_self _)) e) θ2
    refine wpAny_execs_nil ⟨θ3, σ', H', I3, fin σ' H' pv⟩
end
end Sq
set_option Elab.async false
set_option linter.all false
set_option maxRecDepth 100000
set_option maxHeartbeats 8000000
set_option exponentiation.threshold 2000
namespace Sq
open PySem PySem.Spec PyProof.Rows L2
theorem nCR : ("_character" : Str) ≠ "_replacements" := by decide +kernel
theorem nCT : ("_character" : Str) ≠ "_texts" := by decide +kernel
theorem nRT : ("_replacements" : Str) ≠ "_texts" := by decide +kernel
abbrev lvN : List Str := ["_texts", "_replacements", "_character"]
/-- a live text stands at p: its character's raw value u0, its replacements at r, its texts at t -/
structure Txt2 (C : Addr) (H : Hp) (p dx r t : Addr) (u0 : Value) (b : Nat) (T : List (List Nat)) (ks : List Int) : Prop where
  m : ∃ m, Live H p C dx m lvN ∧ m "_character" = some u0 ∧ m "_replacements" = some (.ref r) ∧ m "_texts" = some (.ref t) ∧ ∀ f : Str, f ≠ "_character" → f ≠ "_replacements" → f ≠ "_texts" → m f = none
  u : RelV (.str ⟨#[b]⟩) u0
  rp : H r = some (.lst (ks.map V.int))
  tx : H t = some (.lst (T.map fun l => V.str (SX.S l)))
  ne : r ≠ t
  len : T.length = ks.length + 1
  sz : ∀ l ∈ T, l.length ≤ 2000
theorem Txt2.same {C p dx r t : Addr} {H H' : Hp} {u0 : Value} {b : Nat} {T : List (List Nat)} {ks : List Int} (L : Txt2 C H p dx r t u0 b T ks) (s : Same H H') : Txt2 C H' p dx r t u0 b T ks :=
  ⟨let ⟨m, h, e⟩ := L.m; ⟨m, h.same s, e⟩, L.u, s _ _ L.rp, s _ _ L.tx, L.ne, L.len, L.sz⟩
/-- all but the two lists is as it was -/
def But2 (H H' : Hp) (r t : Addr) : Prop := ∀ a o, H a = some o → a ≠ r → a ≠ t → H' a = some o
theorem But2.refl {H : Hp} {r t : Addr} : But2 H H r t := fun _ _ e _ _ => e
theorem But2.trans {H H1 H2 : Hp} {r t : Addr} (a : But2 H H1 r t) (b : But2 H1 H2 r t) : But2 H H2 r t := fun x o e n1 n2 => b x o (a x o e n1 n2) n1 n2
theorem But2.of {H H' : Hp} {r t : Addr} (s : Same H H') : But2 H H' r t := fun a o e _ _ => s a o e
/-- an object keeps standing where its two lists are written anew -/
theorem Txt2.but {C p dx r t : Addr} {H H' : Hp} {u0 : Value} {b : Nat} {T T' : List (List Nat)} {ks ks' : List Int} (L : Txt2 C H p dx r t u0 b T ks) (k : But2 H H' r t) (e1 : H' r = some (.lst (ks'.map V.int))) (e2 : H' t = some (.lst (T'.map fun l => V.str (SX.S l)))) (len : T'.length = ks'.length + 1) (sz : ∀ l ∈ T', l.length ≤ 2000) : Txt2 C H' p dx r t u0 b T' ks' := by
  obtain ⟨m, h, e⟩ := L.m
  have n1 : ∀ {a : Addr} {φ : Heap → Prop}, H a = some (.ext φ) → a ≠ r ∧ a ≠ t := fun {a φ} h => ⟨ne_of h L.rp (by intro z; cases z), ne_of h L.tx (by intro z; cases z)⟩
  exact ⟨⟨m, ⟨k _ _ h.i (n1 h.i).1 (n1 h.i).2, k _ _ h.d (n1 h.d).1 (n1 h.d).2, h.ne⟩, e⟩, L.u, e1, e2, L.ne, len, sz⟩
/-- the present text -/
def lastT (T : List (List Nat)) : List Nat := T.getLast?.getD []
theorem lastT_snoc (T : List (List Nat)) (l : List Nat) : lastT (T ++ [l]) = l := by
  unfold lastT
  rw [List.getLast?_append]
  rfl
/-- the texts after further replacements -/
def appT (b : Nat) (T : List (List Nat)) (ns : List Int) : List (List Nat) := ns.foldl (fun T k => T ++ [sqT b [k] (lastT T) 0]) T
theorem appT_snoc (b : Nat) (T : List (List Nat)) (ns : List Int) (k : Int) : appT b T (ns ++ [k]) = appT b T ns ++ [sqT b [k] (lastT (appT b T ns)) 0] := by
  unfold appT
  rw [List.foldl_append]
  rfl
theorem appT_len (b : Nat) : ∀ (ns : List Int) (T : List (List Nat)), (appT b T ns).length = T.length + ns.length
  | [], _ => rfl
  | k :: r, T => by
    have := appT_len b r (T ++ [sqT b [k] (lastT T) 0])
    show (appT b (T ++ [sqT b [k] (lastT T) 0]) r).length = T.length + (r.length + 1)
    rw [this, List.length_append]
    show T.length + 1 + r.length = _
    omega
theorem lastT_mem {T : List (List Nat)} (h : T ≠ []) : lastT T ∈ T := by
  unfold lastT
  rw [List.getLast?_eq_some_getLast h]
  exact List.getLast_mem h
theorem lastT_size {T : List (List Nat)} (h : ∀ l ∈ T, l.length ≤ 2000) : (lastT T).length ≤ 2000 := by
  by_cases e : T = []
  · rw [e]
    exact Nat.zero_le _
  · exact h _ (lastT_mem e)
theorem sqT_size {b : Nat} {k : Int} (hk : 2 ≤ k) {l : List Nat} (h : l.length ≤ 2000) : (sqT b [k] l 0).length ≤ 2000 := by
  have := sqT_len (b := b) (ks := [k]) (fun x hx => by rw [List.mem_singleton.mp hx]; exact hk) l 0 (by decide)
  omega
/-- a replacement greater than all runs changes nothing -/
theorem once_less {n k : Int} (h0 : 0 ≤ n) (h : n < k) : once n k = n := by
  unfold once
  rw [Int.ediv_eq_zero_of_lt h0 h, Int.emod_eq_of_lt h0 h, Int.zero_add]
theorem sqT_less {b : Nat} {k : Int} : ∀ (xs : List Nat) (r : Int), 0 ≤ r → (∀ y ∈ lbw b xs r, y < k) → sqT b [k] xs r = List.replicate r.toNat b ++ xs
  | [], r, h0, h => by
    have e : sq r [k] = r := once_less h0 (h r List.mem_cons_self)
    show List.replicate (sq r [k]).toNat b = _
    rw [e, List.append_nil]
  | x :: xs, r, h0, h => by
    rw [lbw_cons] at h
    rw [sqT_cons]
    by_cases c : x = b
    · rw [if_pos c] at h ⊢
      rw [sqT_less xs (r + 1) (by omega) h, show (r + 1).toNat = r.toNat + 1 by omega, List.replicate_succ', List.append_assoc, c]
      rfl
    · rw [if_neg c] at h ⊢
      have e : sq r [k] = r := once_less h0 (h r List.mem_cons_self)
      rw [e, sqT_less xs 0 (by decide) fun y hy => h y (List.mem_cons_of_mem _ hy)]
      rfl
/-- the greatest of the runs' lengths -/
def IsMax (b : Nat) (l : List Nat) (m : Int) : Prop := m ∈ lbw b l 0 ∧ ∀ y ∈ lbw b l 0, y ≤ m
theorem IsMax.uniq {b : Nat} {l : List Nat} {m m' : Int} (h : IsMax b l m) (h' : IsMax b l m') : m = m' := Int.le_antisymm (h'.2 _ h.1) (h.2 _ h'.1)
theorem lbw_pos (b : Nat) (l : List Nat) (r : Int) : 0 < (lbw b l r).length := by rw [lbw_len]; exact Nat.succ_pos _
structure Lc (K : PySem.W.Frag) (C : Addr) : Prop where
  cl : Cls K C
  nC : NoAttr K C "_character"
  nR : NoAttr K C "_replacements"
  nT : NoAttr K C "_texts"
section
variable {P : Program} {w : World} {K : PySem.W.Frag} {mg : Str → Option Value} {base : Heap} {C : Addr}
def spLvInit (C : Addr) (n : Nat) (u0 : Value) : Sp := fun vs H Q _ => ∃ (p dx : Addr) (l : List Nat) (b : Nat), vs = [.ref p, .str (SX.S l), .str ⟨#[b]⟩] ∧ Live H p C dx (fun _ => none) [] ∧ l.length ≤ 2000 ∧
  ∀ r t H', H r = none → H t = none → Txt2 C H' p dx r t u0 b [l] [] → (∀ a o, H a = some o → a ≠ dx → H' a = some o) → Q .non H'
theorem ok_lvinit {f : Addr} {fd : FuncData} (F : Fun K "__init__" "SqueezedText.__init__" s_SqueezedTextinit f fd) (T : Lc K C) (D_checkcharacter : Df P w K mg base 1 "check_character" ["character"] spCheckChr) : FnW P w K mg base 2 f fd ["self", "text", "character"] 2 (spLvInit C) := by
  refine fnw_ofL F sc_SqueezedTextinit (fun n u vs H Q E h => ?_) (y := "character") rfl rfl (fun cdv A outer s H us vs Q n u0 hr h rv hu => ?_)
  · obtain ⟨p, dx, l, b, rfl, _⟩ := h
    rfl
  · obtain ⟨p, dx, l, b, rfl, L, hl, q⟩ := h
    have cl : Clo (cxOf CX0 P w K mg base ["self", "text", "character"] "SqueezedText.__init__" (defScope s_SqueezedTextinit) f cdv A outer s H E0).nox ["character"] (fun s' => Raw (cxOf CX0 P w K mg base ["self", "text", "character"] "SqueezedText.__init__" (defScope s_SqueezedTextinit) f cdv A outer s H E0).nox "character" u0 s' ∧ n ≤ s'.toks) := (clo_raw rfl).and clo_n
    have kn : KnownU (cxOf CX0 P w K mg base ["self", "text", "character"] "SqueezedText.__init__" (defScope s_SqueezedTextinit) f cdv A outer s H E0).nox (fun s' => Raw (cxOf CX0 P w K mg base ["self", "text", "character"] "SqueezedText.__init__" (defScope s_SqueezedTextinit) f cdv A outer s H E0).nox "character" u0 s' ∧ n ≤ s'.toks) "character" u0 := ⟨fun s' h => .inl ⟨rfl, h.1⟩⟩
    refine ⟨_, wu_cons (ws_expr (we_callD cl D_checkcharacter (hr.mono (by omega)) (by rfl) (wa_cons (wv 2) wa_nil)))
      (ps_fldK (i := 2) kn rfl (Or.inl rfl) (wv 0) (wu_ps (pss_cons (ps_fldL (pv 0) (pe_lst pa_nil)) (pss_one (ps_fldL (pv 0) (pe_lst (pa_cons (pv 1) pa_nil)))))) (fun s' h => h.2)), ?_⟩
    have z1 : 1 ≤ sizeLine := Nat.le_of_lt (small1000 (by decide))
    refine ⟨_, rfl, ⟨#[b]⟩, rfl, rfl, ?_⟩
    refine ⟨_, rfl, fun ru => ⟨_, rfl, p, C, dx, _, [], rfl, L, T.cl, T.nC, by decide, ?_⟩⟩
    have L1 : Live (upd H dx (dicO dx (putM (fun _ => none) "_character" u0) ["_character"])) p C dx (putM (fun _ => none) "_character" u0) ["_character"] := ⟨by rw [upd_ne (Ne.symm L.ne)]; exact L.i, upd_same, L.ne⟩
    have k1 : ∀ a o, H a = some o → a ≠ dx → (upd H dx (dicO dx (putM (fun _ => none) "_character" u0) ["_character"])) a = some o := fun a o e n => by rw [upd_ne n]; exact e
    have f1 : ∀ a, (upd H dx (dicO dx (putM (fun _ => none) "_character" u0) ["_character"])) a = none → H a = none := fun a e => by
      by_cases z : a = dx
      · rw [z, upd_same] at e; cases e
      · rwa [upd_ne z] at e
    generalize upd H dx (dicO dx (putM (fun _ => none) "_character" u0) ["_character"]) = H1 at L1 k1 f1
    refine ⟨Nat.zero_le _, fun r hr1 => ⟨_, rfl, p, C, dx, _, _, rfl, L1.same (same_new hr1), T.cl, T.nR, by decide, fun u1 ru1 => ?_⟩⟩
    obtain rfl : u1 = Value.ref r := ru1
    have L1' := L1.same (same_new (o := .lst []) hr1)
    have ndr : dx ≠ r := ne_of_none L1.d hr1
    have gr : (upd H1 r (.lst [])) r = some (.lst []) := upd_same
    have k2 : ∀ a o, H a = some o → a ≠ dx → (upd H1 r (.lst [])) a = some o := fun a o e n => same_new hr1 _ _ (k1 a o e n)
    have f2 : ∀ a, (upd H1 r (.lst [])) a = none → H a = none := fun a e => f1 a ((same_new hr1).free e)
    generalize upd H1 r (.lst []) = H2 at L1' gr k2 f2
    have L2' : Live (upd H2 dx (dicO dx (putM (putM (fun _ => none) "_character" u0) "_replacements" (.ref r)) ["_replacements", "_character"])) p C dx (putM (putM (fun _ => none) "_character" u0) "_replacements" (.ref r)) ["_replacements", "_character"] := ⟨by rw [upd_ne (Ne.symm L1'.ne)]; exact L1'.i, upd_same, L1'.ne⟩
    have gr3 : (upd H2 dx (dicO dx (putM (putM (fun _ => none) "_character" u0) "_replacements" (.ref r)) ["_replacements", "_character"])) r = some (.lst []) := by rw [upd_ne (Ne.symm ndr)]; exact gr
    have k3 : ∀ a o, H a = some o → a ≠ dx → (upd H2 dx (dicO dx (putM (putM (fun _ => none) "_character" u0) "_replacements" (.ref r)) ["_replacements", "_character"])) a = some o := fun a o e n => by rw [upd_ne n]; exact k2 a o e n
    have f3 : ∀ a, (upd H2 dx (dicO dx (putM (putM (fun _ => none) "_character" u0) "_replacements" (.ref r)) ["_replacements", "_character"])) a = none → H a = none := fun a e => by
      by_cases z : a = dx
      · rw [z, upd_same] at e; cases e
      · rw [upd_ne z] at e
        exact f2 a e
    generalize upd H2 dx (dicO dx (putM (putM (fun _ => none) "_character" u0) "_replacements" (.ref r)) ["_replacements", "_character"]) = H3 at L2' gr3 k3 f3
    refine ⟨_, rfl, z1, fun t ht => ⟨_, rfl, p, C, dx, _, _, rfl, L2'.same (same_new ht), T.cl, T.nT, by decide, fun u2 ru2 => ?_⟩⟩
    obtain rfl : u2 = Value.ref t := ru2
    have L3 := L2'.same (same_new (o := .lst [V.str (SX.S l)]) ht)
    have ndt : dx ≠ t := ne_of_none L2'.d ht
    have nrt : r ≠ t := ne_of_none gr3 ht
    refine q r t _ (f1 r hr1) (f3 t ht) ⟨⟨_, ⟨by rw [upd_ne (Ne.symm L3.ne)]; exact L3.i, upd_same, L3.ne⟩, ?_, ?_, ?_, fun f n1 n2 n3 => ?_⟩, ru, ?_, ?_, nrt, rfl, fun x hx => by rw [List.mem_singleton.mp hx]; exact hl⟩ fun a o e n => ?_
    · show (if ("_character" : Str) = "_texts" then _ else if ("_character" : Str) = "_replacements" then _ else if ("_character" : Str) = "_character" then some u0 else none) = some u0
      rw [if_neg nCT, if_neg nCR, if_pos rfl]
    · show (if ("_replacements" : Str) = "_texts" then _ else if ("_replacements" : Str) = "_replacements" then some (Value.ref r) else _) = some (Value.ref r)
      rw [if_neg nRT, if_pos rfl]
    · show (if ("_texts" : Str) = "_texts" then some (Value.ref t) else _) = some (Value.ref t)
      rw [if_pos rfl]
    · show (if f = "_texts" then _ else if f = "_replacements" then _ else if f = "_character" then _ else none) = none
      rw [if_neg n3, if_neg n2, if_neg n1]
    · rw [upd_ne (Ne.symm ndr), upd_ne nrt]
      exact gr3
    · rw [upd_ne (Ne.symm ndt), upd_same]
      rfl
    · rw [upd_ne n]
      exact same_new ht _ _ (k3 a o e n)
end
end Sq
set_option Elab.async false
set_option linter.all false
set_option maxRecDepth 100000
set_option maxHeartbeats 8000000
set_option exponentiation.threshold 2000
namespace Sq
open PySem PySem.Spec PyProof.Rows L2
theorem atI_tail {α : Type} (xs : List α) (v : α) : atI (xs ++ [v]) (-1) = some v := by
  have hl : (xs ++ [v]).length = xs.length + 1 := by simp
  unfold atI ixN
  rw [if_neg (by decide), hl, if_pos (by omega)]
  show (xs ++ [v])[((-1 : Int) + ((xs.length + 1 : Nat) : Int)).toNat]? = some v
  rw [show ((-1 : Int) + ((xs.length + 1 : Nat) : Int)).toNat = xs.length by omega, List.getElem?_append_right (Nat.le_refl _), Nat.sub_self]
  rfl
section
variable {P : Program} {w : World} {K : PySem.W.Frag} {mg : Str → Option Value} {base : Heap} {C : Addr}
def spText (C : Addr) : Sp := fun vs H Q _ => ∃ (p dx r t : Addr) (u0 : Value) (b : Nat) (T : List (List Nat)) (ks : List Int), vs = [.ref p] ∧ Txt2 C H p dx r t u0 b T ks ∧ Q (.str (SX.S (lastT T))) H
theorem ok_text {f : Addr} {fd : FuncData} (F : Fun K "text" "SqueezedText.text" s_SqueezedTexttext f fd) (Z : Lc K C) : FnOk P w K mg base CX0 1 f fd ["self"] (spText C) := by
  refine F.ok sc_SqueezedTexttext (fun vs H Q E h => ?_) (fun cdv A outer s H vs Q E hr h => ?_)
  · obtain ⟨p, dx, r, t, u0, b, T, ks, rfl, _⟩ := h
    rfl
  · obtain ⟨p, dx, r, t, u0, b, T, ks, rfl, L, q⟩ := h
    refine ⟨_, (pss_one (ps_ret (pe_ix (r := rIxL K) ix_list (pe_fldL (pv 0)) (pe_un un_neg pe_int) (fun _ _ => rfl)))), ?_⟩
    obtain ⟨m, LL, mC, mR, mT, mN⟩ := L.m
    obtain ⟨T0, l, eT⟩ : ∃ T0 l, T = T0 ++ [l] := by
      rcases List.eq_nil_or_concat T with e | ⟨T0, l, e⟩
      · have := L.len
        rw [e] at this
        simp at this
      · exact ⟨T0, l, by rw [e, List.concat_eq_append]⟩
    subst eT
    rw [lastT_snoc] at q
    refine ⟨_, rfl, p, C, dx, m, _, .ref t, .ref t, rfl, LL, Z.cl, Z.nT, mT, rfl, 1, rfl, t, _, -1, .str (SX.S l), rfl, rfl, SqL.of L.tx, ?_, q⟩
    rw [List.map_append]
    exact atI_tail _ _
def spReps (C : Addr) : Sp := fun vs H Q _ => ∃ (p dx r t : Addr) (u0 : Value) (b : Nat) (T : List (List Nat)) (ks : List Int), vs = [.ref p] ∧ Txt2 C H p dx r t u0 b T ks ∧ ∀ l, H l = none → Q (.ref l) (upd H l (.lst (ks.map V.int)))
theorem ok_reps {f : Addr} {fd : FuncData} (F : Fun K "replacements" "SqueezedText.replacements" s_SqueezedTextreplacements f fd) (B : Bi mg) (Z : Lc K C) : FnOk P w K mg base CX0 1 f fd ["self"] (spReps C) := by
  refine F.ok sc_SqueezedTextreplacements (fun vs H Q E h => ?_) (fun cdv A outer s H vs Q E hr h => ?_)
  · obtain ⟨p, dx, r, t, u0, b, T, ks, rfl, _⟩ := h
    rfl
  · obtain ⟨p, dx, r, t, u0, b, T, ks, rfl, L, q⟩ := h
    refine ⟨_, (pss_one (ps_ret (pe_callTy (T := "list") (r := rListK K) call_listK (by rfl) B.n_list (by decide +kernel) (pa_cons (pe_fldL (pv 0)) pa_nil)))), ?_⟩
    obtain ⟨m, LL, mC, mR, mT, mN⟩ := L.m
    exact ⟨_, rfl, p, C, dx, m, _, .ref r, .ref r, rfl, LL, Z.cl, Z.nR, mR, rfl, r, _, rfl, .inl (SqL.of L.rp), fun l hl => q l hl⟩
def spLongest (C : Addr) : Sp := fun vs H Q _ => ∃ (p dx r t : Addr) (u0 : Value) (b : Nat) (T : List (List Nat)) (ks : List Int), vs = [.ref p] ∧ Txt2 C H p dx r t u0 b T ks ∧ ∀ m H', IsMax b (lastT T) m → Same H H' → Q (.int m) H'
theorem ok_longest {f : Addr} {fd : FuncData} (F : Fun K "longest" "SqueezedText.longest" s_SqueezedTextlongest f fd) (B : Bi mg) (Z : Lc K C) (P_text : Pr P w K mg base 1 C "text" (spText C)) (D_lengthsbetween : Df P w K mg base 1 "lengths_between" ["text", "character"] spBetween) : FnOk P w K mg base CX0 3 f fd ["self"] (spLongest C) := by
  refine F.ok sc_SqueezedTextlongest (fun vs H Q E h => ?_) (fun cdv A outer s H vs Q E hr h => ?_)
  · obtain ⟨p, dx, r, t, u0, b, T, ks, rfl, _⟩ := h
    rfl
  · obtain ⟨p, dx, r, t, u0, b, T, ks, rfl, L, q⟩ := h
    refine ⟨_, (pss_one (ps_ret (pe_callB (id := "max") (cr_max rfl) (by rfl) B.n_max (by decide +kernel) (pa_cons (pe_callD D_lengthsbetween (hr.mono (by omega)) (by rfl) (pa_cons (pe_prL P_text (hr.mono (by omega)) (pv 0)) (pa_cons (pe_fldL (pv 0)) pa_nil))) pa_nil)))), ?_⟩
    obtain ⟨m, LL, mC, mR, mT, mN⟩ := L.m
    have l2 := lastT_size L.sz
    refine ⟨_, rfl, p, dx, m, _, rfl, LL, p, dx, r, t, u0, b, T, ks, rfl, L, ?_⟩
    refine ⟨_, rfl, p, C, dx, m, _, u0, _, rfl, LL, Z.cl, Z.nC, mC, L.u, ?_⟩
    refine ⟨SX.S (lastT T), b, rfl, by rw [SX.S_len]; omega, fun a H' na s' ga => ?_⟩
    exact ⟨a, _, rfl, SqL.of ga, lbw_pos b _ 0, fun mm h1 h2 => q mm H' ⟨h1, h2⟩ s'⟩
/-- the check of the numbers, as a tuple -/
def spCheckListT : Sp := fun vs H Q _ => ∃ (a : Addr) (ks : List Int), vs = [.ref a] ∧ H a = some (.tup (ks.map V.int)) ∧ (∀ k ∈ ks, 2 ≤ k) ∧ ∀ H', Same H H' → Q .non H'
theorem ok_checklistT {f : Addr} {fd : FuncData} (F : Fun K "check_list" "check_list" s_checklist f fd) (B : Bi mg) : FnOk P w K mg base CX0 1 f fd ["replacements"] spCheckListT := by
  refine F.ok sc_checklist (fun vs H Q E h => ?_) (fun cdv A outer s H vs Q E hr h => ?_)
  · obtain ⟨a, ks, rfl, _⟩ := h
    rfl
  · obtain ⟨a, ks, rfl, hS, hk, q⟩ := h
    refine ⟨_, (pss_one (ps_for PassesOwn.never rfl (pi_enumT (by rfl) B.n_enumerate (pa_cons (pv 0) pa_nil)) (pg_tup rfl (pgs_cons (pg_name (i := 1) sc_checklist.nd rfl (Or.inl rfl)) (pgs_cons (pg_name (i := 2) sc_checklist.nd rfl (Or.inl rfl)) pgs_nil)))
      (pss_one (ps_if (pt_cmpR op_lt (pv 2) pe_int (nomark _)) (pss_one ps_never) pss_nil)))), ?_⟩
    refine ⟨_, rfl, a, ks.map V.int, rfl, .inl (.inl hS), for_it (walk_enumT (K := K) (a := a) (xs := ks.map V.int)) (fun i σ H' => Same H H' ∧ ∃ y z, σ = [some (.ref a), y, z]) ⟨Same.refl H, none, none, rfl⟩ (fun i σ H' _ h => .inl (.inl (h.1 _ _ hS))) ?_ ?_⟩
    · rintro i σ H' v H2 hi ⟨sm, y, z, rfl⟩ ⟨T, x2, rfl, nT, rfl, e2⟩
      obtain ⟨k, hk', rfl⟩ := map_at e2
      refine ⟨T, _, rfl, .inl (.inl upd_same), rfl, _, _, rfl, _, _, rfl, rfl, ?_⟩
      refine ⟨_, rfl, _, _, rfl, rfl, _, rfl, ite2 (fun c => ?_) (fun c => ?_)⟩
      · have := hk k (List.mem_of_getElem? hk')
        have c' : k < 2 := of_decide_eq_true c
        omega
      · exact ⟨sm.trans (same_new nT), _, _, rfl⟩
    · rintro σ H' ⟨sm, y, z, rfl⟩
      exact q H' sm
/-- squeeze, with good numbers -/
def spSqueeze (C : Addr) (n : Nat) : Sp := fun vs H Q _ => ∃ (p dx r t a : Addr) (u0 : Value) (b : Nat) (T : List (List Nat)) (ks ns : List Int), vs = [.ref p, .ref a] ∧ H a = some (.tup (ns.map V.int)) ∧ Txt2 C H p dx r t u0 b T ks ∧ Tkn 0 [u0] n ∧ Rpl ns ∧ ks.length + ns.length ≤ 100000 ∧
  ∀ H', Txt2 C H' p dx r t u0 b (appT b T ns) (ks ++ ns) → But2 H H' r t → Q .non H'
theorem ok_squeeze {f : Addr} {fd : FuncData} (F : Fun K "squeeze" "SqueezedText.squeeze" s_SqueezedTextsqueeze f fd) (B : Bi mg) (Z : Lc K C) (P_text : Pr P w K mg base 1 C "text" (spText C)) (P_longest : Pr P w K mg base 3 C "longest" (spLongest C)) (D_lengthsbetween : Df P w K mg base 1 "lengths_between" ["text", "character"] spBetween)
    (D_checklistT : Df P w K mg base 1 "check_list" ["replacements"] spCheckListT) (T_squeezetext : DfT P w K mg base 4 "squeeze_text" ["text", "character", "replacements"] 1 (spSqT K)) : FnV P w K mg base 5 f (spSqueeze C) := by
  refine fnv_of (k := 4) F sc_SqueezedTextsqueeze (fun n vs H Q E h => ?_) (fun kV doc pm an cdv ct u1 us => ?_) (fun cdv A outer s H vs Q n hr h => ?_)
  · obtain ⟨p, dx, r, t, a, u0, b, T, ks, ns, rfl, _⟩ := h
    rfl
  · cases us with
    | nil => rfl
    | cons a r => rfl
  · obtain ⟨p, dx, r, t, a, u0, b, T, ks, ns, rfl, ha, L, good, rpl, few, q⟩ := h
    refine ⟨_, wu_of (wss_cons (ws_ofP (ps_expr (pe_callD D_checklistT (hr.mono (by omega)) (by rfl) (pa_cons (pv 1) pa_nil))))
      (wss_cons (ws_ofP (ps_set (i := 2) sc_SqueezedTextsqueeze.nd rfl (Or.inl rfl) (pe_prL P_longest (hr.mono (by omega)) (pv 0))))
      (wss_one (ws_forT rfl PassesOwn.never clo_n (we_ofP (pv 1)) (wg_name (i := 3) clo_n (by decide) sc_SqueezedTextsqueeze.nd rfl (Or.inl rfl))
        (wss_cons (ws_ofP (ps_set (i := 4) sc_SqueezedTextsqueeze.nd rfl (Or.inl rfl) (pe_prL P_text (hr.mono (by omega)) (pv 0))))
        (wss_cons (ws_if (wt_ofP (pt_cmpR op_le (pv 3) (pv 2) (nomark _)))
          (wss_cons (ws_set (i := 4) clo_n (by decide) sc_SqueezedTextsqueeze.nd rfl (Or.inl rfl) (we_callT clo_n T_squeezetext (hr.mono (by omega)) (by rfl) (wx_skip (we_ofP (pv 4)) (wx_fld clo_n (fun _ h => h) (we_ofP (pv 0)) (wa_ofP (pa_cons (pe_lst (pa_cons (pv 3) pa_nil)) pa_nil))))))
          (wss_one (ws_ofP (ps_set (i := 2) sc_SqueezedTextsqueeze.nd rfl (Or.inl rfl) (pe_callB (id := "max") (cr_max rfl) (by rfl) B.n_max (by decide +kernel) (pa_cons (pe_callD D_lengthsbetween (hr.mono (by omega)) (by rfl) (pa_cons (pv 4) (pa_cons (pe_fldL (pv 0)) pa_nil))) pa_nil))))))
          wss_nil)
        (wss_cons (ws_ofP (ps_expr (pe_bm PySem.F.plainAttrs_list PySem.F.slot_list_append PySem.F.type_list_append mt_append (pe_fldL (pv 0)) (pa_cons (pv 3) pa_nil))))
        (wss_one (ws_ofP (ps_expr (pe_bm PySem.F.plainAttrs_list PySem.F.slot_list_append PySem.F.type_list_append mt_append (pe_fldL (pv 0)) (pa_cons (pv 4) pa_nil))))))))))) ), ?_⟩
    have szl : sizeLine = 16777216 := sizeLine_eq
    have z1 : 1 ≤ sizeLine := by omega
    have nar : a ≠ r := ne_of ha L.rp (by intro z; cases z)
    have nat : a ≠ t := ne_of ha L.tx (by intro z; cases z)
    obtain ⟨m, LL, mC, mR, mT, mN⟩ := L.m
    refine ⟨_, rfl, a, ns, rfl, ha, rpl.two, fun H1 s1 => ?_⟩
    refine ⟨_, rfl, p, dx, m, _, rfl, LL.same s1, p, dx, r, t, u0, b, T, ks, rfl, L.same s1, fun mx H2 hm s2 => ?_⟩
    have s02 := s1.trans s2
    refine ⟨_, rfl, a, ns.map V.int, rfl, .inl (.inl (s02 _ _ ha)), (fun i σ H' => ∃ mx y3 y4, σ = [some (.ref p), some (.ref a), some (.int mx), y3, y4] ∧ Txt2 C H' p dx r t u0 b (appT b T (ns.take i)) (ks ++ ns.take i) ∧ IsMax b (lastT (appT b T (ns.take i))) mx ∧ But2 H H' r t),
      ⟨mx, none, none, rfl, by rw [List.take_zero, List.append_nil]; exact L.same s02, hm, But2.of s02⟩, fun i σ H' h => by obtain ⟨_, _, _, _, _, _, k⟩ := h; exact .inl (.inl (k _ _ ha nar nat)), ?_, ?_⟩
    · rintro i z σ H3 hz ⟨mx, y3, y4, rfl, L3, hm3, k3⟩
      obtain ⟨k, ek, rfl⟩ := map_at hz
      have il : i < ns.length := (List.getElem?_eq_some_iff.mp ek).1
      have rk := rpl k (List.mem_of_getElem? ek)
      obtain ⟨TT, eTT⟩ : ∃ TT, TT = appT b T (ns.take i) := ⟨_, rfl⟩
      have eN : ns.take (i + 1) = ns.take i ++ [k] := by rw [List.take_add_one, ek]; rfl
      rw [← eTT] at L3 hm3
      have ll := lastT_size L3.sz
      obtain ⟨l, el⟩ : ∃ l, l = lastT TT := ⟨_, rfl⟩
      rw [← el] at hm3 ll
      have eA : appT b T (ns.take (i + 1)) = TT ++ [sqT b [k] l 0] := by rw [eN, appT_snoc, ← eTT, ← el]
      have eK : ks ++ ns.take (i + 1) = ks ++ ns.take i ++ [k] := by rw [eN, List.append_assoc]
      obtain ⟨m3, LL3, mC3, mR3, mT3, mN3⟩ := id L3.m
      refine ⟨_, rfl, p, dx, m3, _, rfl, LL3, p, dx, r, t, u0, b, TT, _, rfl, L3, ?_⟩
      rw [← el]
      refine tellNx (fun σ2 H4 => ∃ mx', σ2 = [some (.ref p), some (.ref a), some (.int mx'), some (.int k), some (.str (SX.S (sqT b [k] l 0)))] ∧ Same H3 H4 ∧ IsMax b (sqT b [k] l 0) mx') (fun N hN => ?_) (fun σ2 H4 h4 => ?_)
      · refine ⟨_, rfl, _, rfl, k, mx, rfl, rfl, _, rfl, ite2 (fun c => ?_) (fun c => ?_)⟩
        · refine ⟨_, rfl, _, rfl, p, C, dx, m3, _, u0, _, rfl, LL3, Z.cl, Z.nC, mC3, good, L.u, _, rfl, z1, fun l1 hl1 => ⟨SX.S l, b, l1, [k], rfl, SqL.of upd_same, fun x hx => by rw [List.mem_singleton.mp hx]; exact rk, by rw [SX.S_len]; omega, fun H5 s5 => ?_⟩⟩
          have s35 := (same_new (o := .lst [V.int k]) hl1).trans s5
          have sl := sqT_size (b := b) rk.1 ll
          refine ⟨_, rfl, _, rfl, p, C, dx, m3, _, u0, _, rfl, LL3.same s35, Z.cl, Z.nC, mC3, L.u, SX.S (sqT b [k] l 0), b, rfl, by rw [SX.S_len]; omega, fun a6 H6 na6 s6 ga6 => ?_⟩
          exact ⟨a6, _, rfl, SqL.of ga6, lbw_pos b _ 0, fun mm h1 h2 => hN _ _ ⟨mm, rfl, s35.trans s6, h1, h2⟩⟩
        · have e : sqT b [k] l 0 = l := by
            have lt : ¬ k ≤ mx := fun z => c (decide_eq_true z)
            rw [sqT_less l 0 (by decide) fun y hy => by have := hm3.2 y hy; omega]
            rfl
          exact hN _ _ ⟨mx, by rw [e]; rfl, Same.refl _, by rw [e]; exact hm3⟩
      · obtain ⟨mx', rfl, s4, hm4⟩ := h4
        have L4 := L3.same s4
        obtain ⟨m4, LL4, mC4, mR4, mT4, mN4⟩ := id L4.m
        have lenK : (ks ++ ns.take i).length ≤ 100000 := by
          rw [List.length_append, List.length_take]
          omega
        have lenT := L4.len
        refine ⟨_, rfl, p, C, dx, m4, _, .ref r, .ref r, rfl, LL4, Z.cl, Z.nR, mR4, rfl, .inl ⟨rfl, _, SqL.of L4.rp⟩, _, rfl, r, _, _, rfl, rfl, L4.rp, by rw [List.length_map]; omega, ?_⟩
        have t5 : (upd H4 r (.lst ((ks ++ ns.take i).map V.int ++ [V.int k]))) t = some (.lst (TT.map fun l => V.str (SX.S l))) := by rw [upd_ne (Ne.symm L4.ne)]; exact L4.tx
        have nrd : ∀ {x : Addr} {φ : Heap → Prop}, H4 x = some (.ext φ) → x ≠ r := fun {x φ} h => ne_of h L4.rp (by intro z; cases z)
        have LL5 : Live (upd H4 r (.lst ((ks ++ ns.take i).map V.int ++ [V.int k]))) p C dx m4 lvN := ⟨by rw [upd_ne (nrd LL4.i)]; exact LL4.i, by rw [upd_ne (nrd LL4.d)]; exact LL4.d, LL4.ne⟩
        refine ⟨_, rfl, p, C, dx, m4, _, .ref t, .ref t, rfl, LL5, Z.cl, Z.nT, mT4, rfl, .inl ⟨rfl, _, SqL.of t5⟩, _, rfl, t, _, _, rfl, rfl, t5, by rw [List.length_map]; omega, ?_⟩
        have kk : But2 H4 (upd (upd H4 r (.lst ((ks ++ ns.take i).map V.int ++ [V.int k]))) t (.lst ((TT.map fun l => V.str (SX.S l)) ++ [V.str (SX.S (sqT b [k] l 0))]))) r t := fun x o e n1 n2 => by rw [upd_ne n2, upd_ne n1]; exact e
        have fin : Txt2 C (upd (upd H4 r (.lst ((ks ++ ns.take i).map V.int ++ [V.int k]))) t (.lst ((TT.map fun l => V.str (SX.S l)) ++ [V.str (SX.S (sqT b [k] l 0))]))) p dx r t u0 b (TT ++ [sqT b [k] l 0]) (ks ++ ns.take i ++ [k]) := by
          refine L4.but kk ?_ ?_ ?_ fun x hx => ?_
          · rw [upd_ne L4.ne, upd_same, ← List.map_singleton, ← List.map_append]
          · rw [upd_same, List.map_append]
            rfl
          · rw [List.length_append, List.length_append, lenT]
            rfl
          · rcases List.mem_append.mp hx with z | z
            · exact L4.sz x z
            · rw [List.mem_singleton.mp z]
              exact sqT_size rk.1 ll
        exact ⟨mx', _, _, rfl, by rw [eA, eK]; exact fin, by rw [eA, lastT_snoc]; exact hm4, (k3.trans (But2.of s4)).trans kk⟩
    · rintro σ H3 ⟨mx, y3, y4, rfl, L3, hm3, k3⟩
      rw [List.length_map, List.take_length] at L3
      exact q H3 L3 k3
end
end Sq
set_option Elab.async false
set_option linter.all false
set_option maxRecDepth 100000
set_option maxHeartbeats 8000000
set_option exponentiation.threshold 2000
namespace Sq
open PySem PySem.Spec PyProof.Rows L2
section
variable {P : Program} {w : World} {K : PySem.W.Frag} {mg : Str → Option Value} {base : Heap} {C : Addr}
/-- undo, where there is something to take back -/
def spUndo (C : Addr) : Sp := fun vs H Q _ => ∃ (p dx r t : Addr) (u0 : Value) (b : Nat) (T : List (List Nat)) (l : List Nat) (ks : List Int) (k : Int), vs = [.ref p] ∧ Txt2 C H p dx r t u0 b (T ++ [l]) (ks ++ [k]) ∧ ∀ H', Txt2 C H' p dx r t u0 b T ks → But2 H H' r t → Q .non H'
theorem ok_undo {f : Addr} {fd : FuncData} (F : Fun K "undo" "SqueezedText.undo" s_SqueezedTextundo f fd) (Z : Lc K C) : FnOk P w K mg base CX0 1 f fd ["self"] (spUndo C) := by
  refine F.ok sc_SqueezedTextundo (fun vs H Q E h => ?_) (fun cdv A outer s H vs Q E hr h => ?_)
  · obtain ⟨p, dx, r, t, u0, b, T, l, ks, k, rfl, _⟩ := h
    rfl
  · obtain ⟨p, dx, r, t, u0, b, T, l, ks, k, rfl, L, q⟩ := h
    refine ⟨_, (pss_cons (ps_if (pt_not (pt_truth (pe_fldL (pv 0)) (by intro _; rfl)))
      (pss_one ps_never)
      pss_nil)
      (pss_cons (ps_expr (pe_bm0 PySem.F.plainAttrs_list PySem.F.slot_list_pop PySem.F.type_list_pop mt_pop (pe_fldL (pv 0))))
      (pss_one (ps_expr (pe_bm0 PySem.F.plainAttrs_list PySem.F.slot_list_pop PySem.F.type_list_pop mt_pop (pe_fldL (pv 0))))))), ?_⟩
    · obtain ⟨m, LL, mC, mR, mT, mN⟩ := L.m
      refine ⟨_, rfl, p, C, dx, m, _, .ref r, .ref r, rfl, LL, Z.cl, Z.nR, mR, rfl, _, .inl ⟨_, SqL.of L.rp, rfl⟩, ?_⟩
      have ne : ((ks ++ [k]).map V.int).isEmpty = false := by rw [List.map_append]; cases (ks.map V.int) <;> rfl
      rw [ne]
      refine iteF ?_
      have lenT := L.len
      refine ⟨_, rfl, p, C, dx, m, _, .ref r, .ref r, rfl, LL, Z.cl, Z.nR, mR, rfl, .inl ⟨rfl, _, SqL.of L.rp⟩, r, _, .int k, rfl, rfl, L.rp, ?_, ?_⟩
      · rw [List.map_append, List.length_append, List.map_singleton, List.length_singleton, Nat.add_sub_cancel, List.getElem?_append_right (Nat.le_refl _), Nat.sub_self]
        rfl
      rw [List.map_append, List.map_singleton, List.dropLast_concat]
      have t5 : (upd H r (.lst (ks.map V.int))) t = some (.lst ((T ++ [l]).map fun l => V.str (SX.S l))) := by rw [upd_ne (Ne.symm L.ne)]; exact L.tx
      have nrd : ∀ {x : Addr} {φ : Heap → Prop}, H x = some (.ext φ) → x ≠ r := fun {x φ} h => ne_of h L.rp (by intro z; cases z)
      have LL5 : Live (upd H r (.lst (ks.map V.int))) p C dx m lvN := ⟨by rw [upd_ne (nrd LL.i)]; exact LL.i, by rw [upd_ne (nrd LL.d)]; exact LL.d, LL.ne⟩
      refine ⟨_, rfl, p, C, dx, m, _, .ref t, .ref t, rfl, LL5, Z.cl, Z.nT, mT, rfl, .inl ⟨rfl, _, SqL.of t5⟩, t, _, .str (SX.S l), rfl, rfl, t5, ?_, ?_⟩
      · rw [List.map_append, List.length_append, List.map_singleton, List.length_singleton, Nat.add_sub_cancel, List.getElem?_append_right (Nat.le_refl _), Nat.sub_self]
        rfl
      rw [List.map_append, List.map_singleton, List.dropLast_concat]
      have kk : But2 H (upd (upd H r (.lst (ks.map V.int))) t (.lst (T.map fun l => V.str (SX.S l)))) r t := fun x o e n1 n2 => by rw [upd_ne n2, upd_ne n1]; exact e
      refine q _ (L.but kk (by rw [upd_ne L.ne, upd_same]) upd_same ?_ fun x hx => L.sz x (List.mem_append_left _ hx)) kk
      rw [List.length_append, List.length_append] at lenT
      simp only [List.length_cons, List.length_nil] at lenT
      omega
end
end Sq
set_option Elab.async false
set_option linter.all false
set_option maxRecDepth 100000
set_option maxHeartbeats 1000000
namespace Sq
open PySem PySem.Spec PyProof.Rows L2
theorem passG {X : Cx} : Passes (CX X.prog X.w) X E0 := fun pins σ H s e s' I h => by
  obtain ⟨a, B, H', cls, d, _, _, _, _, _, _, _, z⟩ := h
  exact z.elim
end Sq
set_option Elab.async false
set_option linter.all false
set_option maxRecDepth 100000
set_option maxHeartbeats 4000000
namespace Sq
open PySem PySem.Spec PyProof.Rows L2
def tGIf (c : TT) (t u : TGn) : TGn := fun D ys σ H => c σ H fun b H1 => if b = true then t D ys σ H1 else u D ys σ H1
theorem gs_if {X : Cx} {ce : Expr} {a b : List Stmt} {pos : Pos} {tc : TT} {t u : TGn} (hc : PT X ce tc) (ha : GSs X a t) (hb : GSs X b u) : GS X (.If ce a b pos) (tGIf tc t u) := by
  refine ⟨fun A S ip R n ys s₀ c fs K J gd lv s σ H D gc hn k hI ht => ?_⟩
  obtain ⟨acc, cc, r, I⟩ := hI
  rw [exec_If]
  refine seg_bind_wrap (wpAny_standAt ?_)
  refine seg_bind_wrap ?_
  rw [gc.over]
  refine wpAny_mono (hc.run _ s σ H _ I ht) (fun d s1 hh => ?_) fun x s' hx => k.exc n s₀ x s' hx
  obtain ⟨H1, I1, q1⟩ := hh
  cases d with
  | true => exact ha.run A S ip R n ys s₀ c fs K J gd lv s1 σ H1 D gc hn k ⟨acc, cc, r, I1⟩ q1
  | false => exact hb.run A S ip R n ys s₀ c fs K J gd lv s1 σ H1 D gc hn k ⟨acc, cc, r, I1⟩ q1
def tMethGL (C : Addr) (m : Str) (sp : SpG) (E : XK) (ta : TE) : TGen := fun σ H cont => ta σ H fun x H1 => ∃ a dx mA ks, x = .ref a ∧ Live H1 a C dx mA ks ∧ mA m = none ∧ sp [x] H1 cont E
/-- a generator method of the class at C -/
structure MtG (P : Program) (w : World) (K : PySem.W.Frag) (mg : Str → Option Value) (base : Heap) (k : Nat) (C : Addr) (m : Str) (sp : SpG) : Prop where
  ex : ∃ f fd, GFn P w K mg base k f fd ["self"] sp ∧ Meth K C m f ∧ Binds K fd ["self"] []
  cl : Cls K C
theorem pgen_methL {X : Cx} {k : Nat} {C : Addr} {m : Str} {sp : SpG} {E : XK} {o : Expr} {ta : TE} {apos pos' : Pos} {pl : Sem Bool} (D : MtG X.prog X.w X.K X.mg X.base k C m sp) (he : PE X o ta) (hr : Room k X.A)
    (ht : eval (.Call (.Attribute o m apos) [] [] pos') X.env = (do
      let ov ← eval o X.env
      standAt apos.atName
      let (f, first) ← holding [ov] (getMethod ov m pl)
      callWith pos' f first (backTo pos' (starEach [] X.env)) (backToKw pos' (keywordEach [] X.env))) := by rfl) :
    PGen X k (.Call (.Attribute o m apos) [] [] pos') (tMethGL C m sp E ta) E := by
  obtain ⟨⟨f, fd, F, hm, hb⟩, c⟩ := D
  refine ⟨fun pins s σ H cont I h => ?_⟩
  refine PySem.W.methodCall_KW (pl := pl) (thn (he.run pins s σ H _ I h) fun u s1 hh => ?_) ht
  obtain ⟨x, H1, I1, rx, a, dx, mA, ks, ex, L, l, q⟩ := hh
  subst ex
  obtain rfl : u = Value.ref a := rx
  refine live_meth I1 L c hm l ?_
  exact PySem.W.callWith_K0 (first := [.ref a]) I1.kIn hm.kp (run_gfn (us := [.ref a]) (vs := [.ref a]) F hr hb .nil I1 (.cons rfl .nil) q)
end Sq
set_option Elab.async false
set_option linter.all false
set_option maxRecDepth 100000
set_option maxHeartbeats 8000000
set_option exponentiation.threshold 2000
namespace Sq
open PySem PySem.Spec PyProof.Rows L2
section
variable {P : Program} {w : World} {K : PySem.W.Frag} {mg : Str → Option Value} {base : Heap} {C : Addr}
/-- the lengths of a text's runs -/
def runs (b : Nat) (l : List Nat) : List Int := (lbw b l 0).filter fun n => decide (0 < n)
theorem filter_snoc {α : Type} (p : α → Bool) (xs : List α) (x : α) : (xs ++ [x]).filter p = xs.filter p ++ (if p x = true then [x] else []) := by
  rw [List.filter_append]
  congr 1
  cases e : p x <;> simp [e]
def spRuns (C : Addr) : SpG := fun vs H Q _ => ∃ (p dx r t : Addr) (u0 : Value) (b : Nat) (T : List (List Nat)) (ks : List Int), vs = [.ref p] ∧ Txt2 C H p dx r t u0 b T ks ∧ ∀ H', Same H H' → Q ((runs b (lastT T)).map V.int) H'
theorem ok_runs {f : Addr} {fd : FuncData} (F : Fun K "runs" "SqueezedText.runs" s_SqueezedTextruns f fd) (Z : Lc K C) (P_text : Pr P w K mg base 1 C "text" (spText C)) (D_lengthsbetween : Df P w K mg base 1 "lengths_between" ["text", "character"] spBetween) : GFn P w K mg base 3 f fd ["self"] (spRuns C) := by
  obtain ⟨oc, od, kV, doc, pm, an, cdv, ct, osl, rfl, lk, hcd⟩ := F.ex
  refine gfn_of (k := 2) lk hcd sc_SqueezedTextruns (fun vs H Q E h => ?_) (fun A outer s H vs Q E pn hr h => ?_)
  · obtain ⟨p, dx, r, t, u0, b, T, ks, rfl, _⟩ := h
    rfl
  · obtain ⟨p, dx, r, t, u0, b, T, ks, rfl, L, q⟩ := h
    refine ⟨_, (gss_cons (gs_for owns_gcx rfl (pi_list (pe_callD D_lengthsbetween (hr.mono (by omega)) (by rfl) (pa_cons (pe_prL P_text (hr.mono (by omega)) (pv 0)) (pa_cons (pe_fldL (pv 0)) pa_nil)))) (pg_name (i := 1) sc_SqueezedTextruns.nd rfl (Or.inl rfl))
      (gss_cons (gs_if (pt_cmpR op_gt (pv 1) pe_int (nomark _)) (gss_cons (gs_yield (pv 1)) gss_nil) gss_nil) gss_nil)) gss_nil), ?_⟩
    have lim : sizeLine = 16777216 := sizeLine_eq
    obtain ⟨m, LL, mC, mR, mT, mN⟩ := L.m
    have l2 := lastT_size L.sz
    refine ⟨_, rfl, p, dx, m, _, rfl, LL, p, dx, r, t, u0, b, T, ks, rfl, L, ?_⟩
    refine ⟨_, rfl, p, C, dx, m, _, u0, _, rfl, LL, Z.cl, Z.nC, mC, L.u, ?_⟩
    refine ⟨SX.S (lastT T), b, rfl, by rw [SX.S_len]; omega, fun a H1 na s1 ga => ?_⟩
    refine ⟨a, rfl, ⟨_, SqL.of ga⟩, ?_⟩
    have few : (lbw b (lastT T) 0).length ≤ 2001 := by
      rw [lbw_len]
      have := List.length_filter_le (fun x => decide (x ≠ b)) (lastT T)
      omega
    obtain ⟨ls, els⟩ : ∃ ls, ls = lbw b (lastT T) 0 := ⟨_, rfl⟩
    have eR : runs b (lastT T) = ls.filter fun n => decide (0 < n) := by rw [els]; rfl
    rw [eR] at q
    rw [← els] at few
    replace ga : H1 a = some (.lst (ls.map V.int)) := by rw [els]; exact ga
    refine gfor_it (walk_list (K := K) (a := a) (xs := ls.map V.int)) (fun i ys σ H2 => ∃ y, σ = [some (.ref p), y] ∧ Same H1 H2 ∧ ys = ((ls.take i).filter fun n => decide (0 < n)).map V.int)
      ⟨none, rfl, Same.refl _, rfl⟩ (fun i ys σ H2 _ h => by obtain ⟨y, _, s2, _⟩ := h; exact SqL.of (s2 _ _ ga)) ?_ ?_
    · rintro i x ys σ H2 H3 hi ⟨y, rfl, s2, rfl⟩ ⟨rfl, e⟩
      rw [List.length_map] at hi
      obtain ⟨k, hk', rfl⟩ := map_at e
      have eN : ((ls.take (i + 1)).filter fun n => decide (0 < n)) = ((ls.take i).filter fun n => decide (0 < n)) ++ (if decide (0 < k) = true then [k] else []) := by
        rw [List.take_add_one, hk']
        exact filter_snoc _ _ _
      refine ⟨_, rfl, k, 0, rfl, rfl, _, rfl, ?_⟩
      by_cases c : 0 < k
      · rw [decide_eq_true c]
        refine iteT ?_
        refine ⟨?_, _, rfl, ?_⟩
        · rw [List.length_map]
          have := List.length_filter_le (fun n => decide (0 < n)) (ls.take i)
          rw [List.length_take] at this
          omega
        · refine ⟨_, rfl, s2, ?_⟩
          rw [eN, decide_eq_true c, if_pos rfl, List.map_append]
          rfl
      · rw [decide_eq_false c]
        refine iteF ?_
        refine ⟨_, rfl, s2, ?_⟩
        rw [eN, decide_eq_false c, if_neg (by decide), List.append_nil]
    · rintro ys σ H2 ⟨y, rfl, s2, rfl⟩
      rw [List.length_map, List.take_length]
      exact q _ (s1.trans s2)
end
end Sq
set_option Elab.async false
set_option linter.all false
set_option maxRecDepth 100000
set_option maxHeartbeats 8000000
set_option exponentiation.threshold 2000
namespace Sq
open PySem PySem.Spec PyProof.Rows L2
section
variable {P : Program} {w : World} {K : PySem.W.Frag} {mg : Str → Option Value} {base : Heap} {C : Addr}
/-- the runs of l that end within it, where a run of r stands before -/
def rf (b : Nat) : List Nat → Int → List Int
  | [], _ => []
  | x :: xs, r => if x = b then rf b xs (r + 1) else (if 0 < r then [r] else []) ++ rf b xs 0
theorem rf_cons (b x : Nat) (xs : List Nat) (r : Int) : rf b (x :: xs) r = if x = b then rf b xs (r + 1) else (if 0 < r then [r] else []) ++ rf b xs 0 := rfl
theorem rf_runs {b z : Nat} (h : z ≠ b) : ∀ (l : List Nat) (r : Int), rf b (l ++ [z]) r = (lbw b l r).filter fun n => decide (0 < n)
  | [], r => by
    show rf b (z :: []) r = ([r] : List Int).filter _
    rw [rf_cons, if_neg h, show rf b [] 0 = [] from rfl, List.append_nil]
    by_cases c : 0 < r
    · rw [if_pos c, List.filter_cons_of_pos (by simpa using c)]
      rfl
    · rw [if_neg c, List.filter_cons_of_neg (by simpa using c)]
      rfl
  | x :: xs, r => by
    rw [List.cons_append, rf_cons, lbw_cons]
    by_cases c : x = b
    · rw [if_pos c, if_pos c]
      exact rf_runs h xs (r + 1)
    · rw [if_neg c, if_neg c, rf_runs h xs 0]
      by_cases c2 : 0 < r
      · rw [if_pos c2, List.filter_cons_of_pos (by simpa using c2)]
        rfl
      · rw [if_neg c2, List.filter_cons_of_neg (by simpa using c2)]
        rfl
theorem rf_len (b : Nat) : ∀ (l : List Nat) (r : Int), (rf b l r).length ≤ l.length
  | [], _ => Nat.le_refl _
  | x :: xs, r => by
    rw [rf_cons]
    by_cases c : x = b
    · rw [if_pos c]
      exact Nat.le_succ_of_le (rf_len b xs _)
    · rw [if_neg c, List.length_append]
      have := rf_len b xs 0
      by_cases c2 : 0 < r
      · rw [if_pos c2]
        show 1 + _ ≤ _ + 1
        omega
      · rw [if_neg c2]
        show 0 + _ ≤ _ + 1
        omega
theorem SX_snoc (l : List Nat) (z : Nat) : SX.S l ++ (⟨#[z]⟩ : Str) = SX.S (l ++ [z]) := by
  show (⟨_⟩ : Str) = ⟨_⟩
  congr 1
  simp
def spRunsL : Sp := fun vs H Q _ => ∃ (l : List Nat) (b : Nat), vs = [.str (SX.S l), .str ⟨#[b]⟩] ∧ l.length ≤ 2000 ∧ ∀ t H', H t = none → Same H H' → H' t = some (.lst ((runs b l).map V.int)) → Q (.ref t) H'
theorem ok_lawruns {f : Addr} {fd : FuncData} (F : Fun K "_law_runs" "_law_runs" s_lawruns f fd) (B : Bi mg) : FnOk P w K mg base CX0 1 f fd ["written", "sign"] spRunsL := by
  refine F.ok sc_lawruns (fun vs H Q E h => ?_) (fun cdv A outer s H vs Q E hr h => ?_)
  · obtain ⟨l, b, rfl, _⟩ := h
    rfl
  · obtain ⟨l, b, rfl, hl, q⟩ := h
    refine ⟨_, (pss_cons (ps_par (i := 2) (j := 3) (by rfl) sc_lawruns.nd rfl rfl (by decide) rfl rfl (pa_cons (pe_lst pa_nil) (pa_cons pe_int pa_nil)) (by rfl))
 (pss_cons (ps_for PassesOwn.never rfl (pi_str (pe_op op_add_str (pv 0) (pe_ifExp (pt_cmpR op_ne (pv 1) pe_str (nomark _)) pe_str pe_str))) (pg_name (i := 4) sc_lawruns.nd rfl (Or.inl rfl))
 (pss_one (ps_if (pt_cmpR op_eq (pv 4) (pv 1) (nomark _))
 (pss_one (ps_set (i := 3) sc_lawruns.nd rfl (Or.inl rfl) (pe_op op_add (pv 3) pe_int)))
 (pss_one (ps_if (pt_cmpR op_gt (pv 3) pe_int (nomark _))
 (pss_cons (ps_expr (pe_bm PySem.F.plainAttrs_list PySem.F.slot_list_append PySem.F.type_list_append mt_append (pv 2) (pa_cons (pv 3) pa_nil)))
 (pss_one (ps_set (i := 3) sc_lawruns.nd rfl (Or.inl rfl) pe_int)))
 pss_nil)))))
 (pss_one (ps_ret (pv 2))))), ?_⟩
    have szl : sizeLine = 16777216 := sizeLine_eq
    refine ⟨Nat.zero_le _, fun p hp => ⟨_, _, rfl, ?_⟩⟩
    refine ⟨_, rfl, _, rfl, rfl, _, rfl, ?_⟩
    have few : ∀ z : Str, z.length = 1 → (SX.S l).length + z.length ≤ sizeLine := fun z e => by rw [SX.S_len, e]; omega
    refine ite2 ?h1 ?h2
    case' h1 =>
      intro c
      have hz : 121 ≠ b := fun e => by
        subst e
        revert c
        decide +kernel
      refine ⟨_, _, rfl, rfl, few _ rfl, _, rfl, ?_⟩
      rw [show SX.S l ++ Str.ofString "y" = SX.S (l ++ [121]) from SX_snoc l 121]
      generalize (121 : Nat) = z at hz ⊢
    case' h2 =>
      intro c
      have hz : 122 ≠ b := fun e => by
        subst e
        revert c
        decide +kernel
      refine ⟨_, _, rfl, rfl, few _ rfl, _, rfl, ?_⟩
      rw [show SX.S l ++ Str.ofString "z" = SX.S (l ++ [122]) from SX_snoc l 122]
      generalize (122 : Nat) = z at hz ⊢
    all_goals
      obtain ⟨tx, etx⟩ : ∃ tx, tx = l ++ [z] := ⟨_, rfl⟩
      have eR : rf b tx 0 = runs b l := by rw [etx, rf_runs hz]; rfl
      have lt : tx.length ≤ 2001 := by rw [etx, List.length_append]; exact Nat.succ_le_succ hl
      rw [← etx]
      refine for_it walk_str (fun i σ H' => ∃ acc r y, σ = [some (.str (SX.S l)), some (.str ⟨#[b]⟩), some (.ref p), some (.int r), y] ∧ Same H (wo H' p) ∧ H' p = some (.lst (acc.map V.int)) ∧ acc ++ rf b (tx.drop i) r = rf b tx 0 ∧ 0 ≤ r)
        ⟨[], 0, none, rfl, by rw [wo_upd]; exact same_wo (Same.refl _) hp, upd_same, rfl, Int.le_refl 0⟩ (fun _ _ _ _ _ => trivial) ?_ ?_
      · rintro i v σ H1 H2 hi ⟨acc, r, y, rfl, s1, g, e, r0⟩ ⟨rfl, ch, ec, rfl⟩
        have ec' : tx[i]? = some ch := by simpa using ec
        have ed : tx.drop i = ch :: tx.drop (i + 1) := by
          obtain ⟨ii, ee⟩ := List.getElem?_eq_some_iff.mp ec'
          rw [List.drop_eq_getElem_cons ii, ee]
        have lacc : acc.length ≤ 2001 := by
          have l1 := congrArg List.length e
          have l2 := rf_len b tx 0
          rw [List.length_append] at l1
          omega
        rw [ed, rf_cons] at e
        refine ⟨_, rfl, _, rfl, rfl, _, rfl, ite2 (fun c1 => ?_) (fun c1 => ?_)⟩
        · have cb : ch = b := by
            have h := of_decide_eq_true c1
            injection h with h
            injection h with h
            injection h with h
            injection h
          rw [if_pos cb] at e
          exact ⟨_, rfl, _, _, rfl, rfl, acc, r + 1, _, rfl, s1, g, e, by omega⟩
        · have cb : ch ≠ b := fun z => c1 (by rw [z]; exact decide_eq_true rfl)
          rw [if_neg cb] at e
          refine ⟨_, rfl, r, 0, rfl, rfl, _, rfl, ite2 (fun c2 => ?_) (fun c2 => ?_)⟩
          · have c2' : 0 < r := of_decide_eq_true c2
            rw [if_pos c2'] at e
            refine ⟨_, rfl, .inl ⟨rfl, _, SqL.of g⟩, _, rfl, p, _, _, rfl, rfl, g, by rw [List.length_map]; omega, acc ++ [r], 0, _, rfl, ?_, ?_, ?_, Int.le_refl 0⟩
            · rw [wo_upd]
              exact s1
            · rw [upd_same, List.map_append]
              rfl
            · rw [List.append_assoc]
              exact e
          · have c2' : ¬ 0 < r := fun z => c2 (decide_eq_true z)
            rw [if_neg c2', List.nil_append] at e
            obtain rfl : r = 0 := by omega
            exact ⟨acc, 0, _, rfl, s1, g, e, r0⟩
      · rintro σ H' ⟨acc, r, y, rfl, s1, g, e, r0⟩
        have ee : acc = runs b l := by
          rw [← eR, ← e, show (SX.S tx).cps.size = tx.length by simp, List.drop_length]
          exact (List.append_nil acc).symm
        refine ⟨_, rfl, q p H' hp (fun a o e => wo_same _ _ (s1 _ _ e)) ?_⟩
        rw [g, ee]
end
section
variable {P : Program} {w : World} {K : PySem.W.Frag} {mg : Str → Option Value} {base : Heap} {C : Addr}
theorem dpInts {H : Hp} : ∀ (ds : List Int), DpAll K H (ds.map V.int) (ds.map PyData.int)
  | [] => .nil
  | d :: ds => .cons (.int d) (dpInts ds)
theorem max_runs {b : Nat} {l : List Nat} {m mm : Int} (h : IsMax b l m) (h1 : mm ∈ runs b l ++ [0]) (h2 : ∀ y ∈ runs b l ++ [0], y ≤ mm) : mm = m := by
  have m0 : 0 ≤ m := (lbw_mem b l 0 (by decide) m h.1).1
  have le1 : mm ≤ m := by
    rcases List.mem_append.mp h1 with z | z
    · exact h.2 _ (List.mem_filter.mp z).1
    · rw [List.mem_singleton.mp z]
      exact m0
  have le2 : m ≤ mm := by
    by_cases c : 0 < m
    · exact h2 m (List.mem_append_left _ (List.mem_filter.mpr ⟨h.1, decide_eq_true c⟩))
    · have := h2 0 (List.mem_append_right _ (List.mem_singleton_self _))
      omega
  omega
theorem laysInts : ∀ (ds : List Int), PyData.canLayAll0 (ds.map PyData.int) = true
  | [] => rfl
  | d :: ds => by
    show (PyData.canLay0 (.int d) && PyData.canLayAll0 (ds.map PyData.int)) = true
    rw [laysInts ds]
    rfl
theorem deepInts : ∀ (ds : List Int), PyData.depthAll (ds.map PyData.int) ≤ 1
  | [] => Nat.zero_le _
  | _ :: ds => Nat.max_le.mpr ⟨Nat.zero_le _, deepInts ds⟩
theorem shapedInts (ds : List Int) : SeqAt.shaped (.list (ds.map PyData.int)) = true :=
  Bool.and_eq_true_iff.mpr ⟨laysInts ds, decide_eq_true (Nat.le_trans (Nat.add_le_add_right (deepInts ds) 1) (by decide))⟩
theorem strOkS {l : List Nat} (h : ∀ c ∈ l, c < 128) : PySem.PyData.strOk (SX.S l) = true := by
  unfold PySem.PyData.strOk
  show (l.toArray.all fun c => decide (c < 0x110000)) = true
  rw [List.all_toArray, List.all_eq_true]
  intro c hc
  have := h c hc
  exact decide_eq_true (by omega)
/-- what is told of a text -/
def tellD (l : List Nat) (ks : List Int) (m : Int) : PyData := .list [.str (SX.S l), .list (ks.map PyData.int), .int m]
theorem tell_lay {l : List Nat} (h : ∀ c ∈ l, c < 128) (ks : List Int) (m : Int) : PyData.canLay0 (tellD l ks m) = true := by
  show (PySem.PyData.strOk (SX.S l) && (PyData.canLayAll0 (ks.map PyData.int) && (true && true))) = true
  rw [strOkS h, laysInts]
  rfl
theorem tell_shaped {l : List Nat} (h : ∀ c ∈ l, c < 128) (ks : List Int) (m : Int) : SeqAt.shaped (tellD l ks m) = true := by
  refine Bool.and_eq_true_iff.mpr ⟨tell_lay h ks m, decide_eq_true ?_⟩
  show max 0 (max (PyData.depthAll (ks.map PyData.int) + 1) (max 0 0)) + 1 ≤ _
  have := deepInts ks
  have e : max 0 (max (PyData.depthAll (ks.map PyData.int) + 1) (max 0 0)) ≤ 2 := Nat.max_le.mpr ⟨by omega, Nat.max_le.mpr ⟨by omega, by decide⟩⟩
  omega
/-- told as it should -/
def spTold (K : PySem.W.Frag) (C : Addr) : Sp := fun vs H Q _ => ∃ (p dx r t a n : Addr) (u0 : Value) (b : Nat) (T : List (List Nat)) (ks : List Int), vs = [.ref p, .ref a, .ref n, .str ⟨#[b]⟩] ∧ Txt2 C H p dx r t u0 b T ks ∧ SqL K H a (T.map fun l => V.str (SX.S l)) ∧ SqL K H n (ks.map V.int) ∧ (∀ c ∈ lastT T, c < 128) ∧
  ∀ H', Same H H' → Q (.bl true) H'
theorem ok_lawtoldright {f : Addr} {fd : FuncData} (F : Fun K "_law_told_right" "_law_told_right" s_lawtoldright f fd) (B : Bi mg) (Z : Lc K C) (P_text : Pr P w K mg base 1 C "text" (spText C)) (P_reps : Pr P w K mg base 1 C "replacements" (spReps C)) (P_longest : Pr P w K mg base 3 C "longest" (spLongest C))
    (G_runs : MtG P w K mg base 3 C "runs" (spRuns C)) (D_lawruns : Df P w K mg base 1 "_law_runs" ["written", "sign"] spRunsL) : FnOk P w K mg base CX0 7 f fd ["live", "passed", "numbers", "sign"] (spTold K C) := by
  refine F.ok sc_lawtoldright (fun vs H Q E h => ?_) (fun cdv A outer s H vs Q E hr h => ?_)
  · obtain ⟨p, dx, r, t, a, n, u0, b, T, ks, rfl, _⟩ := h
    rfl
  · obtain ⟨p, dx, r, t, a, n, u0, b, T, ks, rfl, L, hT, hn, lo, q⟩ := h
    refine ⟨_, (pss_cons (ps_set (i := 4) sc_lawtoldright.nd rfl (Or.inl rfl) (pe_callD D_lawruns (hr.mono (by omega)) (by rfl) (pa_cons (pe_ix (r := rIxL K) ix_list (pv 1) (pe_un un_neg pe_int) (fun _ _ => rfl)) (pa_cons (pv 3) pa_nil))))
      (pss_cons (ps_if (pt_cmpR (op_neD hr.units) (pe_lst (pa_cons (pe_prL P_text (hr.mono (by omega)) (pv 0)) (pa_cons (pe_prL P_reps (hr.mono (by omega)) (pv 0)) (pa_cons (pe_prL P_longest (hr.mono (by omega)) (pv 0)) pa_nil)))) (pe_lst (pa_cons (pe_ix (r := rIxL K) ix_list (pv 1) (pe_un un_neg pe_int) (fun _ _ => rfl)) (pa_cons (pv 2) (pa_cons (pe_callB (id := "max") (cr_max rfl) (by rfl) B.n_max (by decide +kernel) (pa_cons (pe_op op_cat (pv 4) (pe_lst (pa_cons pe_int pa_nil))) pa_nil)) pa_nil)))) (nomark _))
        (pss_one (ps_ret pe_bl)) pss_nil)
      (pss_one (ps_ret (pe_cmpR (op_eqD hr.units) (pe_listG (pgen_methL G_runs (pv 0) (hr.mono (by omega)) rfl) passG (fun _ _ _ h => h.elim) (hr.mono (by omega)) (by rfl) B.n_list (by decide +kernel) (by decide) (by decide)) (pv 4) (nomark _)))))), ?_⟩
    have z3 : 3 ≤ sizeLine := Nat.le_of_lt (small1000 (by decide))
    have z1 : 1 ≤ sizeLine := Nat.le_of_lt (small1000 (by decide))
    obtain ⟨m, LL, mC, mR, mT, mN⟩ := id L.m
    obtain ⟨T0, l, eT⟩ : ∃ T0 l, T = T0 ++ [l] := by
      rcases List.eq_nil_or_concat T with e | ⟨T0, l, e⟩
      · have := L.len
        rw [e] at this
        simp at this
      · exact ⟨T0, l, by rw [e, List.concat_eq_append]⟩
    have el : lastT T = l := by rw [eT, lastT_snoc]
    have at1 : atI (T.map fun l => V.str (SX.S l)) (-1) = some (.str (SX.S l)) := by
      rw [eT, List.map_append]
      exact atI_tail _ _
    have sl := lastT_size L.sz
    rw [el] at lo sl
    refine ⟨_, rfl, 1, rfl, a, _, -1, .str (SX.S l), rfl, rfl, hT, at1, ?_⟩
    refine ⟨_, rfl, l, b, rfl, sl, fun g H1 ng s1 gg => ?_⟩
    have L1 := L.same s1
    refine ⟨_, rfl, p, dx, m, _, rfl, LL.same s1, p, dx, r, t, u0, b, T, ks, rfl, L1, ?_⟩
    refine ⟨_, rfl, p, dx, m, _, rfl, LL.same s1, p, dx, r, t, u0, b, T, ks, rfl, L1, fun r2 nr2 => ?_⟩
    have s2 := s1.trans (same_new (o := .lst (ks.map V.int)) nr2)
    refine ⟨_, rfl, p, dx, m, _, rfl, LL.same s2, p, dx, r, t, u0, b, T, ks, rfl, L.same s2, fun mx H3 hm s3 => ⟨z3, fun d nd => ?_⟩⟩
    have s23 := s2.trans s3
    have s24 := s23.trans (same_new (o := .lst [V.str (SX.S (lastT T)), V.ref r2, V.int mx]) nd)
    refine ⟨_, rfl, 1, rfl, a, _, -1, .str (SX.S l), rfl, rfl, s24.seq hT, at1, ?_⟩
    have gg4 := same_new (o := .lst [V.str (SX.S (lastT T)), V.ref r2, V.int mx]) nd _ _ (s3 _ _ (same_new (o := .lst (ks.map V.int)) nr2 _ _ gg))
    have lr : (runs b l).length ≤ 2001 := by
      have h1 := List.length_filter_le (fun n => decide ((0:Int) < n)) (lbw b l 0)
      have h2 := lbw_len b l 0
      have h3 := List.length_filter_le (fun x => decide (x ≠ b)) l
      show ((lbw b l 0).filter fun n => decide (0 < n)).length ≤ 2001
      omega
    have szl : sizeLine = 16777216 := sizeLine_eq
    refine ⟨_, rfl, _, rfl, z1, fun o no => ?_⟩
    have s5 := s24.trans (same_new (o := .lst [V.int 0]) no)
    refine ⟨g, o, _, _, rfl, rfl, same_new no _ _ gg4, upd_same, by simp only [List.length_map, List.length_cons, List.length_nil]; omega, fun c nc => ?_⟩
    have s6 := s5.trans (same_new (o := .lst ((runs b l).map V.int ++ [V.int 0])) nc)
    refine ⟨c, runs b l ++ [0], rfl, SqL.of (by rw [upd_same, List.map_append]; rfl), by simp, fun mm h1 h2 => ?_⟩
    rw [el] at hm
    obtain rfl := max_runs hm h1 h2
    refine ⟨z3, fun e ne => ?_⟩
    have s7 := s6.trans (same_new (o := .lst [V.str (SX.S l), V.ref n, V.int mm]) ne)
    have k4 := same_new (o := .lst [V.str (SX.S l), V.ref n, V.int mm]) ne
    have k3 := (same_new (o := .lst ((runs b l).map V.int ++ [V.int 0])) nc).trans k4
    have k2 := (same_new (o := .lst [V.int 0]) no).trans k3
    have gd : (upd (upd (upd (upd H3 d (.lst [V.str (SX.S (lastT T)), V.ref r2, V.int mm])) o (.lst [V.int 0])) c (.lst ((runs b l).map V.int ++ [V.int 0]))) e (.lst [V.str (SX.S l), V.ref n, V.int mm])) d = some (.lst [V.str (SX.S (lastT T)), V.ref r2, V.int mm]) := k2 _ _ upd_same
    have gr := k2 _ _ (same_new (o := .lst [V.str (SX.S (lastT T)), V.ref r2, V.int mm]) nd _ _ (s3 _ _ upd_same))
    have gn : SqL K _ n (ks.map V.int) := s7.seq hn
    have ge : (upd (upd (upd (upd H3 d (.lst [V.str (SX.S (lastT T)), V.ref r2, V.int mm])) o (.lst [V.int 0])) c (.lst ((runs b l).map V.int ++ [V.int 0]))) e (.lst [V.str (SX.S l), V.ref n, V.int mm])) e = some (.lst [V.str (SX.S l), V.ref n, V.int mm]) := upd_same
    have gg7 := k2 _ _ gg4
    generalize (upd (upd (upd (upd H3 d (.lst [V.str (SX.S (lastT T)), V.ref r2, V.int mm])) o (.lst [V.int 0])) c (.lst ((runs b l).map V.int ++ [V.int 0]))) e (.lst [V.str (SX.S l), V.ref n, V.int mm])) = H7 at s7 gd gr gn ge gg7 ⊢
    have tl := tell_shaped lo ks mm
    refine ⟨tellD l ks mm, tellD l ks mm, .lst (SqL.of gd) (.cons (by rw [el]; exact .str _) (.cons (.lst (SqL.of gr) (dpInts ks)) (.cons (.int _) .nil))), .lst (SqL.of ge) (.cons (.str _) (.cons (.lst gn (dpInts ks)) (.cons (.int _) .nil))), tl, tl, _, rfl, ?_⟩
    rw [SeqAt.eqv_refl _ (tell_lay lo ks mm)]
    refine iteF ?_
    refine ⟨_, rfl, p, dx, m, _, rfl, LL.same s7, mN _ (by decide +kernel) (by decide +kernel) (by decide +kernel), p, dx, r, t, u0, b, T, ks, rfl, L.same s7, fun H8 s8 f nf => ?_⟩
    have s9 := s8.trans (same_new (o := .lst ((runs b (lastT T)).map V.int)) nf)
    refine ⟨_, rfl, .list ((runs b l).map PyData.int), .list ((runs b l).map PyData.int), .lst (SqL.of (by rw [upd_same, el])) (dpInts _), .lst (SqL.of (s9 _ _ gg7)) (dpInts _), shapedInts _, shapedInts _, ?_⟩
    rw [SeqAt.eqv_refl (.list ((runs b l).map PyData.int)) (laysInts _)]
    exact q _ (s7.trans s9)
end
end Sq
set_option Elab.async false
set_option linter.all false
set_option maxRecDepth 100000
set_option maxHeartbeats 4000000
set_option Elab.async false
set_option linter.all false
set_option maxRecDepth 100000
set_option maxHeartbeats 4000000
namespace Sq
open PySem PySem.Spec PyProof.Rows L2 GenW
open StrLaws (replL replL_nil replL_hit replL_miss replace_list)
def tRepM (i j l : Nat) : TE := fun σ H Q => ∃ (a : Str) (b : Nat) (k : Int), σ[i]? = some (some (.str a)) ∧ σ[j]? = some (some (.str ⟨#[b]⟩)) ∧ σ[l]? = some (some (.int k)) ∧ 2 ≤ k ∧ k ≤ 1000000 ∧ a.length ≤ 1000000 ∧ Q (.str (Txt.replace a (_root_.PySem.Txt.mul ⟨#[b]⟩ k) ⟨#[b]⟩)) H
theorem mul_okM (b : Nat) {n : Int} (h0 : 2 ≤ n) (h1 : n ≤ 1000000) : _root_.PySem.MulOk ⟨#[b]⟩ n := by
  have l1 : (⟨#[b]⟩ : Str).length = 1 := rfl
  unfold _root_.PySem.MulOk
  rw [l1]
  refine ⟨?_, fun c _ => ?_, fun c _ => ?_⟩
  · rw [decide_eq_false (by omega), decide_eq_false (by omega)]
    rfl
  · have : (1 : Int) ≤ (2 ^ 63 - 1) / n := Int.le_ediv_of_mul_le (by omega) (by omega)
    show ¬ ((1 : Int) > (2 ^ 63 - 1) / n)
    omega
  · have szl : sizeLine = 16777216 := sizeLine_eq
    unfold PySem.Builtin.Str.tooLong
    exact decide_eq_false (by omega)
theorem foldM (b : Nat) : ∀ (k : Nat) (acc : Array Nat), ((List.replicate k #[b]).foldl (· ++ ·) acc).toList = acc.toList ++ List.replicate k b
  | 0, acc => (List.append_nil _).symm
  | k + 1, acc => by
    rw [List.replicate_succ, List.foldl_cons, foldM b k, Array.toList_append, List.append_assoc]
    rfl
theorem mulM (b : Nat) {n : Int} (h0 : 2 ≤ n) : (_root_.PySem.Txt.mul ⟨#[b]⟩ n).cps.toList = List.replicate n.toNat b := by
  unfold _root_.PySem.Txt.mul
  rw [if_neg (by omega), if_neg]
  · show ((List.replicate n.toNat #[b]).foldl (· ++ ·) #[]).toList = _
    rw [foldM]
    rfl
  · intro h
    rcases Bool.or_eq_true_iff.mp h with z | z
    · have := eq_of_beq z
      omega
    · cases z
theorem we_repM {X : Cx} {Θ : Shared → Prop} {ys : List Str} {x y z : Str} {i j l : Nat} {p1 p2 p3 p4 pb apos pos : Pos} {u0 : Value} {n : Nat} (Kn : KnownU X Θ y u0) (good : Tkn 0 [u0] n) (hn : ∀ s, Θ s → n ≤ s.toks) (C : Clo X ys Θ) (hx : X.N[i]? = some x) (vx : Vis X.env.scope x) (hy : X.N[j]? = some y) (vy : Vis X.env.scope y) (hz : X.N[l]? = some z) (vz : Vis X.env.scope z)
    (d1 : (x == ("__debug__" : Str)) = false := by decide) (d2 : (x == ("__classdict__" : Str)) = false := by decide) (d3 : (y == ("__debug__" : Str)) = false := by decide) (d4 : (z == ("__debug__" : Str)) = false := by decide) (d5 : (z == ("__classdict__" : Str)) = false := by decide)
    (hst : starEach [.BinOp (.Name y p2) .Mult (.Name z p3) pb, .Name y p4] X.env = [(false, eval (.BinOp (.Name y p2) .Mult (.Name z p3) pb) X.env), (false, eval (.Name y p4) X.env)] := by rfl)
    (hbase : attributeBase (.Name x p1) "replace" X.env (eval (.Name x p1) X.env) = eval (.Name x p1) X.env := by rfl) (hline : (apos.endLine == pos.line) = true := by rfl) :
    We X Θ (.Call (.Attribute (.Name x p1) "replace" apos) [.BinOp (.Name y p2) .Mult (.Name z p3) pb, .Name y p4] [] pos) (tRepM i j l) := by
  refine ⟨fun pins s σ H Q I θ h => ?_⟩
  obtain ⟨a, b, k, e1, e2, e3, k2, k6, al, q⟩ := h
  refine PySem.Call_method2 hbase hst hline (raw_name hx vx I e1 (fun v r => ?_) d1 d2)
  obtain ⟨ta, ea⟩ := r
  subst ea
  refine ⟨"str", _, PySem.F.plainAttrs_str, PySem.F.slot_str_replace, PySem.F.type_str_replace, typeIs_str _ _ _, (fun _ e => nomatch e), Calls.callWith_builtin rfl (Calls.evalArgs_plain (Calls.spliced_cons ?_))⟩
  refine wpAny_BinOp (knownU_eval Kn I θ hy vy e2 (fun ru => ?_) d3)
  obtain ⟨tb, eu⟩ := id ru
  subst eu
  obtain ⟨g1, g2⟩ := good ⟨#[b]⟩ tb rfl rfl
  refine raw_name hz vz I e3 (fun v r => ?_) d4 d5
  obtain ⟨tk, ek⟩ := r
  subst ek
  have ok := mul_okM b k2 k6
  have n1 : ¬ k < 1 := by omega
  have n2 : (k == 1 || (⟨#[b]⟩ : Str).length == 0) = false := by
    rw [Bool.or_eq_false_iff]
    exact ⟨beq_eq_false_iff_ne.mpr (by omega), rfl⟩
  have em : _root_.PySem.Txt.mul ⟨#[b]⟩ k = ⟨(List.replicate k.toNat #[b]).foldl (· ++ ·) #[]⟩ := by
    unfold _root_.PySem.Txt.mul
    rw [if_neg n1, n2, if_neg (by decide)]
  have lm : (_root_.PySem.Txt.mul ⟨#[b]⟩ k).length = k.toNat := by
    have := congrArg List.length (mulM b k2)
    rw [List.length_replicate] at this
    exact this
  refine P.mul_str ok.1 ok.2.1 ok.2.2 ?_
  rw [if_neg n1, n2, if_neg (by decide), ← em]
  refine ⟨by have := sizeLine_eq; omega, ?_⟩
  have I2 : Inv X pins σ H { s with toks := s.toks + 1 } := I.tok _
  refine Calls.spliced_cons (knownU_eval Kn I2 (C.tok I θ) hy vy e2 (fun _ => Calls.spliced_nil ?_) d3)
  have up : tb < s.toks := Nat.lt_of_lt_of_le g2 (hn s θ)
  have t0 : s.toks ≠ 0 := fun z => by rw [z] at up; exact Nat.not_lt_zero _ up
  have hyz : (_root_.PySem.Txt.mul ⟨#[b]⟩ k == (⟨#[b]⟩ : Str)) = false := beq_eq_false_iff_ne.mpr fun z => by
    have := congrArg Str.length z
    rw [lm] at this
    have e1 : (⟨#[b]⟩ : Str).length = 1 := rfl
    rw [e1] at this
    omega
  have called : wpAny (model X.prog X.w) X.A (call (.builtin "str.replace") [.str a ta, .str (_root_.PySem.Txt.mul ⟨#[b]⟩ k) s.toks, .str ⟨#[b]⟩ tb]) (fun u s' => (s.toks + 1 ≤ s'.toks → Θ s') ∧ EP X pins σ Q u s') X.xe { s with toks := s.toks + 1 } := by
    refine PySem.SC.replace t0 g1 (Nat.ne_of_gt up) hyz ?_ fun t' kk => ⟨fun h => C.kept (s' := { s with toks := kk }) I (Nat.le_of_succ_le h) (fun _ _ e => e) θ, .str _, H, I.tok kk, ⟨t', rfl⟩, q⟩
    show a.length + (a.length + 1) * 1 ≤ 16777216
    omega
  exact wpAny_mono (PySem.wpAny_toks called) (fun u s' z => ⟨z.2.1 z.1, z.2.2⟩) fun _ _ z => z.2
end Sq
set_option Elab.async false
set_option linter.all false
set_option maxRecDepth 100000
set_option maxHeartbeats 8000000
set_option exponentiation.threshold 2000
namespace Sq
open PySem PySem.Spec PyProof.Rows L2
theorem no_hit {b k j : Nat} {t : List Nat} (hj : j < k) (ht : t.head? ≠ some b) : ¬ (List.replicate j b ++ t).take k = List.replicate k b := fun e => by
  have e2 := congrArg (fun z => z[j]?) e
  have e3 : ((List.replicate j b ++ t).take k)[j]? = (List.replicate k b)[j]? := e2
  rw [List.getElem?_take_of_lt hj, List.getElem?_append_right (by rw [List.length_replicate]; exact Nat.le_refl _), List.length_replicate, Nat.sub_self, List.getElem?_replicate_of_lt hj] at e3
  exact ht (by rw [List.head?_eq_getElem?]; exact e3)
theorem replL_run {b k : Nat} (hk : 2 ≤ k) {t : List Nat} (ht : t.head? ≠ some b) : ∀ r : Nat, StrLaws.replL (List.replicate k b) [b] (List.replicate r b ++ t) = List.replicate (once (r : Int) (k : Int)).toNat b ++ StrLaws.replL (List.replicate k b) [b] t := by
  intro r
  induction r using Nat.strongRecOn with
  | ind r ih =>
    by_cases c : r < k
    · have e1 : (once (r : Int) (k : Int)).toNat = r := by
        rw [once_less (Int.natCast_nonneg r) (by omega)]
        exact Int.toNat_natCast r
      rw [e1]
      clear e1 ih
      induction r with
      | zero => rfl
      | succ r ih =>
        rw [List.replicate_succ, List.cons_append, List.cons_append, StrLaws.replL_miss, ih (by omega)]
        rw [List.length_replicate, ← List.cons_append, ← List.replicate_succ]
        exact no_hit c ht
    · have ck : k ≤ r := Nat.le_of_not_lt c
      obtain ⟨d, rfl⟩ := Nat.exists_eq_add_of_le ck
      have e1 : (once ((k + d : Nat) : Int) (k : Int)).toNat = 1 + (once (d : Int) (k : Int)).toNat := by
        have h0 : 0 ≤ once (d : Int) (k : Int) := once_nonneg (by omega) (Int.natCast_nonneg d)
        have e2 : once ((k + d : Nat) : Int) (k : Int) = 1 + once (d : Int) (k : Int) := by
          unfold once
          rw [Int.natCast_add, Int.add_comm (k : Int), Int.add_ediv_of_dvd_right (Int.dvd_refl _), Int.ediv_self (by omega), Int.add_emod_right]
          omega
        rw [e2]
        omega
      have e3 : List.replicate (k + d) b ++ t = b :: (List.replicate (k - 1) b ++ (List.replicate d b ++ t)) := by
        obtain ⟨k', rfl⟩ : ∃ k', k = k' + 1 := ⟨k - 1, by omega⟩
        rw [← List.replicate_append_replicate, List.replicate_succ, List.append_assoc]
        rfl
      have e4 : b :: (List.replicate (k - 1) b ++ (List.replicate d b ++ t)) = List.replicate k b ++ (List.replicate d b ++ t) := by
        obtain ⟨k', rfl⟩ : ∃ k', k = k' + 1 := ⟨k - 1, by omega⟩
        rfl
      rw [e3, StrLaws.replL_hit, e4, List.length_replicate, List.drop_left' (by rw [List.length_replicate]), ih d (by omega), e1, Nat.add_comm 1, List.replicate_succ]
      · rfl
      · intro z
        have := congrArg List.length z
        rw [List.length_replicate] at this
        simp at this
        omega
      · rw [e4, List.length_replicate]
        exact List.take_left' (by rw [List.length_replicate])
theorem replL_sqT {b k : Nat} (hk : 2 ≤ k) : ∀ (xs : List Nat) (r : Nat), StrLaws.replL (List.replicate k b) [b] (List.replicate r b ++ xs) = sqT b [(k : Int)] xs (r : Int)
  | [], r => by
    rw [replL_run hk (by intro z; cases z), StrLaws.replL_nil, List.append_nil]
    rfl
  | x :: xs, r => by
    rw [sqT_cons]
    by_cases c : x = b
    · rw [if_pos c, c, show List.replicate r b ++ b :: xs = List.replicate (r + 1) b ++ xs from by rw [List.replicate_succ', List.append_assoc]; rfl]
      exact replL_sqT hk xs (r + 1)
    · rw [if_neg c, replL_run hk (by intro z; exact c (Option.some.inj z))]
      have m : StrLaws.replL (List.replicate k b) [b] (x :: xs) = x :: StrLaws.replL (List.replicate k b) [b] xs := StrLaws.replL_miss (by
        rw [List.length_replicate]
        exact no_hit (j := 0) (by omega) (by intro z; exact c (Option.some.inj z)))
      rw [m]
      exact congrArg (fun z => List.replicate (sq (r : Int) [(k : Int)]).toNat b ++ x :: z) (replL_sqT hk xs 0)
theorem repl_sqT (b : Nat) {k : Int} (hk : 2 ≤ k) (l : List Nat) : Txt.replace (SX.S l) (_root_.PySem.Txt.mul ⟨#[b]⟩ k) ⟨#[b]⟩ = SX.S (sqT b [k] l 0) := by
  obtain ⟨n, rfl⟩ := Int.eq_ofNat_of_zero_le (show 0 ≤ k by omega)
  have hn : 2 ≤ n := by omega
  refine TL.ext_tl ?_
  have e := StrLaws.replace_list (x := SX.S l) (y := _root_.PySem.Txt.mul ⟨#[b]⟩ (n : Int)) (z := ⟨#[b]⟩) (by
    have := congrArg List.length (mulM b hk)
    rw [List.length_replicate] at this
    show 1 ≤ (_root_.PySem.Txt.mul ⟨#[b]⟩ (n : Int)).cps.toList.length
    omega)
  rw [mulM b hk] at e
  exact e.trans (replL_sqT hn l 0)
section
variable {P : Program} {w : World} {K : PySem.W.Frag} {mg : Str → Option Value} {base : Heap} {C : Addr}
/-- the texts one by one -/
def sqs (b : Nat) (l : List Nat) (ns : List Int) : List Nat := ns.foldl (fun l k => sqT b [k] l 0) l
theorem sqs_snoc (b : Nat) (l : List Nat) (ns : List Int) (k : Int) : sqs b l (ns ++ [k]) = sqT b [k] (sqs b l ns) 0 := by
  unfold sqs
  rw [List.foldl_append]
  rfl
def Far (ns : List Int) : Prop := ∀ k ∈ ns, 2 ≤ k ∧ k ≤ 1000000
theorem sqs_size {b : Nat} : ∀ {ns : List Int} {l : List Nat}, l.length ≤ 2000 → Far ns → (sqs b l ns).length ≤ 2000
  | [], _, hl, _ => hl
  | k :: ns, l, hl, h => by
    show (sqs b (sqT b [k] l 0) ns).length ≤ 2000
    exact sqs_size (sqT_size (h k List.mem_cons_self).1 hl) fun x hx => h x (List.mem_cons_of_mem _ hx)
def spReplaced (K : PySem.W.Frag) : Sp := fun vs H Q _ => ∃ (l : List Nat) (b : Nat) (a : Addr) (ns : List Int), vs = [.str (SX.S l), .str ⟨#[b]⟩, .ref a] ∧ l.length ≤ 2000 ∧ SqL K H a (ns.map V.int) ∧ Far ns ∧ ∀ H', Same H H' → Q (.str (SX.S (sqs b l ns))) H'
theorem ok_lawreplaced {f : Addr} {fd : FuncData} (F : Fun K "_law_replaced" "_law_replaced" s_lawreplaced f fd) : FnT P w K mg base 1 f fd ["written", "sign", "numbers"] 1 (spReplaced K) := by
  refine fnt_ofL F sc_lawreplaced (fun vs H Q E h => ?_) (y := "sign") rfl rfl (fun cdv A outer s H us vs Q u0 hr h rv tkn hu => ?_)
  · obtain ⟨l, b, a, ns, rfl, _⟩ := h
    rfl
  · obtain ⟨l, b, a, ns, rfl, hl, hS, far, q⟩ := h
    have good : Tkn 0 [u0] s.toks := fun z t e one => tkn z t (by rw [hu]; exact e) one
    have cl : Clo (cxOf CX0 P w K mg base ["written", "sign", "numbers", "number"] "_law_replaced" (defScope s_lawreplaced) f cdv A outer s H E0).nox ["sign"] (fun s' => Raw (cxOf CX0 P w K mg base ["written", "sign", "numbers", "number"] "_law_replaced" (defScope s_lawreplaced) f cdv A outer s H E0).nox "sign" u0 s' ∧ s.toks ≤ s'.toks) := (clo_raw rfl).and clo_n
    have kn : KnownU (cxOf CX0 P w K mg base ["written", "sign", "numbers", "number"] "_law_replaced" (defScope s_lawreplaced) f cdv A outer s H E0).nox (fun s' => Raw (cxOf CX0 P w K mg base ["written", "sign", "numbers", "number"] "_law_replaced" (defScope s_lawreplaced) f cdv A outer s H E0).nox "sign" u0 s' ∧ s.toks ≤ s'.toks) "sign" u0 := ⟨fun s' h => .inl ⟨rfl, h.1⟩⟩
    refine ⟨_, wu_cons (ws_forL rfl PassesOwn.never cl (wv 2) (wg_name (i := 3) cl (by decide) sc_lawreplaced.nd rfl (Or.inl rfl))
      (wss_one (ws_set (i := 0) cl (by decide) sc_lawreplaced.nd rfl (Or.inl rfl) (we_repM (i := 0) (j := 1) (l := 3) kn good (fun _ h => h.2) cl rfl (Or.inl rfl) rfl (Or.inl rfl) rfl (Or.inl rfl)))))
      (wu_ps (pss_one (ps_ret (pv 0)))), ?_⟩
    refine ⟨_, rfl, a, ns.map V.int, rfl, hS, (fun i σ H' => ∃ y, σ = [some (.str (SX.S (sqs b l (ns.take i)))), some (.str ⟨#[b]⟩), some (.ref a), y] ∧ Same H H'), ⟨none, rfl, Same.refl _⟩, fun i σ H' h => by obtain ⟨_, _, sm⟩ := h; exact sm.seq hS, ?_, ?_⟩
    · rintro i z σ H' hz ⟨y, rfl, sm⟩
      obtain ⟨k, ek, rfl⟩ := map_at hz
      have fk := far k (List.mem_of_getElem? ek)
      have sz : (sqs b l (ns.take i)).length ≤ 2000 := sqs_size hl fun x hx => far x (List.mem_of_mem_take hx)
      refine ⟨_, b, k, rfl, rfl, rfl, fk.1, fk.2, by rw [SX.S_len]; omega, some (.int k), ?_, sm⟩
      rw [repl_sqT b fk.1, List.take_add_one, ek]
      show _ = [some (V.str (SX.S (sqs b l (ns.take i ++ [k])))), _, _, _]
      rw [sqs_snoc]
      rfl
    · rintro σ H' ⟨y, rfl, sm⟩
      rw [List.length_map, List.take_length]
      exact ⟨_, rfl, q _ sm⟩
end
end Sq
set_option Elab.async false
set_option linter.all false
set_option maxRecDepth 100000
set_option maxHeartbeats 4000000
namespace Sq
open PySem PySem.Spec PyProof.Rows L2 GenW
section
variable {X : Cx} {Θ : Shared → Prop} {ys : List Str} {pins : List (Addr × Obj)} {σ : L2.St} {H : Hp} {s : Shared} {x y : Str} {p pos apos cpos : Pos} {e e2 o : Expr} {es : List Expr} {te tf to : TE} {t : TA}
/-- o[e] of a list -/
theorem we_ixL (ha : We X Θ e te) (hb : We X Θ e2 tf) (hs : PlainIx e2) : We X Θ (.Subscript e e2 pos) (tOp (rIxL X.K) te tf) := by
  refine ⟨fun pins s σ H Q I θ h => ?_⟩
  refine Subscript_ (thn (ha.run pins s σ H _ I θ h) fun v s1 hh => ?_)
  obtain ⟨g1, a, H1, I1, r1, q1⟩ := hh
  refine thn (hb.run pins s1 σ H1 _ I1 g1 q1) fun u s2 hh => ?_
  obtain ⟨g2, b, H2, I2, r2, l, xs, i, z, rfl, rfl, hq, he, q⟩ := hh
  cases r1
  obtain ⟨tk, rfl⟩ := r2
  obtain ⟨its, r, pl, hz⟩ := I2.list hq
  obtain ⟨j, h1, h2, h3, h4, h5⟩ := atI_get he
  obtain ⟨w, ew, rw'⟩ := r.get h2
  have hl := r.length
  have hn := line63
  have fin : Θ s2 ∧ EP X pins σ Q w s2 := ⟨g2, z, H2, I2, rw', q⟩
  by_cases h0 : 0 ≤ i
  · have hj : i.toNat = j := by
      rw [seqIndex_of h0 h5] at h1
      exact Option.some.inj h1
    exact item_listR pl.isList h0 (by omega) (by rw [hj]; simpa using ew) fin (hs _ _)
  · have hj : (i + (its.toArray.size : Int)).toNat = j := by
      rw [seqIndex_neg (by omega) h4] at h1
      rw [List.size_toArray, ← hl]
      exact Option.some.inj h1
    exact subscriptTail_builtinR (x := w) pl.isList.typeIs slot_list_getitem.lookup
      (wpAny_getItem_list_neg (Q := fun r s' => r = w ∧ (Θ s' ∧ EP X pins σ Q r s')) pl.isList (by omega) (by rw [List.size_toArray] <;> omega) (by omega) (by rw [hj]; simpa using ew) ⟨rfl, fin⟩) (hs _ _)
/-- -e -/
theorem we_neg (C : Clo X ys Θ) (ha : We X Θ e te) : We X Θ (.UnaryOp .USub e pos) (tUn (rU fun i => .int (-i)) te) := by
  refine ⟨fun pins s σ H Q I θ h => ?_⟩
  refine UnaryOp_ (thn (ha.run pins s σ H _ I θ h) fun v s1 hh => ?_)
  obtain ⟨g1, x, H1, I1, r1, i, rfl, q⟩ := hh
  obtain ⟨t, rfl⟩ := r1
  exact neg_int ⟨C.tok I1 g1, .int (-i), H1, I1.tok _, ⟨_, rfl⟩, q⟩
/-- T(..) -/
theorem we_callTy {T : String} {r : List V → Hp → VK → Prop} (hc : CallW X Θ (.type T) r) (hg : Gl X x) (hm : X.mg x = none) (hv : bootBuiltins x = some (.type T)) (ha : Wa X Θ (e :: es) t) (hn : x ≠ "__name__" := by decide) (hdb : (x == ("__debug__" : Str)) = false := by decide)
    (he : starEach (e :: es) X.env = (false, eval e X.env) :: starEach es X.env := by rfl) (hpl : (backTo pos (starEach es X.env)).any (·.1) = false := by rfl) : We X Θ (.Call (.Name x p) (e :: es) [] pos) (tCB r t) := by
  refine ⟨fun pins s σ H Q I θ h => ?_⟩
  refine wpAny_Call_Name_kw (ld_blt I hg hm hv ?_ hn hdb)
  refine PyProof.Rows.callWith_type1 (thn (ha.run pos pins s σ H _ I θ h) fun us s1 hh => ?_) he hpl
  obtain ⟨g1, vs, H1, I1, r1, q1⟩ := hh
  exact hc pins s1 σ H1 vs us Q I1 g1 r1 q1
/-- list(..) -/
theorem cw_list (C : Clo X ys Θ) : CallW X Θ (.type "list") (rListK X.K) := by
  intro pins s σ H xs us Q I θ r h
  obtain ⟨p, zs, rfl, hq, q⟩ := h
  obtain ⟨u, rfl, rx⟩ := vals1 r
  cases rx
  have fin : ∀ (its : List Value), Vals zs its → zs.length ≤ sizeLine → ∀ (h' : Heap) (c' : Nat), (∀ b o', s.heap.get? b = some o' → h'.get? b = some o') →
      h'.get? s.heap.objs.size = some { cls := .type "list", dict := none, data := .seq its.toArray c', slots := #[] } → Θ { s with heap := h' } ∧ EP X pins σ Q (.ref s.heap.objs.size) { s with heap := h' } := fun its r' hz h' c' kp e =>
    ⟨C.kept (s' := { s with heap := h' }) I (Nat.le_refl _) kp θ, .ref s.heap.objs.size, _, I.laid (t' := s.toks) kp (Nat.le_refl _) (show ObjOk X.prog X.w _ h' _ (.lst zs) from ⟨hz, its, c', r', e⟩), rfl, q _ (I.hok.fresh (Nat.le_refl _))⟩
  rcases hq with hq | hq
  · obtain ⟨its, r', pl, hz⟩ := I.list hq
    have hlen := r'.length
    obtain ⟨o, ho, hc, n, hd⟩ := pl.isList
    exact call_list_seq p (.inl rfl) ho hc hd (fun h' c' kp e => fin its r' hz h' c' kp e) (by simp only [List.size_toArray] <;> omega)
  · obtain ⟨its, r', pl, hz⟩ := I.tuple hq
    have hlen := r'.length
    obtain ⟨o, ho, hc, n, hd⟩ := pl
    exact call_list_seq p (.inr rfl) ho hc hd (fun h' c' kp e => fin its r' hz h' c' kp e) (by simp only [List.size_toArray] <;> omega)
/-- o.append(e) -/
theorem we_append (C : Clo X ys Θ) (ho : We X Θ o to) (ha : We X Θ e te) (hbase : attributeBase o "append" X.env (eval o X.env) = eval o X.env := by rfl)
    (hfew : ((backTo cpos (starEach [e] X.env)).all (fun x => !x.1) && (backToKw cpos (keywordEach [] X.env)).all (fun x => x.1.isSome)
      && decide ([e].length + ([] : List Keyword).length + (if ([] : List Keyword).isEmpty then 0 else 1) < 30)) = true := by rfl)
    (hline : (apos.endLine == cpos.line) = true := by rfl) (hs : starEach [e] X.env = (false, eval e X.env) :: starEach [] X.env := by rfl) (hplain : (backTo cpos (starEach [] X.env)).any (·.1) = false := by rfl) :
    We X Θ (.Call (.Attribute o "append" apos) [e] [] cpos) (tBM X.K "list" rAppend to (tCons te tNil)) := by
  refine ⟨fun pins s σ H Q I θ h => ?_⟩
  refine wpAny_Call_method_late hbase hfew hline rfl (thn (ho.run pins s σ H _ I θ h) fun v s1 hh => ?_)
  obtain ⟨g1, x, H1, I1, r1, ty, q1⟩ := hh
  obtain ⟨h1, h2⟩ := tyV_is I1 r1 ty
  refine ⟨"list", "list.append", PySem.F.plainAttrs_list, PySem.F.slot_list_append, PySem.F.type_list_append, h1, h2, ?_⟩
  have hA := (wa_cons ha wa_nil hs).run cpos pins s1 σ H1 _ I1 g1 q1
  rw [hs] at hA ⊢
  refine Calls.callWith_builtin (by show (false || (backTo cpos (starEach [] X.env)).any (·.1)) = false; rw [hplain] <;> rfl) (Calls.evalArgs_plain ?_)
  refine thn hA fun us s2 hh => ?_
  obtain ⟨g2, vs, H2, I2, r2, l, xs, y, rfl, rfl, hH, hz, q⟩ := hh
  cases r1
  obtain ⟨u, rfl, ru⟩ := r2.one
  obtain ⟨z, its, n, r, hl, e⟩ := I2.lstM hH
  refine call_meets F.slot_list_append ⟨_, e, rfl⟩ F.entry_list_append (F.args_list_append_2 _ _) (PySem.list_append l its.toArray n u (by rw [List.size_toArray]; omega)) ⟨e, ?_⟩
  have nl : l ≠ X.env.locals := fun z => by rw [z, I2.free] at hH; cases hH
  have nc : ∀ x c, X.env.cells.lookup x = some c → c ≠ l := fun x c hc z => by
    have := I2.freeC x c hc
    rw [z, hH] at this
    cases this
  refine ⟨C.but (s' := { s2 with heap := s2.heap.update l (Obj.mapSeq fun a => a.push u), toks := s2.toks }) [l] I2 (Nat.le_refl _) (fun b hb => by rw [List.mem_singleton.mp hb]; exact ⟨nl, nc⟩) (fun b ob hb eb => (Heap.get?_update_other s2.heap (Obj.mapSeq fun a => a.push u) (fun z => hb (by rw [z]; exact List.mem_singleton_self _))).trans eb) g2, ?_⟩
  refine ⟨.non, _, I2.lset (its' := its ++ [u]) hH e (by simp) (r.append (.cons ru .nil)) ?_, rfl, q⟩
  rw [List.length_append, List.length_singleton]
  omega
end
end Sq
set_option Elab.async false
set_option linter.all false
set_option maxRecDepth 100000
set_option maxHeartbeats 8000000
set_option exponentiation.threshold 2000
namespace Sq
open PySem PySem.Spec PyProof.Rows L2
section
variable {P : Program} {w : World} {K : PySem.W.Frag} {mg : Str → Option Value} {base : Heap} {C : Addr}
def texts (T : List (List Nat)) : List V := T.map fun l => V.str (SX.S l)
theorem appT_size {b : Nat} : ∀ {ns : List Int} {T : List (List Nat)}, (∀ l ∈ T, l.length ≤ 2000) → Far ns → ∀ l ∈ appT b T ns, l.length ≤ 2000
  | [], _, hl, _ => hl
  | k :: ns, T, hl, h => by
    show ∀ l ∈ appT b (T ++ [sqT b [k] (lastT T) 0]) ns, l.length ≤ 2000
    refine appT_size (fun l hm => ?_) fun x hx => h x (List.mem_cons_of_mem _ hx)
    rcases List.mem_append.mp hm with z | z
    · exact hl l z
    · rw [List.mem_singleton.mp z]
      exact sqT_size (h k List.mem_cons_self).1 (lastT_size hl)
theorem texts_last {T : List (List Nat)} (h : T ≠ []) : atI (texts T) (-1) = some (.str (SX.S (lastT T))) := by
  rcases List.eq_nil_or_concat T with e | ⟨T0, l, e⟩
  · exact absurd e h
  · rw [List.concat_eq_append] at e
    subst e
    rw [lastT_snoc]
    unfold texts
    rw [List.map_append]
    exact atI_tail _ _
theorem appT_ne {b : Nat} {T : List (List Nat)} {ns : List Int} (h : T ≠ []) : appT b T ns ≠ [] := fun e => by
  have := congrArg List.length e
  rw [appT_len] at this
  cases T with
  | nil => exact h rfl
  | cons a t => simp at this
def spOn (K : PySem.W.Frag) : Sp := fun vs H Q _ => ∃ (a n : Addr) (b : Nat) (T : List (List Nat)) (ns : List Int), vs = [.ref a, .str ⟨#[b]⟩, .ref n] ∧ SqL K H a (texts T) ∧ SqL K H n (ns.map V.int) ∧ T ≠ [] ∧ (∀ l ∈ T, l.length ≤ 2000) ∧ Far ns ∧ T.length + ns.length ≤ 100000 ∧
  ∀ t H', H t = none → Same H H' → H' t = some (.lst (texts (appT b T ns))) → Q (.ref t) H'
theorem ok_lawon {f : Addr} {fd : FuncData} (F : Fun K "_law_on" "_law_on" s_lawon f fd) (B : Bi mg) (T_lawreplaced : DfT P w K mg base 1 "_law_replaced" ["written", "sign", "numbers"] 1 (spReplaced K)) : FnT P w K mg base 2 f fd ["passed", "sign", "numbers"] 1 (spOn K) := by
  refine fnt_ofL F sc_lawon (fun vs H Q E h => ?_) (y := "sign") rfl rfl (fun cdv A outer s H us vs Q u0 hr h rv tkn hu => ?_)
  · obtain ⟨a, n, b, T, ns, rfl, _⟩ := h
    rfl
  · obtain ⟨a, n, b, T, ns, rfl, hT, hn, ne, hl, far, few, q⟩ := h
    have good : Tkn 0 [u0] s.toks := fun z t e one => tkn z t (by rw [hu]; exact e) one
    have cl : Clo (cxOf CX0 P w K mg base ["passed", "sign", "numbers", "found", "number"] "_law_on" (defScope s_lawon) f cdv A outer s H E0).nox ["sign"] (fun s' => Raw (cxOf CX0 P w K mg base ["passed", "sign", "numbers", "found", "number"] "_law_on" (defScope s_lawon) f cdv A outer s H E0).nox "sign" u0 s' ∧ s.toks ≤ s'.toks) := (clo_raw rfl).and clo_n
    have kn : Known (cxOf CX0 P w K mg base ["passed", "sign", "numbers", "found", "number"] "_law_on" (defScope s_lawon) f cdv A outer s H E0).nox (fun s' => Raw (cxOf CX0 P w K mg base ["passed", "sign", "numbers", "found", "number"] "_law_on" (defScope s_lawon) f cdv A outer s H E0).nox "sign" u0 s' ∧ s.toks ≤ s'.toks) "sign" := known_local rfl good
    refine ⟨_, wu_cons (ws_set (i := 3) cl (by decide) sc_lawon.nd rfl (Or.inl rfl) (we_callTy (T := "list") (cw_list cl) (by rfl) B.n_list (by decide +kernel) (wa_cons (wv 0) wa_nil)))
      (wu_cons (ws_forL rfl PassesOwn.never cl (wv 2) (wg_name (i := 4) cl (by decide) sc_lawon.nd rfl (Or.inl rfl))
        (wss_one (ws_expr (we_append cl (wv 3) (we_callT cl T_lawreplaced (hr.mono (by omega)) (by rfl) (wx_skip (we_ixL (wv 3) (we_neg cl (we_int cl)) (fun _ _ => rfl)) (wx_name (i := 1) kn rfl (Or.inl rfl) (wa_cons (we_lst cl (wa_cons (wv 4) wa_nil)) wa_nil))))))))
      (wu_ps (pss_one (ps_ret (pv 3))))), ?_⟩
    have szl : sizeLine = 16777216 := sizeLine_eq
    have w1 : 1 ≤ sizeLine := by omega
    refine ⟨_, rfl, a, _, rfl, .inl hT, fun t ht => ?_⟩
    have s0 := same_new (o := .lst (texts T)) ht
    refine ⟨_, rfl, n, ns.map V.int, rfl, s0.seq hn, (fun i σ H' => ∃ y, σ = [some (.ref a), some (.str ⟨#[b]⟩), some (.ref n), some (.ref t), y] ∧ H' t = some (.lst (texts (appT b T (ns.take i)))) ∧ Same H (wo H' t)),
      ⟨none, rfl, upd_same, by rw [wo_upd]; exact same_wo (Same.refl _) ht⟩, fun i σ H' h => by obtain ⟨_, _, _, sm⟩ := h; exact (sm.trans wo_same).seq hn, ?_, ?_⟩
    · rintro i z σ H2 hz ⟨y, rfl, g, sm⟩
      obtain ⟨k, ek, rfl⟩ := map_at hz
      have fk := far k (List.mem_of_getElem? ek)
      have il : i < ns.length := (List.getElem?_eq_some_iff.mp ek).1
      have farI : Far (ns.take i) := fun x hx => far x (List.mem_of_mem_take hx)
      obtain ⟨TT, eT⟩ : ∃ TT, TT = appT b T (ns.take i) := ⟨_, rfl⟩
      have ltT : TT.length = T.length + (ns.take i).length := by rw [eT]; exact appT_len b _ _
      rw [List.length_take] at ltT
      have neT : TT ≠ [] := by rw [eT]; exact appT_ne ne
      have szT : ∀ l ∈ TT, l.length ≤ 2000 := by rw [eT]; exact appT_size hl farI
      have eN : appT b T (ns.take (i + 1)) = TT ++ [sqT b [k] (lastT TT) 0] := by rw [List.take_add_one, ek, eT]; exact appT_snoc b T _ k
      rw [← eT] at g
      refine ⟨_, rfl, .inl ⟨rfl, _, SqL.of g⟩, ?_⟩
      refine ⟨_, rfl, 1, rfl, t, _, -1, _, rfl, rfl, SqL.of g, texts_last neT, ?_⟩
      refine ⟨_, rfl, _, rfl, w1, fun l1 hl1 => ?_⟩
      have nl1 : l1 ≠ t := fun z => by rw [z, g] at hl1; cases hl1
      refine ⟨lastT TT, b, l1, [k], rfl, lastT_size szT, SqL.of upd_same, fun x hx => by rw [List.mem_singleton.mp hx]; exact fk, fun H3 s3 => ?_⟩
      have s23 := (same_new (o := .lst [V.int k]) hl1).trans s3
      have g3 := s23 _ _ g
      refine ⟨t, _, _, rfl, rfl, g3, by rw [show (texts TT).length = TT.length from List.length_map _]; omega, some (.int k), rfl, ?_, ?_⟩
      · rw [upd_same, eN]
        unfold texts
        rw [List.map_append]
        rfl
      · rw [wo_upd]
        exact sm.trans (same_wo (wo_same.trans s23) wo_self)
    · rintro σ H2 ⟨y, rfl, g, sm⟩
      rw [List.length_map, List.take_length] at g
      exact ⟨_, rfl, q t H2 ht (sm.trans wo_same) g⟩
end
end Sq
set_option Elab.async false
set_option linter.all false
set_option maxRecDepth 100000
set_option maxHeartbeats 4000000
namespace Sq
open PySem PySem.Spec PyProof.Rows L2 GenW
section
variable {X : Cx} {Θ : Shared → Prop} {ys : List Str} {pins : List (Addr × Obj)} {σ : L2.St} {H : Hp} {s : Shared} {x y : Str} {p op pos apos cpos : Pos} {e e2 o : Expr} {es : List Expr} {te tf to : TE} {t : TA} {body : List Stmt} {tb : TS}
def tForR (t : TA) (g : TG) (tb : TS) : TS := fun D σ H => t σ H fun vs H1 => ∃ j : Int, vs = [.int j] ∧ -(2 ^ 62) ≤ j ∧ j < 2 ^ 62 ∧ ∃ Pv : Nat → L2.St → Hp → Prop, Pv 0 σ H1 ∧
  (∀ (i : Nat) (σ : L2.St) (H : Hp), i < j.toNat → Pv i σ H → g (.int i) σ H fun σ2 H2 => tb { nx := Pv (i + 1), ct := Pv (i + 1), bk := D.nx, rt := D.rt } σ2 H2) ∧ ∀ σ H, Pv j.toNat σ H → D.nx σ H
theorem ws_forR {g : TG} (hcalm : X.calm = true) (own : PassesOwn (model X.prog X.w) X.A X.env X.xe) (Cl : Clo X ys Θ) (hgl : Gl X "range") (hm : X.mg "range" = none) (ha : Wa X Θ [e] t) (hg : Wg X Θ (.Name x op) g) (hb : Wss X Θ body tb)
    (hfs : ∀ z, foldedSetIterable (.Call (.Name "range" p) [e] [] cpos) X.env z = pure z := by intro _; rfl) (hs : starEach [e] X.env = [(false, eval e X.env)] := by rfl) : Ws X Θ (.For (.Name x op) (.Call (.Name "range" p) [e] [] cpos) body [] pos) (tForR t g tb) := by
  refine ⟨fun pins s σ H D I θ h => ?_⟩
  refine wpAny_mono (wpAny_For (Q := fun f s' => Θ s' ∧ SP X pins D f s') (Call_ (ld_blt I hgl hm boot_range (PyProof.Rows.callWith_type1 (thn (ha.run cpos pins s σ H _ I θ h) fun us s1 hh => ?_) hs rfl))) hfs) (fun _ _ z => z) fun _ _ z => z
  obtain ⟨θ1, vs, H1, I1, r1, j, ex, q1, q2, Pv, p0, turn, fin⟩ := hh
  subst ex
  obtain ⟨u, rfl, tk, rfl⟩ := vals1 r1
  refine call_range_1 ?_
  generalize eh : s1.heap.push { cls := .type "range", data := .fields #[.int 0 s1.toks, .int j tk, .int 1 (s1.toks + 1)] } = h1
  have kept : ∀ b o, s1.heap.get? b = some o → h1.get? b = some o := fun b o e => by
    rw [← eh]
    exact Heap.get?_push_of_some _ e
  have isR : IsRange h1 s1.heap.objs.size 0 j 1 s1.toks tk (s1.toks + 1) := by
    rw [← eh]
    exact IsRange.new ..
  have I2 : Inv X pins σ H1 { s1 with heap := h1, toks := s1.toks + 1 + 1 } := I1.kept (t' := s1.toks + 1 + 1) kept
  have θ2 : Θ { s1 with heap := h1, toks := s1.toks + 1 + 1 } := Cl.kept (s' := { s1 with heap := h1, toks := s1.toks + 1 + 1 }) I1 (Nat.le_add_right s1.toks 2) kept θ1
  refine wpAny_pyIter_range isR (small_one (by omega) (by omega) q1 q2) ?_
  obtain ⟨it, eit⟩ : ∃ it, it = ({ s1 with heap := h1, toks := s1.toks + 1 + 1 } : Shared).heap.objs.size := ⟨_, rfl⟩
  rw [← eit]
  have fpk : FpOk X pins H1 it := I2.fpOk (Nat.le_of_eq eit.symm) (by rw [eit]; exact I2.hok.fresh (Nat.le_refl _))
  have away : ∀ b ∈ [it], b ≠ X.env.locals ∧ ∀ x c, X.env.cells.lookup x = some c → c ≠ b := fun b hb => by
    rw [List.mem_singleton.mp hb]
    exact ⟨fpk.2.1, fpk.2.2.2.2.1⟩
  have left : ((j.toNat : Nat) : Int) - ((0 : Nat) : Int) = Builtin.Range.rangeSize 0 j 1 := by
    rw [rangeSize_one]
    split <;> omega
  refine codeAny_forLoop_any (fun m s' => ∃ i σ' H', m = j.toNat - i ∧ i ≤ j.toNat ∧ Θ s' ∧ Inv X pins σ' H' s' ∧ IsRangeIter s'.heap it (i : Int) ((j.toNat : Int) - (i : Int)) 1 ∧ H' it = none ∧ Pv i σ' H') (fun m s' hs' => ?_) j.toNat
    ⟨0, σ, H1, rfl, Nat.zero_le _, Cl.kept I2 (Nat.le_refl _) (fun b o e => Heap.get?_push_of_some _ e) θ2, I2.kept (t' := s1.toks + 1 + 1) (fun b o e => Heap.get?_push_of_some _ e), by rw [eit, left]; exact Heap.get?_push_size _ rfl, fpk.1, p0⟩
  obtain ⟨i, σ', H', rfl, hi, θ3, I3, st, free, pv⟩ := hs'
  have fpk2 : FpOk X pins H' it := ⟨free, fpk.2⟩
  by_cases lt : i < j.toNat
  · refine wpAny_pyNext_range_item st (by omega) fun h' st' sb => ?_
    obtain ⟨f0, f1, f2, f3, f4, f5⟩ := fpk2
    have I4 : Inv X pins σ' H' { s' with heap := h', toks := s'.toks + 1 } := I3.turned (t' := s'.toks + 1) (fun b o hb e => (sb.2 b hb).trans e) f0 f1 f3 f4 f5
    have I5 := I4.pinned (fp := [it]) (fun b hb => by rw [List.mem_singleton.mp hb]; exact ⟨free, fpk.2⟩) (fun b hb => by
      rw [List.mem_singleton.mp hb]
      exact ⟨_, st', fun v z => by
        have z' : Data.fields _ = Data.cell v := z
        cases z'⟩)
    have θ4 : Θ { s' with heap := h', toks := s'.toks + 1 } := Cl.but [it] I3 (Nat.le_add_right s'.toks 1) away (fun b o hb e => (sb.2 b (fun z => hb (by rw [z]; exact List.mem_singleton_self _))).trans e) θ3
    refine go_of (s := { s' with heap := h', toks := s'.toks + 1 }) (n := "range_iterator") st' rfl rfl (by decide) ?_
    refine wpAny_passesOwn own (thn (hg.run _ { s' with heap := h', toks := s'.toks + 1 } σ' H' (.int i) _ _ I5 θ4 ⟨_, rfl⟩ (turn i σ' H' lt pv)) fun _ s4 h4 => ?_)
    obtain ⟨θ5, σ4, H4, I6, q4⟩ := h4
    refine wpAny_passesOwn own (thn (hb.run _ s4 σ4 H4 _ I6 θ5 q4) fun fl s5 h5 => ?_)
    obtain ⟨θ6, q5⟩ := h5
    have again : ∀ σ5 H5, Inv X (pins ++ pinsAt [it] h') σ5 H5 s5 → Pv (i + 1) σ5 H5 → ∃ m, m < j.toNat - i ∧ ∃ i' σ' H', m = j.toNat - i' ∧ i' ≤ j.toNat ∧ Θ s5 ∧ Inv X pins σ' H' s5 ∧ IsRangeIter s5.heap it (i' : Int) ((j.toNat : Int) - (i' : Int)) 1 ∧ H' it = none ∧ Pv i' σ' H' := fun σ5 H5 I7 pv5 => by
      have pi := I7.pin (it, _) (List.mem_append_right _ (List.mem_append_right _ (mem_pinsAt (by simp) st')))
      refine ⟨j.toNat - (i + 1), by omega, i + 1, σ5, H5, rfl, lt, θ6, I7.unpinned, ?_, pi.2.1, pv5⟩
      have e := pi.1
      have e1 : ((i : Int) + 1) = ((i + 1 : Nat) : Int) := by omega
      have e2 : ((j.toNat : Int) - (i : Int) - 1) = ((j.toNat : Int) - ((i + 1 : Nat) : Int)) := by omega
      rw [e1, e2] at e
      exact e
    match fl, q5 with
    | .next, ⟨σ5, H5, I7, pv5⟩ => exact again σ5 H5 I7 pv5
    | .cont, ⟨σ5, H5, I7, pv5⟩ => exact again σ5 H5 I7 pv5
    | .brk, ⟨σ5, H5, I7, qd⟩ => exact ⟨θ6, σ5, H5, I7.unpinned, qd⟩
    | .ret v, ⟨x5, σ5, H5, I7, rv5, qd⟩ => exact ⟨θ6, x5, σ5, H5, I7.unpinned, rv5, qd⟩
  · obtain rfl : i = j.toNat := by omega
    refine wpAny_pyNext_range_end (I3.ok.hd hcalm) st (by omega) fun h2 eb => ?_
    obtain ⟨f0, f1, f2, f3, f4, f5⟩ := fpk2
    have I4 : Inv X pins σ' H' { s' with heap := h2 } := I3.turned (t' := s'.toks) (fun b o hb q => eb b o hb q) f0 f1 f3 f4 f5
    have θ4 : Θ { s' with heap := h2 } := Cl.but [it] I3 (Nat.le_refl _) away (fun b o hb e => eb b o (fun z => hb (by rw [z]; exact List.mem_singleton_self _)) e) θ3
    refine wpAny_execs_nil ⟨θ4, σ', H', I4, fin σ' H' pv⟩
end
end Sq
set_option Elab.async false
set_option linter.all false
set_option maxRecDepth 100000
set_option maxHeartbeats 4000000
namespace Sq
open PySem PySem.Spec PyProof.Rows L2 GenW
section
variable {X : Cx}
/-- where a loop's items come from -/
structure WI (X : Cx) (Θ : Shared → Prop) (tg iter : Expr) (wi : TI) : Prop where
  run : ∀ (pins : List (Addr × Obj)) (s : Shared) (σ : L2.St) (H : Hp) (R : It → Hp → Prop), Inv X pins σ H s → Θ s → wi σ H R →
    wpAny (model X.prog X.w) X.A (eval iter X.env) (fun v s1 => wpAny (model X.prog X.w) X.A (pyIter v) (fun u s2 => Θ s2 ∧ PIE X pins σ tg R u s2) X.xe s1) X.xe s
theorem wi_range1 {Θ : Shared → Prop} {ys : List Str} {p pos : Pos} {e : Expr} {t : TA} (Cl : Clo X ys Θ) {tg : Expr} (hg : Gl X "range") (hm : X.mg "range" = none) (ha : Wa X Θ [e] t) (hs : starEach [e] X.env = [(false, eval e X.env)] := by rfl) : WI X Θ tg (.Call (.Name "range" p) [e] [] pos) (iRng1 t) := by
  refine ⟨fun pins s σ H R I θ h => ?_⟩
  refine Call_ (ld_blt I hg hm boot_range (PyProof.Rows.callWith_type1 (thn (ha.run pos pins s σ H _ I θ h) fun us s1 hh => ?_) hs rfl))
  obtain ⟨g1, vs, H1, I1, r1, j, ex, q1, q2, q⟩ := hh
  subst ex
  obtain ⟨u, rfl, tk, rfl⟩ := vals1 r1
  refine call_range_1 ?_
  generalize eh : s1.heap.push { cls := .type "range", data := .fields #[.int 0 s1.toks, .int j tk, .int 1 (s1.toks + 1)] } = h1
  have kept : ∀ b o, s1.heap.get? b = some o → h1.get? b = some o := fun b o e => by
    rw [← eh]
    exact Heap.get?_push_of_some _ e
  have isR : IsRange h1 s1.heap.objs.size 0 j 1 s1.toks tk (s1.toks + 1) := by
    rw [← eh]
    exact IsRange.new ..
  have I2 : Inv X pins σ H1 { s1 with heap := h1, toks := s1.toks + 1 + 1 } := I1.kept (t' := s1.toks + 1 + 1) kept
  have θ2 : Θ { s1 with heap := h1, toks := s1.toks + 1 + 1 } := Cl.kept (s' := { s1 with heap := h1, toks := s1.toks + 1 + 1 }) I1 (Nat.le_add_right s1.toks 2) kept g1
  refine wpAny_pyIter_range isR (small_one (by omega) (by omega) q1 q2) ⟨Cl.kept I2 (Nat.le_refl _) (fun b o e => Heap.get?_push_of_some _ e) θ2, ?_⟩
  refine ⟨h1.objs.size, [h1.objs.size], _, _, H1, rfl, I2.kept (t' := s1.toks + 1 + 1) (fun b o e => Heap.get?_push_of_some _ e), turn_range _ 0 j.toNat, ?_, fun b hb => ?_, q⟩
  · have first : (0 : Int) + ((0 : Nat) : Int) * 1 = 0 := by omega
    have left : ((j.toNat : Nat) : Int) - ((0 : Nat) : Int) = Builtin.Range.rangeSize 0 j 1 := by
      rw [rangeSize_one]
      split <;> omega
    show IsRangeIter _ _ ((0 : Int) + ((0 : Nat) : Int) * 1) (((j.toNat : Nat) : Int) - ((0 : Nat) : Int)) 1
    rw [first, left]
    exact Heap.get?_push_size _ rfl
  · rw [List.mem_singleton.mp hb]
    exact I2.fpOk (Nat.le_refl _) (I2.hok.fresh (Nat.le_refl _))
theorem lcW_core {Θ : Shared → Prop} {ys : List Str} (Cl : Clo X ys Θ) {pins : List (Addr × Obj)} {s : Shared} {σ : L2.St} {H : Hp} {Q : VK} {elt tg iter : Expr} {ifs : List Expr} {scope : Scope} {own : List (Str × Nat)} {pos pos' : Pos} {wi : TI} {g : TG} {tt : TT} {te : TE} {use : Option (Value → Sem Unit)} {Qf : Value → Shared → Prop}
    (mood : X.calm = true) (nodupN : X.N.Nodup) (I : Inv X pins σ H s) (θ : Θ s) (sourceA : WI X Θ tg iter wi) (ok : BlkOk X.N X.env.scope scope own)
    (targetA : ∀ (s : Shared) (H : Hp) (C : Addr) (cl : List (Str × Addr)) (fp : List Addr), PG (X.blk s H scope (compEnvC scope cl C X.env) fp) tg g) (testsA : ∀ (s : Shared) (H : Hp) (C : Addr) (cl : List (Str × Addr)) (fp : List Addr), PTs (X.blk s H scope (compEnvC scope cl C X.env) fp) ifs tt)
    (elemA : ∀ (s : Shared) (H : Hp) (C : Addr) (cl : List (Str × Addr)) (fp : List Addr), PE (X.blk s H scope (compEnvC scope cl C X.env) fp) elt te) (plainA : ∀ x, foldedSetIterable iter X.env x = pure x)
    (h : tLc wi g tt te (own.map (·.2)) σ H Q)
    (back : ∀ D C s' m H', Θ s' → Inv X pins σ H' s' → Q (.ref D) H' → s'.heap.Ns C m → FpOk X pins H' C → compPost (model X.prog X.w) X.A X.xe use Qf (.ref D) C (.ok .next) s') :
    wpAny (model X.prog X.w) X.A (comprehension (.ListComp elt [⟨tg, iter, ifs, 0⟩] scope pos) scope X.env pos' (newList []) false (eval iter X.env) use) Qf X.xe s := by
  have captured : ∀ y ∈ scope.names, y.2 = .free → ∃ c, X.env.cells.lookup y.1 = some c := fun y hy e => by
    rcases ok.free y hy e with k | k
    · exact I.ok.has _ (.inl k)
    · exact I.ok.has _ (.inr k)
  refine wpAny_comprehension_free (use := use) rfl plainA (closure_ok captured) ok.kind (fun y hy e => by rw [ok.uniq y hy, e])
    (thn (sourceA.run pins s σ H _ I θ h) fun srcV sA gotX => thn gotX fun itV sB hB2 => ?_)
  obtain ⟨θB, h2⟩ := hB2
  obtain ⟨it, fp, tn, J, HB, e, I2, T, st2, f2, q⟩ := h2
  subst e
  refine wpAny_newObj_type (newEnv_comp ?_) (Nat.zero_le _)
  generalize atD : sB.heap.objs.size = D
  have freshD : HB D = none := I2.hok.fresh (Nat.le_of_eq atD)
  obtain ⟨W, ⟨mes0, inv0⟩, walk0⟩ := q D freshD
  -- the new list
  generalize laid3 : ({ sB with heap := sB.heap.push { cls := .type "list", data := .seq ([] : List Value).toArray } } : Shared) = sC
  have J3 : Inv X pins σ (upd HB D (.lst [])) sC := by
    rw [← laid3]
    refine I2.laid (t' := sB.toks) (fun b o e => Heap.get?_push_of_some _ e) (Nat.le_of_eq atD) ⟨Nat.zero_le _, [], 0, .nil, ?_⟩
    rw [← atD]
    exact Heap.get?_push_size _ rfl
  have heap3 : sC.heap = sB.heap.push { cls := .type "list", data := .seq ([] : List Value).toArray } := by rw [← laid3]
  have below : ∀ b ∈ fp, b < sB.heap.objs.size := fun b hb => by
    obtain ⟨o, e, _⟩ := T.obj _ _ st2 b hb
    exact Heap.lt_size e
  have roam3 : ∀ b ∈ fp, FpOk X pins (upd HB D (.lst [])) b ∧ b < sC.heap.objs.size := fun b hb => by
    have hlt := below b hb
    refine ⟨⟨?_, (f2 b hb).2⟩, by rw [heap3, Heap.size_push]; exact Nat.lt_succ_of_lt hlt⟩
    rw [upd_ne (by rw [← atD]; exact Nat.ne_of_lt hlt)]
    exact (f2 b hb).1
  have turn3 : tn 0 sC.heap := T.keep _ _ _ st2 fun b _ o e => by rw [heap3]; exact Heap.get?_push_of_some _ e
  have J4 := block_start J3 ok nodupN roam3
  have tgt := targetA sC (upd HB D (.lst [])) sC.heap.objs.size (cellsFrom (sC.heap.objs.size + 1) scope.names (cloFrom X.env.cells scope.names [])) fp
  have tst := testsA sC (upd HB D (.lst [])) sC.heap.objs.size (cellsFrom (sC.heap.objs.size + 1) scope.names (cloFrom X.env.cells scope.names [])) fp
  have elm := elemA sC (upd HB D (.lst [])) sC.heap.objs.size (cellsFrom (sC.heap.objs.size + 1) scope.names (cloFrom X.env.cells scope.names [])) fp
  show codeAny _ _ (.compStart (.ListComp elt [⟨tg, iter, ifs, 0⟩] scope pos) 0 (.ref it) (.ref D) (compEnvC scope (cellsFrom (sC.heap.objs.size + 1) scope.names (cloFrom X.env.cells scope.names [])) sC.heap.objs.size X.env)) (compPost (model X.prog X.w) X.A X.xe use Qf (.ref D) sC.heap.objs.size) { sC with heap := pushCells (sC.heap.push { cls := .type "dict", data := .dict #[] }) scope.names }
  have θC : Θ sC := by
    rw [← laid3]
    exact Cl.push I2 θB
  have manyC : sC.toks ≤ sC.toks := Nat.le_refl _
  have blkFs : (X.blk sC (upd HB D (.lst [])) scope (compEnvC scope (cellsFrom (sC.heap.objs.size + 1) scope.names (cloFrom X.env.cells scope.names [])) sC.heap.objs.size X.env) fp).fs = frs X.stack := rfl
  have untr : ∀ b ∈ fp, (upd HB D (.lst [])) b = none := fun b hb => (roam3 b hb).1.1
  generalize blkE : compEnvC scope (cellsFrom (sC.heap.objs.size + 1) scope.names (cloFrom X.env.cells scope.names [])) sC.heap.objs.size X.env = ce at J4 tgt tst elm ⊢
  have locE : ce.locals = sC.heap.objs.size := by subst blkE; rfl
  generalize heapE : upd HB D (.lst []) = HC at J3 J4 tgt tst elm inv0 untr roam3
  generalize laid4 : ({ sC with heap := pushCells (sC.heap.push { cls := .type "dict", data := .dict #[] }) scope.names } : Shared) = sD at J4 ⊢
  have turn4 : tn 0 sD.heap := T.keep _ _ _ turn3 fun b _ o e => by rw [← laid4]; exact pushCells_keeps _ _ _ _ (Heap.get?_push_of_some _ e)
  have roams : ∀ {σ' : L2.St} {H' : Hp} {s' : Shared}, Inv (X.blk sC HC scope ce fp) [] σ' H' s' → (∀ b ∈ fp, H' b = none) → ∀ b ∈ fp, FpOk (X.blk sC HC scope ce fp) [] H' b := fun {σ' H' s'} I' nsC b hb =>
    ⟨nsC b hb, (I'.ok.exf b hb).1, I'.ok.exfs b hb, .inl hb, fun x c e => (I'.ok.exf b hb).2 x c e, fun p hp => absurd (show p ∈ ([] : List (Addr × Obj)) ++ [] from hp) (by simp)⟩
  have outer0 : codeAny (model X.prog X.w) X.A (.compLoop (.ListComp elt [⟨tg, iter, ifs, 0⟩] scope pos) 0 (.ref it) (.ref D) ce) (compPost (model X.prog X.w) X.A X.xe use Qf (.ref D) sC.heap.objs.size) sD := by
    refine compLoop_any (fun n s' => ∃ i H', Inv (X.blk sC HC scope ce fp) [] (wipe σ (own.map (·.2))) H' s' ∧ tn i s'.heap ∧ (∀ b ∈ fp, H' b = none) ∧ W i n H' ∧ sC.toks ≤ s'.toks) ?_ mes0 ⟨0, HC, J4, turn4, untr, inv0, by rw [← laid4]; exact manyC⟩
    rintro n sE ⟨i, HE, J5, turn5, un5, inv5, manyE⟩
    rcases walk0 i n HE inv5 with ⟨atEnd, done0⟩ | ⟨more, NxA, reach, body0⟩
    · have ended := T.done (X.blk sC HC scope ce fp) rfl rfl rfl mood i [] sE _ HE (fun _ _ => False) J5 (roams J5 un5) turn5 atEnd
      refine wpAny_mono (PySem.wpAny_toks_of manyE ended) (fun r sF hh => ?_) fun _ _ z => False.elim z.2
      obtain ⟨manyF, hr, J6⟩ := hh
      subst hr
      have θF : Θ sF := Cl.un fp J3 manyF (fun b hb => ⟨(roam3 b hb).1.2.1, (roam3 b hb).1.2.2.2.2.1⟩) J6.base θC
      have J7 : Inv X pins σ HE sF := J3.call' (ch := fp) J6.os J6.base J6.hok J6.bare fun b hb => ⟨(roam3 b hb).1.2.2.2.1, (roam3 b hb).1.2.1, (roam3 b hb).1.2.2.2.2.1, (roam3 b hb).1.2.2.2.2.2⟩
      have freeC : HE sC.heap.objs.size = none := by
        have z : HE ce.locals = none := J6.free
        rw [locE] at z
        exact z
      obtain ⟨m, nsC, _⟩ := J6.loc
      have nsC : sF.heap.Ns ce.locals m := nsC
      rw [locE] at nsC
      exact back D sC.heap.objs.size sF m HE θF J7 done0 nsC (J3.fpOk (Nat.le_refl _) freeC)
    · have given := T.item (X.blk sC HC scope ce fp) rfl rfl rfl mood i [] sE _ HE (fun _ _ => False) J5 (roams J5 un5) turn5 more
      refine wpAny_mono (PySem.wpAny_toks_of manyE given) (fun r sF hh => ?_) fun _ _ z => False.elim z.2
      obtain ⟨manyF, u, hr, got6⟩ := hh
      subst hr
      refine wpAny_mono (PySem.wpAny_toks_of manyF got6) (fun _ sG hh => ?_) fun _ _ z => False.elim z.2
      obtain ⟨manyG, x, HG, J7, rel7, yld7, turn7, un7⟩ := hh
      have J7p := J7.pinned (roams J7 un7) (T.obj _ _ turn7)
      refine wpAny_mono (PySem.wpAny_toks_of manyG (tgt.run _ sG _ HG x u _ J7p rel7 (body0 x HG yld7))) (fun _ sH hh => ?_) fun _ _ z => False.elim z.2
      obtain ⟨manyH, τ, HH, J8, wip8, go8⟩ := hh
      refine wpAny_mono (PySem.wpAny_toks_of manyH (tst.run _ sH τ HH _ J8 go8)) (fun b sI hh => ?_) fun _ _ z => False.elim z.2
      obtain ⟨manyI, HI, J9, go9⟩ := hh
      have close : ∀ {s' : Shared} {H' : Hp}, sC.toks ≤ s'.toks → Inv (X.blk sC HC scope ce fp) ([] ++ pinsAt fp sG.heap) τ H' s' → NxA H' →
          ∃ m, m < n ∧ ∃ i H', Inv (X.blk sC HC scope ce fp) [] (wipe σ (own.map (·.2))) H' s' ∧ tn i s'.heap ∧ (∀ b ∈ fp, H' b = none) ∧ W i m H' ∧ sC.toks ≤ s'.toks := fun {s' H'} mn I' nextW => by
        obtain ⟨m', lessM, invM⟩ := reach H' nextW
        have kept : ∀ b ∈ fp, ∀ o, sG.heap.get? b = some o → s'.heap.get? b = some o ∧ H' b = none := fun b hb o e =>
          let z := I'.pin (b, o) (List.mem_append_right _ (List.mem_append_right _ (mem_pinsAt hb e)))
          ⟨z.1, z.2.1⟩
        refine ⟨m', lessM, i + 1, H', (I'.unpinned (pins := [])).weak (by rw [← wip8, wipe_length]) (fun j v e => by rw [← wip8] at e; exact (wipe_some e).1), T.keep _ _ _ turn7 fun b hb o e => (kept b hb o e).1, fun b hb => ?_, invM, mn⟩
        obtain ⟨o, e, _⟩ := T.obj _ _ turn7 b hb
        exact (kept b hb o e).2
      cases b with
      | false =>
        simp only [Bool.false_eq_true, if_false] at go9 ⊢
        exact close manyI J9 go9
      | true =>
        simp only [if_true] at go9 ⊢
        refine wpAny_mono (PySem.wpAny_toks_of manyI (elm.run _ sI τ HI _ J9 go9)) (fun z sQ hh => ?_) fun _ _ z => False.elim z.2
        obtain ⟨kn17, yv, HQ, J17, rel17, acc, acc17, room17, nextW⟩ := hh
        refine wpAny_mono (PySem.wpAny_toks_of kn17 (app_ok (X := X.blk sC HC scope ce fp) (E := fun _ _ => False) (Q := fun _ s' => sC.toks ≤ s'.toks → ∃ m, m < n ∧ ∃ i H', Inv (X.blk sC HC scope ce fp) [] (wipe σ (own.map (·.2))) H' s' ∧ tn i s'.heap ∧ (∀ b ∈ fp, H' b = none) ∧ W i m H' ∧ sC.toks ≤ s'.toks) J17 acc17 room17 rel17 fun sR J18 mn => close mn J18 nextW)) (fun _ _ z => z.2 z.1) fun _ _ z => False.elim z.2
  exact codeAny_compStart_list outer0 (T.self X.A 0 _ _ _ turn4 outer0)
theorem we_lc {Θ : Shared → Prop} {ys : List Str} (Cl : Clo X ys Θ) {elt tg iter : Expr} {ifs : List Expr} {scope : Scope} {own : List (Str × Nat)} {pos : Pos} {wi : TI} {g : TG} {tt : TT} {te : TE} (mood : X.calm = true) (nodupN : X.N.Nodup) (sourceA : WI X Θ tg iter wi) (ok : BlkOk X.N X.env.scope scope own)
    (targetA : ∀ (s : Shared) (H : Hp) (C : Addr) (cl : List (Str × Addr)) (fp : List Addr), PG (X.blk s H scope (compEnvC scope cl C X.env) fp) tg g) (testsA : ∀ (s : Shared) (H : Hp) (C : Addr) (cl : List (Str × Addr)) (fp : List Addr), PTs (X.blk s H scope (compEnvC scope cl C X.env) fp) ifs tt)
    (elemA : ∀ (s : Shared) (H : Hp) (C : Addr) (cl : List (Str × Addr)) (fp : List Addr), PE (X.blk s H scope (compEnvC scope cl C X.env) fp) elt te) (plainA : ∀ x, foldedSetIterable iter X.env x = pure x := by intro _; rfl) :
    We X Θ (.ListComp elt [⟨tg, iter, ifs, 0⟩] scope pos) (tLc wi g tt te (own.map (·.2))) := by
  refine ⟨fun pins s σ H Q I θ h => ?_⟩
  rw [arm_eval_ListComp]
  refine lcW_core Cl mood nodupN I θ sourceA ok targetA testsA elemA plainA h fun D C s' m H' θ' I' q nsC f => ⟨m, nsC, fun h'' sb => ?_⟩
  obtain ⟨f0, f1, f2, roam3, f4, f5⟩ := f
  have θ2 : Θ { s' with heap := h'' } := Cl.but [C] I' (Nat.le_refl _) (fun b hb => by rw [List.mem_singleton.mp hb]; exact ⟨f1, f4⟩) (fun b o hb e => (sb.2 b (fun z => hb (by rw [z]; exact List.mem_singleton_self _))).trans e) θ'
  exact ⟨θ2, .ref D, H', I'.turned (t' := s'.toks) (fun b o hb e => (sb.2 b hb).trans e) f0 f1 roam3 f4 f5, rfl, q⟩
end
end Sq
set_option Elab.async false
set_option linter.all false
set_option maxRecDepth 100000
set_option maxHeartbeats 4000000
namespace Sq
open PySem PySem.Spec PyProof.Rows L2 GenW
section
variable {X : Cx} {Θ : Shared → Prop} {ys : List Str} {pins : List (Addr × Obj)} {σ : L2.St} {H : Hp} {s : Shared} {x y : Str} {p p2 pos apos cpos : Pos} {e e2 o ce : Expr} {es : List Expr} {te tf to : TE} {t : TA} {tt tu : TT} {lo hi : Option Expr} {tl th : TO}
/-- an operation that changes nothing but the number of tokens -/
theorem ow_of {op : Value → Value → Sem Value} {r : R2} (Cl : Clo X ys Θ) (h : ∀ (pins : List (Addr × Obj)) (s : Shared) (σ : L2.St) (H : Hp) (x y : V) (v u : Value) (Q : VK), Inv X pins σ H s → RelV x v → RelV y u → r x y H Q → wpAny (model X.prog X.w) X.A (op v u) (fun w s' => s'.heap = s.heap ∧ EP X pins σ Q w s') X.xe s) : OpW X Θ op r :=
  fun pins s σ H x y v u Q I θ rx ry q => wpAny_mono (PySem.wpAny_toks (h pins s σ H x y v u Q I rx ry q)) (fun w s' z => ⟨Cl.kept I z.1 (fun b o e => by rw [z.2.1]; exact e) θ, z.2.2⟩) fun _ _ z => z.2
theorem ow_add (Cl : Clo X ys Θ) : OpW X Θ (binaryOp .Add) (rI0 fun i j => .int (i + j)) := ow_of Cl fun pins s σ H x y v u Q I rx ry h => by
  obtain ⟨i, j, rfl, rfl, q⟩ := h
  obtain ⟨t, rfl⟩ := rx
  obtain ⟨t', rfl⟩ := ry
  exact add_int ⟨rfl, .int (i + j), H, I.tok _, ⟨_, rfl⟩, q⟩
theorem ow_add_str (Cl : Clo X ys Θ) : OpW X Θ (binaryOp .Add) (fun x y H Q => ∃ i j, x = .str i ∧ y = .str j ∧ i.length + j.length ≤ sizeLine ∧ Q (.str (i ++ j)) H) := ow_of Cl fun pins s σ H x y v u Q I rx ry h => by
  obtain ⟨i, j, rfl, rfl, hz, q⟩ := h
  obtain ⟨t, rfl⟩ := rx
  obtain ⟨t', rfl⟩ := ry
  exact add_str (fun t' tk => ⟨rfl, .str (i ++ j), H, I.tok _, ⟨_, rfl⟩, q⟩) hz
theorem ow_mulS (Cl : Clo X ys Θ) : OpW X Θ (binaryOp .Mult) rMulS := ow_of Cl fun pins s σ H x y v u Q I rx ry h => by
  obtain ⟨a, n, rfl, rfl, hok, q⟩ := h
  obtain ⟨t, rfl⟩ := rx
  obtain ⟨t', rfl⟩ := ry
  exact SB.mul hok fun t2 k => ⟨rfl, .str _, H, I.tok k, ⟨_, rfl⟩, q⟩
theorem ow_neD (Cl : Clo X ys Θ) (hu : X.A.units + 64 < cLine) : OpW X Θ (compareOp .NotEq) (rNeD X.K) := ow_of Cl fun pins s σ H x y v u Q I rx ry h => by
  obtain ⟨d, e, hd, he, sd, se, q⟩ := h
  obtain ⟨as, r1⟩ := Dp.reads I d x v hd rx
  obtain ⟨bs, r2⟩ := Dp.reads I e y u he ry
  exact SeqAt.compareNe_shaped r1 r2 sd se hu ⟨rfl, .bl _, H, I, rfl, q⟩
/-- two lists -/
theorem ow_cat (Cl : Clo X ys Θ) : OpW X Θ (binaryOp .Add) rCat := by
  intro pins s σ H x y v u Q I θ rx ry h
  obtain ⟨l, b, xs, zs, rfl, rfl, hH, hB, hz, q⟩ := h
  cases rx
  cases ry
  obtain ⟨z, its, n, r, hl, e⟩ := I.lstM hH
  obtain ⟨z2, its2, n2, r2, hl2, e2⟩ := I.lstM hB
  refine PySem.P.add_list e e2 ?_ (by rw [List.size_toArray, List.size_toArray]; omega)
  have ea : its.toArray ++ its2.toArray = (its ++ its2).toArray := by simp
  rw [ea]
  exact ⟨Cl.push I θ, .ref _, _, I.lnew (t' := s.toks) (r.append r2) (by rw [List.length_append]; omega), rfl, q _ I.fresh⟩
/-- f(..), f a builtin -/
theorem we_callB {id : String} {r : List V → Hp → VK → Prop} (hc : CallW X Θ (.builtin id) r) (hg : Gl X x) (hm : X.mg x = none) (hv : bootBuiltins x = some (.builtin id)) (ha : Wa X Θ (e :: es) t) (hn : x ≠ "__name__" := by decide) (hdb : (x == ("__debug__" : Str)) = false := by decide)
    (he : starEach (e :: es) X.env = (false, eval e X.env) :: starEach es X.env := by rfl) (hpl : (backTo pos (starEach es X.env)).any (·.1) = false := by rfl) : We X Θ (.Call (.Name x p) (e :: es) [] pos) (tCB r t) := by
  refine ⟨fun pins s σ H Q I θ h => ?_⟩
  refine wpAny_Call_Name_kw (ld_blt I hg hm hv ?_ hn hdb)
  refine PyProof.Rows.callWith_builtin1 (thn (ha.run pos pins s σ H _ I θ h) fun us s1 hh => ?_) he hpl
  obtain ⟨g1, vs, H1, I1, r1, q1⟩ := hh
  exact hc pins s1 σ H1 vs us Q I1 g1 r1 q1
theorem cw_of {f : Value} {r : List V → Hp → VK → Prop} (Cl : Clo X ys Θ) (h : ∀ (pins : List (Addr × Obj)) (s : Shared) (σ : L2.St) (H : Hp) (vs : List V) (us : List Value) (Q : VK), Inv X pins σ H s → Vals vs us → r vs H Q → wpAny (model X.prog X.w) X.A (call f us) (fun w s' => s'.heap = s.heap ∧ EP X pins σ Q w s') X.xe s) : CallW X Θ f r :=
  fun pins s σ H vs us Q I θ r q => wpAny_mono (PySem.wpAny_toks (h pins s σ H vs us Q I r q)) (fun w s' z => ⟨Cl.kept I z.1 (fun b o e => by rw [z.2.1]; exact e) θ, z.2.2⟩) fun _ _ z => z.2
theorem cw_len (Cl : Clo X ys Θ) : CallW X Θ (.builtin "len") (rLenK X.K) := cw_of Cl fun pins s σ H xs us Q I r h => by
  obtain ⟨p, zs, rfl, hq, q⟩ := h
  obtain ⟨u, rfl, rx⟩ := vals1 r
  cases rx
  have hn := line63
  rcases hq with hq | hq
  · obtain ⟨its, r', pl, hz⟩ := I.list hq
    have hlen := r'.length
    exact Calls.call_len_list pl.isList (by simp only [List.size_toArray] <;> omega) ⟨rfl, .int zs.length, H, I.tok _, ⟨s.toks + 1, by rw [List.size_toArray, hlen]⟩, q⟩
  · obtain ⟨its, r', pl, hz⟩ := I.tuple hq
    have hlen := r'.length
    exact len_tuple pl (by simp only [List.size_toArray] <;> omega) ⟨rfl, .int zs.length, H, I.tok _, ⟨s.toks + 1, by rw [List.size_toArray, hlen]⟩, q⟩
theorem wt_not (ha : Wt X Θ e tt) : Wt X Θ (.UnaryOp .Not e pos) (tNot tt) := by
  refine ⟨fun pins s σ H Q I θ h => ?_⟩
  exact isTrue_not (ha.run pins s σ H (fun c H1 => Q (!c) H1) I θ h)
theorem wt_val (h : We X Θ e te) (he : ∀ whole, isTrue e X.env whole = (do let v ← whole; standAt e.pos; holding [v] (truthy v)) := by intro _; rfl) : Wt X Θ e (tB te) := by
  refine ⟨fun pins s σ H Q I θ hw => ?_⟩
  refine isTrue_plain (thn (h.run pins s σ H _ I θ hw) fun v s1 hh => ?_) (he _)
  obtain ⟨g1, x, H1, I1, r1, d, rfl, q⟩ := hh
  cases r1
  exact wpAny_truthy_bool ⟨g1, H1, I1, q⟩
/-- ''.join(e) -/
def rJoin (K : PySem.W.Frag) : V → List V → Hp → VK → Prop := fun x xs H Q => ∃ a p, ∃ ys : List Str, x = .str a ∧ xs = [.ref p] ∧ SqL K H p (ys.map V.str) ∧ (ys.map (·.length)).sum + ys.length * a.length ≤ 16777216 ∧ Q (.str (Txt.join a ys)) H
theorem we_join (Cl : Clo X ys Θ) (ho : We X Θ o to) (he : We X Θ e te) (hs : starEach [e] X.env = [(false, eval e X.env)] := by rfl) (hbase : attributeBase o "join" X.env (eval o X.env) = eval o X.env := by rfl) (hline : (apos.endLine == pos.line) = true := by rfl) :
    We X Θ (.Call (.Attribute o "join" apos) [e] [] pos) (tM1 (rJoin X.K) to te) := by
  refine ⟨fun pins s σ H Q I θ h => ?_⟩
  refine PySem.Call_method1 hbase hs hline (thn (ho.run pins s σ H _ I θ h) fun v s1 hh => ?_)
  obtain ⟨g1, x, H1, I1, r1, q1⟩ := hh
  obtain ⟨⟨a, rfl⟩, q1⟩ := q1
  obtain ⟨t, rfl⟩ := _root_.id r1
  refine ⟨"str", _, F.plainAttrs_str, F.slot_str_join, F.type_str_join, typeIs_str _ _ _, (fun _ e => nomatch e), Calls.callWith_builtin rfl (Calls.evalArgs_plain (Calls.spliced_cons ?_))⟩
  refine thn (he.run pins s1 σ H1 _ I1 g1 q1) fun u s2 hh => Calls.spliced_nil ?_
  obtain ⟨g2, y, H2, I2, r2, a', p, ys, e1, e2, hp, hz, q⟩ := hh
  cases e1
  cases e2
  cases r2
  obtain ⟨its, r, ⟨o, n, ho, hc, _, hd⟩, _⟩ := I2.list hp
  have called : wpAny (model X.prog X.w) X.A (call (.builtin "str.join") [.str a t, .ref p]) (fun w s' => s'.heap = s2.heap ∧ EP X pins σ Q w s') X.xe s2 :=
    PyProof.Rows.join_list (items := its.toArray) ⟨o, ho, hc, n, hd⟩ (by rw [List.toList_toArray]; exact strs_of_vals r) hz fun t' k => ⟨rfl, .str _, H2, I2.tok k, ⟨t', rfl⟩, q⟩
  exact wpAny_mono (PySem.wpAny_toks called) (fun w s' z => ⟨Cl.kept I2 z.1 (fun b o e => by rw [z.2.1]; exact e) g2, z.2.2⟩) fun _ _ z => z.2
structure WO (X : Cx) (Θ : Shared → Prop) (e : Option Expr) (t : TO) : Prop where
  run : ∀ (pins : List (Addr × Obj)) (s : Shared) (σ : L2.St) (H : Hp) (Q : Option Int → Hp → Prop), Inv X pins σ H s → Θ s → t σ H Q →
    wpAny (model X.prog X.w) X.A (evalPart e X.env) (fun u s' => Θ s' ∧ ∃ o H', Inv X pins σ H' s' ∧ IsPart u o ∧ Q o H') X.xe s
theorem wo_none : WO X Θ none tNoPart := by
  refine ⟨fun pins s σ H Q I θ h => ?_⟩
  rw [evalPart_none]
  exact wpAny_pure ⟨θ, none, H, I, .none, h⟩
theorem wo_some (h : We X Θ e te) : WO X Θ (some e) (tPart te) := by
  refine ⟨fun pins s σ H Q I θ hw => ?_⟩
  rw [evalPart_some]
  refine thn (h.run pins s σ H _ I θ hw) fun u s1 hh => ?_
  obtain ⟨g1, x, H1, I1, r1, i, rfl, q⟩ := hh
  obtain ⟨tk, rfl⟩ := r1
  exact ⟨g1, some i, H1, I1, .int i tk, q⟩
end
end Sq
set_option Elab.async false
set_option linter.all false
set_option maxRecDepth 100000
set_option maxHeartbeats 4000000
namespace Sq
open PySem PySem.Spec PyProof.Rows L2 GenW
/-- statements of which something is known of what they return -/
structure Wr (X : Cx) (Θ : Shared → Prop) (Φ : Value → Shared → Prop) (sts : List Stmt) (t : TS) : Prop where
  run : ∀ (pins : List (Addr × Obj)) (s : Shared) (σ : L2.St) (H : Hp) (D : Ends), Inv X pins σ H s → Θ s → t D σ H → wpAny (model X.prog X.w) X.A (execs sts X.env) (fun f s' => (∀ u, f = .ret u → Φ u s') ∧ SP X pins D f s') X.xe s
/-- the second item of the list is a text whose token is known to be old -/
def RawP (u : Value) (s : Shared) : Prop := ∃ (l : Addr) (a b : Value) (n : Nat), u = .ref l ∧ s.heap.get? l = some { cls := .type "list", data := .seq #[a, b] n } ∧ Tkn 0 [b] s.toks
def tSeqR (ts tr : TS) : TS := fun D σ H => ts { nx := tr D, rt := fun _ _ => False, bk := fun _ _ => False, ct := fun _ _ => False } σ H
section
variable {X : Cx} {Θ : Shared → Prop} {Φ : Value → Shared → Prop} {ys : List Str} {x : Str} {p p1 p2 pos pl : Pos} {e : Expr} {te : TE} {st : Stmt} {rest : List Stmt} {ts tr : TS} {i : Nat}
theorem wr_cons (h1 : Ws X Θ st ts) (h2 : Wr X Θ Φ rest tr) : Wr X Θ Φ (st :: rest) (tSeqR ts tr) := by
  refine ⟨fun pins s σ H D I θ h => ?_⟩
  refine wpAny_execs_cons (thn (h1.run pins s σ H _ I θ h) fun f s1 hh => ?_)
  obtain ⟨g1, q⟩ := hh
  match f, q with
  | .next, ⟨σ', H', I', q⟩ => exact h2.run pins s1 σ' H' D I' g1 q
  | .ret v, ⟨_, _, _, _, _, q⟩ => exact False.elim q
  | .brk, ⟨_, _, _, q⟩ => exact False.elim q
  | .cont, ⟨_, _, _, q⟩ => exact False.elim q
/-- a local name is stored -/
theorem put_local {pins : List (Addr × Obj)} {σ : L2.St} {H : Hp} {s : Shared} {M : Model} {A : Around} {E : Value → Shared → Prop} {v : V} {u : Value} {Q : Unit → Shared → Prop} (I : Inv X pins σ H s) (hN : X.N.Nodup) (hi : X.N[i]? = some x) (hk : X.env.scope.names.lookup x = some .local) (r : RelV v u)
    (h : ∀ s', Inv X pins (σ.set i (some v)) H s' → s.toks ≤ s'.toks → Put X x u s s' → Raw X x u s' → Q () s') : wpAny M A (storeName X.env x u) Q E s := by
  obtain ⟨m, ns, look⟩ := id I.loc
  have inside : i < σ.length := by rw [I.len]; exact (List.getElem?_eq_some_iff.mp hi).1
  have notcls : (X.env.scope.kind == .class || (X.env.scope.kind == .module && X.env.locals != X.env.globals)) = false := by rw [I.ok.kind]; rfl
  refine wpAny_storeName_local hk ns (fun g ns2 sb => ?_) notcls
  obtain ⟨oF, _, _, hoF, _⟩ := id ns
  have low : ∀ b o, X.s_0.heap.get? b = some o → b ≠ X.env.locals := fun b o e => Nat.ne_of_lt (Nat.lt_of_lt_of_le (Heap.lt_size e) I.ok.above)
  have objs : HOk X.prog X.w H g := fun b ob e => by
    refine (I.hok b ob e).stay (fun c2 w2 h2 q => (sb.2 c2 fun z => ?_).trans q) (fun _ q => q) fun _ _ q => q
    subst z
    rcases h2 with z | z
    · rw [← z, I.free] at e
      cases e
    · rw [I.free] at z
      cases z
  have loc2 : ∀ (j : Nat) (z : Str) (w : V), X.N[j]? = some z → (σ.set i (some v))[j]? = some (some w) → Vis X.env.scope z → ∃ u', RelV w u' ∧ Look X.env g (fun y => if y = x then some u else m y) z u' := fun j z w e1 e2 e3 => by
    by_cases ji : j = i
    · subst ji
      rw [hi] at e1
      cases e1
      rw [List.getElem?_set_self inside] at e2
      cases e2
      exact ⟨u, r, .inl ⟨hk, by simp⟩⟩
    · rw [List.getElem?_set_ne (Ne.symm ji)] at e2
      obtain ⟨u', r', q⟩ := look j z w e1 e2 e3
      have zx : z ≠ x := fun e => ji (nodup_ix hN e1 (e ▸ hi))
      rcases q with ⟨k, e⟩ | ⟨k, c2, e, z4⟩
      · exact ⟨u', r', .inl ⟨k, by simp [zx, e]⟩⟩
      · exact ⟨u', r', .inr ⟨k, c2, e, z4.sameBut sb (I.cne z c2 e)⟩⟩
  refine h _ ⟨I.ok, I.os, I.bare, ⟨fun b o e n hb hx2 => (sb.2 b (low b o e)).trans (I.base.keep b o e n hb hx2), fun b o e n hb hx2 => ?_, I.base.free, fun b o e hx2 => ?_, I.base.tups, I.base.frzs, I.base.tbls⟩, ⟨_, ns2, loc2⟩, fun z c2 e => ?_, I.free, I.freeC, fun p hp => ?_, objs, by simpa using I.len⟩ (Nat.le_add_right _ _) (.inl ⟨hk, sb, m, ns, ns2⟩) ⟨_, ns2, if_pos rfl⟩
  · obtain ⟨sl, e1⟩ := I.base.slot b o e n hb hx2
    exact ⟨sl, (sb.2 b (low b o e)).trans e1⟩
  · obtain ⟨o2, e1⟩ := I.base.there b o e hx2
    exact ⟨o2, (sb.2 b (low b o e)).trans e1⟩
  · obtain ⟨w2, z2⟩ := I.cell z c2 e
    exact ⟨w2, z2.sameBut sb (I.cne z c2 e)⟩
  · obtain ⟨e, n, ne, nf, d⟩ := I.pin p hp
    exact ⟨(sb.2 p.1 ne).trans e, n, ne, nf, d⟩
/-- x = 'text'[e] -/
theorem wr_signS {z : Str} {k : Nat} {pos' ps : Pos} (hN : X.N.Nodup) (hi : X.N[i]? = some x) (hk : X.env.scope.names.lookup x = some .local) (he : PE X e te) (hix : PlainIx e)
    (hrest : ∀ (u0 : Value) (n : Nat), Tkn 0 [u0] n → Wr X (fun s => Raw X x u0 s ∧ n ≤ s.toks) Φ rest tr) (hs : swapsWith (.Subscript (.Constant (.str z) k p1) e ps) (some (.Name x pos')) pos.line X.env = pure false := by rfl) :
    Wr X (fun _ => True) Φ (.Assign [.Name x pos'] (.Subscript (.Constant (.str z) k p1) e ps) pos :: rest) (tSeqR (tAsg (tOp rIxS (tC (.str z)) te) (gName i)) tr) := by
  refine ⟨fun pins s σ H D I _ h => ?_⟩
  refine wpAny_execs_cons (wpAny_Assign_Name (Subscript_ (Calls.Constant_str ?_)) hs)
  have I0 : Inv X pins σ H { s with toks := s.toks + 1 } := I.tok _
  refine wpAny_mono (PySem.wpAny_toks (he.run pins _ σ H _ I0 h)) (fun v s1 hh => ?_) fun _ _ z => z.2
  obtain ⟨up, y, H1, I1, r1, z', i', c, e1, rfl, hz, at1, q⟩ := hh
  cases e1
  have up' : s.toks + 1 ≤ s1.toks := up
  obtain ⟨tk, rfl⟩ := r1
  obtain ⟨j, h1, h2, h3, h4, h5⟩ := atI_get at1
  have hl : z.cps.toList.length = z.length := by simp [Str.length]
  rw [hl] at h1 h4 h5
  have hn := line63
  refine tail_any (typeIs_str s1 z s.toks) slot_str_getitem.lookup (getItem_str (c := c) (by
    have e1 : decide (i' < -(2 ^ 63 : Int)) = false := decide_eq_false (by omega)
    have e2 : decide (i' ≥ 2 ^ 63) = false := decide_eq_false (by omega)
    rw [e1, e2, Bool.or_false]) (by rw [h1]; simpa using h2) ?_) (hix _ _)
  have I2 : Inv X pins σ H1 { s1 with toks := s1.toks + 1 } := I1.tok _
  refine put_local (v := .str ⟨#[c]⟩) I2 hN hi hk ⟨s1.toks, rfl⟩ fun s3 I3 up3 _ raw => ?_
  have up3' : s1.toks + 1 ≤ s3.toks := up3
  refine (hrest _ (s1.toks + 1) (fun b t eb one => ?_)).run pins s3 _ H1 D I3 ⟨raw, up3'⟩ q
  have e3 : Value.str ⟨#[c]⟩ s1.toks = .str b t := Option.some.inj eb
  injection e3 with _ e4
  rw [← e4]
  exact ⟨Nat.ne_of_gt (Nat.lt_of_lt_of_le (Nat.succ_pos _) up'), Nat.lt_succ_self _⟩
/-- return [e, x] -/
theorem wr_ret {u0 : Value} {n : Nat} (Cl : Clo X ys Θ) (Kn : KnownU X Θ x u0) (good : Tkn 0 [u0] n) (hn : ∀ s, Θ s → n ≤ s.toks) (hi : X.N[i]? = some x) (hv : Vis X.env.scope x) (he : We X Θ e te) (hd : (x == ("__debug__" : Str)) = false := by decide)
    (hs : starEach [e, .Name x p1] X.env = [(false, eval e X.env), (false, eval (.Name x p1) X.env)] := by rfl) : Wr X Θ RawP [.Return (some (.List [e, .Name x p1] pl)) pos] (tRet (tLst (tCons te (tCons (tVar i) tNil)))) := by
  refine ⟨fun pins s σ H D I θ h => ?_⟩
  refine wpAny_execs_cons (wpAny_Return_some (wpAny_List_spliced ?_))
  rw [hs]
  show wpAny _ _ (spliced ((false, eval e X.env) :: (false, eval (.Name x p1) X.env) :: [])) _ _ s
  refine Calls.spliced_cons (thn (he.run pins s σ H _ I θ h) fun v s1 hh => Calls.spliced_cons ?_)
  obtain ⟨g1, y, H1, I1, r1, w, e1, few, q⟩ := hh
  refine knownU_eval Kn I1 g1 hi hv e1 (fun ru => Calls.spliced_nil ?_) hd
  refine ⟨few, fun u eu => ?_, .ref s1.heap.objs.size, σ, _, I1.lnew (t' := s1.toks) (its := [v, u0]) (.cons r1 (.cons ru .nil)) few, rfl, q _ I1.fresh⟩
  injection eu with eu
  subst eu
  exact ⟨_, v, u0, 0, rfl, Heap.get?_push_size _ rfl, fun b t eb one => ⟨(good b t eb one).1, Nat.lt_of_lt_of_le (good b t eb one).2 (hn s1 g1)⟩⟩
end
end Sq
set_option Elab.async false
set_option linter.all false
set_option maxRecDepth 100000
set_option maxHeartbeats 4000000
namespace Sq
open PySem PySem.Spec PyProof.Rows L2 GenW
section
variable {X : Cx} {Θ : Shared → Prop} {ys : List Str} {p2 pos : Pos} {e : Expr} {te : TE} {lo hi : Option Expr} {tl th : TO}
theorem we_slS (Cl : Clo X ys Θ) (he : We X Θ e te) (hl : WO X Θ lo tl) (hu : WO X Θ hi th) : We X Θ (.Subscript e (.Slice lo hi none p2) pos) (tSl rSlS te tl th) := by
  refine ⟨fun pins s σ H Q I θ h => ?_⟩
  refine Subscript_ (thn (he.run pins s σ H _ I θ h) fun v s1 hh => ?_)
  obtain ⟨g1, x, H1, I1, r1, q1⟩ := hh
  refine wpAny_Slice (thn (hl.run pins s1 σ H1 _ I1 g1 q1) fun vl s2 hh => ?_)
  obtain ⟨g2, lo', H2, I2, pl, q2⟩ := hh
  refine thn (hu.run pins s2 σ H2 _ I2 g2 q2) fun vu s3 hh => ?_
  obtain ⟨g3, hi', H3, I3, pu, z, ex, hz, q⟩ := hh
  subst ex
  rw [evalPart_none]
  refine wpAny_pure ?_
  have keep : ∀ b ob, s3.heap.get? b = some ob → (s3.heap.push { cls := .type "slice", data := .fields #[vl, vu, .none] }).get? b = some ob := fun b ob z => Heap.get?_push_of_some _ z
  have I4 : Inv X pins σ H3 { s3 with heap := s3.heap.push { cls := .type "slice", data := .fields #[vl, vu, .none] } } := I3.kept (t' := s3.toks) keep
  have g4 : Θ { s3 with heap := s3.heap.push { cls := .type "slice", data := .fields #[vl, vu, .none] } } := Cl.push I3 g3
  obtain ⟨t, rfl⟩ := r1
  have hs : (s3.heap.push { cls := .type "slice", data := .fields #[vl, vu, .none] }).IsSliceOf s3.heap.objs.size vl vu .none := Heap.IsSliceOf.new ..
  generalize eS : ({ s3 with heap := s3.heap.push { cls := .type "slice", data := .fields #[vl, vu, .none] } } : Shared) = s4 at I4 g4
  have hs : s4.heap.IsSliceOf s3.heap.objs.size vl vu .none := by
    rw [← eS]
    exact hs
  obtain ⟨os, hos, hcs, hds⟩ := hs
  obtain ⟨l, rfl, rfl⟩ := IsPart.raw pl
  obtain ⟨u, rfl, rfl⟩ := IsPart.raw pu
  show wpAny (model X.prog X.w) X.A (subscriptTail e (.Slice lo hi none p2) (.str z t) (.ref s3.heap.objs.size)) _ X.xe _
  refine tail_any (ops := [.ref s3.heap.objs.size, .str z t]) (typeIs_str _ _ _) F.slot_str_getitem.lookup ?_ (by with_unfolding_all rfl)
  have called : wpAny (model X.prog X.w) X.A (getItem (.str z t) (.ref s3.heap.objs.size)) (fun w s' => s'.heap = s4.heap ∧ EP X pins σ Q w s') X.xe s4 := by
    refine wpAny_getItem_str_slice (l := l) (u := u) (st := none) ⟨os, hos, hcs, hds⟩ rfl ?_
    have hl : (PySem.StrLaws.sliceText z (l.map (·.1)) (u.map (·.1))).length ≤ sizeLine := by
      rw [sliceText_cut]
      exact Nat.le_trans (cutS_length z _ _) hz
    rw [← sliceText_cut] at q
    unfold PySem.StrLaws.sliceText at q hl
    show Made.post (if ((1 : Int) == 1 && (Builtin.Str.strSliceIndices (l.map (·.1)) (u.map (·.1)) 1 z.length).length == z.length) = true then Made.val (.str z t)
      else Made.str ⟨((Builtin.Str.strSliceIndices (l.map (·.1)) (u.map (·.1)) 1 z.length).filterMap (z.cps[·]?)).toArray⟩) (fun w s' => s'.heap = s4.heap ∧ EP X pins σ Q w s') s4
    by_cases c : ((1 : Int) == 1 && (Builtin.Str.strSliceIndices (l.map (·.1)) (u.map (·.1)) 1 z.length).length == z.length) = true
    · rw [if_pos c] at q ⊢
      exact ⟨rfl, .str z, H3, I4, ⟨t, rfl⟩, q⟩
    · rw [if_neg c] at q ⊢
      rw [if_neg c] at hl
      exact ⟨hl, rfl, .str _, H3, I4.tok _, ⟨_, rfl⟩, q⟩
  exact wpAny_mono (PySem.wpAny_toks called) (fun w s' z => ⟨Cl.kept I4 z.1 (fun b o e => by rw [z.2.1]; exact e) g4, z.2.2⟩) fun _ _ z => z.2
end
structure FnR (P : Program) (w : World) (K : PySem.W.Frag) (mg : Str → Option Value) (base : Heap) (k : Nat) (f : Addr) (fd : FuncData) (ps : List Str) (sp : Sp) : Prop where
  len : ∀ vs H Q E, sp vs H Q E → vs.length = ps.length
  run : ∀ (A : Around) (outer : List Env) (s : Shared) (H : Hp) (args : Args) (us : List Value) (vs : List V) (Q : VK), Room k A → Env0 P w K mg base A outer s H → BindsTo s fd args (ps.zip us) → Vals vs us → sp vs H Q E0 →
    codeAny (model P w) A (.call (.ref f) args) (fun r s' => match r with | .ok (.ret u) => CE outer P w H s Q u s' ∧ RawP u s' | _ => False) s
section
variable {P : Program} {w : World} {K : PySem.W.Frag} {mg : Str → Option Value} {base : Heap} {k : Nat} {f : Addr} {fd : FuncData} {ps : List Str} {sp : Sp}
theorem fnr_of {x qual : Str} {st : Stmt} {N : List Str} (F : Fun K x qual st f fd) (S : FnScope N ps (defScope st)) (len : ∀ vs H Q E, sp vs H Q E → vs.length = ps.length)
    (walk : ∀ (cdv : Value) (A : Around) (outer : List Env) (s : Shared) (H : Hp) (vs : List V) (Q : VK), Room k (A.deeper (envOfC qual (defScope st) s.heap.objs.size f cdv)) → sp vs H Q E0 →
      ∃ t, Wr (cxOf CX0 P w K mg base N qual (defScope st) f cdv A outer s H E0).nox (fun _ => True) RawP (defBody st) t ∧ t { nx := fun _ _ => False, rt := Q } (L2.start N vs) H) : FnR P w K mg base (k + 1) f fd ps sp := by
  obtain ⟨oc, od, kV, doc, pm, an, cdv, ct, osl, rfl, lk, hcd⟩ := F.ex
  refine ⟨len, fun A outer s H args us vs Q hr e0 hb r hsp => ?_⟩
  have hl := len _ _ _ _ hsp
  have KX : K.In s.heap := e0.mod.kin.keeps fun b o e => (e0.bs b o e).1
  have lim : s.heap.NoLimit := e0.mod.nolimit.keeps fun b o e => (e0.bs b o e).1
  have hkind : ∀ y ∈ ps.zip us, (defScope st).names.lookup y.1 = some .local ∨ ((defScope st).names.lookup y.1 = some .cell ∧ ((cellsFrom (s.heap.objs.size + 1) (defScope st).names []).lookup y.1).isSome = true) := fun ⟨n, v⟩ hy =>
    (S.par n (List.of_mem_zip hy).1).elim .inl fun z => .inr ⟨z, PySem.W.cellsFrom_some _ _ _ (.inl z)⟩
  refine codeAny_call_function hr.depth (KX _ _ lk) rfl S.co S.gen rfl (PySem.W.codeRec_of KX hcd) (hb _ _ _ _ ?_)
  refine PySem.wpAny_with_toks (Nat.le_refl s.toks) (wpAny_newFunctionEnv_cells S.kind hkind fun env he s1 made toks1 => ?_)
  subst he
  refine ⟨lim.keeps made.toInCall.keep, codeAny_func ?_⟩
  obtain ⟨t, ht, hq⟩ := walk cdv A outer s H vs Q (hr.deeper _) hsp
  have I : Inv (cxOf CX0 P w K mg base N qual (defScope st) f cdv A outer s H E0).nox [] (start N vs) H s1 := (inv_start S hr.hd e0 hl r made).wish _
  refine wpAny_mono (ht.run [] s1 (start N vs) H _ I True.intro hq) (fun fl s' hs => ?_) fun e s' hs => False.elim hs
  obtain ⟨raw, hs⟩ := hs
  match fl, hs, raw with
  | .ret u, ⟨v, σ', H', J, rv, q⟩, raw => exact ⟨⟨v, H', J.os, J.bare, J.base, J.hok, rv, q⟩, raw u rfl⟩
  | .next, ⟨σ', H', J, q⟩, _ => exact False.elim q
  | .brk, ⟨_, _, _, q⟩, _ => exact False.elim q
  | .cont, ⟨_, _, _, q⟩, _ => exact False.elim q
/-- its plain promise -/
theorem FnR.ok (F : FnR P w K mg base k f fd ps sp) (he : ∀ vs H Q E, sp vs H Q E → sp vs H Q E0) : FnOk P w K mg base CX0 k f fd ps sp :=
  ⟨F.len, fun A outer s H args us vs Q E hr e0 hb r h => codeAny_mono (F.run A outer s H args us vs Q hr e0 hb r (he _ _ _ _ h)) fun r s' hq => by
    match r, hq with
    | .ok (.ret u), hq => exact hq.1⟩
end
end Sq
set_option Elab.async false
set_option linter.all false
set_option maxRecDepth 100000
set_option maxHeartbeats 8000000
set_option exponentiation.threshold 2000
namespace Sq
open PySem PySem.Spec PyProof.Rows L2
section
variable {P : Program} {w : World} {K : PySem.W.Frag} {mg : Str → Option Value} {base : Heap}
theorem nthN {xs : List Nat} {z : Int} (h0 : 0 ≤ z) (h : z < xs.length) : ∃ k, k ∈ xs ∧ atI xs z = some k := by
  have lt : z.toNat < xs.length := by omega
  refine ⟨xs[z.toNat], List.getElem_mem lt, ?_⟩
  unfold atI ixN
  rw [if_pos h0, if_pos h]
  show xs[z.toNat]? = _
  exact List.getElem?_eq_getElem lt
theorem cutS_upto (z : Str) (n : Nat) : cutS z none (some (n : Int)) = SX.S (z.cps.toList.take n) := by
  refine TL.ext_tl ?_
  by_cases c : n ≤ z.length
  · exact cutS_take z n c
  · show ((z.cps.toList.drop (HT.sIx z.length 0 none)).take (HT.sIx z.length z.length (some (n : Int)) - HT.sIx z.length 0 none)) = z.cps.toList.take n
    have l : z.cps.toList.length = z.length := rfl
    rw [HT.sIx_nat, HT.sIx_none, List.drop_zero, Nat.min_eq_right (by omega), Nat.sub_zero, List.take_of_length_le (by omega), List.take_of_length_le (by omega)]
/-- a sign that is no grave accent, and ASCII -/
theorem signs_low : ∀ c ∈ (" a.x#" : Str).cps.toList, c < 128 := by decide +kernel
theorem letters_low : ∀ c ∈ ("bcde 1 .xa" : Str).cps.toList, c < 128 := by decide +kernel
theorem flat_one : ∀ cs : List Nat, (cs.map fun c => [c]).flatten = cs
  | [] => rfl
  | c :: cs => by
    rw [List.map_cons, List.flatten_cons, flat_one cs]
    rfl
theorem join_one (cs : List Nat) : Txt.join "" (cs.map fun c => (⟨#[c]⟩ : Str)) = SX.S cs := by
  have e := SX.join_S [] (cs.map fun c => [c])
  rw [joinL_flat, flat_one, List.map_map] at e
  exact e
theorem sum_one (cs : List Nat) : ((cs.map fun c => (⟨#[c]⟩ : Str)).map (·.length)).sum = cs.length := by
  rw [List.map_map]
  induction cs with
  | nil => rfl
  | cons c cs ih =>
    rw [List.map_cons, List.sum_cons, ih, List.length_cons, Nat.add_comm]
    rfl
def spLtxt : Sp := fun vs H Q _ => ∃ (l : Addr) (seed cnt M : Int), vs = [.ref l, .int M] ∧ 0 < M ∧ M ≤ 2000 ∧ Rng H l seed cnt ∧ cnt < 400000 ∧
  ∀ xs b cnt' t H', (xs.length : Int) ≤ M → b < 128 → (∀ c ∈ xs, c < 128) → H t = none → Rng H' l seed cnt' → cnt' ≤ cnt + 110 → Keep1 H H' l → H' t = some (.lst [.str (SX.S xs), .str ⟨#[b]⟩]) → Q (.ref t) H'
theorem ok_lawtext {f : Addr} {fd : FuncData} (F : Fun K "_law_text" "_law_text" s_lawtext f fd) (B : Bi mg) (D_lawdraw : Df P w K mg base 1 "_law_draw" ["pool", "many"] spDraw) : FnR P w K mg base 3 f fd ["pool", "most"] spLtxt := by
  refine fnr_of F sc_lawtext (fun vs H Q E h => ?_) (fun cdv A outer s H vs Q hr h => ?_)
  · obtain ⟨l, seed, cnt, M, rfl, _⟩ := h
    rfl
  · obtain ⟨l, seed, cnt, M, rfl, M0, M1, S, hc, q⟩ := h
    have kcl : ∀ (u0 : Value) (n : Nat), Clo (cxOf CX0 P w K mg base ["pool", "most", "sign", "found", "turn", "long", "letter"] "_law_text" (defScope s_lawtext) f cdv A outer s H E0).nox ["sign"] (fun s' => Raw (cxOf CX0 P w K mg base ["pool", "most", "sign", "found", "turn", "long", "letter"] "_law_text" (defScope s_lawtext) f cdv A outer s H E0).nox "sign" u0 s' ∧ n ≤ s'.toks) := fun u0 n => (clo_raw rfl).and clo_n
    have kkn : ∀ (u0 : Value) (n : Nat), KnownU (cxOf CX0 P w K mg base ["pool", "most", "sign", "found", "turn", "long", "letter"] "_law_text" (defScope s_lawtext) f cdv A outer s H E0).nox (fun s' => Raw (cxOf CX0 P w K mg base ["pool", "most", "sign", "found", "turn", "long", "letter"] "_law_text" (defScope s_lawtext) f cdv A outer s H E0).nox "sign" u0 s' ∧ n ≤ s'.toks) "sign" u0 := fun u0 n => ⟨fun s' h => .inl ⟨rfl, h.1⟩⟩
    refine ⟨_, (wr_signS (i := 2) sc_lawtext.nd rfl rfl (pe_callD D_lawdraw (hr.mono (by omega)) (by rfl) (pa_cons (pv 0) (pa_cons pe_int pa_nil))) (fun _ _ => rfl) (fun u0 n good =>
      (wr_cons (ws_set (i := 3) (kcl u0 n) (by decide) sc_lawtext.nd rfl (Or.inl rfl) (we_str (kcl u0 n)))
      (wr_cons (ws_forR rfl PassesOwn.never (kcl u0 n) (by rfl) B.n_range (wa_cons (we_callD (kcl u0 n) D_lawdraw (hr.mono (by omega)) (by rfl) (wa_cons (wv 0) (wa_cons (we_int (kcl u0 n)) wa_nil))) wa_nil) (wg_name (i := 4) (kcl u0 n) (by decide) sc_lawtext.nd rfl (Or.inl rfl))
        (wss_cons (ws_set (i := 5) (kcl u0 n) (by decide) sc_lawtext.nd rfl (Or.inl rfl) (we_ixL (we_lst (kcl u0 n) (wa_cons (we_int (kcl u0 n)) (wa_cons (we_int (kcl u0 n)) (wa_cons (we_op (ow_add (kcl u0 n)) (we_int (kcl u0 n)) (we_callD (kcl u0 n) D_lawdraw (hr.mono (by omega)) (by rfl) (wa_cons (wv 0) (wa_cons (we_int (kcl u0 n)) wa_nil)))) (wa_cons (we_op (ow_add (kcl u0 n)) (we_int (kcl u0 n)) (we_callD (kcl u0 n) D_lawdraw (hr.mono (by omega)) (by rfl) (wa_cons (wv 0) (wa_cons (we_int (kcl u0 n)) wa_nil)))) (wa_cons (we_callD (kcl u0 n) D_lawdraw (hr.mono (by omega)) (by rfl) (wa_cons (wv 0) (wa_cons (we_int (kcl u0 n)) wa_nil))) wa_nil)))))) (we_callD (kcl u0 n) D_lawdraw (hr.mono (by omega)) (by rfl) (wa_cons (wv 0) (wa_cons (we_int (kcl u0 n)) wa_nil))) (fun _ _ => rfl)))
        (wss_cons (ws_set (i := 3) (kcl u0 n) (by decide) sc_lawtext.nd rfl (Or.inl rfl) (we_op (ow_add_str (kcl u0 n)) (wv 3) (we_op (ow_mulS (kcl u0 n)) (wv 2) (wv 5))))
        (wss_one (ws_set (i := 3) (kcl u0 n) (by decide) sc_lawtext.nd rfl (Or.inl rfl) (we_op (ow_add_str (kcl u0 n)) (wv 3) (we_join (kcl u0 n) (we_str (kcl u0 n)) (we_lc (kcl u0 n) (own := [("letter", 6)]) (g := gName 6) rfl sc_lawtext.nd (wi_range1 (kcl u0 n) (by rfl) B.n_range (wa_cons (we_callD (kcl u0 n) D_lawdraw (hr.mono (by omega)) (by rfl) (wa_cons (wv 0) (wa_cons (we_int (kcl u0 n)) wa_nil))) wa_nil)) (blkOk_by (own := [("letter", 6)]) (N := ["pool", "most", "sign", "found", "turn", "long", "letter"]) (sc := defScope s_lawtext) (by decide +kernel)) (fun _ _ _ _ _ => (pg_name (i := 6) sc_lawtext.nd rfl (Or.inl rfl))) (fun _ _ _ _ _ => pts_nil) (fun _ _ _ _ _ => (pe_ix ix_str pe_str (pe_callD D_lawdraw (hr.mono (by omega)) (by rfl) (pa_cons (pv 0) (pa_cons pe_int pa_nil))) (fun _ _ => rfl)))))))))))
      (wr_ret (i := 2) (kcl u0 n) (kkn u0 n) good (fun _ h => h.2) rfl (Or.inl rfl) (we_slS (kcl u0 n) (wv 3) wo_none (wo_some (wv 1)))))))), ?_⟩
    have szl : sizeLine = 16777216 := sizeLine_eq
    refine ⟨_, rfl, l, seed, cnt, 5, rfl, S, by omega, by decide, by decide, fun z0 c0 H0 z00 z01 S0 hc0 k0 => ?_⟩
    obtain ⟨b, bm, ba⟩ := nthN (xs := (" a.x#" : Str).cps.toList) (z := z0) z00 z01
    have bl := signs_low b bm
    refine ⟨_, z0, b, rfl, rfl, by show 5 ≤ sizeLine; omega, ba, ?_⟩
    refine ⟨_, rfl, l, seed, c0, 12, rfl, S0, by omega, by decide, by decide, fun n c1 H1 n0 n1 S1 hc1 k1 => ?_⟩
    have k01 := k0.trans k1
    refine ⟨n, rfl, by omega, by omega, (fun i σ H' => ∃ xs cnt' y4 y5 y6, σ = [some (.ref l), some (.int M), some (.str ⟨#[b]⟩), some (.str (SX.S xs)), y4, y5, y6] ∧ Rng H' l seed cnt' ∧ cnt' ≤ cnt + 2 + 9 * i ∧ Keep1 H H' l ∧ xs.length ≤ 400 * i ∧ ∀ c ∈ xs, c < 128),
      ⟨[], c1, none, none, none, rfl, S1, by omega, k01, Nat.zero_le _, fun _ z => nomatch z⟩, ?_, ?_⟩
    · rintro i σ H2 hi ⟨xs, c2, y4, y5, y6, rfl, S2, hc2, k2, lx, lo⟩
      have i12 : i < 12 := by omega
      refine ⟨_, rfl, l, seed, c2, 9, rfl, S2, by omega, by decide, by decide, fun z3 c3 H3 z30 z31 S3 hc3 k3 => ⟨1, z3, rfl, rfl, ?_⟩⟩
      refine ⟨_, rfl, l, seed, c3, 60, rfl, S3, by omega, by decide, by decide, fun z4 c4 H4 z40 z41 S4 hc4 k4 => ⟨1, z4, rfl, rfl, ?_⟩⟩
      refine ⟨_, rfl, l, seed, c4, 300, rfl, S4, by omega, by decide, by decide, fun z5 c5 H5 z50 z51 S5 hc5 k5 => ⟨by show 5 ≤ sizeLine; omega, fun t ht => ?_⟩⟩
      have nt := S5.ne ht
      refine ⟨_, rfl, l, seed, c5, 5, rfl, S5.same (same_new ht), by omega, by decide, by decide, fun z6 c6 H6 z60 z61 S6 hc6 k6 => ?_⟩
      obtain ⟨L, Lm, La⟩ := nth_of (xs := [1, 2, 1 + z3, 1 + z4, z5]) z60 z61
      have Lb : 0 ≤ L ∧ L ≤ 300 := by
        simp only [List.mem_cons, List.not_mem_nil, or_false] at Lm
        omega
      refine ⟨t, _, z6, .int L, rfl, rfl, SqL.of (k6 _ _ upd_same nt), La, ?_⟩
      have k26 : Keep1 H H6 l := ((((k2.trans k3).trans k4).trans k5).trans (Keep1.of (same_new ht))).trans k6
      refine ⟨_, rfl, _, rfl, _, rfl, ⟨#[b]⟩, L, rfl, rfl, mul_chr_ok b (by omega) (by omega), ?_⟩
      rw [mul_chr b (by omega)]
      have lr : (List.replicate L.toNat b).length ≤ 300 := by rw [List.length_replicate]; omega
      refine ⟨SX.S xs, SX.S (List.replicate L.toNat b), rfl, rfl, by rw [SX.S_len, SX.S_len]; omega, ?_⟩
      rw [SX.S_cat]
      obtain ⟨ws, ews⟩ : ∃ ws, ws = xs ++ List.replicate L.toNat b := ⟨_, rfl⟩
      rw [← ews]
      have lw : ws.length ≤ 400 * i + 300 := by rw [ews, List.length_append]; omega
      have low : ∀ c ∈ ws, c < 128 := fun c hc => by
        rw [ews] at hc
        rcases List.mem_append.mp hc with h | h
        · exact lo c h
        · rw [List.eq_of_mem_replicate h]
          exact bl
      refine ⟨_, rfl, ⟨_, rfl⟩, ?_⟩
      refine ⟨_, rfl, l, seed, c6, 4, rfl, S6, by omega, by decide, by decide, fun z7 c7 H7 z70 z71 S7 hc7 k7 => ?_⟩
      refine ⟨z7, rfl, by omega, by omega, fun D hD => lc_range (lo := 0) (n := z7.toNat) (fun j H' => ∃ cs cnt', H' D = some (.lst (cs.map fun c => V.str ⟨#[c]⟩)) ∧ Rng H' l seed cnt' ∧ cnt' ≤ c7 + j ∧ Keep1 H7 (wo H' D) l ∧ cs.length = j ∧ ∀ c ∈ cs, c < 128)
        ⟨[], c7, upd_same, S7.same (same_new hD), by omega, by rw [wo_upd]; exact Keep1.of (same_wo (Same.refl _) hD), rfl, fun _ z => nomatch z⟩ ?_ ?_⟩
      · rintro j H8 hj ⟨cs, c8, gD, S8, hc8, k8, lc, loc⟩
        have nD : D ≠ l := S7.ne hD
        refine ⟨rfl, _, rfl, l, seed, c8, 10, rfl, S8, by omega, by decide, by decide, fun z9 c9 H9 z90 z91 S9 hc9 k9 => ?_⟩
        obtain ⟨ch, cm, ca⟩ := nthN (xs := ("bcde 1 .xa" : Str).cps.toList) (z := z9) z90 z91
        refine ⟨_, z9, ch, rfl, rfl, by show 10 ≤ sizeLine; omega, ca, _, k9 _ _ gD nD, by rw [List.length_map]; omega, cs ++ [ch], c9, ?_, S9.upd nD, by omega, ?_, by rw [List.length_append, lc]; rfl, fun c hc => ?_⟩
        · rw [upd_same, List.map_append]
          rfl
        · rw [wo_upd]
          intro x o e nx
          have nxD : x ≠ D := fun z => by rw [z, hD] at e; cases e
          rw [wo_ne nxD]
          exact k9 _ _ (wo_same _ _ (k8 x o e nx)) nx
        · rcases List.mem_append.mp hc with h | h
          · exact loc c h
          · rw [List.mem_singleton.mp h]
            exact letters_low ch cm
      · rintro H8 ⟨cs, c8, gD, S8, hc8, k8, lc, loc⟩
        refine ⟨"", D, cs.map fun c => (⟨#[c]⟩ : Str), rfl, rfl, SqL.of (by rw [gD, List.map_map]; rfl), ?_, ?_⟩
        · rw [sum_one, List.length_map]
          show cs.length + cs.length * 0 ≤ 16777216
          omega
        rw [join_one]
        refine ⟨SX.S ws, SX.S cs, rfl, rfl, by rw [SX.S_len, SX.S_len]; omega, ?_⟩
        rw [SX.S_cat]
        refine ⟨ws ++ cs, c8, _, _, _, rfl, S8, by omega, ?_, by rw [List.length_append]; omega, fun c hc => ?_⟩
        · intro x o e nx
          have e7 := k7 _ _ (k26 x o e nx) nx
          exact wo_same _ _ (k8 _ _ e7 nx)
        · rcases List.mem_append.mp hc with h | h
          · exact low c h
          · exact loc c h
    · rintro σ H2 ⟨xs, c2, y4, y5, y6, rfl, S2, hc2, k2, lx, lo⟩
      have l11 : xs.length ≤ 4800 := by omega
      obtain ⟨m, rfl⟩ := Int.eq_ofNat_of_zero_le (show 0 ≤ M by omega)
      refine ⟨_, rfl, _, rfl, m, rfl, SX.S xs, rfl, by rw [SX.S_len]; omega, _, rfl, by show 2 ≤ sizeLine; omega, fun t ht => ?_⟩
      have nt := S2.ne ht
      refine q (xs.take m) b c2 t _ ?_ bl (fun c hc => lo c (List.mem_of_mem_take hc)) (Rng.free k2 S2 ht) (S2.upd nt) (by omega) (k2.trans (Keep1.of (same_new ht))) ?_
      · have := List.length_take_le m xs
        omega
      · rw [upd_same, cutS_upto]
end
end Sq
set_option Elab.async false
set_option linter.all false
set_option maxRecDepth 100000
set_option maxHeartbeats 4000000
namespace Sq
open PySem PySem.Spec PyProof.Rows L2 GenW
structure DfR (P : Program) (w : World) (K : PySem.W.Frag) (mg : Str → Option Value) (base : Heap) (k : Nat) (x : Str) (ps : List Str) (sp : Sp) : Prop where
  ex : ∃ f fd, FnR P w K mg base k f fd ps sp ∧ mg x = some (.ref f) ∧ PySem.W.keepIn K (.ref f) = true ∧ Binds K fd ps []
section
variable {X : Cx} {pins : List (Addr × Obj)} {σ : L2.St} {H : Hp} {s : Shared}
/-- a list is no longer told of -/
theorem inv_drop {l : Addr} {xs : List V} (I : Inv X pins σ H s) (h : H l = some (.lst xs)) : Inv X pins σ (wo H l) s := by
  have out : ∀ b, H b = none → wo H l b = none := fun b e => by
    by_cases z : b = l
    · rw [z]; exact wo_self
    · rw [wo_ne z]; exact e
  have keep : ∀ b, (∀ ys, H b ≠ some (.lst ys)) → wo H l b = H b := fun b n => wo_ne fun z => n xs (by rw [z]; exact h)
  refine ⟨I.ok, I.os, I.bare, ⟨I.base.keep, I.base.slot, fun b o e n hb => out b (I.base.free b o e n hb), I.base.there, fun b xs e => ?_, fun b o u e => ?_, fun b ps e => ?_⟩, I.loc, I.cell, out _ I.free, fun x c e => out _ (I.freeC x c e), fun p hp => ?_, fun b o e => ?_, I.len⟩
  · have z := I.base.tups b xs e
    rw [keep b (fun ys z' => by rw [z] at z'; cases z')]
    exact z
  · have z := I.base.frzs b o u e
    rw [keep b (fun ys z' => by rw [z] at z'; cases z')]
    exact z
  · obtain ⟨more, z⟩ := I.base.tbls b ps e
    exact ⟨more, by rw [keep b (fun ys z' => by rw [z] at z'; cases z')]; exact z⟩
  · obtain ⟨a1, a2, a3⟩ := I.pin p hp
    exact ⟨a1, out _ a2, a3⟩
  · have e2 : H b = some o := wo_same _ _ e
    exact (I.hok b o e2).stay (fun _ _ _ q => q) (fun b q => by rw [keep b (fun ys z' => by rw [q] at z'; cases z')]; exact q) fun b ys q => by rw [keep b (fun ys z' => by rw [q] at z'; cases z')]; exact q
end
section
variable {X : Cx} {x y z fn : Str} {p p1 px py pz pt1 pt2 pt3 pos cpos : Pos} {e2 e : Expr} {es : List Expr} {t : TA} {tf : TE} {rest : List Stmt} {tr : TS} {i j l k k1 k2 k3 : Nat} {ps : List Str} {sp : Sp}
/-- (x, y), z = f(..), e2 -/
def tText2 (sp : Sp) (t : TA) (tf : TE) (i j l : Nat) (tr : Value → Nat → TS) : TS := fun D σ H => t σ H fun vs H1 => sp vs H1 (fun r H2 => ∃ a v w, r = .ref a ∧ H2 a = some (.lst [v, w]) ∧ tf σ (wo H2 a) fun u H3 => ∀ u0 n, Tkn 0 [u0] n → tr u0 n D (((σ.set i (some v)).set j (some w)).set l (some u)) H3) E0
theorem wu_text2 {tr : Value → Nat → TS} (D0 : DfR X.prog X.w X.K X.mg X.base k fn ps sp) (hr : Room k X.A) (hg : Gl X fn) (ha : PA X (e :: es) t) (h2 : PE X e2 tf) (mood : X.calm = true) (hN : X.N.Nodup) (hi : X.N[i]? = some x) (hj : X.N[j]? = some y) (hl : X.N[l]? = some z)
    (kx : X.env.scope.names.lookup x = some .local) (ky : X.env.scope.names.lookup y = some .local) (kz : X.env.scope.names.lookup z = some .local) (nz : z ≠ y)
    (hrest : ∀ (u0 : Value) (n : Nat), Tkn 0 [u0] n → Wu X (fun s => Raw X y u0 s ∧ n ≤ s.toks) rest (tr u0 n))
    (hs : swapsWithSole [.Tuple [.Tuple [.Name x px, .Name y py] k1 pt1, .Name z pz] k2 pt2] (.Tuple [.Call (.Name fn p) (e :: es) [] cpos, e2] k3 pt3) pos.line X.env = pure false := by rfl)
    (hw : swappedStores [.Tuple [.Tuple [.Name x px, .Name y py] k1 pt1, .Name z pz] k2 pt2] (.Tuple [.Call (.Name fn p) (e :: es) [] cpos, e2] k3 pt3) X.env = pure none := by rfl)
    (hdb : (fn == ("__debug__" : Str)) = false := by decide)
    (he : starEach (e :: es) X.env = (false, eval e X.env) :: starEach es X.env := by rfl) (hpl : (backTo cpos (starEach es X.env)).any (·.1) = false := by rfl)
    (hse : starEach [.Call (.Name fn p) (e :: es) [] cpos, e2] X.env = [(false, eval (.Call (.Name fn p) (e :: es) [] cpos) X.env), (false, eval e2 X.env)] := by rfl)
    (h1 : (assignEach [.Tuple [.Tuple [.Name x px, .Name y py] k1 pt1, .Name z pz] k2 pt2] X.env).map (·.2) = [assign (.Tuple [.Tuple [.Name x px, .Name y py] k1 pt1, .Name z pz] k2 pt2) X.env] := by rfl)
    (h3 : (assignEach [.Tuple [.Name x px, .Name y py] k1 pt1, .Name z pz] X.env).map (·.2) = [assign (.Tuple [.Name x px, .Name y py] k1 pt1) X.env, assign (.Name z pz) X.env] := by rfl)
    (h4 : (assignEach [.Name x px, .Name y py] X.env).map (·.2) = [assign (.Name x px) X.env, assign (.Name y py) X.env] := by rfl)
    (l3 : (assignEach [.Tuple [.Name x px, .Name y py] k1 pt1, .Name z pz] X.env).length = 2 := by rfl) (st3 : (assignEach [.Tuple [.Name x px, .Name y py] k1 pt1, .Name z pz] X.env).findIdx? (·.1) = none := by rfl)
    (l4 : (assignEach [.Name x px, .Name y py] X.env).length = 2 := by rfl) (st4 : (assignEach [.Name x px, .Name y py] X.env).findIdx? (·.1) = none := by rfl) :
    Wu X (fun _ => True) (.Assign [.Tuple [.Tuple [.Name x px, .Name y py] k1 pt1, .Name z pz] k2 pt2] (.Tuple [.Call (.Name fn p) (e :: es) [] cpos, e2] k3 pt3) pos :: rest) (tText2 sp t tf i j l tr) := by
  obtain ⟨f, fd, F, g, kp, b⟩ := D0.ex
  refine ⟨fun pins s σ H D I _ h => ?_⟩
  refine wpAny_execs_cons (wpAny_Assign_stores (wpAny_Tuple_spliced ?_) hs hw)
  rw [hse]
  show wpAny _ _ (spliced ((false, eval (.Call (.Name fn p) (e :: es) [] cpos) X.env) :: (false, eval e2 X.env) :: [])) _ _ s
  refine Calls.spliced_cons ?_
  refine wpAny_Call_Name_kw (ld_glob I hg g ?_ hdb)
  refine PySem.W.callWith_K (h₀ := X.base) I.ok.mod.kin kp (thn (ha.run cpos pins s σ H _ I h) fun us s1 hh => ?_) he hpl
  obtain ⟨vs, H1, I1, r, q⟩ := hh
  refine ⟨I1.kIn, ?_⟩
  have hl' : us.length = ps.length := by rw [← r.length]; exact F.len _ _ _ _ q
  have bind := b s1 us I1.kIn (by rw [List.append_nil]; exact hl')
  rw [List.append_nil] at bind
  refine wpAny_call (codeAny_mono (F.run X.A X.stack s1 H1 ⟨us, []⟩ us vs _ hr I1.env0 bind r q) fun r s2 hq => ?_)
  match r, hq with
  | .ok (.ret u), hq =>
    obtain ⟨ce, l0, ra, rb, n0, eu, at0, good⟩ := hq
    subst eu
    obtain ⟨rv, H2, I2, rr, a, v, w, ev, gl, q2⟩ := I1.after ce
    subst ev
    obtain rfl : l0 = a := by injection rr
    -- its two items
    obtain ⟨_, its, n2, rits, at2⟩ := I2.hok l0 _ gl
    rw [at0] at at2
    have eits : its = [ra, rb] := by
      injection at2 with e1
      injection e1 with _ _ e2 _
      injection e2 with e3 _
      have e4 := congrArg Array.toList e3
      simpa using e4.symm
    subst eits
    obtain ⟨ru, rw'⟩ : RelV v ra ∧ RelV w rb := by
      cases rits with
      | cons r1 r2 => cases r2 with
        | cons r2 _ => exact ⟨r1, r2⟩
    have nl : l0 ≠ X.env.locals := fun z => by rw [z, I2.free] at gl; cases gl
    have nfs : l0 ∉ X.fs := fun hb => by
      obtain ⟨_, o, e, _⟩ := I2.ok.funs.mem hb
      have z := I2.base.free l0 o e (I2.ok.frf l0 hb) (fun hx => I2.ok.exfs l0 hx hb)
      rw [gl] at z
      cases z
    have I3 := inv_drop I2 gl
    have I4 : Inv X (pins ++ [(l0, { cls := .type "list", data := .seq #[ra, rb] n0 })]) σ (wo H2 l0) s2 := I3.pins_of fun p hp => (List.mem_append.mp hp).elim (fun z => I3.pin p (List.mem_append_right _ z)) fun z => by
      rw [List.mem_singleton.mp z]
      exact ⟨at0, wo_self, nl, nfs, fun v q => by cases q⟩
    refine Calls.spliced_cons (wpAny_mono (PySem.wpAny_toks (h2.run _ s2 σ _ _ I4 q2)) (fun uz s3 hh => Calls.spliced_nil ?_) fun _ _ z => z.2)
    obtain ⟨up3, vz, H3, I5, rz, q3⟩ := hh
    have pl0 := (I5.pin (l0, _) (List.mem_append_right _ (List.mem_append_right _ (List.mem_singleton_self _))))
    have I6 : Inv X pins σ H3 s3 := I5.pins_of fun p hp => I5.pin p (List.mem_append_right _ (List.mem_append_left _ hp))
    refine ⟨by show 2 ≤ sizeLine; decide, ?_⟩
    rw [h1]
    -- the pair
    have ht : IsTup (s3.heap.push { cls := .type "tuple", data := .seq #[.ref l0, uz] }) s3.heap.objs.size #[.ref l0, uz] := IsTup.new s3.heap _
    have I7 : Inv X pins σ H3 { s3 with heap := s3.heap.push { cls := .type "tuple", data := .seq #[.ref l0, uz] } } := I6.kept (t' := s3.toks) fun b o e => Heap.get?_push_of_some _ e
    have at7 : (s3.heap.push { cls := .type "tuple", data := .seq #[.ref l0, uz] }).get? l0 = some { cls := .type "list", data := .seq #[ra, rb] n0 } := Heap.get?_push_of_some _ pl0.1
    refine assign_Tuple_tuple (I7.ok.hd mood) ht (by rw [l3]; rfl) st3 fun h' hx => ?_
    have stay := fun (b : Addr) (o : Obj) (e : (s3.heap.push { cls := .type "tuple", data := .seq #[.ref l0, uz] }).get? b = some o) => hx b o (Nat.ne_of_lt (Heap.lt_size e)) e
    have I8 : Inv X pins σ H3 { s3 with heap := h' } := I7.kept (t' := s3.toks) stay
    have at8 := stay _ _ at7
    rw [h3]
    show wpAny _ _ (assignInOrder [assign (.Tuple [.Name x px, .Name y py] k1 pt1) X.env, assign (.Name z pz) X.env] [.ref l0, uz]) _ _ _
    refine assignInOrder_cons ?_
    rw [PyProof.Rows.assign_Tuple]
    refine wpAny_bind (wpAny_standAt ?_)
    unfold unpack
    rw [l4, st4]
    have isl : h'.IsList l0 #[ra, rb] := ⟨_, at8, rfl, n0, rfl⟩
    refine wpAny_bind (wpAny_holding (PySem.W.kun_itemsOf (items := #[ra, rb]) (s := { s3 with heap := h' }) (I8.ok.hd mood) isl fun h9 hx9 => ?_))
    have I9 : Inv X pins σ H3 { s3 with heap := h9 } := I8.kept (t' := s3.toks) fun b o e => hx9 b o (Nat.ne_of_lt (Heap.lt_size e)) e
    rw [h4]
    show wpAny _ _ (assignInOrder [assign (.Name x px) X.env, assign (.Name y py) X.env] [ra, rb]) _ _ _
    refine assignInOrder_cons (wpAny_assign_Name (put_ok I9 hN hi (.inl kx) ru (fun s10 I10 up10 _ => ?_) (.inr kx)))
    refine assignInOrder_cons (wpAny_assign_Name (put_local I10 hN hj ky rw' fun s11 I11 up11 _ raw => assignInOrder_nil ?_))
    have cl : Clo X [y] (Raw X y rb) := clo_raw ky
    refine assignInOrder_cons (wpAny_assign_Name (put_ok I11 hN hl (.inl kz) rz (fun s12 I12 up12 pt => assignInOrder_nil ?_) (.inr kz)))
    have raw12 : Raw X y rb s12 := cl.st I11 (fun z => nz (List.mem_singleton.mp z)) up12 pt raw
    have n12 : s2.toks ≤ s12.toks := Nat.le_trans up3 (Nat.le_trans up10 (Nat.le_trans up11 up12))
    exact (hrest rb s2.toks good).run pins s12 _ H3 D I12 ⟨raw12, n12⟩ (q3 rb s2.toks good)
end
end Sq
set_option Elab.async false
set_option linter.all false
set_option maxRecDepth 100000
set_option maxHeartbeats 4000000
namespace Sq
open PySem PySem.Spec PyProof.Rows L2 GenW
section
variable {X : Cx} {Θ : Shared → Prop} {ys : List Str} {x y z : Str} {p p1 p2 kp1 pos pos' pt pz spos px py : Pos} {e e2 o a b : Expr} {rest es : List Expr} {te tf to ti : TE} {t tk : TA} {tt tu : TT} {kws : List Keyword} {k n i j : Nat} {C : Addr} {ps ks : List Str} {gV : List V → List V → List V} {u0 : Value}
/-- x = [..] on one line -/
theorem ws_setLc {elt tg iter : Expr} {ifs : List Expr} {scope : Scope} {own : List (Str × Nat)} {wi : TI} {g : TG} (Cl : Clo X ys Θ) (mood : X.calm = true) (nodupN : X.N.Nodup) (hz : X.N[i]? = some z) (hzl : X.env.scope.names.lookup z = some .local) (ne : z ∉ ys)
    (hsw : swapsWith (.ListComp elt [⟨tg, iter, ifs, 0⟩] scope pos) (some (.Name z pz)) spos.line X.env = pure true) (sourceA : WI X Θ tg iter wi) (ok : BlkOk X.N X.env.scope scope own)
    (targetA : ∀ (s : Shared) (H : Hp) (C : Addr) (cl : List (Str × Addr)) (fp : List Addr), PG (X.blk s H scope (compEnvC scope cl C X.env) fp) tg g) (testsA : ∀ (s : Shared) (H : Hp) (C : Addr) (cl : List (Str × Addr)) (fp : List Addr), PTs (X.blk s H scope (compEnvC scope cl C X.env) fp) ifs tt)
    (elemA : ∀ (s : Shared) (H : Hp) (C : Addr) (cl : List (Str × Addr)) (fp : List Addr), PE (X.blk s H scope (compEnvC scope cl C X.env) fp) elt te) (plainA : ∀ x, foldedSetIterable iter X.env x = pure x := by intro _; rfl) :
    Ws X Θ (.Assign [.Name z pz] (.ListComp elt [⟨tg, iter, ifs, 0⟩] scope pos) spos) (tAsg (tLc wi g tt te (own.map (·.2))) (gName i)) := by
  refine ⟨fun pins s σ H D I θ h => ?_⟩
  rw [exec_Assign_Name_used _ _ _ _ hsw]
  refine wpAny_bind (wpAny_standAt (wpAny_bind ?_))
  show wpAny _ X.A (do let _ ← comprehension (.ListComp elt [⟨tg, iter, ifs, 0⟩] scope pos) scope X.env (firstIterPos [⟨tg, iter, ifs, 0⟩] pos) (newList []) false (eval iter X.env) (some (assign (.Name z pz) X.env))) _ _ s
  have h2 : tLc wi g tt te (own.map (·.2)) σ H (fun x H1 => gName i x σ H1 D.nx) := h
  refine wpAny_bind (thn (lcW_core (Qf := fun _ s' => Θ s' ∧ SP X pins D .next s') Cl mood nodupN I θ sourceA ok targetA testsA elemA plainA h2 fun L C s' m H' θ' I' q nsC f => ?_) fun _ s' hq => wpAny_pure (wpAny_pure hq))
  show wpAny _ _ (assign (.Name z pz) X.env (.ref L)) _ _ _
  obtain ⟨f0, f1, f2, f3, f4, f5⟩ := f
  refine wpAny_assign_Name (put_local (v := V.ref L) I' nodupN hz hzl rfl (fun s2 I2 up pt _ => ?_))
  have θ2 := Cl.st I' ne up pt θ'
  have nsC2 : s2.heap.Ns C m := by
    rcases pt with ⟨_, sb, _⟩ | ⟨c, hc, sb, _⟩
    · exact nsC.sameBut sb f1
    · exact nsC.sameBut sb (f4 z c hc).symm
  refine ⟨m, nsC2, fun h3 sb3 => ⟨?_, _, H', I2.turned (t' := s2.toks) (fun b o hb e => (sb3.2 b hb).trans e) f0 f1 f3 f4 f5, q⟩⟩
  exact Cl.but (s' := { s2 with heap := h3 }) [C] I2 (Nat.le_refl _) (fun b hb => by rw [List.mem_singleton.mp hb]; exact ⟨f1, f4⟩) (fun b o hb e => (sb3.2 b (fun z => hb (by rw [z]; exact List.mem_singleton_self _))).trans e) θ2
end
end Sq
set_option Elab.async false
set_option linter.all false
set_option maxRecDepth 100000
set_option maxHeartbeats 4000000
set_option Elab.async false
set_option linter.all false
set_option maxRecDepth 100000
set_option maxHeartbeats 4000000
set_option Elab.async false
set_option linter.all false
set_option maxRecDepth 100000
set_option maxHeartbeats 4000000
set_option Elab.async false
set_option linter.all false
set_option maxRecDepth 100000
set_option maxHeartbeats 4000000
set_option Elab.async false
set_option linter.all false
set_option maxRecDepth 100000
set_option maxHeartbeats 4000000
namespace Sq
open PySem PySem.Spec PyProof.Rows L2 GenW
/-- anything but an object of the class -/
inductive Oth (H : Hp) : V → String → Prop where
  | non : Oth H .non "NoneType"
  | int (i : Int) : Oth H (.int i) "int"
  | str (z : Str) : Oth H (.str z) "str"
  | lst {a : Addr} {xs : List V} (e : H a = some (.lst xs)) : Oth H (.ref a) "list"
  | tup {a : Addr} {xs : List V} (e : H a = some (.tup xs)) : Oth H (.ref a) "tuple"
theorem Oth.same {H H' : Hp} {v : V} {T : String} (o : Oth H v T) (s : Same H H') : Oth H' v T := by
  cases o with
  | non => exact .non
  | int i => exact .int i
  | str z => exact .str z
  | lst e => exact .lst (s _ _ e)
  | tup e => exact .tup (s _ _ e)
section
variable {X : Cx} {Θ : Shared → Prop} {ys : List Str} {k : Nat} {C : Addr} {ps : List Str} {sp : Sp} {pins : List (Addr × Obj)} {σ : L2.St} {H : Hp} {s : Shared}
/-- a def is called here or right below; what is known is kept -/
theorem fn_called {f : Addr} {fd : FuncData} {us : List Value} {vs : List V} {Q : VK} (Cl : Clo X ys Θ) (F : FnOk X.prog X.w X.K X.mg X.base CX0 k f fd ps sp) (hb : Binds X.K fd ps []) {A : Around} (sb : Sub X k A) (I : Inv X pins σ H s) (θ : Θ s) (r : Vals vs us) (q : sp vs H Q E0) :
    wpAny (model X.prog X.w) A (call (.ref f) us) (fun u s' => Θ s' ∧ EP X pins σ Q u s') X.xe s := by
  have e0 : Env0 X.prog X.w X.K X.mg X.base A X.stack s H := by
    have e := I.env0
    exact ⟨by rw [sb.fr]; exact e.frames, e.mod, e.bs, e.bsz, e.funs, e.frf, e.hok, e.bare⟩
  have hl : us.length = ps.length := by rw [← r.length]; exact F.len _ _ _ _ q
  have bind := hb s us I.kIn (by rw [List.append_nil]; exact hl)
  rw [List.append_nil] at bind
  have called : wpAny (model X.prog X.w) A (call (.ref f) us) (fun u s' => (s.toks ≤ s'.toks → Θ s') ∧ EP X pins σ Q u s') X.xe s := by
    refine wpAny_call (codeAny_mono (F.run A X.stack s H ⟨us, []⟩ us vs Q E0 sb.room e0 bind r q) fun r s' hq => ?_)
    match r, hq with
    | .error e, hq => exact pass0 pins σ H s e s' I hq
    | .ok (.ret u), hq =>
      have ce : CE X.stack X.prog X.w H s Q u s' := hq
      obtain ⟨_, _, _, _, un, _⟩ := id ce
      exact ⟨fun up => Cl.un0 I up un θ, I.after ce⟩
  exact wpAny_mono (PySem.wpAny_toks called) (fun u s' z => ⟨z.2.1 z.1, z.2.2⟩) fun _ _ z => z.2
end
end Sq
set_option Elab.async false
set_option linter.all false
set_option maxRecDepth 100000
set_option maxHeartbeats 4000000
set_option Elab.async false
set_option linter.all false
set_option maxRecDepth 100000
set_option maxHeartbeats 4000000
namespace Sq
open PySem PySem.Spec PyProof.Rows L2 GenW
section
variable {X : Cx} {Θ : Shared → Prop} {ys : List Str} {pins : List (Addr × Obj)} {σ : L2.St} {H : Hp} {s : Shared} {x y f m : Str} {p pos pos' apos cpos lp : Pos} {o e value : Expr} {es : List Expr} {ta te to : TE} {t : TA} {C : Addr} {sp : Sp} {k i j n : Nat} {u0 : Value} {tq : L2.St → Hp → (Value → List V → Hp → Prop) → Prop} {pl : Sem Bool} {ps : List Str} {dvs : List V}
/-- a property -/
theorem we_prL (Cl : Clo X ys Θ) (D : Pr X.prog X.w X.K X.mg X.base k C f sp) (hr : Room (k + 1) X.A) (he : We X Θ e ta) (hab : attributeBase e f X.env (eval e X.env) = eval e X.env := by rfl) : We X Θ (.Attribute e f pos) (tPrL C sp ta) := by
  obtain ⟨⟨q, g, fd, hp, F, hb⟩, c⟩ := D
  refine ⟨fun pins s σ H Q I θ h => ?_⟩
  refine attr_of hab (thn (he.run pins s σ H _ I θ h) fun u s1 hh => ?_)
  obtain ⟨g1, x, H1, I1, rx, a, dx, m, ks, ex, L, q2⟩ := hh
  subst ex
  obtain rfl : u = Value.ref a := rx
  obtain ⟨od, J, _⟩ := (L.obj I1.hok).1.look
  obtain ⟨rest, isProp⟩ := hp.rec_
  have I2 := I1.tok (s1.toks + 1)
  have known : (PySem.W.clsIn X.K C).isSome = true := by
    obtain ⟨cd, hc, _⟩ := PySem.W.any_some c.hd
    rw [hc]
    rfl
  have asked : wpAny (model X.prog X.w) X.A (getAttr (.ref a) f true) (fun u s' => (s1.toks ≤ s'.toks → Θ s') ∧ EP X pins σ Q u s') X.xe s1 := by
    refine PySem.W.get_bind I1.kIn J (PySem.W.plainGet_of (c.get f)).1 (PySem.W.findObj_data known hp.at_ hp.get hp.tak) (PySem.W.plainGet_of (c.get f)).2 (wpAny_call (PySem.W.prop_get (s := { s1 with toks := s1.toks + 1 }) I1.kIn isProp ?_))
    have bind := hb _ [Value.ref a] I2.kIn rfl
    rw [List.append_nil] at bind
    refine codeAny_mono (F.run X.A.in1 X.stack { s1 with toks := s1.toks + 1 } H1 ⟨[.ref a], []⟩ [.ref a] [.ref a] Q E0 hr.in1 I2.env0.in1 bind (.cons rfl .nil) q2) fun r s' hq => ?_
    match r, hq with
    | .error er, hq => exact False.elim hq
    | .ok (.ret w), hq =>
      have ce : CE X.stack X.prog X.w H1 { s1 with toks := s1.toks + 1 } Q w s' := hq
      obtain ⟨_, _, _, _, un, _⟩ := id ce
      obtain ⟨v, H', I3, rv, q3⟩ := I2.after hq
      show wpAny _ _ (handedOut w) _ _ _
      rw [PySem.W.handedOut_of (handed_of rv)]
      exact wpAny_pure ⟨fun up => Cl.un0 I1 up un g1, v, H', I3, rv, q3⟩
  exact wpAny_mono (PySem.wpAny_toks asked) (fun u s' z => ⟨z.2.1 z.1, z.2.2⟩) fun _ _ z => z.2
/-- o.m(), m calm -/
theorem we_mL0 (Cl : Clo X ys Θ) (D : Mt CX0 X.prog X.w X.K X.mg X.base k C m ps sp) (hr : Room k X.A) (he : We X Θ o ta)
    (ht : eval (.Call (.Attribute o m apos) [] [] pos) X.env = (do
      let ov ← eval o X.env
      standAt apos.atName
      let (f, first) ← holding [ov] (getMethod ov m pl)
      callWith pos f first (backTo pos (starEach [] X.env)) (backToKw pos (keywordEach [] X.env))) := by rfl) :
    We X Θ (.Call (.Attribute o m apos) [] [] pos) (tML C m sp ta tNil) := by
  obtain ⟨⟨g, fd, F, hm, hb⟩, c⟩ := D
  refine ⟨fun pins s σ H Q I θ h => ?_⟩
  refine PySem.W.methodCall_KW (pl := pl) (thn (he.run pins s σ H _ I θ h) fun u s1 hh => ?_) ht
  obtain ⟨g1, x, H1, I1, rx, a, dx, mA, ks, ex, L, l, q⟩ := hh
  subst ex
  obtain rfl : u = Value.ref a := rx
  refine live_meth I1 L c hm l ?_
  exact PySem.W.callWith_K0 (first := [.ref a]) I1.kIn hm.kp (fn_called (us := [.ref a]) (vs := [.ref a]) Cl F hb ⟨hr, rfl⟩ I1 g1 (.cons (show RelV (V.ref a) (Value.ref a) from rfl) .nil) q)
theorem reps (a : Array Value) : ∀ (m : Nat) (acc : Array Value), (List.foldl (fun x1 x2 => x1 ++ x2) acc (List.replicate m a)).toList = acc.toList ++ (List.replicate m a.toList).flatten
  | 0, acc => (List.append_nil _).symm
  | m + 1, acc => by
    rw [List.replicate_succ, List.foldl_cons, reps a m, List.replicate_succ, List.flatten_cons, Array.toList_append, List.append_assoc]
theorem reps0 (its : List Value) (m : Nat) : List.foldl (fun x1 x2 => x1 ++ x2) #[] (List.replicate (if its.toArray.isEmpty = true then 0 else m) its.toArray) = (List.replicate m its).flatten.toArray := by
  apply Array.toList_inj.mp
  rw [reps]
  cases its with
  | nil => simp
  | cons a r => simp
theorem ow_rep (Cl : Clo X ys Θ) : OpW X Θ (binaryOp .Mult) rRep := by
  rintro pins s σ H x y v u Q I θ rx ry ⟨l, c, xs, rfl, rfl, at_, lo, hi, few, q⟩
  cases rx
  obtain ⟨tk, rfl⟩ := ry
  obtain ⟨_, its, cap, r, len, look⟩ := I.lstM at_
  have sz : its.toArray.size * c.toNat ≤ 16777216 := by
    have := sizeLine_eq
    rw [List.size_toArray, ← len]
    omega
  refine wpAny_binaryOp_repeat_ref (T := "list") (U := "int") (by decide) ⟨_, look, rfl⟩ (fun s' => typeIs_int s' c tk) noFill_list_mul PySem.F.fills_int_mul PySem.F.slot_int_rmul repeat_list PySem.F.slot_int_index.lookup ?_
  refine call_meets PySem.F.slot_int_rmul (typeIs_int s c tk) PySem.F.entry_int_rmul (PySem.F.args_int_rmul_2 _ _) (int___rmul___int_list c tk l its.toArray cap) ⟨look, rfl, ⟨_, look, rfl⟩, ?_⟩
  refine call_meets PySem.F.slot_list_mul ⟨_, look, rfl⟩ PySem.F.entry_list_mul (PySem.F.args_list_mul_2 _ _) (AutoListH.list___mul___list_int_3 l its.toArray cap c tk (by simp [Builtin.List.listFitsIndex]; omega) (by omega) (by simp [Builtin.List.listTooLong, sizeLine]; omega)) ⟨look, ?_⟩
  rw [reps0]
  exact ⟨Cl.push I θ, .ref _, _, I.lnew (t' := s.toks) (r.rep c.toNat) (by rw [PyProof.Rows.lm_len_rep_flat, Nat.mul_comm]; exact few), rfl, q _ I.fresh⟩
/-- a list as a loop's source -/
theorem wi_list {tg : Expr} (Cl : Clo X ys Θ) (hl : We X Θ e te) : WI X Θ tg e (iList X.K te) := by
  refine ⟨fun pins s σ H R I θ h => ?_⟩
  refine thn (hl.run pins s σ H _ I θ h) fun v s1 hh => ?_
  obtain ⟨g1, x, H1, I1, r1, a, ex, ⟨xs, hq⟩, q⟩ := hh
  subst ex
  cases r1
  obtain ⟨its, rv, p, hz⟩ := I1.list hq
  refine wpAny_pyIter_list p.isList ⟨Cl.push I1 g1, ?_⟩
  refine ⟨s1.heap.objs.size, [s1.heap.objs.size], _, _, H1, rfl, I1.kept (t' := s1.toks) fun b o e => Heap.get?_push_of_some _ e, turn_list a _, ⟨_, Heap.get?_push_size _ rfl, rfl, rfl⟩, fun b hb => ?_, q⟩
  have e : b = s1.heap.objs.size := by simpa using hb
  subst e
  exact I1.fpOk (Nat.le_refl _) (I1.hok.fresh (Nat.le_refl _))
end
end Sq
set_option Elab.async false
set_option linter.all false
set_option maxRecDepth 100000
set_option maxHeartbeats 4000000
namespace Sq
open PySem PySem.Spec PyProof.Rows L2 GenW
section
variable {X : Cx} {Θ : Shared → Prop} {ys : List Str} {pins : List (Addr × Obj)} {σ : L2.St} {H : Hp} {s : Shared} {x y f m nm : Str} {p pos pos' apos cpos lp : Pos} {o e value : Expr} {es : List Expr} {ta te to : TE} {t tk : TA} {C : Addr} {sp : Sp} {k i j n : Nat} {u0 : Value} {tq : L2.St → Hp → (Value → List V → Hp → Prop) → Prop} {pl : Sem Bool} {ps ks : List Str} {dvs : List V}
/-- an expression whose value is a generator that has not begun; what is known is kept -/
structure WGen (X : Cx) (Θ : Shared → Prop) (k : Nat) (e : Expr) (tg : TGen) : Prop where
  run : ∀ (pins : List (Addr × Obj)) (s : Shared) (σ : L2.St) (H : Hp) (cont : List V → Hp → Prop), Inv X pins σ H s → Θ s → tg σ H cont → wpAny (model X.prog X.w) X.A (eval e X.env)
    (fun u s' => ∃ H1 sc ex, Inv X pins σ H1 sc ∧ Θ sc ∧ sc.toks ≤ s'.toks ∧ ExOk X pins ex ∧ GMade X.prog X.w k X.stack H1 sc ex cont E0 u s') X.xe s
theorem wgen_methL {spg : SpG} (D : MtG X.prog X.w X.K X.mg X.base k C m spg) (he : We X Θ o ta) (hr : Room k X.A)
    (ht : eval (.Call (.Attribute o m apos) [] [] pos') X.env = (do
      let ov ← eval o X.env
      standAt apos.atName
      let (f, first) ← holding [ov] (getMethod ov m pl)
      callWith pos' f first (backTo pos' (starEach [] X.env)) (backToKw pos' (keywordEach [] X.env))) := by rfl) :
    WGen X Θ k (.Call (.Attribute o m apos) [] [] pos') (tMethGL C m spg E0 ta) := by
  obtain ⟨⟨f, fd, F, hm, hb⟩, c⟩ := D
  refine ⟨fun pins s σ H cont I θ h => ?_⟩
  refine PySem.W.methodCall_KW (pl := pl) (thn (he.run pins s σ H _ I θ h) fun u s1 hh => ?_) ht
  obtain ⟨g1, x, H1, I1, rx, a, dx, mA, ks, ex, L, l, q⟩ := hh
  subst ex
  obtain rfl : u = Value.ref a := rx
  refine live_meth I1 L c hm l ?_
  refine PySem.W.callWith_K0 (first := [.ref a]) I1.kIn hm.kp ?_
  have r1 : Vals [V.ref a] [Value.ref a] := .cons (show RelV (V.ref a) (Value.ref a) from rfl) .nil
  have few := F.len _ _ _ _ q
  have bound := hb s1 [.ref a] I1.kIn rfl
  rw [List.append_nil] at bound
  have called : wpAny (model X.prog X.w) X.A (call (.ref f) [.ref a]) (fun u s' => GMade X.prog X.w k X.stack H1 s1 [] cont E0 u s') X.xe s1 := by
    refine wpAny_call (codeAny_mono (F.run X.A X.stack s1 H1 ⟨[.ref a], []⟩ [.ref a] [.ref a] cont E0 hr I1.env0 bound r1 q) fun r s' hq => ?_)
    match r, hq with
    | .error e, hq => exact False.elim hq
    | .ok (.ret u), hq => exact hq
  exact wpAny_mono (PySem.wpAny_toks called) (fun u s' z => ⟨H1, s1, [], I1, g1, z.1, ExOk.nil, z.2⟩) fun _ _ z => z.2
theorem we_listG {tg : TGen} (Cl : Clo X ys Θ) (h : WGen X Θ k e tg) (hr : Room (k + 3) X.A) (hg : Gl X "list") (hmg : X.mg "list" = none)
    (he : starEach [e] X.env = (false, eval e X.env) :: starEach [] X.env := by rfl) : We X Θ (.Call (.Name "list" p) [e] [] pos) (tListG tg) := by
  refine ⟨fun pins s σ H Q I θ hq => ?_⟩
  refine wpAny_Call_Name_kw (ld_blt (u := .type "list") I hg hmg (by decide +kernel) ?_ (by decide) (by decide))
  refine PyProof.Rows.callWith_type1 ?_ he rfl
  rw [he]
  show wpAny _ _ (spliced ((false, eval e X.env) :: backTo pos (starEach [] X.env))) _ _ s
  refine Calls.spliced_cons (thn (h.run pins s σ H _ I θ hq) fun u s1 hh => ?_)
  obtain ⟨H1, sc, ex, I1, g1, up1, hex, hG⟩ := hh
  refine Calls.spliced_nil ?_
  have hsz : sc.heap.objs.size ≤ s1.heap.objs.size := by
    obtain ⟨a, g, c, _, h1, h2, _⟩ := hG
    exact Nat.le_trans h1 (Nat.le_of_lt h2)
  have drained : wpAny (model X.prog X.w) X.A (call (.type "list") [u]) (fun w s' => (s1.toks ≤ s'.toks → Θ s') ∧ EP X pins σ Q w s') X.xe s1 := by
    refine call_list_new hr I1.ok.frames hG (fun S s' acc c H' ys q0 q1 q2 hl q3 q4 q5 q6 q7 q8 => ?_) fun e s' g hc => ?_
    · exact ⟨fun up => Cl.un ex I1 (Nat.le_trans up1 up) (fun b hb => ⟨(hex b hb).2.1, (hex b hb).2.2.1⟩) q5 g1, .ref S, upd H' S (.lst ys), I1.drained (Nat.le_trans hsz q0) hl q1 q2 hex q3 q4 q5 q6 q7, rfl, q8 S q7⟩
    · obtain ⟨_, _, _, _, _, _, _, _, _, _, _, _, z⟩ := hc
      exact z.elim
  exact wpAny_mono (PySem.wpAny_toks drained) (fun w s' z => ⟨z.2.1 z.1, z.2.2⟩) fun _ _ z => z.2
/-- o.m as a value: a bound method, new -/
theorem live_bound {b : Bool} {a dx g : Addr} {mA : Str → Option Value} {ks : List Str} {A : Around} {E : Value → Shared → Prop} {Q : Value → Shared → Prop} (I : Inv X pins σ H s) (L : Live H a C dx mA ks) (c : Cls X.K C) (bm : BMeth X.K C m g) (hn : mA m = none)
    (h : Inv X pins σ (upd H s.heap.objs.size (.met g a)) { s with heap := s.heap.push (PySem.W.methodObj (.ref g) (.ref a)), toks := s.toks + 1 } → Q (.ref s.heap.objs.size) { s with heap := s.heap.push (PySem.W.methodObj (.ref g) (.ref a)), toks := s.toks + 1 }) :
    wpAny (model X.prog X.w) A (getAttr (.ref a) m b) Q E s := by
  obtain ⟨od, J, hl⟩ := (L.obj I.hok).1.look
  have hl' : PySem.W.lookIn m od = some none := by rw [hl, hn]
  refine PySem.W.get_bind I.kIn J (PySem.W.plainGet_of (c.get m)).1 (PySem.W.findObj_fn c.hd bm.mt.at_ bm.gf bm.tk bm.cp hl') (PySem.W.plainGet_of (c.get m)).2 ?_
  refine wpAny_call (PySem.W.fn_get (s := { s with toks := s.toks + 1 }) I.kIn (beq_iff_eq.mp bm.mt.fn) (PySem.W.handed_on rfl ?_))
  exact h (I.laid (t' := s.toks + 1) (a := s.heap.objs.size) (o := .met g a) (fun b u z => Heap.get?_push_of_some _ z) (Nat.le_refl _)
    (show (s.heap.push (PySem.W.methodObj (.ref g) (.ref a))).get? s.heap.objs.size = some (PySem.W.methodObj (.ref g) (.ref a)) from Heap.get?_push_size s.heap rfl))
/-- o.m( *l), m a def with *others -/
structure MtB (P : Program) (w : World) (K : PySem.W.Frag) (mg : Str → Option Value) (base : Heap) (k : Nat) (C : Addr) (m : Str) (sp : Nat → Sp) : Prop where
  ex : ∃ f, FnV P w K mg base k f sp ∧ BMeth K C m f
  cl : Cls K C
/-- o.m(e, ..) of thirty arguments and more: the bound method is made first -/
theorem manycall_of {M : Model} {A : Around} {E : Value → Shared → Prop} {env : Env} {es : List Expr} {Q : Value → Shared → Prop} (hbase : attributeBase o m env (eval o env) = eval o env)
    (plain : methodCallForm (es.length + ([] : List Keyword).length) (backTo pos (starEach es env)) [] = false)
    (h : wpAny M A (eval o env) (fun ov s₁ => wpAny M A (getAttr ov m true) (fun f s₂ => wpAny M A (callWith pos f [] (backTo pos (starEach es env)) []) Q E s₂) E s₁) E s) :
    wpAny M A (eval (.Call (.Attribute o m apos) es [] pos) env) Q E s := by
  have k0 : backToKw pos (keywordEach [] env) = [] := rfl
  have seat : methodCallPos false o env apos pos = pure pos := rfl
  have callee : ∀ ov, calleeOf false o env ov m = (getAttr ov m true >>= fun v => pure (v, [])) := fun _ => rfl
  rw [arm_eval_Call, hbase, k0]
  refine wpAny_bind (wpAny_mono h (fun ov s₁ h₁ => ?_) fun _ _ x => x)
  refine wpAny_bind (wpAny_standAt ?_)
  unfold methodCall
  rw [plain, seat, callee]
  refine wpAny_bind (wpAny_holding (wpAny_bind (wpAny_mono h₁ (fun f s₂ h₂ => wpAny_pure ?_) fun _ _ x => x)))
  exact wpAny_bind (wpAny_pure h₂)
def tMVB (C : Addr) (m : Str) (sp : Sp) (ta : TE) (t : TA) : TE := fun σ H Q => ta σ H fun x H1 => ∃ a dx mA ks, x = .ref a ∧ Live H1 a C dx mA ks ∧ mA m = none ∧ ∀ q g, H1 q = none → t σ (upd H1 q (.met g a)) fun vs H2 => H2 q = some (.met g a) ∧ vs.length ≤ sizeLine ∧ ∀ T, H2 T = none → sp [x, .ref T] (upd H2 T (.tup vs)) Q E0
theorem we_mVB {spn : Nat → Sp} (Cl : Clo X ys Θ) (D : MtB X.prog X.w X.K X.mg X.base k C m spn) (hn : ∀ s, Θ s → n ≤ s.toks) (hr : Room k X.A) (he : We X Θ o ta) (ha : Wa X Θ (e :: es) t) (hbase : attributeBase o m X.env (eval o X.env) = eval o X.env := by rfl)
    (plain : methodCallForm ((e :: es).length + ([] : List Keyword).length) (backTo pos (starEach (e :: es) X.env)) [] = false := by rfl)
    (hst : starEach (e :: es) X.env = (false, eval e X.env) :: starEach es X.env := by rfl) (hpl : (backTo pos (starEach es X.env)).any (·.1) = false := by rfl) : We X Θ (.Call (.Attribute o m apos) (e :: es) [] pos) (tMVB C m (spn n) ta t) := by
  obtain ⟨⟨g, F, bm⟩, c⟩ := D
  refine ⟨fun pins s σ H Q I θ h => ?_⟩
  refine manycall_of hbase plain (thn (he.run pins s σ H _ I θ h) fun u s1 hh => ?_)
  obtain ⟨g1, x, H1, I1, rx, a, dx, mA, kz, ex, L, l, q⟩ := hh
  subst ex
  obtain rfl : u = Value.ref a := rx
  refine live_bound I1 L c bm l fun I2 => ?_
  have θ2 : Θ { s1 with heap := s1.heap.push (PySem.W.methodObj (.ref g) (.ref a)), toks := s1.toks + 1 } := Cl.kept (s' := { s1 with heap := s1.heap.push (PySem.W.methodObj (.ref g) (.ref a)), toks := s1.toks + 1 }) I1 (Nat.le_succ _) (fun b u z => Heap.get?_push_of_some _ z) g1
  rw [hst]
  refine PySem.W.callWith_of (P := PySem.W.MethP X.K s1.heap.objs.size g (.ref a)) (by show ((false || (backTo pos (starEach es X.env)).any (·.1)) || false) = false; rw [hpl]; rfl) (PySem.W.keeps_M bm.fi) (Calls.evalArgs_plain ?_)
  have args := ha.run pos pins _ σ _ _ I2 θ2 (q s1.heap.objs.size g (I1.hok.fresh (Nat.le_refl _)))
  rw [hst] at args
  refine thn args fun us s5 hh => ?_
  obtain ⟨g5, vs, H3, I5, rv, hm, few, hsp⟩ := hh
  refine ⟨met_P I5 hm, ?_⟩
  have called : wpAny (model X.prog X.w) X.A (call (.ref s1.heap.objs.size) us) (fun u s' => (s5.toks ≤ s'.toks → Θ s') ∧ EP X pins σ Q u s') X.xe s5 := by
    refine wpAny_call (PySem.W.method_call (met_P I5 hm).1 (codeAny_mono (F.run X.A X.stack s5 H3 (.ref a) us (.ref a) vs Q n hr I5.env0 (.cons (show RelV (V.ref a) (Value.ref a) from rfl) rv) (hn s5 g5) (by rw [← rv.length]; exact few) hsp) fun r s' hq => ?_))
    match r, hq with
    | .ok (.ret u), hq =>
      have ce : CE X.stack X.prog X.w H3 s5 Q u s' := hq
      obtain ⟨_, _, _, _, un, _⟩ := id ce
      exact ⟨fun up => Cl.un0 I5 up un g5, I5.after ce⟩
  exact wpAny_mono (PySem.wpAny_toks called) (fun u s' z => ⟨z.2.1 z.1, z.2.2⟩) fun _ _ z => z.2
end
end Sq
set_option Elab.async false
set_option linter.all false
set_option maxRecDepth 100000
set_option maxHeartbeats 4000000
set_option Elab.async false
set_option linter.all false
set_option maxRecDepth 100000
set_option maxHeartbeats 4000000
namespace Sq
open PySem PySem.Spec PyProof.Rows L2 GenW
section
variable {X : Cx} {Θ : Shared → Prop} {ys : List Str} {pins : List (Addr × Obj)} {σ : L2.St} {H : Hp} {s : Shared} {x y z fn : Str} {p px py pz pt1 pt2 spos pos cpos apos p1 p2 c1 : Pos} {e a b c o : Expr} {es : List Expr} {t : TA} {te to : TE} {rest : List Stmt} {i j l k k1 k2 n : Nat} {ps : List Str} {sp : Sp} {u0 : Value}
/-- x, z = e1, e2 -/
theorem ws_par2 {ta : TA} (Cl : Clo X ys Θ) (nx : x ∉ ys) (nz : z ∉ ys) (mood : X.calm = true) (hN : X.N.Nodup) (hi : X.N[i]? = some x) (hj : X.N[j]? = some z) (hij : i ≠ j)
    (hx : X.env.scope.names.lookup x = some .local) (hz : X.env.scope.names.lookup z = some .local) (ha : Wa X Θ [a, b] ta)
    (hw : swappedStores [.Tuple [.Name x px, .Name z pz] k1 pt1] (.Tuple [a, b] k2 pt2) X.env = pure (some [x, z]))
    (hs : swapsWithSole [.Tuple [.Name x px, .Name z pz] k1 pt1] (.Tuple [a, b] k2 pt2) spos.line X.env = pure false := by rfl) :
    Ws X Θ (.Assign [.Tuple [.Name x px, .Name z pz] k1 pt1] (.Tuple [a, b] k2 pt2) spos) (tPar i j ta) := by
  refine ⟨fun pins s σ H D I θ h => ?_⟩
  rw [exec_Assign_arm]
  refine wpAny_bind (wpAny_standAt ?_)
  rw [hs]
  refine wpAny_bind (wpAny_pure ?_)
  rw [if_neg (by decide)]
  refine wpAny_bind (Tuple_ (thn (ha.run _ pins s σ H _ I θ h) fun us s1 hh => ?_))
  obtain ⟨g1, vs, H1, I1, r1, v, w, e1, q1⟩ := hh
  subst e1
  obtain ⟨u1, u2, rfl, rv, rw'⟩ := vals2 r1
  refine wpAny_newObj_type ?_ (by show 2 ≤ sizeLine; decide)
  have g2 := Cl.push (o := { cls := .type "tuple", data := .seq [u1, u2].toArray }) I1 g1
  have I2 : Inv X pins σ H1 { s1 with heap := s1.heap.push { cls := .type "tuple", data := .seq [u1, u2].toArray } } := I1.kept (t' := s1.toks) fun b o e => Heap.get?_push_of_some _ e
  rw [hw]
  refine wpAny_bind (wpAny_pure ?_)
  show wpAny (model X.prog X.w) X.A (do rule "assign.swapped-stores"; let items ← unpackItems (.ref s1.heap.objs.size) 2 none; assignInOrder [fun v => bindName X.env z v, fun v => bindName X.env x v] items.reverse; pure Flow.next) _ _ _
  refine wpAny_bind (wpAny_rule (wpAny_bind (unpackItems_tuple (items := #[u1, u2]) (I.ok.hd mood) (IsTup.new s1.heap _) fun h' hx' => ?_)))
  have stay := fun (b : Addr) (o : Obj) (e : (s1.heap.push { cls := .type "tuple", data := .seq [u1, u2].toArray }).get? b = some o) => hx' b o (Nat.ne_of_lt (Heap.lt_size e)) e
  have I3 := I2.kept (h' := h') (t' := s1.toks) stay
  have g3 := Cl.kept (s' := { s1 with heap := h' }) I2 (Nat.le_refl _) stay g2
  show wpAny _ _ (assignInOrder [fun v => bindName X.env z v, fun v => bindName X.env x v] [u2, u1] >>= fun _ => pure Flow.next) _ _ _
  refine wpAny_bind (assignInOrder_cons (wpAny_bindName (put_ok I3 hN hj (.inl hz) rw' (fun s2 I4 up4 pt4 => ?_) (.inr hz))))
  refine assignInOrder_cons (wpAny_bindName (put_ok I4 hN hi (.inl hx) rv (fun s3 I5 up5 pt5 => assignInOrder_nil (wpAny_pure ?_)) (.inr hx)))
  have g5 := Cl.st I4 nx up5 pt5 (Cl.st I3 nz up4 pt4 g3)
  rw [List.set_comm _ _ (Ne.symm hij)] at I5
  exact ⟨g5, _, H1, I5, q1⟩
theorem vals3b {v1 v2 v3 : V} {us : List Value} (r : Vals [v1, v2, v3] us) : ∃ u1 u2 u3, us = [u1, u2, u3] ∧ RelV v1 u1 ∧ RelV v2 u2 ∧ RelV v3 u3 := by
  cases r with
  | cons r1 r => cases r with
    | cons r2 r => cases r with
      | cons r3 r => cases r with
        | nil => exact ⟨_, _, _, rfl, r1, r2, r3⟩
def tPar3 (i j l : Nat) (t : TA) : TS := fun D σ H => t σ H fun vs H1 => ∃ u v w, vs = [u, v, w] ∧ D.nx (((σ.set i (some u)).set j (some v)).set l (some w)) H1
theorem ws_par3 {ta : TA} (Cl : Clo X ys Θ) (nx : x ∉ ys) (ny : y ∉ ys) (nz : z ∉ ys) (mood : X.calm = true) (hN : X.N.Nodup) (hi : X.N[i]? = some x) (hj : X.N[j]? = some y) (hl : X.N[l]? = some z) (hij : i ≠ j) (hil : i ≠ l) (hjl : j ≠ l)
    (hx : X.env.scope.names.lookup x = some .local) (hy : X.env.scope.names.lookup y = some .local) (hz : X.env.scope.names.lookup z = some .local) (ha : Wa X Θ [a, b, c] ta)
    (hw : swappedStores [.Tuple [.Name x px, .Name y py, .Name z pz] k1 pt1] (.Tuple [a, b, c] k2 pt2) X.env = pure (some [x, y, z]))
    (hs : swapsWithSole [.Tuple [.Name x px, .Name y py, .Name z pz] k1 pt1] (.Tuple [a, b, c] k2 pt2) spos.line X.env = pure false := by rfl) :
    Ws X Θ (.Assign [.Tuple [.Name x px, .Name y py, .Name z pz] k1 pt1] (.Tuple [a, b, c] k2 pt2) spos) (tPar3 i j l ta) := by
  refine ⟨fun pins s σ H D I θ h => ?_⟩
  rw [exec_Assign_arm]
  refine wpAny_bind (wpAny_standAt ?_)
  rw [hs]
  refine wpAny_bind (wpAny_pure ?_)
  rw [if_neg (by decide)]
  refine wpAny_bind (Tuple_ (thn (ha.run _ pins s σ H _ I θ h) fun us s1 hh => ?_))
  obtain ⟨g1, vs, H1, I1, r1, v1, v2, v3, e1, q1⟩ := hh
  subst e1
  obtain ⟨u1, u2, u3, rfl, r1, r2, r3⟩ := vals3b r1
  refine wpAny_newObj_type ?_ (by show 3 ≤ sizeLine; decide)
  have g2 := Cl.push (o := { cls := .type "tuple", data := .seq [u1, u2, u3].toArray }) I1 g1
  have I2 : Inv X pins σ H1 { s1 with heap := s1.heap.push { cls := .type "tuple", data := .seq [u1, u2, u3].toArray } } := I1.kept (t' := s1.toks) fun b o e => Heap.get?_push_of_some _ e
  rw [hw]
  refine wpAny_bind (wpAny_pure ?_)
  show wpAny (model X.prog X.w) X.A (do rule "assign.swapped-stores"; let items ← unpackItems (.ref s1.heap.objs.size) 3 none; assignInOrder [fun v => bindName X.env z v, fun v => bindName X.env y v, fun v => bindName X.env x v] items.reverse; pure Flow.next) _ _ _
  refine wpAny_bind (wpAny_rule (wpAny_bind (unpackItems_tuple (items := #[u1, u2, u3]) (I.ok.hd mood) (IsTup.new s1.heap _) fun h' hx' => ?_)))
  have stay := fun (b : Addr) (o : Obj) (e : (s1.heap.push { cls := .type "tuple", data := .seq [u1, u2, u3].toArray }).get? b = some o) => hx' b o (Nat.ne_of_lt (Heap.lt_size e)) e
  have I3 := I2.kept (h' := h') (t' := s1.toks) stay
  have g3 := Cl.kept (s' := { s1 with heap := h' }) I2 (Nat.le_refl _) stay g2
  show wpAny _ _ (assignInOrder [fun v => bindName X.env z v, fun v => bindName X.env y v, fun v => bindName X.env x v] [u3, u2, u1] >>= fun _ => pure Flow.next) _ _ _
  refine wpAny_bind (assignInOrder_cons (wpAny_bindName (put_ok I3 hN hl (.inl hz) r3 (fun s2 I4 up4 pt4 => ?_) (.inr hz))))
  refine assignInOrder_cons (wpAny_bindName (put_ok I4 hN hj (.inl hy) r2 (fun s3 I5 up5 pt5 => ?_) (.inr hy)))
  refine assignInOrder_cons (wpAny_bindName (put_ok I5 hN hi (.inl hx) r1 (fun s4 I6 up6 pt6 => assignInOrder_nil (wpAny_pure ?_)) (.inr hx)))
  have g6 := Cl.st I5 nx up6 pt6 (Cl.st I4 ny up5 pt5 (Cl.st I3 nz up4 pt4 g3))
  have es : ((σ.set l (some v3)).set j (some v2)).set i (some v1) = ((σ.set i (some v1)).set j (some v2)).set l (some v3) := by
    rw [List.set_comm _ _ (Ne.symm hij), List.set_comm (some v3) (some v1) (Ne.symm hil), List.set_comm (some v3) (some v2) (Ne.symm hjl)]
  rw [es] at I6
  exact ⟨g6, _, H1, I6, q1⟩
end
end Sq
set_option Elab.async false
set_option linter.all false
set_option maxRecDepth 100000
set_option maxHeartbeats 4000000
set_option Elab.async false
set_option linter.all false
set_option maxRecDepth 100000
set_option maxHeartbeats 4000000
set_option Elab.async false
set_option linter.all false
set_option maxRecDepth 100000
set_option maxHeartbeats 4000000
set_option Elab.async false
set_option linter.all false
set_option maxRecDepth 100000
set_option maxHeartbeats 4000000
namespace Sq
open PySem PySem.Spec PyProof.Rows L2 GenW
/-- behind it a token has been given out -/
structure Wc (X : Cx) (Θ Θ' : Shared → Prop) (e : Expr) (t : TE) : Prop where
  run : ∀ (pins : List (Addr × Obj)) (s : Shared) (σ : L2.St) (H : Hp) (Q : VK), Inv X pins σ H s → Θ s → t σ H Q → wpAny (model X.prog X.w) X.A (eval e X.env) (fun u s' => Θ' s' ∧ EP X pins σ Q u s') X.xe s
section
variable {X : Cx} {Θ Θ' : Shared → Prop} {ys : List Str} {x m : Str} {z : Str} {p pos apos cp : Pos} {e e2 : Expr} {es : List Expr} {te tf : TE} {t : TA} {C : Addr} {k kc j n : Nat} {pl : Sem Bool} {ps : List Str} {op : Operator} {r : R2}
theorem wc_str : Wc X (fun _ => True) (fun s => 1 ≤ s.toks) (.Constant (.str z) kc pos) (tC (.str z)) := by
  refine ⟨fun pins s σ H Q I _ h => Calls.Constant_str ⟨Nat.succ_le_succ (Nat.zero_le _), .str z, H, I.tok _, ⟨_, rfl⟩, h⟩⟩
theorem wc_op (ho : OpW X Θ' (binaryOp op) r) (ha : Wc X Θ Θ' e te) (hb : We X Θ' e2 tf) : Wc X Θ Θ' (.BinOp e op e2 pos) (tOp r te tf) := by
  refine ⟨fun pins s σ H Q I θ h => wpAny_BinOp (thn (ha.run pins s σ H _ I θ h) fun v s1 hh => ?_)⟩
  obtain ⟨g1, a, H1, I1, r1, q1⟩ := hh
  refine thn (hb.run pins s1 σ H1 _ I1 g1 q1) fun u s2 hh => ?_
  obtain ⟨g2, b, H2, I2, r2, q2⟩ := hh
  exact ho pins s2 σ H2 a b v u Q I2 g2 r1 r2 q2
/-- [e, 'z'] -/
theorem wx_lit (ha : Wc X (fun _ => True) (fun s => 1 ≤ s.toks) e te) (hs : starEach [e, .Constant (.str z) kc cp] X.env = [(false, eval e X.env), (false, eval (.Constant (.str z) kc cp) X.env)] := by rfl) :
    Wx X (fun _ => True) 1 [e, .Constant (.str z) kc cp] (tCons te (tCons (tC (.str z)) tNil)) := by
  refine ⟨fun pos pins s σ H Q I θ h => ?_⟩
  rw [hs]
  show wpAny _ _ (spliced ((false, eval e X.env) :: (false, eval (.Constant (.str z) kc cp) X.env) :: [])) _ _ s
  refine Calls.spliced_cons (thn (ha.run pins s σ H _ I θ h) fun v s1 hh => ?_)
  obtain ⟨g1, x, H1, I1, r1, q1⟩ := hh
  refine Calls.spliced_cons (Calls.Constant_str (Calls.spliced_nil ⟨⟨True.intro, fun b tk eb one => ?_⟩, [x, .str z], H1, I1.tok _, .cons r1 (.cons ⟨_, rfl⟩ .nil), q1⟩))
  have e2 : Value.str z s1.toks = .str b tk := Option.some.inj eb
  injection e2 with _ e3
  subst e3
  exact ⟨Nat.ne_of_gt g1, Nat.lt_succ_self _⟩
end
end Sq
set_option Elab.async false
set_option linter.all false
set_option maxRecDepth 100000
set_option maxHeartbeats 4000000
set_option Elab.async false
set_option linter.all false
set_option maxRecDepth 100000
set_option maxHeartbeats 4000000
namespace Sq
open PySem PySem.Spec PyProof.Rows L2 GenW
mutual
inductive Dd (H : Hp) : V → PyData → Prop
  | non : Dd H .non .none
  | bl (b : Bool) : Dd H (.bl b) (.bool b)
  | int (i : Int) : Dd H (.int i) (.int i)
  | str (x : Str) : Dd H (.str x) (.str x)
  | lst {a : Addr} {xs : List V} {ds : List PyData} : sysModules < a → H a = some (.lst xs) → DdAll H xs ds → Dd H (.ref a) (.list ds)
  | tup {a : Addr} {xs : List V} {ds : List PyData} : H a = some (.tup xs) → DdAll H xs ds → Dd H (.ref a) (.tuple ds)
  | dic {a : Addr} : H a = some (.dK []) → Dd H (.ref a) (.dict [])
inductive DdAll (H : Hp) : List V → List PyData → Prop
  | nil : DdAll H [] []
  | cons {v : V} {vs : List V} {d : PyData} {ds : List PyData} : Dd H v d → DdAll H vs ds → DdAll H (v :: vs) (d :: ds)
end
section
variable {X : Cx} {pins : List (Addr × Obj)} {σ : L2.St} {H : Hp} {s : Shared}
mutual
theorem Dd.reads (I : Inv X pins σ H s) : ∀ (d : PyData) (v : V) (u : Value), Dd H v d → RelV v u → ∃ as, Reads s.heap u d as ∧ sysModules ∉ as
  | .none, _, _, h, r => by
    cases h
    cases r
    exact ⟨_, Reads.none, List.not_mem_nil⟩
  | .bool b, _, _, h, r => by
    cases h
    cases r
    exact ⟨_, Reads.bool b, List.not_mem_nil⟩
  | .int i, _, _, h, r => by
    cases h
    obtain ⟨t, e⟩ := r
    subst e
    exact ⟨_, Reads.int i t, List.not_mem_nil⟩
  | .str z, _, _, h, r => by
    cases h
    obtain ⟨t, e⟩ := r
    subst e
    exact ⟨_, Reads.str z t, List.not_mem_nil⟩
  | .list ds, _, _, h, r => by
    cases h with
    | @lst a xs _ big at_ all =>
      cases r
      obtain ⟨_, its, n, rv, ob⟩ := I.hok a _ at_
      obtain ⟨as, rd, no⟩ := DdAll.reads I ds xs its all rv
      refine ⟨_, Reads.list ob rfl rfl (by simpa using rd), fun m => ?_⟩
      rcases List.mem_cons.mp m with z | z
      · exact absurd big (by rw [z]; exact Nat.lt_irrefl _)
      · exact no z
  | .tuple ds, _, _, h, r => by
    cases h with
    | @tup a xs _ at_ all =>
      cases r
      obtain ⟨_, its, rv, o, ho, hc, n, hd⟩ := I.hok a _ at_
      obtain ⟨as, rd, no⟩ := DdAll.reads I ds xs its all rv
      exact ⟨_, Reads.tuple ho hc hd (by simpa using rd), no⟩
  | .dict kvs, _, _, h, r => by
    cases h with
    | @dic a at_ =>
      cases r
      obtain ⟨_, away, vs, kv, o, es, ep, ho, hx, hd, _, prs, _⟩ := I.hok a _ at_
      cases kv
      have e0 : es.toList = [] := by
        cases e : es.toList with
        | nil => rfl
        | cons x xs => rw [e] at prs; cases prs
      refine ⟨_, Reads.dict (as := []) (bs := []) ho hx.1 hd (by rw [e0]; exact ReadsAll.nil) (by rw [e0]; exact ReadsAll.nil), fun m => ?_⟩
      have z : sysModules = a := by simpa using m
      rw [z] at away
      simp at away
theorem DdAll.reads (I : Inv X pins σ H s) : ∀ (ds : List PyData) (vs : List V) (us : List Value), DdAll H vs ds → Vals vs us → ∃ as, ReadsAll s.heap us ds as ∧ sysModules ∉ as
  | [], _, _, h, r => by
    cases h
    cases r
    exact ⟨_, ReadsAll.nil, List.not_mem_nil⟩
  | d :: ds, _, _, h, r => by
    cases h with
    | cons h1 h2 =>
      cases r with
      | cons r1 r2 =>
        obtain ⟨as, q1, n1⟩ := Dd.reads I d _ _ h1 r1
        obtain ⟨bs, q2, n2⟩ := DdAll.reads I ds _ _ h2 r2
        exact ⟨_, ReadsAll.cons q1 q2, fun m => (List.mem_append.mp m).elim n1 n2⟩
end
end
end Sq
set_option Elab.async false
set_option linter.all false
set_option maxRecDepth 100000
set_option maxHeartbeats 4000000
set_option Elab.async false
set_option linter.all false
set_option maxRecDepth 100000
set_option maxHeartbeats 4000000
set_option Elab.async false
set_option linter.all false
set_option maxRecDepth 100000
set_option maxHeartbeats 4000000
namespace Sq
open PySem PySem.Spec PyProof.Rows L2 GenW
section
variable {X : Cx} {x z : Str} {px pz pt1 pt2 spos cp : Pos} {e : Expr} {te : TE} {rest : List Stmt} {i j k1 k2 kc : Nat} {lit : Str} {tr : Value → Nat → TS}
def tParL (te : TE) (lit : Str) (i j : Nat) (tr : Value → Nat → TS) : TS := fun D σ H => (tCons te (tCons (tC (.str lit)) tNil)) σ H fun vs H1 => ∃ v, vs = [v, .str lit] ∧ ∀ u0 n, Tkn 0 [u0] n → RelV (.str lit) u0 → tr u0 n D ((σ.set i (some v)).set j (some (.str lit))) H1
theorem wu_parlit (ha : Wc X (fun _ => True) (fun s => 1 ≤ s.toks) e te) (mood : X.calm = true) (hN : X.N.Nodup) (hi : X.N[i]? = some x) (hj : X.N[j]? = some z) (hij : i ≠ j) (xz : z ≠ x)
    (hx : X.env.scope.names.lookup x = some .local) (hz : X.env.scope.names.lookup z = some .local)
    (hrest : ∀ (u0 : Value) (n : Nat), Tkn 0 [u0] n → Wu X (fun s => Raw X z u0 s ∧ n ≤ s.toks) rest (tr u0 n))
    (hw : swappedStores [.Tuple [.Name x px, .Name z pz] k1 pt1] (.Tuple [e, .Constant (.str lit) kc cp] k2 pt2) X.env = pure (some [x, z]))
    (hs : swapsWithSole [.Tuple [.Name x px, .Name z pz] k1 pt1] (.Tuple [e, .Constant (.str lit) kc cp] k2 pt2) spos.line X.env = pure false := by rfl)
    (hse : starEach [e, .Constant (.str lit) kc cp] X.env = [(false, eval e X.env), (false, eval (.Constant (.str lit) kc cp) X.env)] := by rfl) :
    Wu X (fun _ => True) (.Assign [.Tuple [.Name x px, .Name z pz] k1 pt1] (.Tuple [e, .Constant (.str lit) kc cp] k2 pt2) spos :: rest) (tParL te lit i j tr) := by
  refine ⟨fun pins s σ H D I _ h => ?_⟩
  refine wpAny_execs_cons ?_
  rw [exec_Assign_arm]
  refine wpAny_bind (wpAny_standAt ?_)
  rw [hs]
  refine wpAny_bind (wpAny_pure ?_)
  rw [if_neg (by decide)]
  refine wpAny_bind (Tuple_ (thn ((wx_lit ha hse).run _ pins s σ H _ I True.intro h) fun us s1 hh => ?_))
  obtain ⟨⟨_, tk⟩, vs, H1, I1, r1, v, e1, q1⟩ := hh
  subst e1
  obtain ⟨u1, u2, rfl, rv, rw'⟩ := vals2 r1
  have good : Tkn 0 [u2] s1.toks := fun b t eb one => tk b t eb one
  refine wpAny_newObj_type ?_ (by show 2 ≤ sizeLine; decide)
  have I2 : Inv X pins σ H1 { s1 with heap := s1.heap.push { cls := .type "tuple", data := .seq [u1, u2].toArray } } := I1.kept (t' := s1.toks) fun b o e => Heap.get?_push_of_some _ e
  rw [hw]
  refine wpAny_bind (wpAny_pure ?_)
  show wpAny (model X.prog X.w) X.A (do rule "assign.swapped-stores"; let items ← unpackItems (.ref s1.heap.objs.size) 2 none; assignInOrder [fun v => bindName X.env z v, fun v => bindName X.env x v] items.reverse; pure Flow.next) _ _ _
  refine wpAny_bind (wpAny_rule (wpAny_bind (unpackItems_tuple (items := #[u1, u2]) (I.ok.hd mood) (IsTup.new s1.heap _) fun h' hx' => ?_)))
  have stay := fun (b : Addr) (o : Obj) (e : (s1.heap.push { cls := .type "tuple", data := .seq [u1, u2].toArray }).get? b = some o) => hx' b o (Nat.ne_of_lt (Heap.lt_size e)) e
  have I3 := I2.kept (h' := h') (t' := s1.toks) stay
  show wpAny _ _ (assignInOrder [fun v => bindName X.env z v, fun v => bindName X.env x v] [u2, u1] >>= fun _ => pure Flow.next) _ _ _
  refine wpAny_bind (assignInOrder_cons (wpAny_bindName (put_local I3 hN hj hz rw' fun s2 I4 up4 _ raw => ?_)))
  refine assignInOrder_cons (wpAny_bindName (put_ok I4 hN hi (.inl hx) rv (fun s3 I5 up5 pt5 => assignInOrder_nil (wpAny_pure ?_)) (.inr hx)))
  have raw5 : Raw X z u2 s3 := (clo_raw hz).st I4 (fun m => xz (List.mem_singleton.mp m).symm) up5 pt5 raw
  rw [List.set_comm _ _ (Ne.symm hij)] at I5
  exact (hrest u2 s1.toks good).run pins s3 _ H1 D I5 ⟨raw5, Nat.le_trans up4 up5⟩ (q1 u2 s1.toks good rw')
end
section
variable {X : Cx} {Θ : Shared → Prop} {ys : List Str} {o : Expr} {to : TE} {apos cpos : Pos}
theorem cw_min2 (Cl : Clo X ys Θ) (hc : X.calm = true) : CallW X Θ (.builtin "min") (fun xs H Q => ∃ i j, xs = [.int i, .int j] ∧ Q (.int (if j < i then j else i)) H) := by
  intro pins s σ H xs us Q I θ r h
  obtain ⟨i, j, rfl, q⟩ := h
  obtain ⟨u, w', rfl, ⟨t, rfl⟩, ⟨t', rfl⟩⟩ := vals2 r
  have called : wpAny (model X.prog X.w) X.A (call (.builtin "min") [.int i t, .int j t']) (fun w s' => (∀ b o, s.heap.get? b = some o → s'.heap.get? b = some o) ∧ EP X pins σ Q w s') X.xe s := by
    refine min_two_ints (I.ok.hd hc) fun h' tk k => ⟨k, _, H, I.kept k, ?_, q⟩
    by_cases hj : j < i
    · rw [if_pos hj, if_pos hj]; exact ⟨_, rfl⟩
    · rw [if_neg hj, if_neg hj]; exact ⟨_, rfl⟩
  exact wpAny_mono (PySem.wpAny_toks called) (fun w s' z => ⟨Cl.kept I z.1 z.2.1 θ, z.2.2⟩) fun _ _ z => z.2
theorem away_of {pins : List (Addr × Obj)} {σ : L2.St} {H : Hp} {s : Shared} {l : Addr} {xs : List V} (I : Inv X pins σ H s) (hH : H l = some (.lst xs)) : ∀ b ∈ [l], b ≠ X.env.locals ∧ ∀ x c, X.env.cells.lookup x = some c → c ≠ b := fun b hb => by
  rw [List.mem_singleton.mp hb]
  refine ⟨fun z => (by rw [z, I.free] at hH; cases hH), fun x c hc z => ?_⟩
  have := I.freeC x c hc
  rw [z, hH] at this
  cases this
theorem we_pop (C : Clo X ys Θ) (ho : We X Θ o to) (hbase : attributeBase o "pop" X.env (eval o X.env) = eval o X.env := by rfl) (hline : (apos.endLine == cpos.line) = true := by rfl) : We X Θ (.Call (.Attribute o "pop" apos) [] [] cpos) (tBM0 X.K "list" rPop to) := by
  refine ⟨fun pins s σ H Q I θ h => ?_⟩
  refine wpAny_Call_method0_late hbase hline (thn (ho.run pins s σ H _ I θ h) fun v s1 hh => ?_)
  obtain ⟨g1, x, H1, I1, r1, ty, q1⟩ := hh
  obtain ⟨h1, h2⟩ := tyV_is I1 r1 ty
  refine ⟨"list", "list.pop", PySem.F.plainAttrs_list, PySem.F.slot_list_pop, PySem.F.type_list_pop, h1, h2, Calls.callWith_builtin rfl (PySem.evalArgs_none ?_)⟩
  obtain ⟨l, xs, y, rfl, _, hH, hy, q⟩ := q1
  cases r1
  obtain ⟨z, its, n, r, hl, e⟩ := I1.lstM hH
  obtain ⟨u, hu, ru⟩ := r.get hy
  have hy' : its.toArray[its.toArray.size - 1]? = some u := by
    show its.toArray[its.length - 1]? = some u
    rw [← Array.getElem?_toList, ← hl]
    exact hu
  refine call_meets F.slot_list_pop ⟨_, e, rfl⟩ F.entry_list_pop (F.args_list_pop_1 _) (MeetsSeq.list_pop_last l its.toArray n u hy' (by rw [List.size_toArray]; omega)) ⟨e, ?_⟩
  refine ⟨C.but [l] I1 (Nat.le_refl _) (away_of I1 hH) (fun b ob hb eb => (Heap.get?_update_other _ _ (fun z => hb (by rw [z]; exact List.mem_singleton_self _))).trans eb) g1, ?_⟩
  refine ⟨y, _, I1.lset (its' := its.dropLast) hH e ?_ r.dropLast ?_, ru, q⟩
  · show its.toArray.eraseIdxIfInBounds (its.toArray.size - 1) = its.dropLast.toArray
    rw [List.size_toArray, List.eraseIdxIfInBounds_toArray, PyProof.Rows.Copied.eraseIdx_last]
  · rw [List.length_dropLast]
    omega
theorem we_clear (C : Clo X ys Θ) (ho : We X Θ o to) (hbase : attributeBase o "clear" X.env (eval o X.env) = eval o X.env := by rfl) (hline : (apos.endLine == cpos.line) = true := by rfl) : We X Θ (.Call (.Attribute o "clear" apos) [] [] cpos) (tBM0 X.K "list" rClear to) := by
  refine ⟨fun pins s σ H Q I θ h => ?_⟩
  refine wpAny_Call_method0_late hbase hline (thn (ho.run pins s σ H _ I θ h) fun v s1 hh => ?_)
  obtain ⟨g1, x, H1, I1, r1, ty, q1⟩ := hh
  obtain ⟨h1, h2⟩ := tyV_is I1 r1 ty
  refine ⟨"list", "list.clear", PySem.F.plainAttrs_list, PySem.F.slot_list_clear, PySem.F.type_list_clear, h1, h2, Calls.callWith_builtin rfl (PySem.evalArgs_none ?_)⟩
  obtain ⟨l, xs, rfl, _, hH, q⟩ := q1
  cases r1
  obtain ⟨z, its, n, r, hl, e⟩ := I1.lstM hH
  refine call_meets F.slot_list_clear ⟨_, e, rfl⟩ F.entry_list_clear (F.args_list_clear_1 _) (AutoSeq1.list_clear_list_0 l its.toArray n (by rw [List.size_toArray]; omega)) ⟨e, ?_⟩
  refine ⟨C.but [l] I1 (Nat.le_refl _) (away_of I1 hH) (fun b ob hb eb => (Heap.get?_update_other _ _ (fun z => hb (by rw [z]; exact List.mem_singleton_self _))).trans eb) g1, ?_⟩
  exact ⟨.non, _, I1.lset (its' := []) (ys := []) hH e rfl .nil (Nat.zero_le _), rfl, q⟩
end
end Sq
set_option Elab.async false
set_option linter.all false
set_option maxRecDepth 100000
set_option maxHeartbeats 8000000
set_option exponentiation.threshold 2000
namespace Sq
open PySem PySem.Spec PyProof.Rows L2
abbrev s_lawmanyright : Stmt := topS 26
theorem sc_lawmanyright : FnScope ["pool", "written", "sign", "live", "passed", "numbers", "turn", "a", "some", "number"] ["pool"] (defScope s_lawmanyright) := ⟨rfl, rfl, rfl, by decide +kernel, rfl, by decide +kernel, by decide +kernel⟩
/-- the new object's places are new -/
theorem born {C x dx : Addr} {H H' : Hp} (nx : H x = none) (ndx : H dx = none) {o1 o2 : HO} {y : Addr} (h : upd (upd H dx o1) x o2 y = none) : H y = none := by
  by_cases e1 : y = x
  · rw [e1]; exact nx
  · by_cases e2 : y = dx
    · rw [e2]; exact ndx
    · rwa [upd_ne e1, upd_ne e2] at h
theorem bornS {C x dx : Addr} {H H' : Hp} (nx : H x = none) (ndx : H dx = none) {o1 o2 : HO} (k : ∀ a o, upd (upd H dx o1) x o2 a = some o → a ≠ dx → H' a = some o) : Same H H' := fun a o e => by
  have e1 : a ≠ x := ne_of_none e nx
  have e2 : a ≠ dx := ne_of_none e ndx
  refine k a o ?_ e2
  rw [upd_ne e1, upd_ne e2]
  exact e
theorem Txt2.keepx {C p dx r t x : Addr} {H H' : Hp} {u0 : Value} {b : Nat} {T : List (List Nat)} {ks : List Int} (L : Txt2 C H p dx r t u0 b T ks) (k : Keep1 H H' x) {xs : List V} (hx : H x = some (.lst xs)) (nr : r ≠ x) (nt : t ≠ x) : Txt2 C H' p dx r t u0 b T ks := by
  obtain ⟨m, h, e⟩ := L.m
  have ex : ∀ {a : Addr} {φ : Heap → Prop}, H a = some (.ext φ) → a ≠ x := fun h => ne_of h hx (by intro z; cases z)
  exact ⟨⟨m, ⟨k _ _ h.i (ex h.i), k _ _ h.d (ex h.d), h.ne⟩, e⟩, L.u, k _ _ L.rp nr, k _ _ L.tx nt, L.ne, L.len, L.sz⟩
theorem sqT_low {b : Nat} {ks : List Int} (hb : b < 128) : ∀ (xs : List Nat) (r : Int), (∀ c ∈ xs, c < 128) → ∀ c ∈ sqT b ks xs r, c < 128
  | [], r, _, c, hc => by
    have hc' : c ∈ List.replicate (sq r ks).toNat b := hc
    rw [List.eq_of_mem_replicate hc']
    exact hb
  | x :: xs, r, h, c, hc => by
    rw [sqT_cons] at hc
    by_cases e : x = b
    · rw [if_pos e] at hc
      exact sqT_low hb xs _ (fun c hc => h c (List.mem_cons_of_mem _ hc)) c hc
    · rw [if_neg e] at hc
      rcases List.mem_append.mp hc with z | z
      · rw [List.eq_of_mem_replicate z]
        exact hb
      · rcases List.mem_cons.mp z with z | z
        · rw [z]
          exact h x List.mem_cons_self
        · exact sqT_low hb xs 0 (fun c hc => h c (List.mem_cons_of_mem _ hc)) c z
theorem lastT_low {T : List (List Nat)} (h : ∀ x ∈ T, ∀ c ∈ x, c < 128) : ∀ c ∈ lastT T, c < 128 := by
  by_cases e : T = []
  · rw [e]
    intro c hc
    cases hc
  · exact h _ (lastT_mem e)
theorem appT_low {b : Nat} (hb : b < 128) : ∀ {ns : List Int} {T : List (List Nat)}, (∀ x ∈ T, ∀ c ∈ x, c < 128) → ∀ x ∈ appT b T ns, ∀ c ∈ x, c < 128
  | [], _, h => h
  | k :: ns, T, h => by
    show ∀ x ∈ appT b (T ++ [sqT b [k] (lastT T) 0]) ns, ∀ c ∈ x, c < 128
    refine appT_low hb fun x hm => ?_
    rcases List.mem_append.mp hm with z | z
    · exact h x z
    · rw [List.mem_singleton.mp z]
      exact sqT_low hb _ _ (lastT_low h)
theorem free_of_keep {H H' : Hp} {l x : Addr} (k : Keep1 H H' l) (e : H' x = none) (nl : x ≠ l) : H x = none := by
  cases z : H x with
  | none => rfl
  | some o =>
    rw [k x o z nl] at e
    cases e
structure Wl (C : Addr) (H : Hp) (l : Addr) (seed cnt : Int) (p dx r t : Addr) (u0 : Value) (b : Nat) (T : List (List Nat)) (ks : List Int) (a n : Addr) : Prop where
  S : Rng H l seed cnt
  L : Txt2 C H p dx r t u0 b T ks
  a_ : H a = some (.lst (texts T))
  n_ : H n = some (.lst (ks.map V.int))
  al : a ≠ l ∧ n ≠ l ∧ r ≠ l ∧ t ≠ l
  ar : a ≠ r ∧ a ≠ t ∧ n ≠ r ∧ n ≠ t
  an : a ≠ n
section
variable {C l p dx r t a n : Addr} {H H' : Hp} {seed cnt cnt' : Int} {u0 : Value} {b : Nat} {T T' : List (List Nat)} {ks ks' : List Int}
theorem Wl.same (W : Wl C H l seed cnt p dx r t u0 b T ks a n) (s : Same H H') : Wl C H' l seed cnt p dx r t u0 b T ks a n := ⟨W.S.same s, W.L.same s, s _ _ W.a_, s _ _ W.n_, W.al, W.ar, W.an⟩
theorem Wl.draw (W : Wl C H l seed cnt p dx r t u0 b T ks a n) (k : Keep1 H H' l) (S' : Rng H' l seed cnt') : Wl C H' l seed cnt' p dx r t u0 b T ks a n := by
  obtain ⟨dg, hl⟩ := W.S.ob
  exact ⟨S', W.L.keepx k hl W.al.2.2.1 W.al.2.2.2, k _ _ W.a_ W.al.1, k _ _ W.n_ W.al.2.1, W.al, W.ar, W.an⟩
theorem Wl.but (W : Wl C H l seed cnt p dx r t u0 b T ks a n) (k : But2 H H' r t) (L' : Txt2 C H' p dx r t u0 b T' ks') : Rng H' l seed cnt ∧ H' a = some (.lst (texts T)) ∧ H' n = some (.lst (ks.map V.int)) := by
  obtain ⟨dg, hl⟩ := W.S.ob
  exact ⟨⟨⟨dg, k _ _ hl W.al.2.2.1.symm W.al.2.2.2.symm⟩, W.S.s0, W.S.s1, W.S.c0⟩, k _ _ W.a_ W.ar.1 W.ar.2.1, k _ _ W.n_ W.ar.2.2.1 W.ar.2.2.2⟩
end
def sixty : List Int := ((List.replicate 10 [200, 3]).flatten ++ (List.replicate 9 [4, 90]).flatten ++ [4, 5] ++ (List.replicate 9 [9, 90]).flatten ++ [2, 7])
theorem sixty_len : sixty.length = 60 := by decide +kernel
theorem sixty_b : ∀ k ∈ sixty, 2 ≤ k ∧ k ≤ 200 := by decide +kernel
theorem sixty_rpl : Rpl sixty := fun k hk => ⟨(sixty_b k hk).1, by have := (sixty_b k hk).2; omega⟩
theorem sixty_far : Far sixty := fun k hk => ⟨(sixty_b k hk).1, by have := (sixty_b k hk).2; omega⟩
theorem pss_ofWu {X : Cx} {sts : List Stmt} {t : TS} (h : Wu X (fun _ => True) sts t) : PSs X sts t := ⟨fun pins s σ H D I q => h.run pins s σ H D I True.intro q⟩
section
variable {P : Program} {w : World} {K : PySem.W.Frag} {mg : Str → Option Value} {base : Heap} {C : Addr}
def spMany : Sp := fun vs H Q _ => ∃ (l : Addr) (seed cnt : Int), vs = [.ref l] ∧ Rng H l seed cnt ∧ cnt < 300000 ∧ ∀ cnt' H', Rng H' l seed cnt' → cnt' ≤ cnt + 2000 → Keep1 H H' l → Q (.bl true) H'
theorem ok_lawmanyright {f : Addr} {fd : FuncData} (F : Fun K "_law_many_right" "_law_many_right" s_lawmanyright f fd) (B : Bi mg) (D_lawdraw : Df P w K mg base 1 "_law_draw" ["pool", "many"] spDraw) (W_SqueezedText : MkW P w K mg base 2 "SqueezedText" C ["self", "text", "character"] 1 (spLvInit C))
    (T_lawon : DfT P w K mg base 2 "_law_on" ["passed", "sign", "numbers"] 1 (spOn K)) (D_lawtoldright : Df P w K mg base 7 "_law_told_right" ["live", "passed", "numbers", "sign"] (spTold K C))
    (MV_squeeze : MtV P w K mg base 5 C "squeeze" (spSqueeze C)) (MB_squeeze : MtB P w K mg base 5 C "squeeze" (spSqueeze C)) (M_undo : Mt CX0 P w K mg base 1 C "undo" ["self"] (spUndo C)) : FnOk P w K mg base CX0 8 f fd ["pool"] spMany := by
  refine F.ok sc_lawmanyright (fun vs H Q E h => ?_) (fun cdv A outer s H vs Q E hr h => ?_)
  · obtain ⟨l, seed, cnt, rfl, _⟩ := h
    rfl
  · obtain ⟨l, seed, cnt, rfl, S, hc, q⟩ := h
    have kcl : ∀ (u0 : Value) (n : Nat), Clo (cxOf CX0 P w K mg base ["pool", "written", "sign", "live", "passed", "numbers", "turn", "a", "some", "number"] "_law_many_right" (defScope s_lawmanyright) f cdv A outer s H E).nox ["sign"] (fun s' => Raw (cxOf CX0 P w K mg base ["pool", "written", "sign", "live", "passed", "numbers", "turn", "a", "some", "number"] "_law_many_right" (defScope s_lawmanyright) f cdv A outer s H E).nox "sign" u0 s' ∧ n ≤ s'.toks) := fun u0 n => (clo_raw rfl).and clo_n
    have kkn : ∀ (u0 : Value) (n : Nat), KnownU (cxOf CX0 P w K mg base ["pool", "written", "sign", "live", "passed", "numbers", "turn", "a", "some", "number"] "_law_many_right" (defScope s_lawmanyright) f cdv A outer s H E).nox (fun s' => Raw (cxOf CX0 P w K mg base ["pool", "written", "sign", "live", "passed", "numbers", "turn", "a", "some", "number"] "_law_many_right" (defScope s_lawmanyright) f cdv A outer s H E).nox "sign" u0 s' ∧ n ≤ s'.toks) "sign" u0 := fun u0 n => ⟨fun s' h => .inl ⟨rfl, h.1⟩⟩
    refine ⟨_, (pss_ofWu (wu_parlit (i := 1) (j := 2) (wc_op (ow_add_str clo_n) (wc_op (ow_add_str clo_n) wc_str (we_op (ow_mulS clo_n) (we_str clo_n) (we_op (ow_add clo_n) (we_int clo_n) (we_callD clo_n D_lawdraw (hr.mono (by omega)) (by rfl) (wa_cons (wv 0) (wa_cons (we_int clo_n) wa_nil)))))) (we_str clo_n)) rfl sc_lawmanyright.nd rfl rfl (by decide) (by decide) rfl rfl (fun u0 n good =>
 (wu_cons (ws_par3 (i := 3) (j := 4) (l := 5) (kcl u0 n) (by decide) (by decide) (by decide) rfl sc_lawmanyright.nd rfl rfl rfl (by decide) (by decide) (by decide) rfl rfl rfl (wa_cons (we_new (n := n) (kcl u0 n) W_SqueezedText (fun _ h => h.2) (hr.mono (by omega)) (by rfl) (wq_skip (wv 1) (wq_name (i := 2) (kkn u0 n) rfl (Or.inl rfl) wa_nil))) (wa_cons (we_lst (kcl u0 n) (wa_cons (wv 1) wa_nil)) (wa_cons (we_lst (kcl u0 n) wa_nil) wa_nil))) (by rfl))
 (wu_cons (ws_forR rfl PassesOwn.never (kcl u0 n) (by rfl) B.n_range (wa_cons (we_op (ow_add (kcl u0 n)) (we_int (kcl u0 n)) (we_callD (kcl u0 n) D_lawdraw (hr.mono (by omega)) (by rfl) (wa_cons (wv 0) (wa_cons (we_int (kcl u0 n)) wa_nil)))) wa_nil) (wg_name (i := 6) (kcl u0 n) (by decide) sc_lawmanyright.nd rfl (Or.inl rfl))
 (wss_cons (ws_setLc (i := 7) (own := [("number", 9)]) (g := gName 9) (kcl u0 n) rfl sc_lawmanyright.nd rfl rfl (by decide) (sw_true rfl rfl rfl (by decide +kernel)) (wi_range1 (kcl u0 n) (by rfl) B.n_range (wa_cons (we_int (kcl u0 n)) wa_nil)) (blkOk_by (own := [("number", 9)]) (N := ["pool", "written", "sign", "live", "passed", "numbers", "turn", "a", "some", "number"]) (sc := defScope s_lawmanyright) (by decide +kernel)) (fun _ _ _ _ _ => (pg_name (i := 9) sc_lawmanyright.nd rfl (Or.inl rfl))) (fun _ _ _ _ _ => pts_nil) (fun _ _ _ _ _ => (pe_op op_add pe_int (pe_callD D_lawdraw (hr.mono (by omega)) (by rfl) (pa_cons (pv 0) (pa_cons (pe_ix (r := rIxL K) ix_list (pe_lst (pa_cons pe_int (pa_cons pe_int (pa_cons pe_int pa_nil)))) (pe_callD D_lawdraw (hr.mono (by omega)) (by rfl) (pa_cons (pv 0) (pa_cons pe_int pa_nil))) (fun _ _ => rfl)) pa_nil))))))
 (wss_cons (ws_expr (we_mV (n := n) (kcl u0 n) MV_squeeze (fun _ h => h.2) (hr.mono (by omega)) (wv 3) (wa_cons (we_ixL (wv 7) (we_int (kcl u0 n)) (fun _ _ => rfl)) (wa_cons (we_ixL (wv 7) (we_int (kcl u0 n)) (fun _ _ => rfl)) (wa_cons (we_ixL (wv 7) (we_int (kcl u0 n)) (fun _ _ => rfl)) (wa_cons (we_ixL (wv 7) (we_int (kcl u0 n)) (fun _ _ => rfl)) (wa_cons (we_ixL (wv 7) (we_int (kcl u0 n)) (fun _ _ => rfl)) (wa_cons (we_ixL (wv 7) (we_int (kcl u0 n)) (fun _ _ => rfl)) (wa_cons (we_ixL (wv 7) (we_int (kcl u0 n)) (fun _ _ => rfl)) (wa_cons (we_ixL (wv 7) (we_int (kcl u0 n)) (fun _ _ => rfl)) (wa_cons (we_ixL (wv 7) (we_int (kcl u0 n)) (fun _ _ => rfl)) (wa_cons (we_int (kcl u0 n)) (wa_cons (we_int (kcl u0 n)) (wa_cons (we_int (kcl u0 n)) (wa_cons (we_int (kcl u0 n)) (wa_cons (we_int (kcl u0 n)) (wa_cons (we_int (kcl u0 n)) (wa_cons (we_int (kcl u0 n)) (wa_cons (we_int (kcl u0 n)) (wa_cons (we_ixL (wv 7) (we_int (kcl u0 n)) (fun _ _ => rfl)) wa_nil))))))))))))))))))))
 (wss_cons (ws_set (i := 8) (kcl u0 n) (by decide) sc_lawmanyright.nd rfl (Or.inl rfl) (we_op (ow_cat (kcl u0 n)) (wv 7) (we_lst (kcl u0 n) (wa_cons (we_int (kcl u0 n)) (wa_cons (we_int (kcl u0 n)) (wa_cons (we_int (kcl u0 n)) (wa_cons (we_int (kcl u0 n)) (wa_cons (we_int (kcl u0 n)) (wa_cons (we_int (kcl u0 n)) (wa_cons (we_int (kcl u0 n)) (wa_cons (we_int (kcl u0 n)) (wa_cons (we_ixL (wv 7) (we_int (kcl u0 n)) (fun _ _ => rfl)) wa_nil))))))))))))
 (wss_one (ws_par2 (i := 4) (j := 5) (kcl u0 n) (by decide) (by decide) rfl sc_lawmanyright.nd rfl rfl (by decide) rfl rfl (wa_cons (we_callT (kcl u0 n) T_lawon (hr.mono (by omega)) (by rfl) (wx_skip (wv 4) (wx_name (i := 2) (known_local rfl good) rfl (Or.inl rfl) (wa_cons (wv 8) wa_nil)))) (wa_cons (we_op (ow_cat (kcl u0 n)) (wv 5) (wv 8)) wa_nil)) (by rfl)))))))
 (wu_cons (ws_expr (we_mVB (n := n) (kcl u0 n) MB_squeeze (fun _ h => h.2) (hr.mono (by omega)) (wv 3) (wa_cons (we_int (kcl u0 n)) (wa_cons (we_int (kcl u0 n)) (wa_cons (we_int (kcl u0 n)) (wa_cons (we_int (kcl u0 n)) (wa_cons (we_int (kcl u0 n)) (wa_cons (we_int (kcl u0 n)) (wa_cons (we_int (kcl u0 n)) (wa_cons (we_int (kcl u0 n)) (wa_cons (we_int (kcl u0 n)) (wa_cons (we_int (kcl u0 n)) (wa_cons (we_int (kcl u0 n)) (wa_cons (we_int (kcl u0 n)) (wa_cons (we_int (kcl u0 n)) (wa_cons (we_int (kcl u0 n)) (wa_cons (we_int (kcl u0 n)) (wa_cons (we_int (kcl u0 n)) (wa_cons (we_int (kcl u0 n)) (wa_cons (we_int (kcl u0 n)) (wa_cons (we_int (kcl u0 n)) (wa_cons (we_int (kcl u0 n)) (wa_cons (we_int (kcl u0 n)) (wa_cons (we_int (kcl u0 n)) (wa_cons (we_int (kcl u0 n)) (wa_cons (we_int (kcl u0 n)) (wa_cons (we_int (kcl u0 n)) (wa_cons (we_int (kcl u0 n)) (wa_cons (we_int (kcl u0 n)) (wa_cons (we_int (kcl u0 n)) (wa_cons (we_int (kcl u0 n)) (wa_cons (we_int (kcl u0 n)) (wa_cons (we_int (kcl u0 n)) (wa_cons (we_int (kcl u0 n)) (wa_cons (we_int (kcl u0 n)) (wa_cons (we_int (kcl u0 n)) (wa_cons (we_int (kcl u0 n)) (wa_cons (we_int (kcl u0 n)) (wa_cons (we_int (kcl u0 n)) (wa_cons (we_int (kcl u0 n)) (wa_cons (we_int (kcl u0 n)) (wa_cons (we_int (kcl u0 n)) (wa_cons (we_int (kcl u0 n)) (wa_cons (we_int (kcl u0 n)) (wa_cons (we_int (kcl u0 n)) (wa_cons (we_int (kcl u0 n)) (wa_cons (we_int (kcl u0 n)) (wa_cons (we_int (kcl u0 n)) (wa_cons (we_int (kcl u0 n)) (wa_cons (we_int (kcl u0 n)) (wa_cons (we_int (kcl u0 n)) (wa_cons (we_int (kcl u0 n)) (wa_cons (we_int (kcl u0 n)) (wa_cons (we_int (kcl u0 n)) (wa_cons (we_int (kcl u0 n)) (wa_cons (we_int (kcl u0 n)) (wa_cons (we_int (kcl u0 n)) (wa_cons (we_int (kcl u0 n)) (wa_cons (we_int (kcl u0 n)) (wa_cons (we_int (kcl u0 n)) (wa_cons (we_int (kcl u0 n)) (wa_cons (we_int (kcl u0 n)) wa_nil))))))))))))))))))))))))))))))))))))))))))))))))))))))))))))))
 (wu_cons (ws_set (i := 8) (kcl u0 n) (by decide) sc_lawmanyright.nd rfl (Or.inl rfl) (we_op (ow_cat (kcl u0 n)) (we_op (ow_cat (kcl u0 n)) (we_op (ow_cat (kcl u0 n)) (we_op (ow_cat (kcl u0 n)) (we_op (ow_rep (kcl u0 n)) (we_lst (kcl u0 n) (wa_cons (we_int (kcl u0 n)) (wa_cons (we_int (kcl u0 n)) wa_nil))) (we_int (kcl u0 n))) (we_op (ow_rep (kcl u0 n)) (we_lst (kcl u0 n) (wa_cons (we_int (kcl u0 n)) (wa_cons (we_int (kcl u0 n)) wa_nil))) (we_int (kcl u0 n)))) (we_lst (kcl u0 n) (wa_cons (we_int (kcl u0 n)) (wa_cons (we_int (kcl u0 n)) wa_nil)))) (we_op (ow_rep (kcl u0 n)) (we_lst (kcl u0 n) (wa_cons (we_int (kcl u0 n)) (wa_cons (we_int (kcl u0 n)) wa_nil))) (we_int (kcl u0 n)))) (we_lst (kcl u0 n) (wa_cons (we_int (kcl u0 n)) (wa_cons (we_int (kcl u0 n)) wa_nil)))))
 (wu_cons (ws_par2 (i := 4) (j := 5) (kcl u0 n) (by decide) (by decide) rfl sc_lawmanyright.nd rfl rfl (by decide) rfl rfl (wa_cons (we_callT (kcl u0 n) T_lawon (hr.mono (by omega)) (by rfl) (wx_skip (wv 4) (wx_name (i := 2) (known_local rfl good) rfl (Or.inl rfl) (wa_cons (wv 8) wa_nil)))) (wa_cons (we_op (ow_cat (kcl u0 n)) (wv 5) (wv 8)) wa_nil)) (by rfl))
 (wu_cons (ws_if (wt_not (wt_val (we_callD (kcl u0 n) D_lawtoldright (hr.mono (by omega)) (by rfl) (wa_cons (wv 3) (wa_cons (wv 4) (wa_cons (wv 5) (wa_cons (wv 2) wa_nil))))))) (wss_one (ws_ret we_bl)) wss_nil)
 (wu_cons (ws_forR rfl PassesOwn.never (kcl u0 n) (by rfl) B.n_range (wa_cons (we_callB (id := "min") (cw_min2 (kcl u0 n) rfl) (by rfl) B.n_min (by decide +kernel) (wa_cons (we_callB (id := "len") (r := rLenK K) (cw_len (kcl u0 n)) (by rfl) B.n_len (by decide +kernel) (wa_cons (wv 5) wa_nil)) (wa_cons (we_int (kcl u0 n)) wa_nil))) wa_nil) (wg_name (i := 6) (kcl u0 n) (by decide) sc_lawmanyright.nd rfl (Or.inl rfl))
 (wss_cons (ws_expr (we_mL0 (kcl u0 n) M_undo (hr.mono (by omega)) (wv 3)))
 (wss_cons (ws_expr (we_pop (kcl u0 n) (wv 4)))
 (wss_one (ws_expr (we_pop (kcl u0 n) (wv 5)))))))
 (wu_cons (ws_expr (we_mV (n := n) (kcl u0 n) MV_squeeze (fun _ h => h.2) (hr.mono (by omega)) (wv 3) (wa_cons (we_int (kcl u0 n)) (wa_cons (we_int (kcl u0 n)) (wa_cons (we_int (kcl u0 n)) wa_nil)))))
 (wu_cons (ws_par2 (i := 4) (j := 5) (kcl u0 n) (by decide) (by decide) rfl sc_lawmanyright.nd rfl rfl (by decide) rfl rfl (wa_cons (we_callT (kcl u0 n) T_lawon (hr.mono (by omega)) (by rfl) (wx_skip (wv 4) (wx_name (i := 2) (known_local rfl good) rfl (Or.inl rfl) (wa_cons (we_lst (kcl u0 n) (wa_cons (we_int (kcl u0 n)) (wa_cons (we_int (kcl u0 n)) (wa_cons (we_int (kcl u0 n)) wa_nil)))) wa_nil)))) (wa_cons (we_op (ow_cat (kcl u0 n)) (wv 5) (we_lst (kcl u0 n) (wa_cons (we_int (kcl u0 n)) (wa_cons (we_int (kcl u0 n)) (wa_cons (we_int (kcl u0 n)) wa_nil))))) wa_nil)) (by rfl))
 (wu_of (wss_one (ws_ret (we_callD (kcl u0 n) D_lawtoldright (hr.mono (by omega)) (by rfl) (wa_cons (wv 3) (wa_cons (wv 4) (wa_cons (wv 5) (wa_cons (wv 2) wa_nil)))))))))))))))))) (by rfl))), ?_⟩
    have szl : sizeLine = 16777216 := sizeLine_eq
    have w1 : 1 ≤ sizeLine := by omega
    have w2 : 2 ≤ sizeLine := by omega
    refine ⟨_, rfl, l, seed, cnt, 1900, rfl, S, by omega, by decide, by decide, fun z cnt1 H1 z0 z1 S1 hc1 k1 => ⟨1, z, rfl, rfl, _, 1 + z, rfl, rfl, mul_chr_ok 32 (by omega) (by omega), ?_⟩⟩
    have em := mul_chr 32 (n := 1 + z) (by omega)
    change Txt.mul (Str.ofString " ") (1 + z) = _ at em
    rw [em]
    have ln : (SX.S (List.replicate (1 + z).toNat 32)).length = (1 + z).toNat := by rw [SX.S_len, List.length_replicate]
    obtain ⟨xs, exs⟩ : ∃ xs, xs = [98] ++ List.replicate (1 + z).toNat 32 ++ [99, 32, 32, 100] := ⟨_, rfl⟩
    have lx : xs.length ≤ 2000 := by
      rw [exs, List.length_append, List.length_append, List.length_replicate]
      show 1 + (1 + z).toNat + 4 ≤ _
      omega
    have lo : ∀ c ∈ xs, c < 128 := fun c hc => by
      rw [exs] at hc
      rcases List.mem_append.mp hc with h | h
      · rcases List.mem_append.mp h with h | h
        · rw [List.mem_singleton.mp h]; decide
        · rw [List.eq_of_mem_replicate h]; decide
      · have all : ∀ c ∈ [99, 32, 32, 100], c < 128 := by decide
        exact all c h
    refine ⟨_, _, rfl, rfl, ?_, _, _, rfl, rfl, ?_, _, rfl, fun u0 n good ru => ?_⟩
    · show (SX.S [98]).length + (SX.S (List.replicate (1 + z).toNat 32)).length ≤ _
      rw [ln]; show 1 + (1 + z).toNat ≤ _; omega
    · show (SX.S [98] ++ SX.S (List.replicate (1 + z).toNat 32)).length + 4 ≤ _
      rw [SX.S_cat, SX.S_len, List.length_append, List.length_replicate]; show 1 + (1 + z).toNat + 4 ≤ _; omega
    have ex2 : (Str.ofString "b" ++ SX.S (List.replicate (1 + z).toNat 32) ++ Str.ofString "c  d" : Str) = SX.S xs := by
      rw [exs, ← SX.S_cat, ← SX.S_cat]
      rfl
    rw [ex2]
    clear em ln exs ex2
    -- live, passed, numbers
    refine ⟨_, rfl, _, rfl, fun _ p dx np ndx nex => ⟨p, dx, xs, 32, rfl, ⟨upd_same, by rw [upd_ne nex, upd_same], nex⟩, lx, fun r t H3 nr nt L kd => ⟨rfl, ?_⟩⟩⟩
    have sJ : Same H1 H3 := bornS (C := C) np ndx kd
    have hr0 : H1 r = none := born (C := C) (H' := H3) np ndx nr
    have ht0 : H1 t = none := born (C := C) (H' := H3) np ndx nt
    refine ⟨_, rfl, w1, fun a ha => ⟨Nat.zero_le _, fun n0 hn0 => ⟨_, _, _, rfl, ?_⟩⟩⟩
    have sa := same_new (o := .lst [V.str (SX.S xs)]) ha
    have sn := same_new (o := .lst []) hn0
    have S4 := S1.same sJ
    have W0 : Wl C (upd (upd H3 a (.lst [V.str (SX.S xs)])) n0 (.lst [])) l seed cnt1 p dx r t u0 32 [xs] [] a n0 :=
      ⟨(S4.same sa).same sn, (L.same sa).same sn, sn _ _ upd_same, upd_same, ⟨S4.ne ha, (S4.same sa).ne hn0, S1.ne hr0, S1.ne ht0⟩, ⟨(ne_of_none L.rp ha).symm, (ne_of_none L.tx ha).symm, (ne_of_none (sa _ _ L.rp) hn0).symm, (ne_of_none (sa _ _ L.tx) hn0).symm⟩, ne_of_none (show (upd H3 a (.lst [V.str (SX.S xs)])) a = _ from upd_same) hn0⟩
    have k3 : Keep1 H (upd (upd H3 a (.lst [V.str (SX.S xs)])) n0 (.lst [])) l := k1.trans (Keep1.of ((sJ.trans sa).trans sn))
    have hrN : H r = none := free_of_keep k1 hr0 W0.al.2.2.1
    have htN : H t = none := free_of_keep k1 ht0 W0.al.2.2.2
    have faH : H a = none := free_of_keep (k1.trans (Keep1.of sJ)) ha W0.al.1
    have fnH : H n0 = none := free_of_keep ((k1.trans (Keep1.of sJ)).trans (Keep1.of sa)) hn0 W0.al.2.1
    generalize (upd (upd H3 a (.lst [V.str (SX.S xs)])) n0 (.lst [])) = G3 at W0 k3 ⊢
    clear sa sn S4 sJ kd L nr nt np ndx nex ha hn0 hr0 ht0 S1
    -- eighteen at once, some times
    refine ⟨_, rfl, l, seed, cnt1, 7, rfl, W0.S, by omega, by decide, by decide, fun zt cnt2 H4 zt0 zt1 S4 hc2 k4 => ⟨1, zt, rfl, rfl, 1 + zt, rfl, by omega, by omega, ?_⟩⟩
    have W4 := W0.draw k4 S4
    have k34 := k3.trans k4
    refine ⟨(fun i σ H' => ∃ T ks c' a' n' y6 y7 y8, σ = [some (.ref l), some (.str (SX.S xs)), some (.str " "), some (.ref p), some (.ref a'), some (.ref n'), y6, y7, y8, none] ∧
      Wl C H' l seed c' p dx r t u0 32 T ks a' n' ∧ c' ≤ cnt2 + 40 * i ∧ ks.length ≤ 18 * i ∧ (∀ x ∈ T, ∀ ch ∈ x, ch < 128) ∧ Keep1 H H' l ∧ H a' = none ∧ H n' = none), ⟨[xs], [], cnt2, a, n0, _, _, _, rfl, W4, by omega, Nat.zero_le _, fun x hx => by rw [List.mem_singleton.mp hx]; exact lo, k34, faH, fnH⟩, ?_, ?_⟩
    · rintro i σ H5 hi ⟨T, ks, c5, a5, n5, y6, y7, y8, rfl, W5, hc5, lk, low, k5, fa5, fn5⟩
      have hi7 : i < 7 := by omega
      refine ⟨9, rfl, by decide, by decide, fun D hD => ?_⟩
      have oD : D ≠ l := W5.S.ne hD
      refine lc_range (lo := 0) (n := 9) (fun j H' => ∃ zs c', H' D = some (.lst (List.map V.int zs)) ∧ Rng H' l seed c' ∧ c' ≤ c5 + 2 * j ∧ Keep1 H5 (wo H' D) l ∧ zs.length = j ∧ ∀ k ∈ zs, 2 ≤ k ∧ k ≤ 201)
        ⟨[], c5, upd_same, W5.S.same (same_new hD), by omega, by rw [wo_upd]; exact Keep1.of (same_wo (Same.refl _) hD), rfl, fun _ z => nomatch z⟩ ?_ ?_
      · rintro j H8 hj ⟨zs, c8, gD, S8, hc8, k8, lz, hz⟩
        refine ⟨rfl, _, rfl, by show 3 ≤ sizeLine; omega, fun q1 hq1 => ?_⟩
        have s1 := same_new (o := .lst [V.int 1, V.int 3, V.int 200]) hq1
        refine ⟨_, rfl, l, seed, c8, 3, rfl, S8.same s1, by omega, by decide, by decide, fun z9 c9 H9 z90 z91 S9 hc9 k9 => ?_⟩
        obtain ⟨m9, mm, ma⟩ := nth_of (xs := [1, 3, 200]) z90 z91
        have mb : m9 = 1 ∨ m9 = 3 ∨ m9 = 200 := by simpa using mm
        have mlim : 0 < m9 ∧ m9 ≤ 200 ∧ m9.natAbs < 2 ^ 700 := by rcases mb with rfl | rfl | rfl <;> exact ⟨by decide, by decide, by decide⟩
        refine ⟨q1, _, z9, .int m9, rfl, rfl, SqL.of (k9 _ _ upd_same (S8.ne hq1)), ma, l, seed, c9, m9, rfl, S9, by omega, mlim.1, mlim.2.2, fun z10 c10 H10 z100 z101 S10 hc10 k10 => ⟨2, z10, rfl, rfl, _, k10 _ _ (k9 _ _ (s1 _ _ gD) oD) oD, by rw [List.length_map]; omega, zs ++ [2 + z10], c10, ?_, S10.upd oD, by omega, ?_, by rw [List.length_append, lz]; rfl, fun k hk2 => ?_⟩⟩
        · rw [upd_same, List.map_append]
          rfl
        · rw [wo_upd]
          intro x o e nx
          have nxD : x ≠ D := fun z => by rw [z, hD] at e; cases e
          rw [wo_ne nxD]
          exact k10 _ _ (k9 _ _ (s1 _ _ (wo_same _ _ (k8 x o e nx))) nx) nx
        · rcases List.mem_append.mp hk2 with h | h
          · exact hz k h
          · rw [List.mem_singleton.mp h]
            omega
      · rintro H8 ⟨zs, c8, gD, S8, hc8, k8, lz, hz⟩
        have k58 : Keep1 H5 H8 l := fun x o e nx => wo_same _ _ (k8 x o e nx)
        have W8 := W5.draw k58 S8
        have kk8 := k5.trans k58
        have orD : D ≠ r ∧ D ≠ t := ⟨(ne_of_none W5.L.rp hD).symm, (ne_of_none W5.L.tx hD).symm⟩
        clear k8 W5 k5 k58 hD
        match zs, lz, hz, gD with
        | [z0, z1, z2, z3, z4, z5, z6, z7, z8], _, hz, gD =>
        obtain ⟨ms, ems⟩ : ∃ ms : List Int, ms = [z0, z1, z2, z3, z4, z5, z6, z7, z8, 2, 3, 2, 3, 2, 3, 2, 3, z0] := ⟨_, rfl⟩
        have lms : ms.length = 18 := by rw [ems]; rfl
        have hms : ∀ k ∈ ms, 2 ≤ k ∧ k ≤ 201 := fun k hk => by
          rw [ems] at hk
          have h0 := hz z0 (by simp)
          simp only [List.mem_cons, List.not_mem_nil, or_false] at hk
          rcases hk with h | h | h | h | h | h | h | h | h | h | h | h | h | h | h | h | h | h <;> first | omega | (rw [h]; exact hz _ (by simp))
        have rplm : Rpl ms := fun k hk => ⟨(hms k hk).1, by have := (hms k hk).2; omega⟩
        have far : Far ms := fun k hk => ⟨(hms k hk).1, by have := (hms k hk).2; omega⟩
        obtain ⟨m, LL, mC, mR, mT, mN⟩ := id W8.L.m
        refine ⟨_, rfl, p, dx, m, _, rfl, LL, mN _ (by decide +kernel) (by decide +kernel) (by decide +kernel), _, rfl, D, _, 0, .int z0, rfl, rfl, SqL.of gD, rfl, _, rfl, D, _, 1, .int z1, rfl, rfl, SqL.of gD, rfl, _, rfl, D, _, 2, .int z2, rfl, rfl, SqL.of gD, rfl, _, rfl, D, _, 3, .int z3, rfl, rfl, SqL.of gD, rfl, _, rfl, D, _, 4, .int z4, rfl, rfl, SqL.of gD, rfl, _, rfl, D, _, 5, .int z5, rfl, rfl, SqL.of gD, rfl, _, rfl, D, _, 6, .int z6, rfl, rfl, SqL.of gD, rfl, _, rfl, D, _, 7, .int z7, rfl, rfl, SqL.of gD, rfl, _, rfl, D, _, 8, .int z8, rfl, rfl, SqL.of gD, rfl, _, rfl, D, _, 0, .int z0, rfl, rfl, SqL.of gD, rfl, by show 18 ≤ sizeLine; omega, fun T1 nT1 => ⟨p, dx, r, t, T1, u0, 32, T, ks, ms, rfl, by rw [upd_same, ems]; rfl, W8.L.same (same_new nT1), good, rplm, by rw [lms]; omega, fun H9 L9 k9 => ?_⟩⟩
        have k89 : But2 H8 H9 r t := (But2.of (same_new nT1)).trans k9
        obtain ⟨S9, ga9, gn9⟩ := W8.but k89 L9
        have gD9 := k89 _ _ gD orD.1 orD.2
        have kk9 : Keep1 H H9 l := fun x o e nx => k89 x o (kk8 x o e nx) (ne_of_none e hrN) (ne_of_none e htN)
        have low' := appT_low (ns := ms) (b := 32) (by decide) low
        have lenT := W8.L.len
        have neT : T ≠ [] := fun e => by rw [e] at lenT; cases lenT
        -- some
        refine ⟨_, rfl, _, rfl, D, _, 0, .int z0, rfl, rfl, SqL.of gD9, rfl, by show 9 ≤ sizeLine; omega, fun q1 hq1 => ?_⟩
        have s1 := same_new (o := .lst [V.int 2, V.int 3, V.int 2, V.int 3, V.int 2, V.int 3, V.int 2, V.int 3, V.int z0]) hq1
        refine ⟨D, q1, _, _, rfl, rfl, s1 _ _ gD9, upd_same, by show 18 ≤ sizeLine; omega, fun q2 hq2 => ?_⟩
        have s2 := same_new (o := .lst (List.map V.int [z0, z1, z2, z3, z4, z5, z6, z7, z8] ++ [V.int 2, V.int 3, V.int 2, V.int 3, V.int 2, V.int 3, V.int 2, V.int 3, V.int z0])) hq2
        have g2 : (upd (upd H9 q1 (.lst [V.int 2, V.int 3, V.int 2, V.int 3, V.int 2, V.int 3, V.int 2, V.int 3, V.int z0])) q2 (.lst (List.map V.int [z0, z1, z2, z3, z4, z5, z6, z7, z8] ++ [V.int 2, V.int 3, V.int 2, V.int 3, V.int 2, V.int 3, V.int 2, V.int 3, V.int z0]))) q2 = some (.lst (ms.map V.int)) := by rw [upd_same, ems]; rfl
        have s12 := s1.trans s2
        generalize (upd (upd H9 q1 (.lst [V.int 2, V.int 3, V.int 2, V.int 3, V.int 2, V.int 3, V.int 2, V.int 3, V.int z0])) q2 (.lst (List.map V.int [z0, z1, z2, z3, z4, z5, z6, z7, z8] ++ [V.int 2, V.int 3, V.int 2, V.int 3, V.int 2, V.int 3, V.int 2, V.int 3, V.int z0]))) = H10 at g2 s12 ⊢
        clear s1 s2 hq1 hq2
        have L10 := L9.same s12
        refine ⟨_, rfl, _, rfl, _, rfl, a5, q2, 32, T, ms, rfl, SqL.of (s12 _ _ ga9), SqL.of g2, neT, W8.L.sz, far, by rw [lms]; omega, fun t11 H11 ht11 s11 g11 => ?_⟩
        refine ⟨_, rfl, _, rfl, n5, q2, _, _, rfl, rfl, s11 _ _ (s12 _ _ gn9), s11 _ _ g2, by rw [List.length_map, List.length_map, lms]; omega, fun q12 hq12 => ⟨_, _, rfl, ?_⟩⟩
        have s13 := same_new (o := .lst (ks.map V.int ++ ms.map V.int)) hq12
        have L11 := L10.same s11
        have W12 : Wl C (upd H11 q12 (.lst (ks.map V.int ++ ms.map V.int))) l seed c8 p dx r t u0 32 (appT 32 T ms) (ks ++ ms) t11 q12 :=
          ⟨((S9.same s12).same s11).same s13, L11.same s13, s13 _ _ g11, by rw [upd_same, List.map_append], ⟨(S9.same s12).ne ht11, ((S9.same s12).same s11).ne hq12, W8.al.2.2.1, W8.al.2.2.2⟩,
            ⟨(ne_of_none L10.rp ht11).symm, (ne_of_none L10.tx ht11).symm, (ne_of_none L11.rp hq12).symm, (ne_of_none L11.tx hq12).symm⟩, ne_of_none g11 hq12⟩
        have k12 : Keep1 H (upd H11 q12 (.lst (ks.map V.int ++ ms.map V.int))) l := kk9.trans (Keep1.of ((s12.trans s11).trans s13))
        have ft : H t11 = none := free_of_keep (kk9.trans (Keep1.of s12)) ht11 W12.al.1
        have fq : H q12 = none := free_of_keep (kk9.trans (Keep1.of (s12.trans s11))) hq12 W12.al.2.1
        exact ⟨_, _, c8, t11, q12, _, _, _, rfl, W12, by omega, by rw [List.length_append, lms]; omega, low', k12, ft, fq⟩
    · rintro σ H5 ⟨T, ks, c5, a5, n5, y6, y7, y8, rfl, W5, hc5, lk, low, k5, fa5, fn5⟩
      have lk2 : ks.length ≤ 126 := by
        have : (1 + zt).toNat ≤ 7 := by omega
        omega
      have hc6 : c5 ≤ cnt2 + 280 := by
        have : (1 + zt).toNat ≤ 7 := by omega
        omega
      clear W0 W4 k3 k34 hc5 lk faH fnH
      -- sixty at once
      obtain ⟨m, LL, mC, mR, mT, mN⟩ := id W5.L.m
      refine ⟨_, rfl, p, dx, m, _, rfl, LL, mN _ (by decide +kernel) (by decide +kernel) (by decide +kernel), fun qm gm hqm => ⟨upd_same, by show 60 ≤ sizeLine; omega, fun T1 nT1 => ⟨p, dx, r, t, T1, u0, 32, T, ks, sixty, rfl, by rw [upd_same]; rfl, (W5.L.same (same_new hqm)).same (same_new nT1), good, sixty_rpl, by rw [sixty_len]; omega, fun H9 L9 k9 => ?_⟩⟩⟩
      have k59 : But2 H5 H9 r t := ((But2.of (same_new hqm)).trans (But2.of (same_new nT1))).trans k9
      obtain ⟨S9, ga9, gn9⟩ := W5.but k59 L9
      have kk9 : Keep1 H H9 l := fun x o e nx => k59 x o (k5 x o e nx) (ne_of_none e hrN) (ne_of_none e htN)
      have low' := appT_low (ns := sixty) (b := 32) (by decide) low
      have lenT := W5.L.len
      have neT : T ≠ [] := fun e => by rw [e] at lenT; cases lenT
      -- the same list once more
      refine ⟨w2, fun q1 h_q1 => ?_⟩
      have s_q1 := same_new (H := H9) (o := .lst ([V.int 200, V.int 3])) h_q1
      have g_q1 : upd H9 q1 (.lst ([V.int 200, V.int 3])) q1 = some (.lst ([V.int 200, V.int 3])) := upd_same
      generalize upd H9 q1 (.lst ([V.int 200, V.int 3])) = G_q1 at s_q1 g_q1 ⊢
      refine ⟨q1, 10, _, rfl, rfl, g_q1, by omega, by omega, by show 2 * 10 ≤ _; omega, fun q2 h_q2 => ?_⟩
      have s_q2 := same_new (H := G_q1) (o := .lst ((List.replicate (10 : Int).toNat [V.int 200, V.int 3]).flatten)) h_q2
      have g_q2 : upd G_q1 q2 (.lst ((List.replicate (10 : Int).toNat [V.int 200, V.int 3]).flatten)) q2 = some (.lst ((List.replicate (10 : Int).toNat [V.int 200, V.int 3]).flatten)) := upd_same
      generalize upd G_q1 q2 (.lst ((List.replicate (10 : Int).toNat [V.int 200, V.int 3]).flatten)) = G_q2 at s_q2 g_q2 ⊢
      refine ⟨w2, fun q3 h_q3 => ?_⟩
      have s_q3 := same_new (H := G_q2) (o := .lst ([V.int 4, V.int 90])) h_q3
      have g_q3 : upd G_q2 q3 (.lst ([V.int 4, V.int 90])) q3 = some (.lst ([V.int 4, V.int 90])) := upd_same
      generalize upd G_q2 q3 (.lst ([V.int 4, V.int 90])) = G_q3 at s_q3 g_q3 ⊢
      replace g_q2 := s_q3 _ _ g_q2
      refine ⟨q3, 9, _, rfl, rfl, g_q3, by omega, by omega, by show 2 * 9 ≤ _; omega, fun q4 h_q4 => ?_⟩
      have s_q4 := same_new (H := G_q3) (o := .lst ((List.replicate (9 : Int).toNat [V.int 4, V.int 90]).flatten)) h_q4
      have g_q4 : upd G_q3 q4 (.lst ((List.replicate (9 : Int).toNat [V.int 4, V.int 90]).flatten)) q4 = some (.lst ((List.replicate (9 : Int).toNat [V.int 4, V.int 90]).flatten)) := upd_same
      generalize upd G_q3 q4 (.lst ((List.replicate (9 : Int).toNat [V.int 4, V.int 90]).flatten)) = G_q4 at s_q4 g_q4 ⊢
      replace g_q2 := s_q4 _ _ g_q2
      refine ⟨q2, q4, _, _, rfl, rfl, g_q2, g_q4, by show 20 + 18 ≤ _; omega, fun q5 h_q5 => ?_⟩
      have s_q5 := same_new (H := G_q4) (o := .lst ((List.replicate (10 : Int).toNat [V.int 200, V.int 3]).flatten ++ (List.replicate (9 : Int).toNat [V.int 4, V.int 90]).flatten)) h_q5
      have g_q5 : upd G_q4 q5 (.lst ((List.replicate (10 : Int).toNat [V.int 200, V.int 3]).flatten ++ (List.replicate (9 : Int).toNat [V.int 4, V.int 90]).flatten)) q5 = some (.lst ((List.replicate (10 : Int).toNat [V.int 200, V.int 3]).flatten ++ (List.replicate (9 : Int).toNat [V.int 4, V.int 90]).flatten)) := upd_same
      generalize upd G_q4 q5 (.lst ((List.replicate (10 : Int).toNat [V.int 200, V.int 3]).flatten ++ (List.replicate (9 : Int).toNat [V.int 4, V.int 90]).flatten)) = G_q5 at s_q5 g_q5 ⊢
      refine ⟨w2, fun q6 h_q6 => ?_⟩
      have s_q6 := same_new (H := G_q5) (o := .lst ([V.int 4, V.int 5])) h_q6
      have g_q6 : upd G_q5 q6 (.lst ([V.int 4, V.int 5])) q6 = some (.lst ([V.int 4, V.int 5])) := upd_same
      generalize upd G_q5 q6 (.lst ([V.int 4, V.int 5])) = G_q6 at s_q6 g_q6 ⊢
      replace g_q5 := s_q6 _ _ g_q5
      refine ⟨q5, q6, _, _, rfl, rfl, g_q5, g_q6, by show 38 + 2 ≤ _; omega, fun q7 h_q7 => ?_⟩
      have s_q7 := same_new (H := G_q6) (o := .lst (((List.replicate (10 : Int).toNat [V.int 200, V.int 3]).flatten ++ (List.replicate (9 : Int).toNat [V.int 4, V.int 90]).flatten) ++ [V.int 4, V.int 5])) h_q7
      have g_q7 : upd G_q6 q7 (.lst (((List.replicate (10 : Int).toNat [V.int 200, V.int 3]).flatten ++ (List.replicate (9 : Int).toNat [V.int 4, V.int 90]).flatten) ++ [V.int 4, V.int 5])) q7 = some (.lst (((List.replicate (10 : Int).toNat [V.int 200, V.int 3]).flatten ++ (List.replicate (9 : Int).toNat [V.int 4, V.int 90]).flatten) ++ [V.int 4, V.int 5])) := upd_same
      generalize upd G_q6 q7 (.lst (((List.replicate (10 : Int).toNat [V.int 200, V.int 3]).flatten ++ (List.replicate (9 : Int).toNat [V.int 4, V.int 90]).flatten) ++ [V.int 4, V.int 5])) = G_q7 at s_q7 g_q7 ⊢
      refine ⟨w2, fun q8 h_q8 => ?_⟩
      have s_q8 := same_new (H := G_q7) (o := .lst ([V.int 9, V.int 90])) h_q8
      have g_q8 : upd G_q7 q8 (.lst ([V.int 9, V.int 90])) q8 = some (.lst ([V.int 9, V.int 90])) := upd_same
      generalize upd G_q7 q8 (.lst ([V.int 9, V.int 90])) = G_q8 at s_q8 g_q8 ⊢
      replace g_q7 := s_q8 _ _ g_q7
      refine ⟨q8, 9, _, rfl, rfl, g_q8, by omega, by omega, by show 2 * 9 ≤ _; omega, fun q9 h_q9 => ?_⟩
      have s_q9 := same_new (H := G_q8) (o := .lst ((List.replicate (9 : Int).toNat [V.int 9, V.int 90]).flatten)) h_q9
      have g_q9 : upd G_q8 q9 (.lst ((List.replicate (9 : Int).toNat [V.int 9, V.int 90]).flatten)) q9 = some (.lst ((List.replicate (9 : Int).toNat [V.int 9, V.int 90]).flatten)) := upd_same
      generalize upd G_q8 q9 (.lst ((List.replicate (9 : Int).toNat [V.int 9, V.int 90]).flatten)) = G_q9 at s_q9 g_q9 ⊢
      replace g_q7 := s_q9 _ _ g_q7
      refine ⟨q7, q9, _, _, rfl, rfl, g_q7, g_q9, by show 40 + 18 ≤ _; omega, fun q10 h_q10 => ?_⟩
      have s_q10 := same_new (H := G_q9) (o := .lst ((((List.replicate (10 : Int).toNat [V.int 200, V.int 3]).flatten ++ (List.replicate (9 : Int).toNat [V.int 4, V.int 90]).flatten) ++ [V.int 4, V.int 5]) ++ (List.replicate (9 : Int).toNat [V.int 9, V.int 90]).flatten)) h_q10
      have g_q10 : upd G_q9 q10 (.lst ((((List.replicate (10 : Int).toNat [V.int 200, V.int 3]).flatten ++ (List.replicate (9 : Int).toNat [V.int 4, V.int 90]).flatten) ++ [V.int 4, V.int 5]) ++ (List.replicate (9 : Int).toNat [V.int 9, V.int 90]).flatten)) q10 = some (.lst ((((List.replicate (10 : Int).toNat [V.int 200, V.int 3]).flatten ++ (List.replicate (9 : Int).toNat [V.int 4, V.int 90]).flatten) ++ [V.int 4, V.int 5]) ++ (List.replicate (9 : Int).toNat [V.int 9, V.int 90]).flatten)) := upd_same
      generalize upd G_q9 q10 (.lst ((((List.replicate (10 : Int).toNat [V.int 200, V.int 3]).flatten ++ (List.replicate (9 : Int).toNat [V.int 4, V.int 90]).flatten) ++ [V.int 4, V.int 5]) ++ (List.replicate (9 : Int).toNat [V.int 9, V.int 90]).flatten)) = G_q10 at s_q10 g_q10 ⊢
      refine ⟨w2, fun q11 h_q11 => ?_⟩
      have s_q11 := same_new (H := G_q10) (o := .lst ([V.int 2, V.int 7])) h_q11
      have g_q11 : upd G_q10 q11 (.lst ([V.int 2, V.int 7])) q11 = some (.lst ([V.int 2, V.int 7])) := upd_same
      generalize upd G_q10 q11 (.lst ([V.int 2, V.int 7])) = G_q11 at s_q11 g_q11 ⊢
      replace g_q10 := s_q11 _ _ g_q10
      refine ⟨q10, q11, _, _, rfl, rfl, g_q10, g_q11, by show 58 + 2 ≤ _; omega, fun q12 h_q12 => ?_⟩
      have s_q12 := same_new (H := G_q11) (o := .lst (((((List.replicate (10 : Int).toNat [V.int 200, V.int 3]).flatten ++ (List.replicate (9 : Int).toNat [V.int 4, V.int 90]).flatten) ++ [V.int 4, V.int 5]) ++ (List.replicate (9 : Int).toNat [V.int 9, V.int 90]).flatten) ++ [V.int 2, V.int 7])) h_q12
      have g_q12 : upd G_q11 q12 (.lst (((((List.replicate (10 : Int).toNat [V.int 200, V.int 3]).flatten ++ (List.replicate (9 : Int).toNat [V.int 4, V.int 90]).flatten) ++ [V.int 4, V.int 5]) ++ (List.replicate (9 : Int).toNat [V.int 9, V.int 90]).flatten) ++ [V.int 2, V.int 7])) q12 = some (.lst (((((List.replicate (10 : Int).toNat [V.int 200, V.int 3]).flatten ++ (List.replicate (9 : Int).toNat [V.int 4, V.int 90]).flatten) ++ [V.int 4, V.int 5]) ++ (List.replicate (9 : Int).toNat [V.int 9, V.int 90]).flatten) ++ [V.int 2, V.int 7])) := upd_same
      generalize upd G_q11 q12 (.lst (((((List.replicate (10 : Int).toNat [V.int 200, V.int 3]).flatten ++ (List.replicate (9 : Int).toNat [V.int 4, V.int 90]).flatten) ++ [V.int 4, V.int 5]) ++ (List.replicate (9 : Int).toNat [V.int 9, V.int 90]).flatten) ++ [V.int 2, V.int 7])) = G_q12 at s_q12 g_q12 ⊢
      have s12 := ((((((((((s_q1.trans s_q2).trans s_q3).trans s_q4).trans s_q5).trans s_q6).trans s_q7).trans s_q8).trans s_q9).trans s_q10).trans s_q11).trans s_q12
      have g12 : G_q12 q12 = some (.lst (sixty.map V.int)) := g_q12
      clear s_q1 s_q2 s_q3 s_q4 s_q5 s_q6 s_q7 s_q8 s_q9 s_q10 s_q11 s_q12 g_q1 g_q2 g_q3 g_q4 g_q5 g_q6 g_q7 g_q8 g_q9 g_q10 g_q11 g_q12
      have L12 := L9.same s12
      have S12 := S9.same s12
      refine ⟨_, rfl, _, rfl, _, rfl, a5, q12, 32, T, sixty, rfl, SqL.of (s12 _ _ ga9), SqL.of g12, neT, W5.L.sz, sixty_far, by rw [sixty_len]; omega, fun t11 H11 ht11 s11 g11 => ?_⟩
      refine ⟨_, rfl, _, rfl, n5, q12, _, _, rfl, rfl, s11 _ _ (s12 _ _ gn9), s11 _ _ g12, by rw [List.length_map, List.length_map, sixty_len]; omega, fun q13 h13 => ⟨_, _, rfl, ?_⟩⟩
      have s13 := same_new (o := .lst (ks.map V.int ++ sixty.map V.int)) h13
      have L11 := L12.same s11
      have W13 : Wl C (upd H11 q13 (.lst (ks.map V.int ++ sixty.map V.int))) l seed c5 p dx r t u0 32 (appT 32 T sixty) (ks ++ sixty) t11 q13 :=
        ⟨(S12.same s11).same s13, L11.same s13, s13 _ _ g11, by rw [upd_same, List.map_append], ⟨S12.ne ht11, (S12.same s11).ne h13, W5.al.2.2.1, W5.al.2.2.2⟩,
          ⟨(ne_of_none L12.rp ht11).symm, (ne_of_none L12.tx ht11).symm, (ne_of_none L11.rp h13).symm, (ne_of_none L11.tx h13).symm⟩, ne_of_none g11 h13⟩
      have k13 : Keep1 H (upd H11 q13 (.lst (ks.map V.int ++ sixty.map V.int))) l := kk9.trans (Keep1.of ((s12.trans s11).trans s13))
      have ft : H t11 = none := free_of_keep (kk9.trans (Keep1.of s12)) ht11 W13.al.1
      have fq : H q13 = none := free_of_keep (kk9.trans (Keep1.of (s12.trans s11))) h13 W13.al.2.1
      have len2 : (ks ++ sixty).length ≤ 186 := by rw [List.length_append, sixty_len]; omega
      generalize upd H11 q13 (.lst (ks.map V.int ++ sixty.map V.int)) = H13 at W13 k13 ⊢
      generalize appT 32 T sixty = T2 at W13 low' g11
      generalize ks ++ sixty = ks2 at W13 len2
      clear L12 S12 L11 s13 s11 s12 g12 S9 ga9 gn9 kk9 k59 L9 k9 LL mC mR mT mN W5 k5 low fa5 fn5 h13 ht11 g11 lenT neT
      -- told
      refine ⟨_, rfl, _, rfl, _, rfl, _, rfl, p, dx, r, t, t11, q13, u0, 32, _, _, rfl, W13.L, SqL.of W13.a_, SqL.of W13.n_, lastT_low low', fun H14 s14 => ⟨_, rfl, iteF ?_⟩⟩
      have W14 := W13.same s14
      have k14 := k13.trans (Keep1.of s14)
      clear W13 k13 s14
      -- taken back
      refine ⟨_, rfl, q13, _, rfl, .inl (SqL.of W14.n_), _, 80, rfl, ?_⟩
      obtain ⟨M, eM⟩ : ∃ M : Int, M = (if (80 : Int) < ((ks2.map V.int).length : Nat) then 80 else (((ks2.map V.int).length : Nat) : Int)) := ⟨_, rfl⟩
      have hM : 0 ≤ M ∧ M ≤ ks2.length := by
        rw [eM, List.length_map]
        split <;> omega
      refine ⟨M, by subst eM; rfl, by omega, by omega, (fun i σ H' => ∃ T' ks' y6, σ = [some (.ref l), some (.str (SX.S xs)), some (.str " "), some (.ref p), some (.ref t11), some (.ref q13), y6, y7, some (.ref q12), none] ∧ Wl C H' l seed c5 p dx r t u0 32 T' ks' t11 q13 ∧ ks'.length + i = ks2.length ∧ (∀ x ∈ T', ∀ ch ∈ x, ch < 128) ∧ Keep1 H H' l),
        ⟨T2, ks2, _, rfl, W14, rfl, low', k14⟩, ?_, ?_⟩
      · rintro i σ H15 hi ⟨T', ks', y6, rfl, W15, len15, low15, k15⟩
        obtain ⟨ks0, k0, ek⟩ : ∃ ks0 k0, ks' = ks0 ++ [k0] := by
          rcases List.eq_nil_or_concat ks' with e | ⟨k1, k2, e⟩
          · rw [e] at len15
            simp only [List.length_nil] at len15
            omega
          · exact ⟨k1, k2, by rw [e, List.concat_eq_append]⟩
        subst ek
        have lT := W15.L.len
        obtain ⟨T0, l0, eT⟩ : ∃ T0 l0, T' = T0 ++ [l0] := by
          rcases List.eq_nil_or_concat T' with e | ⟨k1, k2, e⟩
          · rw [e] at lT
            cases lT
          · exact ⟨k1, k2, by rw [e, List.concat_eq_append]⟩
        subst eT
        obtain ⟨m', LL', _, _, _, mN'⟩ := id W15.L.m
        refine ⟨_, rfl, p, dx, m', _, rfl, LL', mN' _ (by decide +kernel) (by decide +kernel) (by decide +kernel), p, dx, r, t, u0, 32, T0, l0, ks0, k0, rfl, W15.L, fun H16 L16 k16 => ?_⟩
        obtain ⟨S16, ga, gn⟩ := W15.but k16 L16
        have et : texts (T0 ++ [l0]) = texts T0 ++ [V.str (SX.S l0)] := by
          show ((T0 ++ [l0]).map _) = _
          rw [List.map_append]
          rfl
        have en : (ks0 ++ [k0]).map V.int = ks0.map V.int ++ [V.int k0] := by rw [List.map_append]; rfl
        rw [et] at ga
        rw [en] at gn
        refine ⟨_, rfl, .inl ⟨rfl, _, SqL.of ga⟩, t11, _, .str (SX.S l0), rfl, rfl, ga, ?_, ?_⟩
        · rw [List.length_append, List.length_singleton, Nat.add_sub_cancel, List.getElem?_append_right (Nat.le_refl _), Nat.sub_self]
          rfl
        rw [List.dropLast_concat]
        have gn1 : (upd H16 t11 (.lst (texts T0))) q13 = some (.lst (ks0.map V.int ++ [V.int k0])) := by rw [upd_ne W15.an.symm]; exact gn
        refine ⟨_, rfl, .inl ⟨rfl, _, SqL.of gn1⟩, q13, _, .int k0, rfl, rfl, gn1, ?_, ?_⟩
        · rw [List.length_append, List.length_singleton, Nat.add_sub_cancel, List.getElem?_append_right (Nat.le_refl _), Nat.sub_self]
          rfl
        rw [List.dropLast_concat]
        have L1 := L16.keepx (Keep1.set (l := t11) (o := .lst (texts T0))) ga W15.ar.1.symm W15.ar.2.1.symm
        have L2 := L1.keepx (Keep1.set (l := q13) (o := .lst (ks0.map V.int))) gn1 W15.ar.2.2.1.symm W15.ar.2.2.2.symm
        obtain ⟨dg, hl⟩ := S16.ob
        refine ⟨T0, ks0, _, rfl, ⟨⟨⟨dg, by rw [upd_ne W15.al.2.1.symm, upd_ne W15.al.1.symm]; exact hl⟩, S16.s0, S16.s1, S16.c0⟩, L2, by rw [upd_ne W15.an, upd_same], upd_same, W15.al, W15.ar, W15.an⟩, by rw [List.length_append, List.length_singleton] at len15; omega, fun x hx => low15 x (List.mem_append_left _ hx), fun x o e nx => ?_⟩
        rw [upd_ne (ne_of_none e fq), upd_ne (ne_of_none e ft)]
        exact k16 _ _ (k15 x o e nx) (ne_of_none e hrN) (ne_of_none e htN)
      · rintro σ H15 ⟨T', ks', y6, rfl, W15, len15, low15, k15⟩
        obtain ⟨m, LL, mC, mR, mT, mN⟩ := id W15.L.m
        have w3 : 3 ≤ sizeLine := by omega
        refine ⟨_, rfl, p, dx, m, _, rfl, LL, mN _ (by decide +kernel) (by decide +kernel) (by decide +kernel), w3, fun T1 nT1 => ⟨p, dx, r, t, T1, u0, 32, T', ks', [2, 7, 3], rfl, upd_same, W15.L.same (same_new nT1), good, (by intro k hk; revert k hk; decide), by show ks'.length + 3 ≤ _; omega, fun H16 L16 k16 => ?_⟩⟩
        have k156 : But2 H15 H16 r t := (But2.of (same_new nT1)).trans k16
        obtain ⟨S16, ga, gn⟩ := W15.but k156 L16
        have kk : Keep1 H H16 l := fun x o e nx => k156 x o (k15 x o e nx) (ne_of_none e hrN) (ne_of_none e htN)
        have lT := W15.L.len
        have neT : T' ≠ [] := fun e => by rw [e] at lT; cases lT
        have lowF := appT_low (ns := [2, 7, 3]) (b := 32) (by decide) low15
        refine ⟨_, rfl, _, rfl, w3, fun q1 hq1 => ?_⟩
        have s1 := same_new (o := .lst [V.int 2, V.int 7, V.int 3]) hq1
        refine ⟨t11, q1, 32, T', [2, 7, 3], rfl, SqL.of (s1 _ _ ga), SqL.of upd_same, neT, W15.L.sz, (by intro k hk; revert k hk; decide), by show T'.length + 3 ≤ _; omega, fun t17 H17 ht17 s17 g17 => ?_⟩
        refine ⟨_, rfl, w3, fun q2 hq2 => ?_⟩
        have s2 := same_new (o := .lst [V.int 2, V.int 7, V.int 3]) hq2
        refine ⟨q13, q2, _, _, rfl, rfl, s2 _ _ (s17 _ _ (s1 _ _ gn)), upd_same, by rw [List.length_map]; show ks'.length + 3 ≤ _; omega, fun q3 hq3 => ⟨_, _, rfl, ?_⟩⟩
        have s3 := same_new (o := .lst (ks'.map V.int ++ [V.int 2, V.int 7, V.int 3])) hq3
        have sA := ((s1.trans s17).trans s2).trans s3
        have LF := L16.same sA
        have gA := s3 _ _ (s2 _ _ g17)
        have gN : (upd (upd H17 q2 (.lst [V.int 2, V.int 7, V.int 3])) q3 (.lst (ks'.map V.int ++ [V.int 2, V.int 7, V.int 3]))) q3 = some (.lst ((ks' ++ [2, 7, 3]).map V.int)) := by rw [upd_same, List.map_append]; rfl
        refine ⟨_, rfl, _, rfl, _, rfl, _, rfl, p, dx, r, t, t17, q3, u0, 32, _, _, rfl, LF, SqL.of gA, SqL.of gN, lastT_low lowF, fun H18 s18 => ?_⟩
        exact q c5 H18 ((S16.same sA).same s18) (by omega) (kk.trans (Keep1.of (sA.trans s18)))
end
end Sq
set_option Elab.async false
set_option linter.all false
set_option maxRecDepth 100000
set_option maxHeartbeats 2000000
namespace PySem
open Sem (wp)
/-- from here the run comes to an end (a return or a yield) of which Φ is true -/
def SegT (M : Model) (A : Around) (Φ : End → Shared → Prop) (c : Code) (t : Sem Fin) (fs : List Frame) (s : Shared) : Prop := ∀ Γ p, Γ.code = c → Γ.Woken A → ∃ e s', Runs M Γ p t fs s e s' ∧ Φ e s'
theorem segT_of {M : Model} {A : Around} {R : GenEnd} {Y : Protocol} {n : Nat} {s₀ : Shared} {Φ : End → Shared → Prop} {c : Code} {t : Sem Fin} {fs : List Frame} {s : Shared} (h : Seg M A R Y n s₀ c t fs s) (hΦ : ∀ e s', SegEnd R Y n (Seg.next M A R Y n) s₀ e s' → Φ e s') : SegT M A Φ c t fs s := fun Γ p hc hw => by
  obtain ⟨e, s', r, he⟩ := seg_iff.mp h Γ p hc hw
  exact ⟨e, s', r, hΦ e s' he⟩
section
variable {M : Model} {A : Around} {Φ : End → Shared → Prop} {c : Code} {fs : List Frame} {s : Shared} {env : Env} {K : Flow → Sem Fin} {H : Value → Sem Fin} {gd : Bool → Bool} {lv : List Value → List Value}
theorem segT_wrap {α : Type} {m : Sem α} {K : α → Sem Fin} {H : Value → Sem Fin} {gd lv} (h : wpAny M (A.over c fs) m (fun a s' => SegT M A Φ c (K a) fs s') (fun x s' => SegT M A Φ c (H x) fs s') s) : SegT M A Φ c (m.wrap K H gd lv) fs s := by
  intro Γ p hc hΓ
  subst hc
  exact runs_wrap_of_wp K H gd lv m (h (Γ.over fs) p (hΓ.over fs)) (fun a p' s' h' => h' Γ p' rfl hΓ) (fun x p' s' h' => h' Γ p' rfl hΓ)
theorem segT_bind {α β : Type} {m : Sem α} {K : α → Sem β} {K' : β → Sem Fin} {H' : Value → Sem Fin} {gd lv} (h : wpAny M (A.over c fs) m (fun a s' => SegT M A Φ c ((K a).wrap K' H' gd lv) fs s') (fun x s' => SegT M A Φ c (H' x) fs s') s) : SegT M A Φ c ((m >>= K).wrap K' H' gd lv) fs s := by
  rw [Sem.bind_eq_wrap', Sem.wrap_wrap]
  exact segT_wrap h
theorem segT_call {c' : Code} {h g l} {k : Result → Sem Fin} (hc : ∀ p, SegT M A Φ c' (M.den c') (.ret k h g l c p [] :: fs) s) : SegT M A Φ c (.call c' h g l k) fs s := by
  intro Γ p he hΓ
  subst he
  obtain ⟨e, s', hr, q⟩ := hc p (Γ.goto c') p rfl (hΓ.goto c')
  exact ⟨e, s', runs_call_seg hr, q⟩
theorem segT_point {l : List Value} {k : Unit → Sem Fin} (h : SegT M A Φ c (k ()) fs s) : SegT M A Φ c (.point l k) fs s :=
  segT_wrap (m := point) (K := k) (H := .raise) (gd := id) (lv := fun _ => l) (wpAny_point h)
theorem segT_for {target iter : Expr} {body orelse : List Stmt} {pos : Pos}
    (h : wpAny M (A.over c fs) (eval iter env) (fun x s₁ => wpAny M (A.over c fs) (pyIter x) (fun it s₂ =>
        ∀ p, SegT M A Φ (.forLoop target it body orelse env) (M.den (.forLoop target it body orelse env))
      (.ret (fun r => ((match r with | .ok f => (.pure f : Sem Flow) | .error e => .raise e).onRaise fun (x : Value) => do
        if (← field x 1) == Value.none then unsupported "frame.own-activation:exception-without-traceback"
        setFlight x env.frame).wrap K H gd lv) none (gd false) (lv []) c p [] :: fs) s₂) (fun x s' => SegT M A Φ c (H x) fs s') s₁)
      (fun x s' => SegT M A Φ c (H x) fs s') s)
    (hs : ∀ x, foldedSetIterable iter env x = pure x := by intro _; rfl) :
    SegT M A Φ c ((exec (.For target iter body orelse pos) env).wrap K H gd lv) fs s := by
  rw [exec_For]
  refine segT_bind (wpAny_standAt ?_)
  refine segT_bind (wpAny_mono h (fun x s₁ h₁ => ?_) fun _ _ h' => h')
  refine segT_bind (wpAny_of_eq (hs x) ?_)
  refine segT_bind (wpAny_standAt ?_)
  refine segT_bind (wpAny_holding (wpAny_mono h₁ (fun it s₂ h₂ => ?_) fun _ _ h' => h'))
  exact segT_call h₂
theorem segT_cons {st : Stmt} {rest : List Stmt} (h : SegT M A Φ c ((exec st env).wrap (fun f => match f with | .next => (execs rest env).wrap K H gd lv | f => K f) H gd lv) fs s) : SegT M A Φ c ((execs (st :: rest) env).wrap K H gd lv) fs s := by
  rw [execs_cons_wrap]
  exact h
end
section
variable {prog : Program} {w : World} {A : Around} {Φ : End → Shared → Prop} {fs : List Frame} {s : Shared} {env : Env}
theorem segT_func {body : List Stmt} (h : SegT (model prog w) A Φ (.func body env) ((execs body env).wrap (fun f => .pure (.done (.ret (match f with | .ret v => v | _ => .none)))) (fun e => (leaving env e).wrap (fun _ => .raise e) .raise id id) id id) fs s) :
    SegT (model prog w) A Φ (.func body env) ((model prog w).den (.func body env)) fs s := by
  show SegT _ A Φ _ (.point [] fun _ => ((execs body env).onRaise (leaving env)) >>= _) fs s
  refine segT_point ?_
  rw [Sem.onRaise_eq_wrap, Sem.bind_eq_wrap', Sem.wrap_wrap]
  rw [Sem.wrap_congr (execs body env) _ _ (K' := fun f => .pure (.done (.ret (match f with | .ret v => v | _ => .none))))
    (H' := fun e => (leaving env e).wrap (fun _ => .raise e) .raise id id) (fun f => by cases f <;> rfl)
    (fun e => by rw [Sem.bind_eq_wrap, Sem.wrap_wrap]; rfl)]
  exact h
/-- a fresh generator is woken -/
theorem wpAny_resumeT {E : Value → Shared → Prop} {g : Nat} {r : Resume} {l : List Value} {α : Type} {k : GenResult → Sem α} {Q : α → Shared → Prop} {c : Code} (hg : s.gens[g]? = some (.fresh c)) (hr : r = .send .none)
    (hgo : SegT (model prog w) A Φ c ((model prog w).den c) [] (s.setGen g .running)) (hq : ∀ e s', Φ e s' → e.quiet = true)
    (fin : ∀ e s', Φ e s' → wpAny (model prog w) A (k e.result) Q E (s'.setGen g e.genState)) : wpAny (model prog w) A (.resume g r l k) Q E s := by
  subst hr
  intro Γ p hΓ
  rw [Sem.wp_resume]
  obtain ⟨e₁, s₁, rr, he⟩ := hgo (Γ.wake c p) p rfl (hΓ.wake c p)
  exact ⟨_, _, by unfold Wakes; rw [hg]; exact ⟨e₁, s₁, rr, hq e₁ s₁ he, rfl, rfl⟩, fin e₁ s₁ he Γ p hΓ⟩
end
end PySem
set_option Elab.async false
set_option linter.all false
set_option maxRecDepth 100000
set_option maxHeartbeats 2000000
namespace Sq
open PySem PySem.Spec PyProof.Rows L2 GenW
def alH (al : Addr) (ns : List Int) : Hp := fun b => if b = al then some (.lst (ns.map V.int)) else none
theorem alH_at {al : Addr} {ns : List Int} : alH al ns al = some (.lst (ns.map V.int)) := if_pos rfl
theorem alH_ne {al b : Addr} {ns : List Int} (h : b ≠ al) : alH al ns b = none := if_neg h
/-- what the generator alone changes -/
def Mine (h : Heap) (n0 a al : Addr) (b : Addr) : Prop := b = n0 ∨ (a < b ∧ ∃ j, h.IsListIter b al j)
open Classical in
noncomputable def hxH (h : Heap) (n0 a al : Addr) (ns : List Int) : Hp := fun b => if b = al then some (.lst (ns.map V.int)) else if n0 ≤ b ∧ b ≠ a ∧ ¬ Mine h n0 a al b then (h.get? b).map (HidO b) else none
structure Xg where
  P : Program
  w : World
  K : PySem.W.Frag
  mg : Str → Option Value
  base : Heap
  N : List Str
  qual : Str
  scope : Scope
  f : Addr
  cd : Value
  A : Around
  outer : List Env
  n0 : Addr
  a : Addr
  go : Obj
  g : Nat
  al : Addr
  ns : List Int
  tot : Nat
  val : Nat → Int
noncomputable abbrev Xg.hx (G : Xg) (s : Shared) : Hp := hxH s.heap G.n0 G.a G.al G.ns
noncomputable abbrev Xg.cx (G : Xg) (s : Shared) : Cx := lcx G.P G.w G.K G.mg G.base G.N G.qual G.scope G.f G.cd G.A G.outer G.n0 (cutSh s G.n0) (G.hx s) E0 [(G.a, G.go)]
abbrev Xg.md (G : Xg) : Model := model G.P G.w
abbrev Xg.E0 (G : Xg) (s : Shared) : Prop := Env0 G.P G.w G.K G.mg G.base G.A G.outer s (alH G.al G.ns)
structure Xg.Ok (G : Xg) : Prop where
  low : ∀ b ∈ frs G.outer, b < G.n0
  alne : G.al ≠ G.n0 ∧ G.al ≠ G.a
  na : G.n0 < G.a
  bsz : G.base.objs.size ≤ G.n0
  nocell : ∀ x c, (cellsFrom (G.n0 + 1) G.scope.names []).lookup x ≠ some c
  isG : ∀ h : Heap, h.get? G.a = some G.go → h.IsGen G.a G.g
structure KeepX (G : Xg) (s₀ s : Shared) : Prop where
  os : s.os = s₀.os
  gens : s.gens = s₀.gens
  bare : AllBare s.gens
  keep : ∀ b o, s₀.heap.get? b = some o → b ∉ frs G.outer → ¬ Mine s₀.heap G.n0 G.a G.al b → b ≠ G.al → s.heap.get? b = some o
  slot : ∀ b o, s₀.heap.get? b = some o → b ∈ frs G.outer → ∃ sl, s.heap.get? b = some { o with slots := sl }
  lst : HOk G.P G.w (alH G.al G.ns) s.heap
  there : ∃ o es ep, s.heap.get? G.n0 = some o ∧ o.data = .dict es ep
def Xg.Y (G : Xg) : Protocol := fun n s₀ v s kap => ∃ i, n + 1 + i = G.tot ∧ (∃ t, v = .int (G.val i) t) ∧ KeepX G s₀ s ∧
  ∀ s2, G.E0 s2 → (∀ b o, (b = G.a ∨ Mine s.heap G.n0 G.a G.al b) → s.heap.get? b = some o → s2.heap.get? b = some o) → kap (.send .none) s2
def Xg.R (G : Xg) : GenEnd := fun n s₀ r s => (r = .ok (.ret .none) ∨ r = .ok .next) ∧ n = 0 ∧ KeepX G s₀ s
section
variable {G : Xg} {ip : List (Addr × Obj)} {σ : L2.St} {H : Hp} {s s₀ s2 : Shared}
theorem hx_al {G : Xg} {s : Shared} : G.hx s G.al = some (.lst (G.ns.map V.int)) := if_pos rfl
theorem hx_mine {b : Addr} (hb : b ≠ G.al) (m : b = G.a ∨ Mine s.heap G.n0 G.a G.al b ∨ b < G.n0) : G.hx s b = none := by
  show hxH _ _ _ _ _ b = none
  unfold hxH
  rw [if_neg hb, if_neg]
  rintro ⟨h1, h2, h3⟩
  rcases m with m | m | m
  · exact h2 m
  · exact h3 m
  · exact absurd m (Nat.not_lt_of_le h1)
theorem hx_hid {b : Addr} {o : Obj} (hb : b ≠ G.al) (h1 : G.n0 ≤ b) (h2 : b ≠ G.a) (h3 : ¬ Mine s.heap G.n0 G.a G.al b) (e : s.heap.get? b = some o) : G.hx s b = some (HidO b o) := by
  show hxH _ _ _ _ _ b = _
  unfold hxH
  rw [if_neg hb, if_pos ⟨h1, h2, h3⟩, e]
  rfl
theorem hx_ok (e : G.E0 s) : HOk G.P G.w (G.hx s) s.heap := fun b u q => by
  by_cases hb : b = G.al
  · subst hb
    rw [hx_al] at q
    cases q
    refine (e.hok G.al _ alH_at).stay (fun _ _ _ z => z) (fun c z => ?_) fun c xs z => ?_
    · by_cases hc : c = G.al
      · subst hc
        rw [alH_at] at z
        cases z
      · rw [alH_ne hc] at z
        cases z
    · by_cases hc : c = G.al
      · subst hc
        rw [alH_at] at z
        cases z
      · rw [alH_ne hc] at z
        cases z
  · have q : hxH s.heap G.n0 G.a G.al G.ns b = some u := q
    unfold hxH at q
    rw [if_neg hb] at q
    split at q
    · cases r : s.heap.get? b with
      | none => rw [r] at q; cases q
      | some o =>
        rw [r] at q
        cases q
        exact ⟨r, ⟨o, r⟩, fun h1 h2 a k => k o a⟩
    · cases q
/-- the generator, where it is woken -/
theorem wake_in (ok : G.Ok) (I : Inv (G.cx s₀) ip σ H s) (hip : ∀ p ∈ ip, Mine s.heap G.n0 G.a G.al p.1) (e : G.E0 s2) (own : ∀ b o, (b = G.a ∨ Mine s.heap G.n0 G.a G.al b) → s.heap.get? b = some o → s2.heap.get? b = some o) : Inv (G.cx s2) ip σ (G.hx s2) s2 := by
  have mine2 : ∀ b, Mine s.heap G.n0 G.a G.al b → Mine s2.heap G.n0 G.a G.al b := fun b m => by
    rcases m with m | ⟨h1, j, h2⟩
    · exact .inl m
    · refine .inr ⟨h1, j, ?_⟩
      obtain ⟨o, eo, r⟩ := h2
      exact ⟨o, own b o (.inr (.inr ⟨h1, j, o, eo, r⟩)) eo, r⟩
  have low : ∀ {b : Addr}, b < G.n0 → b ≠ G.al → G.hx s2 b = none := fun {b} lt ne => hx_mine ne (.inr (.inr lt))
  have noC : ∀ {p : Prop} x c, (G.cx s₀).env.cells.lookup x = some c → p := fun x c q => absurd q (ok.nocell x c)
  refine ⟨⟨I.ok.mod, I.ok.kind, I.ok.glob, I.ok.blt, ?_, I.ok.inj, I.ok.has, fun x k h q => noC x k q, I.ok.hd, I.ok.frames, I.ok.stk, fun b z => absurd z List.not_mem_nil, fun b o q => ?_, ?_, fun b o q => List.not_mem_nil, fun b z => absurd z List.not_mem_nil, frames_cut e.funs ok.low, fun b hb => ?_⟩,
    rfl, e.bare, Un.kept fun b u q => (cutH_get.mp q).2, ?_, fun x k q => noC x k q, ?_, fun x k q => noC x k q, fun p hp => ?_, hx_ok e, I.len⟩
  · show (cutH s2.heap G.n0).objs.size ≤ G.n0
    rw [cutH_size]
    exact Nat.min_le_left _ _
  · obtain ⟨h1, h2⟩ := e.bs b o q
    have lt : b < G.n0 := Nat.lt_of_lt_of_le (Heap.lt_size q) ok.bsz
    refine ⟨cutH_get.mpr ⟨lt, h1⟩, low lt fun z => ?_⟩
    rw [z, alH_at] at h2
    cases h2
  · show G.base.objs.size ≤ (cutH s2.heap G.n0).objs.size
    rw [cutH_size]
    exact Nat.le_min.mpr ⟨ok.bsz, e.bsz⟩
  · refine low (ok.low b hb) fun z => ?_
    have := e.frf b hb
    rw [z, alH_at] at this
    cases this
  · obtain ⟨m, ⟨o, es, ep, ho, r⟩, hl⟩ := I.loc
    refine ⟨m, ⟨o, es, ep, own _ _ (.inr (.inl rfl)) ho, r⟩, fun i x v h1 h2 h3 => ?_⟩
    obtain ⟨u, rv, lk⟩ := hl i x v h1 h2 h3
    refine ⟨u, rv, ?_⟩
    rcases lk with z | ⟨kd, k, q, _⟩
    · exact .inl z
    · exact noC x k q
  · exact hx_mine ok.alne.1.symm (.inr (.inl (.inl rfl)))
  · obtain ⟨h1, _, h3, h4, h5⟩ := I.pin p hp
    rcases List.mem_append.mp hp with z | z
    · rw [List.mem_singleton.mp z] at h1 h3 h4 h5 ⊢
      exact ⟨own _ _ (.inl rfl) h1, hx_mine ok.alne.2.symm (.inl rfl), h3, h4, h5⟩
    · have m := hip p z
      refine ⟨own _ _ (.inr m) h1, hx_mine (fun z => ?_) (.inr (.inl (mine2 _ m))), h3, h4, h5⟩
      rcases mine2 _ m with w | ⟨_, k, o', e', c', d'⟩
      · exact ok.alne.1 (z.symm.trans w)
      · obtain ⟨_, its, nn, _, hl⟩ := e.hok G.al _ alH_at
        rw [z, hl] at e'
        cases e'
        cases d'
/-- what a turn keeps -/
theorem keepx_of (ok : G.Ok) (e0 : G.E0 s₀) (I : Inv (G.cx s₀) ip σ H s) (sm : Same (G.hx s₀) H) (gens : s.gens = s₀.gens) (hgo : s₀.heap.get? G.a = some G.go) : KeepX G s₀ s := by
  refine ⟨I.os, gens, I.bare, fun b o q nf nm na => ?_, fun b o q hf => ?_, fun b u q => ?_, ?_⟩
  · by_cases lt : b < G.n0
    · exact I.base.keep b o (cutH_get.mpr ⟨lt, q⟩) (hx_mine na (.inr (.inr lt))) nf List.not_mem_nil
    · by_cases ba : b = G.a
      · subst ba
        rw [hgo] at q
        cases q
        exact (I.pin (G.a, G.go) (List.mem_append_left _ (List.mem_singleton.mpr rfl))).1
      · exact (I.hok b _ (sm _ _ (hx_hid na (Nat.le_of_not_lt lt) ba nm q))).1
  · have lt := ok.low b hf
    refine I.base.slot b o (cutH_get.mpr ⟨lt, q⟩) (hx_mine (fun z => ?_) (.inr (.inr lt))) hf List.not_mem_nil
    have := e0.frf b hf
    rw [z, alH_at] at this
    cases this
  · by_cases hb : b = G.al
    · subst hb
      rw [alH_at] at q
      cases q
      obtain ⟨z, its, n, r, eo⟩ := I.hok G.al _ (sm _ _ hx_al)
      exact ⟨z, its, n, r, eo⟩
    · rw [alH_ne hb] at q
      cases q
  · obtain ⟨m, ⟨o, es, ep, ho, r⟩, hl⟩ := I.loc
    exact ⟨o, es, ep, ho, r.1⟩
end
end Sq
set_option Elab.async false
set_option linter.all false
set_option maxRecDepth 100000
set_option maxHeartbeats 2000000
namespace Sq
open PySem PySem.Spec PyProof.Rows L2 GenW
abbrev Xg.env (G : Xg) : Env := envOfC G.qual G.scope G.n0 G.f G.cd
structure Xg.GC (G : Xg) (ip : List (Addr × Obj)) (c : Code) (fs : List Frame) (gd : Bool → Bool) : Prop where
  over : G.A.over c fs = G.A.deeper G.env
  split : splitAtGen fs = none
  guard : fs.any Frame.guarded = false
  gd : gd false = false
  low : ∀ p ∈ ip, G.a < p.1 ∧ ∀ h : Heap, h.get? p.1 = some p.2 → ∃ j, h.IsListIter p.1 G.al j
def Xg.Seat (G : Xg) (s₀ : Shared) : Prop := G.E0 s₀ ∧ s₀.heap.get? G.a = some G.go
structure Xg.GK (G : Xg) (ip : List (Addr × Obj)) (c : Code) (fs : List Frame) (Kf : Flow → Sem PySem.Fin) (Je : Value → Sem PySem.Fin) (D : GEndL) : Prop where
  ok : ∀ (n i : Nat) (s₀ s : Shared) (fl : Flow), n + i = G.tot → G.Seat s₀ → s.gens = s₀.gens → SP (G.cx s₀) ip (D.at i (G.hx s₀)) fl s → Seg G.md G.A G.R G.Y n s₀ c (Kf fl) fs s
  exc : ∀ (n : Nat) (s₀ : Shared) (e : Value) (s : Shared), G.Seat s₀ → (G.cx s₀).xe e s → Seg G.md G.A G.R G.Y n s₀ c (Je e) fs s
structure XS (G : Xg) (st : Stmt) (t : TGL) : Prop where
  run : ∀ (ip : List (Addr × Obj)) (n i : Nat) (s₀ : Shared) (c : Code) (fs : List Frame) (Kf : Flow → Sem PySem.Fin) (Je : Value → Sem PySem.Fin) (gd : Bool → Bool) (lv : List Value → List Value) (s : Shared) (σ : L2.St) (H : Hp) (D : GEndL),
    G.GC ip c fs gd → n + i = G.tot → G.GK ip c fs Kf Je D → G.Seat s₀ → s.gens = s₀.gens → Inv (G.cx s₀) ip σ H s → t D i (G.hx s₀) σ H → Seg G.md G.A G.R G.Y n s₀ c ((exec st G.env).wrap Kf Je gd lv) fs s
structure XSs (G : Xg) (st : List Stmt) (t : TGL) : Prop where
  run : ∀ (ip : List (Addr × Obj)) (n i : Nat) (s₀ : Shared) (c : Code) (fs : List Frame) (Kf : Flow → Sem PySem.Fin) (Je : Value → Sem PySem.Fin) (gd : Bool → Bool) (lv : List Value → List Value) (s : Shared) (σ : L2.St) (H : Hp) (D : GEndL),
    G.GC ip c fs gd → n + i = G.tot → G.GK ip c fs Kf Je D → G.Seat s₀ → s.gens = s₀.gens → Inv (G.cx s₀) ip σ H s → t D i (G.hx s₀) σ H → Seg G.md G.A G.R G.Y n s₀ c ((execs st G.env).wrap Kf Je gd lv) fs s
section
variable {G : Xg} {st : Stmt} {rest : List Stmt}
theorem xs_nil : XSs G [] tL0 :=
  ⟨fun ip n i s₀ c fs Kf Je gd lv s σ H D gc hn k seat hgs I ht => seg_execs_nil (k.ok n i s₀ s .next hn seat hgs ⟨σ, H, I, ht⟩)⟩
theorem xs_cons {t u : TGL} (a : XS G st t) (b : XSs G rest u) : XSs G (st :: rest) (tLThen t u) := by
  refine ⟨fun ip n i s₀ c fs Kf Je gd lv s σ H D gc hn k seat hgs I ht => ?_⟩
  refine seg_execs_cons ?_
  refine a.run ip n i s₀ c fs _ Je gd lv s σ H { D with nx := fun i' Hb' σ' H' => u D i' Hb' σ' H' } gc hn ⟨fun n' i' s₀' s' fl hn' seat' hg' hs => ?_, k.exc⟩ seat hgs I ht
  match fl, hs with
  | .next, ⟨σ', H', I', q⟩ => exact b.run ip n' i' s₀' c fs Kf Je gd lv s' σ' H' D gc hn' k seat' hg' I' q
  | .brk, hs => exact k.ok n' i' s₀' s' .brk hn' seat' hg' hs
  | .cont, hs => exact k.ok n' i' s₀' s' .cont hn' seat' hg' hs
  | .ret u, hs => exact k.ok n' i' s₀' s' (.ret u) hn' seat' hg' hs
def tXYield (G : Xg) (te : TE) : TGL := fun D i Hb σ H => i < G.tot ∧ te σ H fun x H1 => x = .int (G.val i) ∧ Same Hb H1 ∧ ∀ Hb' : Hp, Hb' G.al = some (.lst (G.ns.map V.int)) → D.nx (i + 1) Hb' σ Hb'
theorem x_yield (ok : G.Ok) {e : Expr} {yp pos : Pos} {te : TE} (he : ∀ s₀, GE (G.cx s₀) e te) (hco : G.scope.isCoroutine = false) (hi : interactive G.env = false := by rfl) : XS G (.Expr (.Yield (some e) yp) pos) (tXYield G te) := by
  refine ⟨fun ip n i s₀ c fs Kf Je gd lv s σ H D gc hn k seat hgs I ht => ?_⟩
  obtain ⟨lt, ht⟩ := ht
  obtain ⟨n, rfl⟩ : ∃ m, n = m + 1 := ⟨n - 1, by omega⟩
  refine seg_Expr_Yield gc.split gc.gd gc.guard ?_ hco hi
  rw [gc.over]
  refine wpAny_mono ((he s₀).run ip s σ H _ I ht) (fun v s' hv => ?_) fun x s' hx => k.exc _ s₀ x s' seat hx
  obtain ⟨g1, x, H1, I1, rv, ex, sm, nx⟩ := hv
  subst ex
  intro kap hk
  refine ⟨i, hn, rv, keepx_of ok seat.1 I1 sm (g1.trans hgs) seat.2, fun s2 e2 own => hk .none s2 ?_⟩
  have m : ∀ p ∈ ip, Mine s'.heap G.n0 G.a G.al p.1 := fun p hp => by
    obtain ⟨h1, h2⟩ := gc.low p hp
    exact .inr ⟨h1, h2 _ (I1.pin p (List.mem_append_right _ hp)).1⟩
  have there := (I1.pin (G.a, G.go) (List.mem_append_left _ (List.mem_singleton.mpr rfl))).1
  exact k.ok n (i + 1) s2 s2 .next (by omega) ⟨e2, own _ _ (.inl rfl) there⟩ rfl ⟨σ, G.hx s2, wake_in ok I1 m e2 own, nx _ hx_al⟩
theorem x_loop (ok : G.Ok) {x : Str} {op : Pos} {body : List Stmt} {g : TG} {tb : TGL} (hcalm : (G.A.deeper G.env).handled = none) (hg : ∀ s₀, GG (G.cx s₀) (.Name x op) g) (hb : XSs G body tb) {ip : List (Addr × Obj)} {n i : Nat} {s₀ s1 : Shared} {c : Code} {fs : List Frame} {Kf : Flow → Sem PySem.Fin} {Je : Value → Sem PySem.Fin}
    {gd : Bool → Bool} {lv : List Value → List Value} {σ : L2.St} {H1 : Hp} {D : GEndL} {Pv : Nat → Nat → Hp → L2.St → Hp → Prop} (gc : G.GC ip c fs gd) (hn : n + i = G.tot) (k : G.GK ip c fs Kf Je D) (seat : G.Seat s₀) (g1 : s1.gens = s₀.gens) (I1 : Inv (G.cx s₀) ip σ H1 s1) (p0 : Pv 0 i (G.hx s₀) σ H1)
    (hal : ∀ j i Hb σ H, Pv j i Hb σ H → H G.al = some (.lst (G.ns.map V.int))) (turn : ∀ j k i Hb σ H, G.ns[j]? = some k → Pv j i Hb σ H → g (.int k) σ H fun σ2 H2 => tb { D with nx := Pv (j + 1), ct := Pv (j + 1), bk := D.nx } i Hb σ2 H2) (fin : ∀ i Hb σ H, Pv G.ns.length i Hb σ H → D.nx i Hb σ H) {E : Value → Shared → Prop} :
    wpAny G.md (G.A.deeper G.env) (pyIter (.ref G.al)) (fun itv s2 => ∀ p, Seg G.md G.A G.R G.Y n s₀ (.forLoop (.Name x op) itv body [] G.env) (G.md.den (.forLoop (.Name x op) itv body [] G.env))
      (.ret (fun r => ((match r with | .ok f => (.pure f : Sem Flow) | .error e => .raise e).onRaise (cameBack G.env)).wrap Kf Je gd lv) none (gd false) (lv []) c p [] :: fs) s2) E s1 := by
  obtain ⟨_, its0, _, rits0, hl0⟩ := I1.hok G.al _ (hal _ _ _ _ _ p0)
  have isl0 : s1.heap.IsList G.al its0.toArray := ⟨_, hl0, rfl, _, rfl⟩
  refine wpAny_pyIter_list isl0 ?_
  obtain ⟨it, eit⟩ : ∃ it, it = s1.heap.objs.size := ⟨_, rfl⟩
  rw [← eit]
  have young : G.n0 < it := by
    rw [eit]
    exact I1.lt
  have younga : G.a < it := by
    rw [eit]
    exact Heap.lt_size (I1.pin (G.a, G.go) (List.mem_append_left _ (List.mem_singleton.mpr rfl))).1
  have below : ∀ {b : Addr} {o : Obj}, s1.heap.get? b = some o → b ≠ it := fun e => by
    rw [eit]
    exact Nat.ne_of_lt (Heap.lt_size e)
  have kept : ∀ b o, s1.heap.get? b = some o → (s1.heap.push { cls := .type "list_iterator", data := .fields #[.ref G.al, .int 0 0] }).get? b = some o := fun b o e => Heap.get?_push_of_some _ e
  have I2 : Inv (G.cx s₀) ip σ H1 { s1 with heap := s1.heap.push { cls := .type "list_iterator", data := .fields #[.ref G.al, .int 0 0] } } := I1.kept (t' := s1.toks) kept
  have free : H1 it = none := by
    rw [eit]
    exact I1.hok.fresh (Nat.le_refl _)
  have nfs : it ∉ frs G.outer := fun m => absurd (Nat.lt_trans (ok.low it m) young) (Nat.lt_irrefl _)
  have npin : ∀ p ∈ [(G.a, G.go)] ++ ip, p.1 ≠ it := fun p hp => below (I1.pin p hp).1
  have is0 : (s1.heap.push { cls := .type "list_iterator", data := .fields #[.ref G.al, .int 0 0] }).IsListIter it G.al 0 := by
    rw [eit]
    exact ⟨_, Heap.get?_push_size _ rfl, rfl, rfl⟩
  intro p
  have over' : ∀ kk : Result → Sem PySem.Fin, G.A.over (.forLoop (.Name x op) (.ref it) body [] G.env) (.ret kk none (gd false) (lv []) c p [] :: fs) = G.A.deeper G.env := fun kk => (over_loop rfl rfl).trans gc.over
  have fpk : ∀ {s₀ : Shared} {H' : Hp}, H' it = none → FpOk (G.cx s₀) ip H' it := fun {s₀ H'} hn => by
    refine ⟨hn, Nat.ne_of_gt young, nfs, .inr ?_, fun x c e => absurd e (ok.nocell x c), npin⟩
    show (cutH s₀.heap G.n0).objs.size ≤ it
    rw [cutH_size]
    exact Nat.le_trans (Nat.min_le_left _ _) (Nat.le_of_lt young)
  have back : ∀ (n : Nat) (s₀ : Shared) (x : Value) (s' : Shared), G.Seat s₀ → cameBackBy G.md (G.A.deeper G.env) G.env (G.cx s₀).xe x s' → Seg G.md G.A G.R G.Y n s₀ c (((Sem.raise x : Sem Flow).onRaise (cameBack G.env)).wrap Kf Je gd lv) fs s' := fun n s₀ x s' seat h => by
    show Seg _ _ _ _ _ _ _ (((cameBack G.env x).bind fun _ => (Sem.raise x : Sem Flow)).wrap Kf Je gd lv) _ _
    rw [Sem.bind_eq_wrap, Sem.wrap_wrap]
    refine seg_wrap ?_
    rw [gc.over]
    exact wpAny_mono h (fun _ s' hx => k.exc n s₀ x s' seat hx) fun y s' hx => k.exc n s₀ y s' seat hx
  have ee : ∀ (n : Nat) (s₀ : Shared) (y : Value) (s' : Shared), G.Seat s₀ → (G.cx s₀).xe y s' → Seg G.md G.A G.R G.Y n s₀ (.forLoop (.Name x op) (.ref it) body [] G.env)
      ((do noteFrame y G.env; theTreesLotGoes y : Sem Unit).wrap (fun _ => .raise y) .raise id id)
      (.ret (fun r => ((match r with | .ok f => (.pure f : Sem Flow) | .error e => .raise e).onRaise (cameBack G.env)).wrap Kf Je gd lv) none (gd false) (lv []) c p [] :: fs) s' := fun n s₀ y s' seat hx => by
    refine seg_wrap ?_
    rw [over']
    refine wpAny_bind (wpAny_mono (owns_lcx y s' hx) (fun _ s'' hcb => wpAny_theTreesLotGoes ?_) fun y s'' hcb => ?_)
    · exact seg_leaf (.error y) (back n s₀ y s'' seat hcb)
    · exact seg_leaf (.error _) (back n s₀ _ s'' seat hcb)
  have loop : ∀ (m j n i : Nat) (s₀ s : Shared) (σ : L2.St) (H : Hp), j + m = G.ns.length → n + i = G.tot → Pv j i (G.hx s₀) σ H → s.heap.IsListIter it G.al j → H it = none → G.Seat s₀ → s.gens = s₀.gens → Inv (G.cx s₀) ip σ H s →
      Seg G.md G.A G.R G.Y n s₀ (.forLoop (.Name x op) (.ref it) body [] G.env) (G.md.den (.forLoop (.Name x op) (.ref it) body [] G.env))
        (.ret (fun r => ((match r with | .ok f => (.pure f : Sem Flow) | .error e => .raise e).onRaise (cameBack G.env)).wrap Kf Je gd lv) none (gd false) (lv []) c p [] :: fs) s := by
    intro m
    induction m with
    | zero =>
      intro j n i s₀ s σ H hj hn pv st fr seat hgs I
      obtain rfl : j = G.ns.length := by omega
      obtain ⟨_, its, _, rits, hl⟩ := I.hok G.al _ (hal _ _ _ _ _ pv)
      have isl : s.heap.IsList G.al its.toArray := ⟨_, hl, rfl, _, rfl⟩
      have hlen := rits.length
      rw [List.length_map] at hlen
      refine segForLoop ?_
      rw [over']
      refine wpAny_pyNext_list_end hcalm st isl (by simp; omega) fun h' eb => ?_
      obtain ⟨f0, f1, f2, f3, f4, f5⟩ := fpk (s₀ := s₀) fr
      have I4 : Inv (G.cx s₀) ip σ H { s with heap := h' } := I.turned (t' := s.toks) (fun b o hb e => eb b o hb e) f0 f1 f3 f4 f5
      refine seg_again rfl (segBlockNil ?_)
      exact seg_leaf (.ok .next) (k.ok n i s₀ _ .next hn seat hgs ⟨σ, H, I4, fin i _ σ H pv⟩)
    | succ m ih =>
      intro j n i s₀ s σ H hj hn pv st fr seat hgs I
      have lt : j < G.ns.length := by omega
      obtain ⟨kk, hkk⟩ : ∃ kk, G.ns[j]? = some kk := ⟨_, List.getElem?_eq_getElem lt⟩
      obtain ⟨_, its, _, rits, hl⟩ := I.hok G.al _ (hal _ _ _ _ _ pv)
      have isl : s.heap.IsList G.al its.toArray := ⟨_, hl, rfl, _, rfl⟩
      obtain ⟨u, hu, ru⟩ := rits.get (show (G.ns.map V.int)[j]? = some (V.int kk) by rw [List.getElem?_map, hkk]; rfl)
      refine segForLoop ?_
      rw [over']
      refine wpAny_pyNext_list_item st isl (x := u) (by simpa using hu) fun h' st' sb => ?_
      obtain ⟨f0, f1, f2, f3, f4, f5⟩ := fpk (s₀ := s₀) fr
      have I4 : Inv (G.cx s₀) ip σ H { s with heap := h' } := I.turned (t' := s.toks) (fun b o hb e => (sb.2 b hb).trans e) f0 f1 f3 f4 f5
      obtain ⟨oi, eoi, ci, di⟩ := id st'
      refine go_of (s := { s with heap := h' }) eoi ci di (by decide) ?_
      have I5 : Inv (G.cx s₀) (ip ++ [(it, oi)]) σ H { s with heap := h' } := I4.pins_of fun q hq => by
        rcases List.mem_append.mp hq with z | z
        · exact I4.pin q (List.mem_append_right _ z)
        · rw [List.mem_singleton.mp z]
          exact ⟨eoi, fr, Nat.ne_of_gt young, nfs, fun v q => by rw [di] at q; cases q⟩
      refine wpAny_mono ((hg s₀).run _ _ σ H (V.int kk) u _ I5 ru (turn j kk i _ σ H hkk pv)) (fun _ s6 hh => ?_) fun x s' hx => ee n s₀ x s' seat hx
      obtain ⟨g6, σ6, H6, I6, q6⟩ := hh
      have gm : G.GC (ip ++ [(it, oi)]) (.forLoop (.Name x op) (.ref it) body [] G.env) (.ret (fun r => ((match r with | .ok f => (.pure f : Sem Flow) | .error e => .raise e).onRaise (cameBack G.env)).wrap Kf Je gd lv) none (gd false) (lv []) c p [] :: fs) id := by
        refine ⟨over' _, ?_, ?_, rfl, fun q hq => ?_⟩
        · show (splitAtGen fs).map _ = none
          rw [gc.split]
          rfl
        · show (gd false || fs.any Frame.guarded) = false
          rw [gc.gd, gc.guard]
          rfl
        · rcases List.mem_append.mp hq with z | z
          · exact gc.low q z
          · rw [List.mem_singleton.mp z]
            exact ⟨younga, fun h e => ⟨(j + 1 : Nat), oi, e, ci, di⟩⟩
      have again : ∀ {n' i' : Nat} {s₀' s7 : Shared} {σ7 : L2.St} {H7 : Hp}, n' + i' = G.tot → G.Seat s₀' → s7.gens = s₀'.gens → Inv (G.cx s₀') (ip ++ [(it, oi)]) σ7 H7 s7 → Pv (j + 1) i' (G.hx s₀') σ7 H7 →
          Seg G.md G.A G.R G.Y n' s₀' (.forLoop (.Name x op) (.ref it) body [] G.env) (.pure (.again (.forLoop (.Name x op) (.ref it) body [] G.env)))
            (.ret (fun r => ((match r with | .ok f => (.pure f : Sem Flow) | .error e => .raise e).onRaise (cameBack G.env)).wrap Kf Je gd lv) none (gd false) (lv []) c p [] :: fs) s7 := fun {n' i' s₀' s7 σ7 H7} hn' seat' hg' I7 pv7 => by
        have z := I7.pin (it, oi) (List.mem_append_right _ (List.mem_append_right _ (List.mem_singleton.mpr rfl)))
        exact seg_again rfl (ih (j + 1) n' i' s₀' s7 σ7 H7 (by omega) hn' pv7 ⟨oi, z.1, ci, di⟩ z.2.1 seat' hg' I7.unpinned)
      refine hb.run (ip ++ [(it, oi)]) n i s₀ _ _ _ _ id id s6 σ6 H6 { D with nx := Pv (j + 1), ct := Pv (j + 1), bk := D.nx } gm hn ⟨fun n' i' s₀' s3 fl hn' seat' hg' hs => ?_, fun n' s₀' x s3 seat' hx => ee n' s₀' x s3 seat' hx⟩ seat (g6.trans hgs) I6 q6
      match fl, hs with
      | .next, ⟨σ3, H3, I3, n3⟩ => exact again hn' seat' hg' I3 n3
      | .cont, ⟨σ3, H3, I3, n3⟩ => exact again hn' seat' hg' I3 n3
      | .brk, ⟨σ3, H3, I3, n3⟩ => exact seg_leaf (.ok .next) (k.ok n' i' s₀' s3 .next hn' seat' hg' ⟨σ3, H3, I3.unpinned, n3⟩)
      | .ret v, ⟨x3, σ3, H3, I3, r3, n3⟩ => exact seg_leaf (.ok (.ret v)) (k.ok n' i' s₀' s3 (.ret v) hn' seat' hg' ⟨x3, σ3, H3, I3.unpinned, r3, n3⟩)
  exact loop G.ns.length 0 n i s₀ _ σ H1 (Nat.zero_add _) hn p0 is0 free seat g1 I2
def tLIf (c : TT) (t u : TGL) : TGL := fun D i Hb σ H => c σ H fun b H1 => if b = true then t D i Hb σ H1 else u D i Hb σ H1
theorem x_if {ce : Expr} {a b : List Stmt} {pos : Pos} {tc : TT} {t u : TGL} (hc : ∀ s₀, GT (G.cx s₀) ce tc) (ha : XSs G a t) (hb : XSs G b u) : XS G (.If ce a b pos) (tLIf tc t u) := by
  refine ⟨fun ip n i s₀ c fs Kf Je gd lv s σ H D gc hn k seat hgs I ht => ?_⟩
  rw [exec_If]
  refine seg_bind_wrap (wpAny_standAt ?_)
  refine seg_bind_wrap ?_
  rw [gc.over]
  refine wpAny_mono ((hc s₀).run ip s σ H _ I ht) (fun d s1 hh => ?_) fun x s' hx => k.exc n s₀ x s' seat hx
  obtain ⟨g1, H1, I1, q1⟩ := hh
  cases d with
  | true => exact ha.run ip n i s₀ c fs Kf Je gd lv s1 σ H1 D gc hn k seat (g1.trans hgs) I1 q1
  | false => exact hb.run ip n i s₀ c fs Kf Je gd lv s1 σ H1 D gc hn k seat (g1.trans hgs) I1 q1
end
end Sq
set_option Elab.async false
set_option linter.all false
set_option maxRecDepth 100000
set_option maxHeartbeats 2000000
namespace Sq
open PySem PySem.Spec PyProof.Rows L2 GenW
structure Vg where
  P : Program
  w : World
  K : PySem.W.Frag
  mg : Str → Option Value
  base : Heap
  N : List Str
  qual : Str
  scope : Scope
  f : Addr
  cd : Value
  A : Around
  outer : List Env
  n0 : Addr
  a : Addr
  go : Obj
  g : Nat
  W : Hp
open Classical in
noncomputable def hxV (h : Heap) (n0 a : Addr) (W : Hp) : Hp := fun b => match W b with | some u => some u | none => if n0 ≤ b ∧ b ≠ a ∧ b ≠ n0 then (h.get? b).map (HidO b) else none
noncomputable abbrev Vg.hx (G : Vg) (s : Shared) : Hp := hxV s.heap G.n0 G.a G.W
noncomputable abbrev Vg.cx (G : Vg) (s : Shared) : Cx := lcx G.P G.w G.K G.mg G.base G.N G.qual G.scope G.f G.cd G.A G.outer G.n0 (cutSh s G.n0) (G.hx s) E0 [(G.a, G.go)]
abbrev Vg.md (G : Vg) : Model := model G.P G.w
abbrev Vg.E0 (G : Vg) (s : Shared) : Prop := Env0 G.P G.w G.K G.mg G.base G.A G.outer s G.W
structure Vg.Ok (G : Vg) : Prop where
  low : ∀ b ∈ frs G.outer, b < G.n0
  na : G.n0 < G.a
  bsz : G.base.objs.size ≤ G.n0
  nocell : ∀ x c, (cellsFrom (G.n0 + 1) G.scope.names []).lookup x ≠ some c
  isG : ∀ h : Heap, h.get? G.a = some G.go → h.IsGen G.a G.g
  wlow : ∀ b u, G.W b = some u → b < G.n0
  wkind : ∀ b u, G.W b = some u → (∃ φ, u = .ext φ) ∨ ∃ xs, u = .lst xs
theorem funs_slotsV {h h' base : Heap} : ∀ {l : List Env}, h.FunFrames base l → (∀ b o, h.get? b = some o → b ∈ frs l → ∃ sl, h'.get? b = some { o with slots := sl }) → h'.FunFrames base l
  | [], _, _ => trivial
  | env :: l, q, k => by
    obtain ⟨hk, ⟨L, o, hf, hn, ho, hd⟩, hr⟩ := q
    have eL : frs (env :: l) = L :: frs l := by
      unfold frs
      rw [List.filterMap_cons, hf]
    rw [eL] at k
    obtain ⟨sl, e⟩ := k L o ho List.mem_cons_self
    exact ⟨hk, ⟨L, _, hf, hn, e, hd⟩, funs_slotsV hr fun b o e hb => k b o e (List.mem_cons_of_mem _ hb)⟩
theorem base_noV {h base : Heap} : ∀ {l : List Env}, h.FunFrames base l → ∀ b o, base.get? b = some o → b ∉ frs l
  | [], _, b, o, e => List.not_mem_nil
  | env :: l, q, b, o, e => by
    obtain ⟨hk, ⟨L, o', hf, hn, ho, hd⟩, hr⟩ := q
    have eL : frs (env :: l) = L :: frs l := by
      unfold frs
      rw [List.filterMap_cons, hf]
    rw [eL]
    intro m
    rcases List.mem_cons.mp m with z | z
    · rw [z, hn] at e
      cases e
    · exact base_noV hr b o e z
section
variable {G : Vg} {σ : L2.St} {H : Hp} {s s₀ s2 : Shared}
theorem hv_W {b : Addr} {u : HO} (e : G.W b = some u) : G.hx s b = some u := by
  show hxV _ _ _ _ _ = _
  unfold hxV
  rw [e]
theorem hv_mine {b : Addr} (hb : G.W b = none) (m : b = G.a ∨ b = G.n0 ∨ b < G.n0) : G.hx s b = none := by
  show hxV _ _ _ _ _ = none
  unfold hxV
  rw [hb]
  show (if _ then _ else _) = none
  rw [if_neg]
  rintro ⟨h1, h2, h3⟩
  rcases m with m | m | m
  · exact h2 m
  · exact h3 m
  · exact absurd h1 (Nat.not_le_of_lt m)
theorem hv_hid {b : Addr} {o : Obj} (hb : G.W b = none) (h1 : G.n0 ≤ b) (h2 : b ≠ G.a) (h3 : b ≠ G.n0) (e : s.heap.get? b = some o) : G.hx s b = some (HidO b o) := by
  show hxV _ _ _ _ _ = _
  unfold hxV
  rw [hb]
  show (if _ then _ else _) = _
  rw [if_pos ⟨h1, h2, h3⟩, e]
  rfl
theorem Vg.Ok.wa (ok : G.Ok) : G.W G.a = none := by
  cases e : G.W G.a with
  | none => rfl
  | some u => exact absurd (Nat.lt_trans ok.na (Nat.lt_of_lt_of_le (ok.wlow _ _ e) (Nat.le_refl _))) (by omega)
theorem Vg.Ok.wn (ok : G.Ok) : G.W G.n0 = none := by
  cases e : G.W G.n0 with
  | none => rfl
  | some u => exact absurd (ok.wlow _ _ e) (Nat.lt_irrefl _)
theorem hv_ok (e : G.E0 s) : HOk G.P G.w (G.hx s) s.heap := fun b u q => by
  cases hb : G.W b with
  | some u' =>
    rw [hv_W hb] at q
    cases q
    exact (e.hok b _ hb).stay (fun _ _ _ z => z) (fun c z => hv_W z) fun c xs z => hv_W z
  | none =>
    have q : hxV s.heap G.n0 G.a G.W b = some u := q
    unfold hxV at q
    rw [hb] at q
    change (if _ then _ else _) = _ at q
    split at q
    · cases r : s.heap.get? b with
      | none => rw [r] at q; cases q
      | some o =>
        rw [r] at q
        cases q
        exact ⟨r, ⟨o, r⟩, fun h1 h2 k1 k => k o k1⟩
    · cases q
/-- the generator, where it is woken -/
theorem wakeV (ok : G.Ok) (I : Inv (G.cx s₀) [] σ H s) (e : G.E0 s2) (own : ∀ b o, (b = G.a ∨ b = G.n0) → s.heap.get? b = some o → s2.heap.get? b = some o) : Inv (G.cx s2) [] σ (G.hx s2) s2 := by
  have low : ∀ {b : Addr}, b < G.n0 → G.W b = none → G.hx s2 b = none := fun {b} lt ne => hv_mine ne (.inr (.inr lt))
  have noC : ∀ {p : Prop} x c, (G.cx s₀).env.cells.lookup x = some c → p := fun x c q => absurd q (ok.nocell x c)
  refine ⟨⟨I.ok.mod, I.ok.kind, I.ok.glob, I.ok.blt, ?_, I.ok.inj, I.ok.has, fun x k h q => noC x k q, I.ok.hd, I.ok.frames, I.ok.stk, fun b z => absurd z List.not_mem_nil, fun b o q => ?_, ?_, fun b o q => List.not_mem_nil, fun b z => absurd z List.not_mem_nil, frames_cut e.funs ok.low, fun b hb => ?_⟩,
    rfl, e.bare, Un.kept fun b u q => (cutH_get.mp q).2, ?_, fun x k q => noC x k q, ?_, fun x k q => noC x k q, fun p hp => ?_, hv_ok e, I.len⟩
  · show (cutH s2.heap G.n0).objs.size ≤ G.n0
    rw [cutH_size]
    exact Nat.min_le_left _ _
  · obtain ⟨h1, h2⟩ := e.bs b o q
    have lt : b < G.n0 := Nat.lt_of_lt_of_le (Heap.lt_size q) ok.bsz
    exact ⟨cutH_get.mpr ⟨lt, h1⟩, low lt h2⟩
  · show G.base.objs.size ≤ (cutH s2.heap G.n0).objs.size
    rw [cutH_size]
    exact Nat.le_min.mpr ⟨ok.bsz, e.bsz⟩
  · exact low (ok.low b hb) (e.frf b hb)
  · obtain ⟨m, ⟨o, es, ep, ho, r⟩, hl⟩ := I.loc
    refine ⟨m, ⟨o, es, ep, own _ _ (.inr rfl) ho, r⟩, fun i x v h1 h2 h3 => ?_⟩
    obtain ⟨u, rv, lk⟩ := hl i x v h1 h2 h3
    refine ⟨u, rv, ?_⟩
    rcases lk with z | ⟨kd, k, q, _⟩
    · exact .inl z
    · exact noC x k q
  · exact hv_mine ok.wn (.inr (.inl rfl))
  · obtain ⟨h1, _, h3, h4, h5⟩ := I.pin p hp
    have z : p = (G.a, G.go) := by
      rcases List.mem_append.mp hp with z | z
      · exact List.mem_singleton.mp z
      · exact absurd z List.not_mem_nil
    rw [z] at h1 h3 h4 h5 ⊢
    exact ⟨own _ _ (.inl rfl) h1, hv_mine ok.wa (.inl rfl), h3, h4, h5⟩
/-- with its list -/
abbrev Vg.x (G : Vg) (al : Addr) (ns : List Int) (tot : Nat) (val : Nat → Int) : Xg := ⟨G.P, G.w, G.K, G.mg, G.base, G.N, G.qual, G.scope, G.f, G.cd, G.A, G.outer, G.n0, G.a, G.go, G.g, al, ns, tot, val⟩
/-- what the code before the list stands has left -/
structure KeptV (G : Vg) (s₀ s : Shared) : Prop where
  os : s.os = s₀.os
  gens : s.gens = s₀.gens
  bare : AllBare s.gens
  keep : ∀ b o, s₀.heap.get? b = some o → b ∉ frs G.outer → b ≠ G.n0 → G.W b = none → s.heap.get? b = some o
  slot : ∀ b o, s₀.heap.get? b = some o → b ∈ frs G.outer → ∃ sl, s.heap.get? b = some { o with slots := sl }
  hokW : HOk G.P G.w G.W s.heap
  there : ∃ o es ep, s.heap.get? G.n0 = some o ∧ o.data = .dict es ep
theorem keptV_of (ok : G.Ok) (e0 : G.E0 s₀) (I : Inv (G.cx s₀) [] σ H s) (sm : Same (G.hx s₀) H) (gens : s.gens = s₀.gens) (hgo : s₀.heap.get? G.a = some G.go) : KeptV G s₀ s := by
  refine ⟨I.os, gens, I.bare, fun b o q nf nm na => ?_, fun b o q hf => ?_, fun b u q => ?_, ?_⟩
  · by_cases lt : b < G.n0
    · exact I.base.keep b o (cutH_get.mpr ⟨lt, q⟩) (hv_mine na (.inr (.inr lt))) nf List.not_mem_nil
    · by_cases ba : b = G.a
      · subst ba
        rw [hgo] at q
        cases q
        exact (I.pin (G.a, G.go) (List.mem_append_left _ (List.mem_singleton.mpr rfl))).1
      · exact (I.hok b _ (sm _ _ (hv_hid na (Nat.le_of_not_lt lt) ba nm q))).1
  · have lt := ok.low b hf
    exact I.base.slot b o (cutH_get.mpr ⟨lt, q⟩) (hv_mine (e0.frf b hf) (.inr (.inr lt))) hf List.not_mem_nil
  · have x := I.hok b u (sm _ _ (hv_W q))
    rcases ok.wkind b u q with ⟨φ, rfl⟩ | ⟨xs, rfl⟩
    · exact x
    · obtain ⟨z, its, n, r, e⟩ := x
      exact ⟨z, its, n, r, e⟩
  · obtain ⟨m, ⟨o, es, ep, ho, r⟩, hl⟩ := I.loc
    exact ⟨o, es, ep, ho, r.1⟩
/-- the list is new -/
theorem list_new (ok : G.Ok) (I : Inv (G.cx s₀) [] σ H s) (sm : Same (G.hx s₀) H) {al : Addr} {ns : List Int} (hal : H al = some (.lst (ns.map V.int))) (nal : G.hx s₀ al = none) : s₀.heap.get? al = none ∧ al ≠ G.n0 ∧ al ≠ G.a := by
  have n1 : al ≠ G.n0 := fun z => by
    have := I.free
    rw [show (G.cx s₀).env.locals = G.n0 from rfl, ← z, hal] at this
    cases this
  have n2 : al ≠ G.a := fun z => by
    have := (I.pin (G.a, G.go) (List.mem_append_left _ (List.mem_singleton.mpr rfl))).2.1
    rw [← z, hal] at this
    cases this
  refine ⟨?_, n1, n2⟩
  cases e : s₀.heap.get? al with
  | none => rfl
  | some o =>
    have wn : G.W al = none := by
      cases w : G.W al with
      | none => rfl
      | some u => rw [hv_W w] at nal; cases nal
    by_cases lt : al < G.n0
    · have := I.base.free al o (cutH_get.mpr ⟨lt, e⟩) nal List.not_mem_nil
      rw [hal] at this
      cases this
    · rw [hv_hid wn (Nat.le_of_not_lt lt) n2 n1 e] at nal
      cases nal
theorem list_stands (ok : G.Ok) (e0 : G.E0 s₀) (I : Inv (G.cx s₀) [] σ H s) (sm : Same (G.hx s₀) H) (gens : s.gens = s₀.gens) (hgo : s₀.heap.get? G.a = some G.go) {al : Addr} {ns : List Int} (tot : Nat) (val : Nat → Int) (hal : H al = some (.lst (ns.map V.int))) (nal : G.hx s₀ al = none) :
    (G.x al ns tot val).Ok ∧ (G.x al ns tot val).Seat s ∧ Inv ((G.x al ns tot val).cx s) [] σ ((G.x al ns tot val).hx s) s := by
  obtain ⟨new, n1, n2⟩ := list_new ok I sm hal nal
  have kv := keptV_of ok e0 I sm gens hgo
  have okx : (G.x al ns tot val).Ok := ⟨ok.low, ⟨n1, n2⟩, ok.na, ok.bsz, ok.nocell, ok.isG⟩
  have noB : ∀ b o, G.base.get? b = some o → b ≠ al := fun b o q z => by
    have := (e0.bs b o q).1
    rw [z, new] at this
    cases this
  have e1 : (G.x al ns tot val).E0 s := by
    refine ⟨e0.frames, e0.mod, fun b o q => ⟨?_, alH_ne (noB b o q)⟩, ?_, funs_slotsV e0.funs kv.slot, fun b hb => alH_ne fun z => ?_, fun b u q => ?_, kv.bare⟩
    · obtain ⟨h1, h2⟩ := e0.bs b o q
      exact kv.keep b o h1 (base_noV e0.funs b o q) (fun z => absurd (Nat.lt_of_lt_of_le (Heap.lt_size q) ok.bsz) (by rw [z]; exact Nat.lt_irrefl _)) h2
    · obtain ⟨o, _, _, q, _⟩ := kv.there
      exact Nat.le_trans ok.bsz (Nat.le_of_lt (Heap.lt_size q))
    · have := I.stkFree b (List.mem_cons_of_mem _ hb)
      rw [z, hal] at this
      cases this
    · by_cases hb : b = al
      · subst hb
        rw [alH_at] at q
        cases q
        obtain ⟨z, its, m, r, eo'⟩ := I.hok b _ hal
        exact ⟨z, its, m, r, eo'⟩
      · rw [alH_ne hb] at q
        cases q
  have go1 : s.heap.get? G.a = some G.go := (I.pin (G.a, G.go) (List.mem_append_left _ (List.mem_singleton.mpr rfl))).1
  refine ⟨okx, ⟨e1, go1⟩, ?_⟩
  have low : ∀ {b : Addr}, b < G.n0 → b ≠ al → (G.x al ns tot val).hx s b = none := fun {b} lt ne => hx_mine ne (.inr (.inr lt))
  have noC : ∀ {p : Prop} x c, (G.cx s₀).env.cells.lookup x = some c → p := fun x c q => absurd q (ok.nocell x c)
  refine ⟨⟨I.ok.mod, I.ok.kind, I.ok.glob, I.ok.blt, ?_, I.ok.inj, I.ok.has, fun x k h q => noC x k q, I.ok.hd, I.ok.frames, I.ok.stk, fun b z => absurd z List.not_mem_nil, fun b o q => ?_, ?_, fun b o q => List.not_mem_nil, fun b z => absurd z List.not_mem_nil, frames_cut e1.funs ok.low, fun b hb => ?_⟩,
    rfl, e1.bare, Un.kept fun b u q => (cutH_get.mp q).2, ?_, fun x k q => noC x k q, ?_, fun x k q => noC x k q, fun p hp => ?_, hx_ok e1, I.len⟩
  · show (cutH s.heap G.n0).objs.size ≤ G.n0
    rw [cutH_size]
    exact Nat.min_le_left _ _
  · obtain ⟨h1, h2⟩ := e1.bs b o q
    have lt : b < G.n0 := Nat.lt_of_lt_of_le (Heap.lt_size q) ok.bsz
    exact ⟨cutH_get.mpr ⟨lt, h1⟩, low lt (noB b o q)⟩
  · show G.base.objs.size ≤ (cutH s.heap G.n0).objs.size
    rw [cutH_size]
    exact Nat.le_min.mpr ⟨ok.bsz, e1.bsz⟩
  · refine low (ok.low b hb) fun z => ?_
    have := e1.frf b hb
    rw [z, alH_at] at this
    cases this
  · obtain ⟨m, ⟨o, es, ep, ho, r⟩, hl⟩ := I.loc
    refine ⟨m, ⟨o, es, ep, ho, r⟩, fun i x v h1 h2 h3 => ?_⟩
    obtain ⟨u, rv, lk⟩ := hl i x v h1 h2 h3
    refine ⟨u, rv, ?_⟩
    rcases lk with z | ⟨kd, k, q, _⟩
    · exact .inl z
    · exact noC x k q
  · exact hx_mine n1.symm (.inr (.inl (.inl rfl)))
  · obtain ⟨h1, _, h3, h4, h5⟩ := I.pin p hp
    have z : p = (G.a, G.go) := by
      rcases List.mem_append.mp hp with z | z
      · exact List.mem_singleton.mp z
      · exact absurd z List.not_mem_nil
    rw [z] at h1 h3 h4 h5 ⊢
    exact ⟨h1, hx_mine n2.symm (.inl rfl), h3, h4, h5⟩
end
end Sq
set_option Elab.async false
set_option linter.all false
set_option maxRecDepth 100000
set_option maxHeartbeats 2000000
namespace Sq
open PySem PySem.Spec PyProof.Rows L2 GenW
abbrev SpV := List V → Hp → List Int → Nat → (Nat → Int) → Prop
/-- the end of the first segment -/
def Vg.Φ (G : Vg) (ns : List Int) (tot : Nat) (val : Nat → Int) (s₀ : Shared) (e : End) (s' : Shared) : Prop := ∃ (al : Addr) (s₁ : Shared), KeptV G s₀ s₁ ∧ s₀.heap.get? al = none ∧ (G.x al ns tot val).Ok ∧ (G.x al ns tot val).E0 s₁ ∧
  SegEnd (G.x al ns tot val).R (G.x al ns tot val).Y tot (Seg.next G.md G.A (G.x al ns tot val).R (G.x al ns tot val).Y tot) s₁ e s'
def VMade (P : Program) (w : World) (K : PySem.W.Frag) (mg : Str → Option Value) (base : Heap) (k : Nat) (outer : List Env) (s : Shared) (W : Hp) (ns : List Int) (tot : Nat) (val : Nat → Int) (u : Value) (s' : Shared) : Prop :=
  ∃ (a : Addr) (code : Code), u = .ref a ∧ s.heap.objs.size < a ∧ s'.heap.IsGen a s.gens.size ∧ s'.gens = s.gens.push (.fresh code) ∧ s'.os = s.os ∧ s'.heap.NoLimit ∧ (∀ b o, s.heap.get? b = some o → s'.heap.get? b = some o) ∧ (∃ o es ep, s'.heap.get? s.heap.objs.size = some o ∧ o.data = .dict es ep) ∧ (GenState.fresh code).bare = true ∧ s'.heap.objs.size = a + 1 ∧
    ∀ (A : Around), Room k A → A.frames = some outer →
      ∃ G : Vg, G.Ok ∧ G.P = P ∧ G.w = w ∧ G.K = K ∧ G.mg = mg ∧ G.base = base ∧ G.A = A ∧ G.outer = outer ∧ G.n0 = s.heap.objs.size ∧ G.a = a ∧ G.g = s.gens.size ∧ G.W = W ∧ ∀ s2, G.E0 s2 → (∀ b o, (b = a ∨ b = s.heap.objs.size) → s'.heap.get? b = some o → s2.heap.get? b = some o) → SegT G.md G.A (G.Φ ns tot val s2) code (G.md.den code) [] s2
structure GFnV (P : Program) (w : World) (K : PySem.W.Frag) (mg : Str → Option Value) (base : Heap) (k : Nat) (f : Addr) (fd : FuncData) (ps : List Str) (sp : SpV) : Prop where
  len : ∀ vs W ns tot val, sp vs W ns tot val → vs.length = ps.length
  run : ∀ (A : Around) (outer : List Env) (s : Shared) (args : Args) (us : List Value) (vs : List V) (W : Hp) (ns : List Int) (tot : Nat) (val : Nat → Int), Room k A → Env0 P w K mg base A outer s W → BindsTo s fd args (ps.zip us) → Vals vs us → sp vs W ns tot val →
    codeAny (model P w) A (.call (.ref f) args) (fun r s' => match r with | .ok (.ret u) => VMade P w K mg base k outer s W ns tot val u s' | _ => False) s
theorem hv_start {G : Vg} {s : Shared} (h : G.n0 = s.heap.objs.size) : G.hx s = G.W := by
  funext b
  show hxV _ _ _ _ _ = _
  unfold hxV
  cases hb : G.W b with
  | some u => rfl
  | none =>
    show (if _ then _ else _) = _
    split
    · rename_i c
      cases e : s.heap.get? b with
      | none => rfl
      | some o =>
        have := Heap.lt_size e
        rw [← h] at this
        exact absurd this (Nat.not_lt_of_le c.1)
    · rfl
theorem x_loopT {G : Xg} (ok : G.Ok) {x : Str} {op : Pos} {body : List Stmt} {g : TG} {tb : TGL} (hcalm : (G.A.deeper G.env).handled = none) (hg : ∀ s₀, GG (G.cx s₀) (.Name x op) g) (hb : XSs G body tb) {ip : List (Addr × Obj)} {n i : Nat} {s₀ s1 : Shared} {c : Code} {fs : List Frame} {Kf : Flow → Sem PySem.Fin} {Je : Value → Sem PySem.Fin}
    {gd : Bool → Bool} {lv : List Value → List Value} {σ : L2.St} {H1 : Hp} {D : GEndL} {Pv : Nat → Nat → Hp → L2.St → Hp → Prop} {Φ : End → Shared → Prop} (gc : G.GC ip c fs gd) (hn : n + i = G.tot) (k : G.GK ip c fs Kf Je D) (seat : G.Seat s₀) (g1 : s1.gens = s₀.gens) (I1 : Inv (G.cx s₀) ip σ H1 s1) (p0 : Pv 0 i (G.hx s₀) σ H1)
    (hal : ∀ j i Hb σ H, Pv j i Hb σ H → H G.al = some (.lst (G.ns.map V.int))) (turn : ∀ j k i Hb σ H, G.ns[j]? = some k → Pv j i Hb σ H → g (.int k) σ H fun σ2 H2 => tb { D with nx := Pv (j + 1), ct := Pv (j + 1), bk := D.nx } i Hb σ2 H2) (fin : ∀ i Hb σ H, Pv G.ns.length i Hb σ H → D.nx i Hb σ H) {E : Value → Shared → Prop}
    (hΦ : ∀ e s', SegEnd G.R G.Y n (Seg.next G.md G.A G.R G.Y n) s₀ e s' → Φ e s') :
    wpAny G.md (G.A.deeper G.env) (pyIter (.ref G.al)) (fun itv s2 => ∀ p, SegT G.md G.A Φ (.forLoop (.Name x op) itv body [] G.env) (G.md.den (.forLoop (.Name x op) itv body [] G.env))
      (.ret (fun r => ((match r with | .ok f => (.pure f : Sem Flow) | .error e => .raise e).onRaise (cameBack G.env)).wrap Kf Je gd lv) none (gd false) (lv []) c p [] :: fs) s2) E s1 :=
  wpAny_mono (x_loop ok hcalm hg hb gc hn k seat g1 I1 p0 hal turn fin) (fun itv s2 h p => segT_of (h p) hΦ) fun _ _ z => z
theorem vfn_of {P : Program} {w : World} {K : PySem.W.Frag} {mg : Str → Option Value} {base : Heap} {k : Nat} {f : Addr} {name qual : Str} {params : Arguments} {body : List Stmt} {scope : Scope} {dV kV doc pm cdv ct oc : Value} {an od : Option Addr}
    {osl : Array (Option Value)} {N ps : List Str} {sp : SpV} {x : Str} {op fpos : Pos} {iter : Expr} {bodyF : List Stmt} (found : K.lookup f = some ⟨oc, od, .func (PySem.W.fnOf name qual params body scope dV kV doc pm an cdv ct), osl⟩) (coded : PySem.W.codeIn K cdv qual = true) (S : GScope N ps scope)
    (nocell : ∀ n x c, (cellsFrom n scope.names []).lookup x ≠ some c) (hbody : body = [.For (.Name x op) iter bodyF [] fpos]) (len : ∀ vs W ns tot val, sp vs W ns tot val → vs.length = ps.length) (kind : ∀ vs W ns tot val, sp vs W ns tot val → ∀ b u, W b = some u → (∃ φ, u = .ext φ) ∨ ∃ xs, u = .lst xs) (hsf : ∀ env y, foldedSetIterable iter env y = pure y)
    (inner : ∀ (G : Vg) (ns : List Int) (tot : Nat) (val : Nat → Int) (vs : List V), G.Ok → G.P = P → G.w = w → G.K = K → G.mg = mg → G.base = base → G.N = N → G.qual = qual → G.scope = scope → Room k (G.A.deeper (envOfC qual scope G.n0 G.f G.cd)) → sp vs G.W ns tot val →
      ∃ (te : TE) (g : TG) (tb : Addr → TGL), (∀ s₀, GE (G.cx s₀) iter te) ∧ (∀ al s₀, GG ((G.x al ns tot val).cx s₀) (.Name x op) g) ∧ (∀ al, (G.x al ns tot val).Ok → XSs (G.x al ns tot val) bodyF (tb al)) ∧
        (∀ Hb : Hp, (∀ b u, G.W b = some u → Hb b = some u) → te (start N vs) Hb fun v H1 => ∃ al, v = .ref al ∧ H1 al = some (.lst (ns.map V.int)) ∧ Hb al = none ∧ Same Hb H1) ∧
        ∀ (al : Addr) (Hb : Hp), Hb al = some (.lst (ns.map V.int)) → ∃ Pv : Nat → Nat → Hp → L2.St → Hp → Prop, Pv 0 0 Hb (start N vs) Hb ∧ (∀ j i Hb σ H, Pv j i Hb σ H → H al = some (.lst (ns.map V.int))) ∧
          (∀ j k i Hb σ H, ns[j]? = some k → Pv j i Hb σ H → g (.int k) σ H fun σ2 H2 => tb al { nx := Pv (j + 1), ct := Pv (j + 1), bk := fun i Hb _ H => i = tot ∧ Same Hb H, rt := fun _ _ _ _ => False } i Hb σ2 H2) ∧ ∀ i Hb σ H, Pv ns.length i Hb σ H → i = tot ∧ Same Hb H) :
    GFnV P w K mg base (k + 1) f (PySem.W.fnOf name qual params body scope dV kV doc pm an cdv ct) ps sp := by
  refine ⟨len, fun A outer s args us vs W ns tot val room e0 bound rel wish => ?_⟩
  have few := len _ _ _ _ _ wish
  have inK : K.In s.heap := e0.mod.kin.keeps fun b o e => (e0.bs b o e).1
  have noLim : s.heap.NoLimit := e0.mod.nolimit.keeps fun b o e => (e0.bs b o e).1
  have kinds : ∀ y ∈ ps.zip us, scope.names.lookup y.1 = some .local ∨ (scope.names.lookup y.1 = some .cell ∧ ((cellsFrom (s.heap.objs.size + 1) scope.names []).lookup y.1).isSome = true) := fun ⟨n, v⟩ hy =>
    (S.par n (List.of_mem_zip hy).1).elim .inl fun z => .inr ⟨z, PySem.W.cellsFrom_some _ _ _ (.inl z)⟩
  refine codeAny_call_generator room.depth (inK _ _ found) rfl S.co S.gen rfl (PySem.W.codeRec_of inK coded) (bound _ _ _ _ ?_)
  refine wpAny_newFunctionEnv_cells S.kind kinds fun env he s1 made => ?_
  subst he
  have lim1 : s1.heap.NoLimit := noLim.keeps made.toInCall.keep
  refine ⟨lim1, ?_⟩
  obtain ⟨h1, tk, es1, keep1⟩ := made.done
  have os1 : s1.os = s.os := by rw [es1]
  have gen1 : s1.gens = s.gens := by rw [es1]
  have lt1 : s.heap.objs.size < s1.heap.objs.size := made.toInCall.ns.lt
  have keepS : ∀ b o, s.heap.get? b = some o → s1.heap.get? b = some o := made.toInCall.keep
  suffices main : ∀ (go : Obj) (nm qn : Value) (tk2 : Nat), go.cls = .type "generator" → go.data = .fields #[.int s1.gens.size 0, nm, qn] → go.slots = #[] → (∀ h : Heap, (h.push go).get? h.objs.size = some go) →
      VMade P w K mg base (k + 1) outer s W ns tot val (.ref s1.heap.objs.size) { s1 with gens := s1.gens.push (.fresh (.func body (envOfC qual scope s.heap.objs.size f cdv))), toks := tk2, heap := s1.heap.push go } from
    main _ _ _ _ rfl rfl rfl fun h => Heap.get?_push_size _ rfl
  intro go nm qn tk2 isG dataG slotsG pushG
  have isGen : ∀ h : Heap, h.get? s1.heap.objs.size = some go → h.IsGen s1.heap.objs.size s.gens.size := fun h e => ⟨go, nm, qn, e, isG, by rw [dataG, gen1], slotsG⟩
  have ns1 := made.toInCall.ns
  refine ⟨s1.heap.objs.size, _, rfl, lt1, isGen _ (pushG _), by rw [← gen1], os1, lim1.keeps fun b o e => Heap.get?_push_of_some _ e, fun b o e => Heap.get?_push_of_some _ (keepS b o e), ?_, rfl, Heap.size_push .., ?_⟩
  · obtain ⟨o, es, ep, ho, r⟩ := id ns1
    exact ⟨o, es, ep, Heap.get?_push_of_some _ ho, r.1⟩
  · intro Aw roomW framesW
    obtain ⟨G, eG⟩ : ∃ G : Vg, G = ⟨P, w, K, mg, base, N, qual, scope, f, cdv, Aw, outer, s.heap.objs.size, s1.heap.objs.size, go, s.gens.size, W⟩ := ⟨_, rfl⟩
    have ok : G.Ok := by
      subst eG
      exact ⟨fun b hb => by obtain ⟨_, o, ho, _⟩ := e0.funs.mem hb; exact Heap.lt_size ho, lt1, e0.bsz, nocell _, isGen, fun b u q => (e0.hok b u q).lt, kind _ _ _ _ _ wish⟩
    refine ⟨G, ok, by rw [eG], by rw [eG], by rw [eG], by rw [eG], by rw [eG], by rw [eG], by rw [eG], by rw [eG], by rw [eG], by rw [eG], by rw [eG], fun s2 e2' own => ?_⟩
    obtain ⟨te, g, tb, he, hg, hb, rd0, rd⟩ := inner G ns tot val vs ok (by rw [eG]) (by rw [eG]) (by rw [eG]) (by rw [eG]) (by rw [eG]) (by rw [eG]) (by rw [eG]) (by rw [eG]) (by rw [eG]; exact roomW.deeper _) (by rw [eG]; exact wish)
    have e0w : Env0 P w K mg base Aw outer s W := ⟨framesW, e0.mod, e0.bs, e0.bsz, e0.funs, e0.frf, e0.hok, e0.bare⟩
    have I1 : Inv (gcxOf P w K mg base N qual scope f cdv Aw outer s W E0 []) [] (start N vs) W s1 := inv_startG S roomW.hd e0w few rel made
    have keepP : ∀ b o, s1.heap.get? b = some o → (s1.heap.push go).get? b = some o := fun b o e => Heap.get?_push_of_some _ e
    obtain ⟨s', es'⟩ : ∃ s' : Shared, s' = { s1 with gens := s1.gens.push (.fresh (.func body (envOfC qual scope s.heap.objs.size f cdv))), toks := tk2, heap := s1.heap.push go } := ⟨_, rfl⟩
    have I2 : Inv (gcxOf P w K mg base N qual scope f cdv Aw outer s W E0 []) [] (start N vs) W s' := by
      rw [es']
      exact I1.call' (ch := []) rfl (Un.kept keepP) (I1.hok.kept keepP) (AllBare.push (by rw [gen1]; exact e0.bare) rfl) fun b z => by simp at z
    have I3 : Inv (gcxOf P w K mg base N qual scope f cdv Aw outer s W E0 [(s1.heap.objs.size, go)]) [] (start N vs) W s' := Inv.pinnedG I2 fun p hp => by
      have hp' : p = (s1.heap.objs.size, go) := by simpa using hp
      rw [hp', es']
      exact ⟨pushG _, I1.hok.fresh (Nat.le_refl _), Nat.ne_of_gt lt1, I1.nofs (Nat.le_refl _), fun v q => by rw [dataG] at q; cases q⟩
    have I4 := inv_lcx I3
    have ecx : G.cx s = lcx P w K mg base N qual scope f cdv Aw outer s.heap.objs.size s W E0 [(s1.heap.objs.size, go)] := by
      have h1 : G.hx s = G.W := hv_start (by rw [eG])
      show lcx G.P G.w G.K G.mg G.base G.N G.qual G.scope G.f G.cd G.A G.outer G.n0 (cutSh s G.n0) (G.hx s) E0 [(G.a, G.go)] = _
      rw [h1, eG]
      show lcx P w K mg base N qual scope f cdv Aw outer s.heap.objs.size (cutSh s s.heap.objs.size) W E0 [(s1.heap.objs.size, go)] = _
      rw [cutS_all (Nat.le_refl _)]
    rw [← ecx] at I4
    have own' : ∀ b o, (b = G.a ∨ b = G.n0) → s'.heap.get? b = some o → s2.heap.get? b = some o := by
      rw [eG, es']
      exact own
    have I5 := wakeV ok I4 e2' own'
    have hgo : s2.heap.get? G.a = some G.go := own' G.a _ (.inl rfl) (by rw [eG, es']; exact pushG _)
    have rdp := rd0 (G.hx s2) fun b u q => hv_W q
    have calm : (G.A.deeper (G.x s.heap.objs.size ns tot val).env).handled = none := by rw [eG]; exact (roomW.deeper _).hd
    have ecode : (.func body (envOfC qual scope s.heap.objs.size f cdv) : Code) = .func [.For (.Name x op) iter bodyF [] fpos] (G.x s.heap.objs.size ns tot val).env := by rw [eG, hbody]
    rw [ecode]
    refine segT_func (segT_cons (segT_for ?_ (hsf _)))
    rw [over_func]
    have leave : ∀ (n : Nat) (s₀ : Shared) (e : Value) (s4 : Shared) (X : Cx), True := fun _ _ _ _ _ => trivial
    clear leave
    refine wpAny_mono ((he s2).run [] s2 (start N vs) _ _ I5 rdp) (fun v s3 h3 => ?_) fun y s4 hx => ?_
    · obtain ⟨g3, y, H3, I6, rv, al, ey, hal, nal, sm⟩ := h3
      subst ey
      obtain rfl : v = Value.ref al := rv
      obtain ⟨okx, seat, I7⟩ := list_stands ok e2' I6 sm g3 hgo tot val hal nal
      have new := (list_new ok I6 sm hal nal).1
      have kv := keptV_of ok e2' I6 sm g3 hgo
      obtain ⟨Pv, p0, hl, turn, fin⟩ := rd al ((G.x al ns tot val).hx s3) hx_al
      refine x_loopT (G := G.x al ns tot val) (D := { nx := fun i Hb _ H => i = tot ∧ Same Hb H, rt := fun _ _ _ _ => False }) (gd := id) (lv := id) okx calm (hg al) (hb al okx) (ip := []) (n := tot) (i := 0) (s₀ := s3) (fs := []) ⟨over_func, rfl, rfl, rfl, fun p z => absurd z List.not_mem_nil⟩ rfl ⟨fun n i s₀ s4 fl hn seat hg hs => ?_, fun n s₀ e s4 seat hx => ?_⟩ seat rfl I7 p0 hl turn fin fun e s' he => ⟨al, s3, kv, new, okx, seat.1, he⟩
      · match fl, hs with
        | .next, ⟨σ', H', I', hi, sm⟩ => exact seg_execs_nil (seg_end (.ok (.ret .none)) ⟨.inl rfl, (show n = 0 by have hn' : n + i = tot := hn; omega), keepx_of okx seat.1 I' sm hg seat.2⟩)
        | .brk, ⟨_, _, _, q⟩ => exact False.elim q
        | .cont, ⟨_, _, _, q⟩ => exact False.elim q
        | .ret u, ⟨_, _, _, _, _, q⟩ => exact False.elim q
      · refine seg_wrap ?_
        rw [over_func]
        refine wpAny_mono hx (fun _ s'' q => ?_) fun _ s'' q => q.elim
        obtain ⟨a', B, H', cls, d, _, _, _, _, _, _, _, z⟩ := q.1
        exact z.elim
    · refine segT_wrap ?_
      rw [over_func]
      refine wpAny_mono hx (fun _ s'' q => ?_) fun _ s'' q => q.elim
      obtain ⟨a', B, H', cls, d, _, _, _, _, _, _, _, z⟩ := q.1
      exact z.elim
end Sq
set_option Elab.async false
set_option linter.all false
set_option maxRecDepth 100000
set_option maxHeartbeats 2000000
namespace Sq
open PySem PySem.Spec PyProof.Rows L2 GenW
section
variable {P : Program} {w : World} {A : Around} {E : Value → Shared → Prop} {s : Shared}
/-- next of a generator that lets nothing out but its end -/
theorem nextOf_gen {a : Addr} {g n : Nat} {gs : GenState} {R : GenEnd} {Y : Protocol} {Q : Value → Shared → Prop} (hh : A.handled = none) (hl : s.heap.NoLimit) (hroom : A.depth < recursionLimit) (hg : s.heap.IsGen a g) (hgs : s.gens[g]? = some gs)
    (hgo : gs.Goes (model P w) A.in1 R Y n (.send .none) (s.setGen g .running))
    (hY : ∀ v s₁ gs', gs'.bare = true → Y (n - 1) (s.setGen g .running) v s₁ (fun r' s'' => match n with
        | 0 => False
        | m + 1 => gs'.Goes (model P w) A.in1 R Y m r' s'') → Q v (s₁.setGen g gs'))
    (hR : ∀ r s₁, R n (s.setGen g .running) r s₁ → (r = .ok (.ret .none) ∨ r = .ok .next) ∧ ∀ h' e, (∀ b o, s₁.heap.get? b = some o → h'.get? b = some o) → (∃ o, h'.get? e = some o ∧ o.cls = .type "StopIteration") → E (.ref e) { s₁.setGen g .finished with heap := h' }) :
    wpAny (model P w) A (Builtin.SmallTypes.nextOf (.ref a)) Q E s := by
  unfold Builtin.SmallTypes.nextOf
  refine wpAny_bind (wpAny_callSpecial?_slot (name := Str.ofString "__next__") hg.typeIs slot_gen_next (wpAny_call_entry slot_gen_next hg.typeIs entry_gen_next ?_ (args_gen_next _)))
  show wpAny _ A.in1 (Builtin.Generator.genWake (.ref a) (.send .none)) _ _ s
  unfold Builtin.Generator.genWake
  refine wpAny_bind (wpAny_holding (wpAny_genNumber hg (wpAny_bind (wpAny_genState hgs ?_))))
  cases gs with
  | running => exact hgo.elim
  | finished => exact hgo.elim
  | _ =>
    refine wpAny_bind (wpAny_roomToWake hl hroom ?_)
    show wpAny _ A.in1 (.resume g (.send .none) [] _) _ _ s
    refine wpAny_resumeQ hgs hgo (fun x s₁ hx => ?_) (fun v s₁ gs' hb hv => ?_)
    · obtain ⟨hr, fin⟩ := hR x s₁ hx
      have hres : End.result (.ret x) = .returned .none := by
        rcases hr with hr | hr <;> rw [hr] <;> rfl
      first | rw [hres] | simp only [hres]
      show wpAny _ A.in1 (newExc (.type "StopIteration") [] >>= _) _ _ _
      refine wpAny_bind ?_
      simp only [newExc, newTuple]
      refine wpAny_bind (wpAny_newObj_type ?_ (by size_fits))
      refine wpAny_bind (m := firstArgMember _ _) (wpAny_of_eq (a := Value.none) (by first | rfl | (simp only [firstArgMember]; rfl)) ?_)
      refine wpAny_newObj_type ?_ (by size_fits)
      simp only [raiseNew]
      refine wpAny_bind (wpAny_bind (wpAny_handled ?_))
      first | rw [show A.in1.handled = none from hh] | rw [hh]
      refine wpAny_throw ?_
      exact fin _ _ (fun b o hb => Heap.get?_push_of_some _ (Heap.get?_push_of_some _ hb)) ⟨_, Heap.get?_push_size _ rfl, rfl⟩
    · exact wpAny_pure ⟨v, rfl, wpAny_pure (hY v s₁ gs' hb hv)⟩
/-- zip's turn, whatever its two iterators are -/
theorem zip_turn {z TI TO i1 i2 : Addr} {a b : Value} {Q : Value → Shared → Prop} (zTO : z ≠ TO) (hz : IsZip s.heap z TI TO .none) (hTI : IsPair s.heap TI (.ref i1) (.ref i2))
    (first : ∀ h₁, IsZip h₁ z TI TO .ellipsis → Heap.SameBut z s.heap h₁ → wpAny (model P w) A (Builtin.SmallTypes.nextOf (.ref i1)) (fun x s₂ => IsZip s₂.heap z TI TO .ellipsis ∧ IsPair s₂.heap TO a b ∧ ∀ h₃, Heap.SameBut TO s₂.heap h₃ → IsPair h₃ TO x b →
        wpAny (model P w) A (Builtin.SmallTypes.nextOf (.ref i2)) (fun y s₄ => IsZip s₄.heap z TI TO .ellipsis ∧ IsPair s₄.heap TO x b ∧ ∀ h', IsZip h' z TI TO (rawInt s₄.heap.objs.size) → IsPair h' TO x y → IsPair h' s₄.heap.objs.size x y → (∀ c o, c ≠ z → c ≠ TO → s₄.heap.get? c = some o → h'.get? c = some o) → Q (.ref s₄.heap.objs.size) { s₄ with heap := h' })
          (fun e s₄ => IsZip s₄.heap z TI TO .ellipsis ∧ ∀ h, Heap.SameBut z s₄.heap h → E e { s₄ with heap := h }) { s₂ with heap := h₃ })
      (fun e s₂ => IsZip s₂.heap z TI TO .ellipsis ∧ ∀ h, Heap.SameBut z s₂.heap h → E e { s₂ with heap := h }) { s with heap := h₁ }) :
    wpAny (model P w) A (Builtin.«zip.__next__» ⟨[.ref z], []⟩) (fun fin s' => ∃ v, fin = .done (.ret v) ∧ Q v s') E s := by
  show wpAny _ _ (field (.ref z) 2 >>= _) _ _ _
  refine wpAny_bind (wpAny_field hz rfl (x := .bool false) rfl ?_)
  show wpAny _ _ (field (.ref z) 3 >>= _) _ _ _
  refine wpAny_bind (wpAny_field hz rfl (x := .ref TI) rfl ?_)
  refine wpAny_bind (wpAny_seqItems hTI rfl ?_)
  show wpAny _ _ (Builtin.SmallTypes.ownedTupleIsFree (.ref z) >>= _) _ _ _
  refine wpAny_bind ?_
  unfold Builtin.SmallTypes.ownedTupleIsFree
  refine wpAny_bind (wpAny_field hz rfl (x := .none) rfl (wpAny_pure ?_))
  simp only [if_true]
  refine wpAny_bind (wpAny_rule ?_)
  refine wpAny_bind (wpAny_field hz rfl (x := .ref TO) rfl ?_)
  refine wpAny_bind (wpAny_setField_rec hz (by simp) fun h₁ hz₁ hs₁ => ?_)
  replace hz₁ : IsZip h₁ z TI TO .ellipsis := hz₁
  refine wpAny_bind ?_
  simp only [List.zipIdx_cons, List.zipIdx_nil, List.forIn_cons, List.forIn_nil]
  refine wpAny_bind (wpAny_bind (wpAny_onRaise ?_))
  show wpAny _ _ (Builtin.SmallTypes.nextOf (.ref i1) >>= _) _ _ _
  have raised : ∀ (e : Value) (s₂ : Shared), (IsZip s₂.heap z TI TO .ellipsis ∧ ∀ h, Heap.SameBut z s₂.heap h → E e { s₂ with heap := h }) → wpAny (model P w) A (setField (.ref z) 0 .none) (fun _ s' => E e s') E s₂ := fun e s₂ h => by
    obtain ⟨h1, h2⟩ := h
    exact wpAny_setField_rec h1 (by simp) fun h₃ _ hs₃ => h2 h₃ hs₃
  refine wpAny_bind (wpAny_mono (first h₁ hz₁ hs₁) (fun x s₂ hh => wpAny_pure ?_) fun e s₂ hh => ?_)
  · obtain ⟨hz₂, hTO₂, second⟩ := hh
    refine wpAny_bind (wpAny_seqItems hTO₂ rfl ?_)
    refine wpAny_bind (wpAny_updateSeq_pair hTO₂ fun h₃ hTO₃ hs₃ => ?_)
    replace hTO₃ : IsPair h₃ TO x b := hTO₃
    refine wpAny_bind (wpAny_letGo (wpAny_pure ?_))
    refine wpAny_bind (wpAny_bind (wpAny_onRaise ?_))
    show wpAny _ _ (Builtin.SmallTypes.nextOf (.ref i2) >>= _) _ _ _
    refine wpAny_bind (wpAny_mono (second h₃ hs₃ hTO₃) (fun y s₄ hh => wpAny_pure ?_) fun e s₄ hh => ?_)
    · obtain ⟨hz₄, hTO₄, fin⟩ := hh
      refine wpAny_bind (wpAny_seqItems hTO₄ rfl ?_)
      refine wpAny_bind (wpAny_updateSeq_pair hTO₄ fun h₅ hTO₅ hs₅ => ?_)
      replace hTO₅ : IsPair h₅ TO x y := hTO₅
      refine wpAny_bind (wpAny_letGo (wpAny_pure (wpAny_pure ?_)))
      refine wpAny_bind (wpAny_seqItems hTO₅ rfl ?_)
      refine wpAny_bind (wpAny_newTuple ?_)
      have hsz : h₅.objs.size = s₄.heap.objs.size := hs₅.1
      have hz₅ : IsZip h₅ z TI TO .ellipsis := hs₅.extBut _ _ zTO hz₄
      have hzlt : z < h₅.objs.size := Heap.lt_size hz₅
      show wpAny _ _ (Builtin.SmallTypes.ownedTupleHandOut (.ref z) (.ref h₅.objs.size) >>= _) _ _ _
      refine wpAny_bind ?_
      unfold Builtin.SmallTypes.ownedTupleHandOut
      have hz₆ : IsZip (h₅.push { cls := .type "tuple", data := .seq #[x, y] }) z TI TO .ellipsis := Heap.get?_push_of_some _ hz₅
      refine wpAny_bind (wpAny_setField_rec hz₆ (by simp) fun h₇ hz₇ hs₇ => ?_)
      replace hz₇ : IsZip h₇ z TI TO (rawInt h₅.objs.size) := hz₇
      refine wpAny_setField_rec hz₇ (by simp) fun h₈ hz₈ hs₈ => ?_
      replace hz₈ : IsZip h₈ z TI TO (rawInt h₅.objs.size) := hz₈
      have up : ∀ c o, c ≠ z → h₅.get? c = some o → h₈.get? c = some o := fun c o c1 e => hs₈.extBut _ _ c1 (hs₇.extBut _ _ c1 (Heap.get?_push_of_some _ e))
      have hT₈ : IsPair h₈ h₅.objs.size x y := hs₈.extBut _ _ (Nat.ne_of_gt hzlt) (hs₇.extBut _ _ (Nat.ne_of_gt hzlt) (Heap.get?_push_size _ rfl))
      have hTO₈ : IsPair h₈ TO x y := up _ _ (Ne.symm zTO) hTO₅
      rw [hsz] at hz₈ hT₈
      refine wpAny_pure ⟨_, rfl, ?_⟩
      show Q (.ref h₅.objs.size) _
      rw [hsz]
      exact fin h₈ hz₈ hTO₈ hT₈ fun c o c1 c2 e => up c o c1 (hs₅.extBut _ _ c2 e)
    · exact raised e s₄ hh
  · exact raised e s₂ hh
/-- its end -/
def EZ (Q : Option Value → Shared → Prop) (e : Value) (s' : Shared) : Prop := ∃ (b : Addr) (o : Obj), e = .ref b ∧ s'.heap.get? b = some o ∧ o.cls = .type "StopIteration" ∧ Q none s'
/-- next of it -/
theorem next_zip {z TI TO i1 i2 : Addr} {a b : Value} {Q : Option Value → Shared → Prop} (zTO : z ≠ TO) (hz : IsZip s.heap z TI TO .none) (hTI : IsPair s.heap TI (.ref i1) (.ref i2))
    (first : ∀ h₁, IsZip h₁ z TI TO .ellipsis → Heap.SameBut z s.heap h₁ → wpAny (model P w) A.in1 (Builtin.SmallTypes.nextOf (.ref i1)) (fun x s₂ => IsZip s₂.heap z TI TO .ellipsis ∧ IsPair s₂.heap TO a b ∧ ∀ h₃, Heap.SameBut TO s₂.heap h₃ → IsPair h₃ TO x b →
        wpAny (model P w) A.in1 (Builtin.SmallTypes.nextOf (.ref i2)) (fun y s₄ => IsZip s₄.heap z TI TO .ellipsis ∧ IsPair s₄.heap TO x b ∧ ∀ h', IsZip h' z TI TO (rawInt s₄.heap.objs.size) → IsPair h' TO x y → IsPair h' s₄.heap.objs.size x y → (∀ c o, c ≠ z → c ≠ TO → s₄.heap.get? c = some o → h'.get? c = some o) → Q (some (.ref s₄.heap.objs.size)) { s₄ with heap := h' })
          (fun e s₄ => IsZip s₄.heap z TI TO .ellipsis ∧ ∀ h, Heap.SameBut z s₄.heap h → EZ Q e { s₄ with heap := h }) { s₂ with heap := h₃ })
      (fun e s₂ => IsZip s₂.heap z TI TO .ellipsis ∧ ∀ h, Heap.SameBut z s₂.heap h → EZ Q e { s₂ with heap := h }) { s with heap := h₁ }) :
    wpAny (model P w) A (pyNext (.ref z)) Q E s := by
  have hT : s.TypeIs (.ref z) "zip" := ⟨_, hz, rfl⟩
  unfold pyNext
  have inner := zip_turn (A := A.in1) (E := EZ Q) (Q := fun v s' => Q (some v) s') zTO hz hTI first
  refine wpAny_bind (wpAny_attempt (wpAny_callSpecial?_slot (name := Str.ofString "__next__") hT F.slot_zip_next
    (wpAny_call_entry F.slot_zip_next hT F.entry_zip_next (wpAny_mono inner (fun fin s' hh => ?_) fun e s' hh => ?_) (F.args_zip_next_1 _))))
  · obtain ⟨v, rfl, q⟩ := hh
    exact ⟨v, rfl, wpAny_pure q⟩
  · obtain ⟨b', o, rfl, ho, hc, q⟩ := hh
    refine wpAny_bind (wpAny_isInstance (T := "StopIteration") (b := true) ⟨o, ho, hc⟩ isSubtype_stop ?_)
    exact wpAny_pure q
end
end Sq
set_option Elab.async false
set_option linter.all false
set_option maxRecDepth 100000
set_option maxHeartbeats 2000000
namespace Sq
open PySem PySem.Spec PyProof.Rows L2 GenW
/-- what a turn of the generator leaves -/
structure Kept (G : Xg) (s s' : Shared) : Prop where
  os : s'.os = s.os
  gens : ∀ k, k ≠ G.g → s'.gens[k]? = s.gens[k]?
  bare : AllBare s'.gens
  keep : ∀ b o, s.heap.get? b = some o → b ∉ frs G.outer → ¬ Mine s.heap G.n0 G.a G.al b → b ≠ G.al → s'.heap.get? b = some o
  slot : ∀ b o, s.heap.get? b = some o → b ∈ frs G.outer → ∃ sl, s'.heap.get? b = some { o with slots := sl }
  lst : HOk G.P G.w (alH G.al G.ns) s'.heap
  there : ∃ o es ep, s'.heap.get? G.n0 = some o ∧ o.data = .dict es ep
/-- it waits at its n-th item from the end -/
structure Asleep (G : Xg) (n : Nat) (s : Shared) : Prop where
  gen : s.heap.IsGen G.a G.g
  st : ∃ gs, s.gens[G.g]? = some gs ∧ ∀ s2, G.E0 s2 → (∀ b o, (b = G.a ∨ Mine s.heap G.n0 G.a G.al b) → s.heap.get? b = some o → s2.heap.get? b = some o) → gs.Goes G.md G.A G.R G.Y n (.send .none) s2
section
variable {G : Xg} {n : Nat} {s s' s₁ : Shared}
theorem Asleep.keep (a : Asleep G n s) (hg : s'.gens[G.g]? = s.gens[G.g]?) (k : ∀ b o, (b = G.a ∨ Mine s.heap G.n0 G.a G.al b) → s.heap.get? b = some o → s'.heap.get? b = some o) : Asleep G n s' := by
  obtain ⟨⟨o, nm, qn, ho, r⟩, gs, h1, h2⟩ := a
  refine ⟨⟨o, nm, qn, k _ _ (.inl rfl) ho, r⟩, gs, hg.trans h1, fun s2 e own => h2 s2 e fun b o m q => own b o ?_ (k b o m q)⟩
  rcases m with m | m | ⟨m1, j, oi, ei, ri⟩
  · exact .inl m
  · exact .inr (.inl m)
  · exact .inr (.inr ⟨m1, j, oi, k _ _ (.inr (.inr ⟨m1, j, oi, ei, ri⟩)) ei, ri⟩)
theorem funs_slots {h h' base : Heap} : ∀ {l : List Env}, h.FunFrames base l → (∀ b o, h.get? b = some o → b ∈ frs l → ∃ sl, h'.get? b = some { o with slots := sl }) → h'.FunFrames base l
  | [], _, _ => trivial
  | env :: l, q, k => by
    obtain ⟨hk, ⟨L, o, hf, hn, ho, hd⟩, hr⟩ := q
    have eL : frs (env :: l) = L :: frs l := by
      unfold frs
      rw [List.filterMap_cons, hf]
    rw [eL] at k
    obtain ⟨sl, e⟩ := k L o ho List.mem_cons_self
    exact ⟨hk, ⟨L, _, hf, hn, e, hd⟩, funs_slots hr fun b o e hb => k b o e (List.mem_cons_of_mem _ hb)⟩
theorem base_no {h base : Heap} : ∀ {l : List Env}, h.FunFrames base l → ∀ b o, base.get? b = some o → b ∉ frs l
  | [], _, b, o, e => List.not_mem_nil
  | env :: l, q, b, o, e => by
    obtain ⟨hk, ⟨L, o', hf, hn, ho, hd⟩, hr⟩ := q
    have eL : frs (env :: l) = L :: frs l := by
      unfold frs
      rw [List.filterMap_cons, hf]
    rw [eL]
    intro m
    rcases List.mem_cons.mp m with z | z
    · rw [z, hn] at e
      cases e
    · exact base_no hr b o e z
theorem e0_kept (ok : G.Ok) (e : G.E0 s) (k : Kept G s s') : G.E0 s' := by
  refine ⟨e.frames, e.mod, fun b o q => ?_, ?_, funs_slots e.funs k.slot, e.frf, k.lst, k.bare⟩
  · obtain ⟨h1, h2⟩ := e.bs b o q
    have lt : b < G.n0 := Nat.lt_of_lt_of_le (Heap.lt_size q) ok.bsz
    refine ⟨k.keep b o h1 (base_no e.funs b o q) (fun m => ?_) (fun z => ?_), h2⟩
    · rcases m with m | ⟨m, _⟩
      · exact absurd (m ▸ lt) (Nat.lt_irrefl _)
      · exact absurd (Nat.lt_trans lt (Nat.lt_trans ok.na m)) (Nat.lt_irrefl _)
    · rw [z, alH_at] at h2
      cases h2
  · obtain ⟨o, _, _, q, _⟩ := k.there
    exact Nat.le_trans ok.bsz (Nat.le_of_lt (Heap.lt_size q))
theorem e0_heap (e : G.E0 s) (h1 : s'.heap = s.heap) (h2 : AllBare s'.gens) : G.E0 s' := by
  refine ⟨e.frames, e.mod, ?_, ?_, ?_, e.frf, ?_, h2⟩
  · rw [h1]; exact e.bs
  · rw [h1]; exact e.bsz
  · rw [h1]; exact e.funs
  · rw [h1]; exact e.hok
theorem setGen_ne {s : Shared} {g k : Nat} {x : GenState} (h : k ≠ g) : (s.setGen g x).gens[k]? = s.gens[k]? := by
  show (s.gens.setIfInBounds g x)[k]? = _
  rw [Array.getElem?_setIfInBounds_ne (Ne.symm h)]
theorem kept_of (k : KeepX G (s.setGen G.g .running) s₁) {x : GenState} (hx : x.bare = true) : Kept G s (s₁.setGen G.g x) :=
  ⟨k.os, fun j hj => by rw [setGen_ne hj, k.gens, setGen_ne hj], allBare_setGen k.bare hx, k.keep, k.slot, k.lst, k.there⟩
/-- its next item, or its end -/
theorem wake_turn {A : Around} (ok : G.Ok) (as : Asleep G n s) (e : G.E0 s) (eA : G.A = A.in1) (hh : A.handled = none) (hroom : A.depth < recursionLimit) :
    wpAny (model G.P G.w) A (Builtin.SmallTypes.nextOf (.ref G.a)) (fun v s' => ∃ m i, n = m + 1 ∧ n + i = G.tot ∧ (∃ t, v = .int (G.val i) t) ∧ Kept G s s' ∧ Asleep G m s')
      (fun x s' => n = 0 ∧ ∃ b o, x = .ref b ∧ s'.heap.get? b = some o ∧ o.cls = .type "StopIteration" ∧ Kept G s s') s := by
  obtain ⟨isG, gs, hgs, goes⟩ := as
  have lim : s.heap.NoLimit := e.mod.nolimit.keeps fun b o q => (e.bs b o q).1
  have hgl : G.g < s.gens.size := (Array.getElem?_eq_some_iff.mp hgs).1
  have e2 : G.E0 (s.setGen G.g .running) := e0_heap e rfl (allBare_setGen e.bare rfl)
  have go := goes (s.setGen G.g .running) e2 fun b o m q => q
  rw [eA] at go
  refine nextOf_gen hh lim hroom isG hgs go (fun v s₁ gs' hb hv => ?_) fun r s₁ hr => ?_
  · obtain ⟨i, hi, ht, k, back⟩ := hv
    have kt := kept_of k hb
    have e3 := e0_kept ok e kt
    have sz : G.g < s₁.gens.size := by
      rw [k.gens]
      show G.g < (s.setGen G.g .running).gens.size
      rw [setGen_size]
      exact hgl
    cases n with
    | zero => exact (back (s₁.setGen G.g gs') e3 fun b o m q => q).elim
    | succ m =>
      refine ⟨m, i, rfl, by omega, ht, kt, ?_, gs', setGen_at sz, fun s2 e4 own => ?_⟩
      · obtain ⟨o, nm, qn, ho, r⟩ := isG
        have nm' : ¬ Mine s.heap G.n0 G.a G.al G.a := fun z => by
          rcases z with z | ⟨_, j, oi, ei, ci, di⟩
          · exact absurd (z ▸ ok.na) (Nat.lt_irrefl _)
          · rw [ho] at ei
            cases ei
            rw [r.1] at ci
            exact absurd ci (by decide)
        refine ⟨o, nm, qn, kt.keep G.a o ho (fun z => absurd (Nat.lt_trans (ok.low _ z) ok.na) (Nat.lt_irrefl _)) nm' (fun z => ok.alne.2 z.symm), r⟩
      · have b2 := back s2 e4 own
        rw [eA]
        exact b2
  · obtain ⟨h1, rfl, k⟩ := hr
    refine ⟨h1, fun h' b kk hs => ?_⟩
    obtain ⟨o, ho, hc⟩ := hs
    have kt := kept_of k (x := .finished) rfl
    refine ⟨rfl, b, o, rfl, ho, hc, kt.os, kt.gens, kt.bare, fun c u q h1 h2 h3 => kk _ _ (kt.keep c u q h1 h2 h3), fun c u q h => ?_, kt.lst.kept kk, ?_⟩
    · obtain ⟨sl, z⟩ := kt.slot c u q h
      exact ⟨sl, kk _ _ z⟩
    · obtain ⟨o', es, ep, z, d⟩ := kt.there
      exact ⟨o', es, ep, kk _ _ z, d⟩
/-- a consumer that owns nothing of it -/
theorem inv_kept {X : Cx} {pins : List (Addr × Obj)} {σ : L2.St} {H : Hp} (I : Inv X pins σ H s) (ok : G.Ok) (ab : Above X pins G.n0) (eo : G.outer = X.stack) (eP : G.P = X.prog) (ew : G.w = X.w) (k : Kept G s s') (hal : H G.al = some (.lst (G.ns.map V.int))) (free : ∀ b, Mine s.heap G.n0 G.a G.al b → H b = none) : Inv X pins σ H s' := by
  have low : ∀ {b : Addr} {o : Obj}, s.heap.get? b = some o → b ∉ (List.range s.heap.objs.size).filter (fun b => decide (G.n0 ≤ b)) → b < G.n0 := fun {b o} e nm => by
    by_cases lt : b < G.n0
    · exact lt
    · exact absurd (List.mem_filter.mpr ⟨List.mem_range.mpr (Heap.lt_size e), decide_eq_true (Nat.le_of_not_lt lt)⟩) nm
  have nm : ∀ {b : Addr}, b < G.n0 → ¬ Mine s.heap G.n0 G.a G.al b := fun {b} lt m => by
    rcases m with m | ⟨m, _⟩
    · exact absurd (m ▸ lt) (Nat.lt_irrefl _)
    · exact absurd (Nat.lt_trans lt (Nat.lt_trans ok.na m)) (Nat.lt_irrefl _)
  have alNone : ∀ {b : Addr}, H b = none → b ≠ G.al := fun {b} e z => by
    rw [z, hal] at e
    cases e
  have kf : ∀ b o, s.heap.get? b = some o → b ∉ frs X.stack → ¬ Mine s.heap G.n0 G.a G.al b → b ≠ G.al → s'.heap.get? b = some o := by
    rw [← eo]
    exact k.keep
  refine I.call' (ch := (List.range s.heap.objs.size).filter fun b => decide (G.n0 ≤ b)) k.os ⟨fun b o e n nf hx => ?_, fun b o e n hf hx => ?_, fun b o e n hx => n, fun b o e hx => ?_, fun b xs e => e, fun b o u e => e, fun b ps e => ⟨#[], by rw [e]; simp⟩⟩ ?_ k.bare fun b hb => ?_
  · exact kf b o e nf (nm (low e hx)) (alNone n)
  · rw [← eo] at hf
    exact k.slot b o e hf
  · by_cases ha : b = G.al
    · subst ha
      obtain ⟨_, its, _, _, hl⟩ := k.lst G.al _ alH_at
      exact ⟨_, hl⟩
    · by_cases hf : b ∈ frs X.stack
      · rw [← eo] at hf
        obtain ⟨sl, z⟩ := k.slot b o e hf
        exact ⟨_, z⟩
      · exact ⟨o, kf b o e hf (nm (low e hx)) ha⟩
  · intro b u e
    by_cases ha : b = G.al
    · subst ha
      rw [hal] at e
      cases e
      obtain ⟨z, its, m, r, eo'⟩ := k.lst G.al _ alH_at
      exact ⟨z, its, m, r, eo'⟩
    · refine (I.hok b u e).stay (fun c w' hc q => ?_) (fun _ q => q) fun _ _ q => q
      have nf : c ∉ frs X.stack := fun hf => by
        have z := I.stkFree c hf
        rcases hc with hc | hc
        · rw [hc, e] at z
          cases z
        · rw [hc] at z
          cases z
      refine kf c w' q nf (fun m => ?_) fun z => ?_
      · have z := free c m
        rcases hc with hc | hc
        · rw [hc, e] at z
          cases z
        · rw [hc] at z
          cases z
      · rcases hc with hc | hc
        · exact ha (hc ▸ z)
        · rw [z, hal] at hc
          cases hc
  · have le : G.n0 ≤ b := of_decide_eq_true (List.mem_filter.mp hb).2
    refine ⟨.inr (Nat.le_trans ab.young le), Nat.ne_of_gt (Nat.lt_of_lt_of_le ab.loc le), fun x c e z => ?_, fun p hp z => ?_⟩
    · exact absurd z (Nat.ne_of_lt (Nat.lt_of_lt_of_le (ab.cell x c e) le))
    · exact absurd z (Nat.ne_of_lt (Nat.lt_of_lt_of_le (ab.pin p hp) le))
end
end Sq
set_option Elab.async false
set_option linter.all false
set_option maxRecDepth 100000
set_option maxHeartbeats 2000000
namespace Sq
open PySem PySem.Spec PyProof.Rows L2 GenW
section
variable {P : Program} {w : World} {A : Around} {E : Value → Shared → Prop} {s : Shared}
theorem nextOf_genT {a : Addr} {g : Nat} {code : Code} {Φ : End → Shared → Prop} {Q : Value → Shared → Prop} (hh : A.handled = none) (hl : s.heap.NoLimit) (hroom : A.depth < recursionLimit) (hg : s.heap.IsGen a g) (hgs : s.gens[g]? = some (.fresh code))
    (hgo : SegT (model P w) A.in1 Φ code ((model P w).den code) [] (s.setGen g .running)) (quiet : ∀ e s', Φ e s' → e.quiet = true)
    (hY : ∀ v g₀ l₀ k₀ c₀ p₀ fs₀ s₁, Φ (.susp v g₀ l₀ k₀ c₀ p₀ fs₀) s₁ → Q v (s₁.setGen g (End.susp v g₀ l₀ k₀ c₀ p₀ fs₀).genState))
    (hR : ∀ r s₁, Φ (.ret r) s₁ → (r = .ok (.ret .none) ∨ r = .ok .next) ∧ ∀ h' e, (∀ b o, s₁.heap.get? b = some o → h'.get? b = some o) → (∃ o, h'.get? e = some o ∧ o.cls = .type "StopIteration") → E (.ref e) { s₁.setGen g .finished with heap := h' }) :
    wpAny (model P w) A (Builtin.SmallTypes.nextOf (.ref a)) Q E s := by
  unfold Builtin.SmallTypes.nextOf
  refine wpAny_bind (wpAny_callSpecial?_slot (name := Str.ofString "__next__") hg.typeIs slot_gen_next (wpAny_call_entry slot_gen_next hg.typeIs entry_gen_next ?_ (args_gen_next _)))
  show wpAny _ A.in1 (Builtin.Generator.genWake (.ref a) (.send .none)) _ _ s
  unfold Builtin.Generator.genWake
  refine wpAny_bind (wpAny_holding (wpAny_genNumber hg (wpAny_bind (wpAny_genState hgs ?_))))
  refine wpAny_bind (wpAny_roomToWake hl hroom ?_)
  show wpAny _ A.in1 (.resume g (.send .none) [] _) _ _ s
  refine wpAny_resumeT hgs rfl hgo quiet fun e₁ s₁ he => ?_
  cases e₁ with
  | ret x =>
    obtain ⟨hr, fin⟩ := hR x s₁ he
    have hres : End.result (.ret x) = .returned .none := by
      rcases hr with hr | hr <;> rw [hr] <;> rfl
    first | rw [hres] | simp only [hres]
    show wpAny _ A.in1 (newExc (.type "StopIteration") [] >>= _) _ _ _
    refine wpAny_bind ?_
    simp only [newExc, newTuple]
    refine wpAny_bind (wpAny_newObj_type ?_ (by size_fits))
    refine wpAny_bind (m := firstArgMember _ _) (wpAny_of_eq (a := Value.none) (by first | rfl | (simp only [firstArgMember]; rfl)) ?_)
    refine wpAny_newObj_type ?_ (by size_fits)
    simp only [raiseNew]
    refine wpAny_bind (wpAny_bind (wpAny_handled ?_))
    first | rw [show A.in1.handled = none from hh] | rw [hh]
    refine wpAny_throw ?_
    exact fin _ _ (fun b o hb => Heap.get?_push_of_some _ (Heap.get?_push_of_some _ hb)) ⟨_, Heap.get?_push_size _ rfl, rfl⟩
  | susp v g₀ l₀ k₀ c₀ p₀ fs₀ => exact wpAny_pure ⟨v, rfl, wpAny_pure (hY v g₀ l₀ k₀ c₀ p₀ fs₀ s₁ he)⟩
end
/-- it has not begun -/
structure Dozing (G : Vg) (ns : List Int) (tot : Nat) (val : Nat → Int) (s : Shared) : Prop where
  gen : s.heap.IsGen G.a G.g
  st : ∃ code, s.gens[G.g]? = some (.fresh code) ∧ ∀ s2, G.E0 s2 → (∀ b o, (b = G.a ∨ b = G.n0) → s.heap.get? b = some o → s2.heap.get? b = some o) → SegT G.md G.A (G.Φ ns tot val s2) code (G.md.den code) [] s2
/-- what the first turn leaves -/
structure Kept1 (G : Vg) (al : Addr) (ns : List Int) (s s' : Shared) : Prop where
  os : s'.os = s.os
  gens : ∀ k, k ≠ G.g → s'.gens[k]? = s.gens[k]?
  bare : AllBare s'.gens
  keep : ∀ b o, s.heap.get? b = some o → b ∉ frs G.outer → ¬ Mine s.heap G.n0 G.a al b → G.W b = none → s'.heap.get? b = some o
  slot : ∀ b o, s.heap.get? b = some o → b ∈ frs G.outer → ∃ sl, s'.heap.get? b = some { o with slots := sl }
  lst : HOk G.P G.w (alH al ns) s'.heap
  hokW : HOk G.P G.w G.W s'.heap
  there : ∃ o es ep, s'.heap.get? G.n0 = some o ∧ o.data = .dict es ep
  new : s.heap.get? al = none
section
variable {G : Vg} {ns : List Int} {tot : Nat} {val : Nat → Int} {s s' s₁ : Shared} {al : Addr}
theorem Dozing.keep (a : Dozing G ns tot val s) (hg : s'.gens[G.g]? = s.gens[G.g]?) (k : ∀ b o, (b = G.a ∨ b = G.n0) → s.heap.get? b = some o → s'.heap.get? b = some o) : Dozing G ns tot val s' := by
  obtain ⟨⟨o, nm, qn, ho, r⟩, code, h1, h2⟩ := a
  exact ⟨⟨o, nm, qn, k _ _ (.inl rfl) ho, r⟩, code, hg.trans h1, fun s2 e own => h2 s2 e fun b o m q => own b o m (k b o m q)⟩
theorem kept1_of (ok : G.Ok) (e : G.E0 s) (kv : KeptV G (s.setGen G.g .running) s₁) (new : s.heap.get? al = none) (k : KeepX (G.x al ns tot val) s₁ s') {y : GenState} (hy : y.bare = true) : Kept1 G al ns s (s'.setGen G.g y) := by
  have nmine : ∀ b o, s.heap.get? b = some o → ¬ Mine s.heap G.n0 G.a al b → s₁.heap.get? b = some o → ¬ Mine s₁.heap G.n0 G.a al b := fun b o q nm q1 m => nm (by
    rcases m with m | ⟨lt, j, o', e', r⟩
    · exact .inl m
    · rw [q1] at e'
      cases e'
      exact .inr ⟨lt, j, o, q, r⟩)
  refine ⟨k.os.trans kv.os, fun j hj => by rw [setGen_ne hj, k.gens, kv.gens, setGen_ne hj], allBare_setGen k.bare hy, fun b o q nf nm nw => ?_, fun b o q hf => ?_, k.lst, fun b u q => ?_, k.there, new⟩
  · have q1 := kv.keep b o q nf (fun z => nm (.inl z)) nw
    exact k.keep b o q1 nf (nmine b o q nm q1) fun z => by
      rw [z, new] at q
      cases q
  · obtain ⟨sl, q1⟩ := kv.slot b o q hf
    obtain ⟨sl2, q2⟩ := k.slot b _ q1 hf
    exact ⟨sl2, q2⟩
  · have lb : b < G.n0 := ok.wlow b u q
    have x := kv.hokW b u q
    obtain ⟨o0, e0'⟩ : ∃ o, s.heap.get? b = some o := by
      have x0 := e.hok b u q
      rcases ok.wkind b u q with ⟨φ, rfl⟩ | ⟨xs, rfl⟩
      · exact x0.2.1
      · obtain ⟨_, its, m, _, eo⟩ := x0
        exact ⟨_, eo⟩
    refine x.stay (fun c o hc qc => ?_) (fun c z => z) fun c xs z => z
    have cb : c = b := by
      rcases hc with hc | hc
      · exact hc
      · rcases ok.wkind c _ hc with ⟨φ, z⟩ | ⟨xs, z⟩ <;> cases z
    subst cb
    refine k.keep c o qc (fun m => ?_) (fun m => ?_) fun z => ?_
    · have := e.frf c m
      rw [q] at this
      cases this
    · rcases m with m | ⟨m, _⟩
      · exact absurd (m ▸ lb) (Nat.lt_irrefl _)
      · exact absurd (Nat.lt_trans lb (Nat.lt_trans ok.na m)) (Nat.lt_irrefl _)
    · rw [z, new] at e0'
      cases e0'
theorem segEnd_susp {R : GenEnd} {Y : Protocol} {n : Nat} {M : Model} {A : Around} {s₀ s' : Shared} {v : Value} {g l k c p fs} (h : SegEnd R Y n (Seg.next M A R Y n) s₀ (.susp v g l k c p fs) s') : Y (n - 1) s₀ v s' fun r' s'' => match n with | 0 => False | m + 1 => (End.susp v g l k c p fs).genState.Goes M A R Y m r' s'' := by
  cases n with
  | zero => exact h.2
  | succ m => exact h.2
theorem e0x_of {s₂ : Shared} (ok : G.Ok) (e : G.E0 s) (okx : (G.x al ns tot val).Ok) (e0x : (G.x al ns tot val).E0 s₂) (kt : Kept1 G al ns s s') : (G.x al ns tot val).E0 s' := by
  refine ⟨e0x.frames, e0x.mod, fun b o q => ?_, ?_, funs_slots e.funs kt.slot, e0x.frf, kt.lst, kt.bare⟩
  · obtain ⟨h1, h2⟩ := e.bs b o q
    have lt : b < G.n0 := Nat.lt_of_lt_of_le (Heap.lt_size q) ok.bsz
    refine ⟨kt.keep b o h1 (base_no e.funs b o q) (fun m => ?_) h2, (e0x.bs b o q).2⟩
    rcases m with m | ⟨m, _⟩
    · exact absurd (m ▸ lt) (Nat.lt_irrefl _)
    · exact absurd (Nat.lt_trans lt (Nat.lt_trans ok.na m)) (Nat.lt_irrefl _)
  · obtain ⟨o, _, _, q, _⟩ := kt.there
    exact Nat.le_trans ok.bsz (Nat.le_of_lt (Heap.lt_size q))
/-- the first item, or the end -/
theorem first_turn {A : Around} (ok : G.Ok) (dz : Dozing G ns tot val s) (e : G.E0 s) (eA : G.A = A.in1) (hh : A.handled = none) (hroom : A.depth < recursionLimit) :
    wpAny (model G.P G.w) A (Builtin.SmallTypes.nextOf (.ref G.a)) (fun v s' => ∃ al m i, tot = m + 1 ∧ tot + i = tot ∧ (∃ t, v = .int (val i) t) ∧ (G.x al ns tot val).Ok ∧ Kept1 G al ns s s' ∧ Asleep (G.x al ns tot val) m s')
      (fun x s' => tot = 0 ∧ ∃ b o al, x = .ref b ∧ s'.heap.get? b = some o ∧ o.cls = .type "StopIteration" ∧ Kept1 G al ns s s') s := by
  obtain ⟨isG, code, hgs, goes⟩ := dz
  have lim : s.heap.NoLimit := e.mod.nolimit.keeps fun b o q => (e.bs b o q).1
  have hgl : G.g < s.gens.size := (Array.getElem?_eq_some_iff.mp hgs).1
  have e2 : G.E0 (s.setGen G.g .running) := by
    refine ⟨e.frames, e.mod, e.bs, e.bsz, e.funs, e.frf, e.hok, allBare_setGen e.bare rfl⟩
  have go := goes (s.setGen G.g .running) e2 fun b o m q => q
  rw [eA] at go
  refine nextOf_genT hh lim hroom isG hgs go (fun en s1 h => ?_) (fun v g₀ l₀ k₀ c₀ p₀ fs₀ s1 h => ?_) fun r s1 h => ?_
  · obtain ⟨al, sm, kv, new, okx, e0x, he⟩ := h
    cases en with
    | ret x => rfl
    | susp v g₀ l₀ k₀ c₀ p₀ fs₀ => exact he.1
  · obtain ⟨al, sm, kv, new, okx, e0x, he⟩ := h
    have hb : (End.susp v g₀ l₀ k₀ c₀ p₀ fs₀).genState.bare = true := End.bare_of_quiet he.1
    obtain ⟨i, hi, ht, k, back⟩ := segEnd_susp he
    have kt := kept1_of ok e kv new k hb
    have sz : G.g < s1.gens.size := by
      rw [k.gens, kv.gens]
      show G.g < (s.setGen G.g .running).gens.size
      rw [setGen_size]
      exact hgl
    have e3 := e0x_of ok e okx e0x kt
    obtain ⟨m, hm⟩ : ∃ m, tot = m + 1 := by
      cases ht0 : tot with
      | zero =>
        subst ht0
        exact (back _ e3 fun b o m q => q).elim
      | succ m => exact ⟨m, rfl⟩
    subst hm
    have hi : m + 1 - 1 + 1 + i = m + 1 := hi
    have i0 : i = 0 := by omega
    subst i0
    refine ⟨al, m, 0, rfl, rfl, ht, okx, kt, ?_, _, setGen_at sz, fun s2 e4 own => ?_⟩
    · obtain ⟨o, nm, qn, ho, r⟩ := isG
      have nm' : ¬ Mine s.heap G.n0 G.a al G.a := fun z => by
        rcases z with z | ⟨_, j, oi, ei, ci, di⟩
        · exact absurd (z ▸ ok.na) (Nat.lt_irrefl _)
        · rw [ho] at ei
          cases ei
          rw [r.1] at ci
          exact absurd ci (by decide)
      exact ⟨o, nm, qn, kt.keep G.a o ho (fun z => absurd (Nat.lt_trans (ok.low _ z) ok.na) (Nat.lt_irrefl _)) nm' ok.wa, r⟩
    · have b2 := back s2 e4 own
      exact b2
  · obtain ⟨al, sm, kv, new, okx, e0x, he⟩ := h
    obtain ⟨h1, n0, k⟩ := (show (G.x al ns tot val).R tot sm r s1 from he)
    refine ⟨h1, fun h' b kk hs => ?_⟩
    obtain ⟨o, ho, hc⟩ := hs
    have kt := kept1_of ok e kv new k (y := .finished) rfl
    refine ⟨n0, b, o, al, rfl, ho, hc, kt.os, kt.gens, kt.bare, fun c u q h1 h2 h3 => kk _ _ (kt.keep c u q h1 h2 h3), fun c u q h => ?_, kt.lst.kept kk, kt.hokW.kept kk, ?_, new⟩
    · obtain ⟨sl, z⟩ := kt.slot c u q h
      exact ⟨sl, kk _ _ z⟩
    · obtain ⟨o', es, ep, z, d⟩ := kt.there
      exact ⟨o', es, ep, kk _ _ z, d⟩
end
end Sq
set_option Elab.async false
set_option linter.all false
set_option maxRecDepth 100000
set_option maxHeartbeats 2000000
namespace Sq
open PySem PySem.Spec PyProof.Rows L2 GenW
section
variable {G : Vg} {ns : List Int} {s s' : Shared} {al : Addr}
theorem inv_kept1 {X : Cx} {pins : List (Addr × Obj)} {σ : L2.St} {H : Hp} (I : Inv X pins σ H s) (ok : G.Ok) (ab : Above X pins G.n0) (eo : G.outer = X.stack) (eP : G.P = X.prog) (ew : G.w = X.w) (k : Kept1 G al ns s s') (hW : ∀ b u, G.W b = some u → H b = some u) (hal : H al = none) (free : ∀ b, Mine s.heap G.n0 G.a al b → H b = none) :
    Inv X pins σ (upd H al (.lst (ns.map V.int))) s' := by
  have low : ∀ {b : Addr} {o : Obj}, s.heap.get? b = some o → b ∉ (List.range s.heap.objs.size).filter (fun b => decide (G.n0 ≤ b)) → b < G.n0 := fun {b o} e nm => by
    by_cases lt : b < G.n0
    · exact lt
    · exact absurd (List.mem_filter.mpr ⟨List.mem_range.mpr (Heap.lt_size e), decide_eq_true (Nat.le_of_not_lt lt)⟩) nm
  have nm : ∀ {b : Addr}, b < G.n0 → ¬ Mine s.heap G.n0 G.a al b := fun {b} lt m => by
    rcases m with m | ⟨m, _⟩
    · exact absurd (m ▸ lt) (Nat.lt_irrefl _)
    · exact absurd (Nat.lt_trans lt (Nat.lt_trans ok.na m)) (Nat.lt_irrefl _)
  have nal : ∀ {b : Addr} {o : Obj}, s.heap.get? b = some o → b ≠ al := fun {b o} e z => by
    rw [z, k.new] at e
    cases e
  have nalH : ∀ {b : Addr} {u : HO}, H b = some u → b ≠ al := fun {b u} e z => by
    rw [z, hal] at e
    cases e
  have nW : ∀ {b : Addr}, H b = none → G.W b = none := fun {b} e => by
    cases w : G.W b with
    | none => rfl
    | some u => rw [hW b u w] at e; cases e
  have kf : ∀ b o, s.heap.get? b = some o → b ∉ frs X.stack → ¬ Mine s.heap G.n0 G.a al b → G.W b = none → s'.heap.get? b = some o := by
    rw [← eo]
    exact k.keep
  refine I.call' (ch := (List.range s.heap.objs.size).filter fun b => decide (G.n0 ≤ b)) k.os ⟨fun b o e n nf hx => kf b o e nf (nm (low e hx)) (nW n), fun b o e n hf hx => ?_, fun b o e n hx => by rw [upd_ne (nal e)]; exact n, fun b o e hx => ?_, fun b xs e => by rw [upd_ne (nalH e)]; exact e, fun b o u e => by rw [upd_ne (nalH e)]; exact e, fun b ps e => ⟨#[], by rw [upd_ne (nalH e), e]; simp⟩⟩ ?_ k.bare fun b hb => ?_
  · rw [← eo] at hf
    exact k.slot b o e hf
  · by_cases hf : b ∈ frs X.stack
    · rw [← eo] at hf
      obtain ⟨sl, z⟩ := k.slot b o e hf
      exact ⟨_, z⟩
    · cases w : G.W b with
      | none => exact ⟨o, kf b o e hf (nm (low e hx)) w⟩
      | some u =>
        have x0 := k.hokW b u w
        rcases ok.wkind b u w with ⟨φ, rfl⟩ | ⟨xs, rfl⟩
        · exact x0.2.1
        · obtain ⟨_, its, m, _, eo'⟩ := x0
          exact ⟨_, eo'⟩
  · intro b u e
    by_cases ha : b = al
    · subst ha
      rw [upd_same] at e
      cases e
      obtain ⟨z, its, m, r, eo'⟩ := k.lst b _ alH_at
      exact ⟨z, its, m, r, eo'⟩
    · rw [upd_ne ha] at e
      rw [← eP, ← ew]
      cases w : G.W b with
      | some u' =>
        have := hW b u' w
        rw [e] at this
        cases this
        refine (k.hokW b u w).stay (fun _ _ _ z => z) (fun c z => ?_) fun c xs z => ?_
        · rcases ok.wkind c _ z with ⟨φ, y⟩ | ⟨xs, y⟩ <;> cases y
        · rcases ok.wkind c _ z with ⟨φ, y⟩ | ⟨ys, y⟩ <;> cases y
      | none =>
        rw [eP, ew]
        refine (I.hok b u e).stay (fun c w' hc q => ?_) (fun c z => by rw [upd_ne (nalH z)]; exact z) fun c xs z => by rw [upd_ne (nalH z)]; exact z
        have nf : c ∉ frs X.stack := fun hf => by
          have z := I.stkFree c hf
          rcases hc with hc | hc
          · rw [hc, e] at z
            cases z
          · rw [hc] at z
            cases z
        refine kf c w' q nf (fun m => ?_) ?_
        · have z := free c m
          rcases hc with hc | hc
          · rw [hc, e] at z
            cases z
          · rw [hc] at z
            cases z
        · rcases hc with hc | hc
          · rw [hc]
            exact w
          · cases w2 : G.W c with
            | none => rfl
            | some u2 =>
              have z := hW c u2 w2
              rw [hc] at z
              cases z
              rcases ok.wkind c _ w2 with ⟨φ, y⟩ | ⟨xs, y⟩ <;> cases y
  · have le : G.n0 ≤ b := of_decide_eq_true (List.mem_filter.mp hb).2
    refine ⟨.inr (Nat.le_trans ab.young le), Nat.ne_of_gt (Nat.lt_of_lt_of_le ab.loc le), fun x c e z => ?_, fun p hp z => ?_⟩
    · exact absurd z (Nat.ne_of_lt (Nat.lt_of_lt_of_le (ab.cell x c e) le))
    · exact absurd z (Nat.ne_of_lt (Nat.lt_of_lt_of_le (ab.pin p hp) le))
end
end Sq
set_option Elab.async false
set_option linter.all false
set_option maxRecDepth 100000
set_option maxHeartbeats 2000000
namespace Sq
open PySem PySem.Spec PyProof.Rows L2 GenW
abbrev zgH1 (h : Heap) (a1 a2 : Addr) : Heap := h.push { cls := .type "tuple", data := .seq #[.ref a1, .ref a2] }
abbrev zgH2 (h : Heap) (a1 a2 : Addr) : Heap := (zgH1 h a1 a2).push { cls := .type "tuple", data := .seq #[.none, .none] }
abbrev zgH3 (h : Heap) (a1 a2 : Addr) : Heap := (zgH2 h a1 a2).push { cls := .type "zip", data := .fields #[.none, .bool false, .bool false, .ref h.objs.size, .ref (zgH1 h a1 a2).objs.size] }
theorem meets_zipG_new (a1 a2 : Addr) (g1 g2 : Nat) :
    Meets (Builtin.«zip.__new__» ⟨[.type "zip", .ref a1, .ref a2], []⟩) (fun _ R s => s.heap.IsGen a1 g1 ∧ s.heap.IsGen a2 g2 ∧
      R (.ok (.ret (.ref (zgH2 s.heap a1 a2).objs.size))) { s with heap := zgH3 s.heap a1 a2 }) :=
  .of_wp fun prog w A R s h => by
    obtain ⟨hp, g, d, tk, os⟩ := s; obtain ⟨hl1, hl2, h⟩ := h
    have hsub := sub_zip
    have hL1 : Heap.IsGen (Shared.heap ⟨hp, g, d, tk, os⟩) a1 g1 := hl1
    have hL2 : Heap.IsGen (Shared.heap ⟨hp, g, d, tk, os⟩) a2 g2 := hl2
    wp_walk using wpAny_pyIter_gen hL1, wpAny_pyIter_gen hL2
    exact ⟨_, rfl, h⟩
section
variable {P : Program} {w : World} {A : Around} {E : Value → Shared → Prop} {s : Shared}
theorem call_zipG {a1 a2 : Addr} {g1 g2 : Nat} {Q : Value → Shared → Prop} (hl1 : s.heap.IsGen a1 g1) (hl2 : s.heap.IsGen a2 g2)
    (h : ∀ h', IsZip h' (s.heap.objs.size + 2) s.heap.objs.size (s.heap.objs.size + 1) .none → IsPair h' s.heap.objs.size (.ref a1) (.ref a2) →
      IsPair h' (s.heap.objs.size + 1) .none .none → h'.objs.size = s.heap.objs.size + 3 →
      (∀ c o, s.heap.get? c = some o → h'.get? c = some o) → Q (.ref (s.heap.objs.size + 2)) { s with heap := h' }) :
    wpAny (model P w) A (call (.type "zip") [.ref a1, .ref a2]) Q E s := by
  refine callType_new F.called_zip (by decide) (F.typeCall_zip_2 _ _) (F.newCall_zip_2 _ _) (fun obj => F.args_object_init_3 obj _ _) F.entry_zip_new
    (meets_zipG_new a1 a2 g1 g2) ⟨hl1, hl2, ?_⟩
  have z1 : (zgH1 s.heap a1 a2).objs.size = s.heap.objs.size + 1 := Heap.size_push ..
  have z2 : (zgH2 s.heap a1 a2).objs.size = s.heap.objs.size + 2 := by rw [Heap.size_push, z1]
  have z3 : (zgH3 s.heap a1 a2).objs.size = s.heap.objs.size + 3 := by rw [Heap.size_push, z2]
  have g3 : (zgH3 s.heap a1 a2).get? (zgH2 s.heap a1 a2).objs.size = some _ := Heap.get?_push_size _ rfl
  have g2 : (zgH3 s.heap a1 a2).get? (zgH1 s.heap a1 a2).objs.size = some _ := Heap.get?_push_of_some _ (Heap.get?_push_size _ rfl)
  have g1 : (zgH3 s.heap a1 a2).get? s.heap.objs.size = some _ := Heap.get?_push_of_some _ (Heap.get?_push_of_some _ (Heap.get?_push_size _ rfl))
  show _ ∧ _
  rw [z1, z2] at g3
  rw [z1] at g2
  rw [z2]
  exact ⟨⟨_, g3, rfl⟩, h _ g3 g1 g2 z3 fun c o x => Heap.get?_push_of_some _ (Heap.get?_push_of_some _ (Heap.get?_push_of_some _ x))⟩
end
end Sq
set_option Elab.async false
set_option linter.all false
set_option maxRecDepth 100000
set_option maxHeartbeats 2000000
namespace Sq
open PySem PySem.Spec PyProof.Rows L2 GenW
/-- where the two generators, zip and the comprehension lie -/
structure Zx where
  G1 : Xg
  G2 : Xg
  TI : Addr
  TO : Addr
  z : Addr
  C : Addr
structure Zx.Ok (Z : Zx) (X : Cx) (pins : List (Addr × Obj)) : Prop where
  o1 : Z.G1.Ok
  o2 : Z.G2.Ok
  ab1 : Above X pins Z.G1.n0
  ab2 : Above X pins Z.G2.n0
  s1 : Z.G1.P = X.prog ∧ Z.G1.w = X.w ∧ Z.G1.K = X.K ∧ Z.G1.mg = X.mg ∧ Z.G1.base = X.base ∧ Z.G1.outer = X.stack ∧ Z.G1.A = X.A.in1.in1 ∧ Z.G1.A.frames = some X.stack
  s2 : Z.G2.P = X.prog ∧ Z.G2.w = X.w ∧ Z.G2.K = X.K ∧ Z.G2.mg = X.mg ∧ Z.G2.base = X.base ∧ Z.G2.outer = X.stack ∧ Z.G2.A = X.A.in1.in1 ∧ Z.G2.A.frames = some X.stack
  g : Z.G1.g ≠ Z.G2.g
  fs : ∀ b ∈ X.fs, b < Z.G1.n0
  q1 : Z.G1.a < Z.G2.n0
  qn : Z.G1.al ≠ Z.G2.al
  q2 : Z.G2.a < Z.TI
  q3 : Z.TI < Z.TO
  q4 : Z.TO < Z.z
  q5 : Z.z < Z.C
/-- what the readings know -/
structure Zx.Hf (Z : Zx) (H : Hp) : Prop where
  l1 : H Z.G1.al = some (.lst (Z.G1.ns.map V.int))
  l2 : H Z.G2.al = some (.lst (Z.G2.ns.map V.int))
  young : ∀ b u, Z.G1.n0 ≤ b → H b = some u → ∃ xs, u = .lst xs
  free : ∀ b ∈ [Z.G1.n0, Z.G1.a, Z.G2.n0, Z.G2.a, Z.TI, Z.TO, Z.z, Z.C], H b = none
/-- an object that no list iterator is -/
def Solid (h : Heap) (b : Addr) : Prop := ∃ o, h.get? b = some o ∧ (o.cls ≠ .type "list_iterator" ∨ ∃ es ep, o.data = .dict es ep)
/-- what stands between the steps -/
structure Zx.At (Z : Zx) (X : Cx) (pins : List (Addr × Obj)) (σ : L2.St) (H : Hp) (i1 i2 : Nat) (s : Shared) : Prop where
  I : Inv X pins σ H s
  a1 : Asleep Z.G1 i1 s
  a2 : Asleep Z.G2 i2 s
  n1 : ∃ o es ep, s.heap.get? Z.G1.n0 = some o ∧ o.data = .dict es ep
  n2 : ∃ o es ep, s.heap.get? Z.G2.n0 = some o ∧ o.data = .dict es ep
  ti : IsPair s.heap Z.TI (.ref Z.G1.a) (.ref Z.G2.a)
  c : ∃ m, s.heap.Ns Z.C m
section
variable {Z : Zx} {X : Cx} {pins : List (Addr × Obj)} {σ : L2.St} {H : Hp} {i1 i2 : Nat} {s s' : Shared}
theorem iter_not_dict {h : Heap} {b al : Addr} {j : Nat} {o : Obj} {es ep} (i : h.IsListIter b al j) (e : h.get? b = some o) : o.data ≠ .dict es ep := fun d => by
  obtain ⟨o', e', c, d'⟩ := i
  rw [e] at e'
  cases e'
  rw [d] at d'
  cases d'
theorem lst_not_iter {P : Program} {w : World} {H : Hp} {h : Heap} {b al : Addr} {xs : List V} {j : Nat} (ok : HOk P w H h) (e : H b = some (.lst xs)) : ¬ h.IsListIter b al j := fun i => by
  obtain ⟨_, its, n, _, hl⟩ := ok b _ e
  obtain ⟨o', e', c, d'⟩ := i
  rw [hl] at e'
  cases e'
  cases d'
theorem mine1 (f : Z.Hf H) (ok : Z.Ok X pins) (I : Inv X pins σ H s) : ∀ b, Mine s.heap Z.G1.n0 Z.G1.a Z.G1.al b → H b = none := fun b m => by
  rcases m with m | ⟨m, j, it⟩
  · exact f.free b (by rw [m]; simp)
  · cases e : H b with
    | none => rfl
    | some u =>
      obtain ⟨xs, rfl⟩ := f.young b u (Nat.le_of_lt (Nat.lt_trans ok.o1.na m)) e
      exact absurd it (lst_not_iter I.hok e)
theorem mine2 (f : Z.Hf H) (ok : Z.Ok X pins) (I : Inv X pins σ H s) : ∀ b, Mine s.heap Z.G2.n0 Z.G2.a Z.G2.al b → H b = none := fun b m => by
  rcases m with m | ⟨m, j, it⟩
  · exact f.free b (by rw [m]; simp)
  · cases e : H b with
    | none => rfl
    | some u =>
      have l : Z.G1.n0 < b := Nat.lt_trans ok.o1.na (Nat.lt_trans ok.q1 (Nat.lt_trans ok.o2.na m))
      obtain ⟨xs, rfl⟩ := f.young b u (Nat.le_of_lt l) e
      exact absurd it (lst_not_iter I.hok e)
/-- a generator may be woken -/
theorem e0_of {G : Xg} (I : Inv X pins σ H s) (st : G.P = X.prog ∧ G.w = X.w ∧ G.K = X.K ∧ G.mg = X.mg ∧ G.base = X.base ∧ G.outer = X.stack ∧ G.A = X.A.in1.in1 ∧ G.A.frames = some X.stack) (l : H G.al = some (.lst (G.ns.map V.int))) : G.E0 s := by
  obtain ⟨e1, e2, e3, e4, e5, e6, e7, e8⟩ := st
  have e := I.env0
  have ne : ∀ {b : Addr}, H b = none → alH G.al G.ns b = none := fun {b} h => alH_ne fun z => by
    rw [z, l] at h
    cases h
  show Env0 G.P G.w G.K G.mg G.base G.A G.outer s (alH G.al G.ns)
  rw [e1, e2, e3, e4, e5, e6]
  refine ⟨e8, e.mod, fun b o q => ⟨(e.bs b o q).1, ne (e.bs b o q).2⟩, e.bsz, e.funs, fun b hb => ne (e.frf b hb), fun b u q => ?_, e.bare⟩
  by_cases hb : b = G.al
  · subst hb
    rw [alH_at] at q
    cases q
    obtain ⟨z, its, m, r, eo⟩ := e.hok G.al _ l
    exact ⟨z, its, m, r, eo⟩
  · rw [alH_ne hb] at q
    cases q
theorem Zx.Ok.ord (ok : Z.Ok X pins) : Z.G1.n0 < Z.G1.a ∧ Z.G1.a < Z.G2.n0 ∧ Z.G2.n0 < Z.G2.a ∧ Z.G2.a < Z.TI ∧ Z.TI < Z.TO ∧ Z.TO < Z.z ∧ Z.z < Z.C :=
  ⟨ok.o1.na, ok.q1, ok.o2.na, ok.q2, ok.q3, ok.q4, ok.q5⟩
theorem fp_zip (f : Z.Hf H) (ok : Z.Ok X pins) : ∀ b ∈ [Z.z, Z.TO], FpOk X pins H b := fun b hb => by
  obtain ⟨w1, w2, w3, w4, w5, w6, w7⟩ := ok.ord
  have g1n : Z.G1.n0 < b := by
    have e : b = Z.z ∨ b = Z.TO := by simpa using hb
    have l : Z.G1.n0 < Z.TO := Nat.lt_trans w1 (Nat.lt_trans w2 (Nat.lt_trans w3 (Nat.lt_trans w4 w5)))
    rcases e with e | e
    · rw [e]
      exact Nat.lt_trans l w6
    · rw [e]
      exact l
  have hf : H b = none := f.free b (by
    have e : b = Z.z ∨ b = Z.TO := by simpa using hb
    rcases e with e | e <;> rw [e] <;> simp)
  refine ⟨hf, Nat.ne_of_gt (Nat.lt_trans ok.ab1.loc g1n), fun m => ?_, .inr (Nat.le_of_lt (Nat.lt_of_le_of_lt ok.ab1.young g1n)), fun x c e z => ?_, fun p hp z => ?_⟩
  · exact absurd (Nat.lt_trans (ok.fs b m) g1n) (Nat.lt_irrefl _)
  · exact absurd z (Nat.ne_of_lt (Nat.lt_trans (ok.ab1.cell x c e) g1n))
  · exact absurd z (Nat.ne_of_lt (Nat.lt_trans (ok.ab1.pin p hp) g1n))
theorem at_touch {h' : Heap} {t' : Nat} (f : Z.Hf H) (ok : Z.Ok X pins) (A : Z.At X pins σ H i1 i2 s) (solz : Solid s.heap Z.z) (solT : Solid s.heap Z.TO) (k : ∀ c o, c ≠ Z.z → c ≠ Z.TO → s.heap.get? c = some o → h'.get? c = some o) : Z.At X pins σ H i1 i2 { s with heap := h', toks := t' } := by
  obtain ⟨w1, w2, w3, w4, w5, w6, w7⟩ := ok.ord
  have noit : ∀ {b c al : Addr} {j : Nat}, Solid s.heap b → s.heap.IsListIter c al j → c ≠ b := fun sol i e => by
    obtain ⟨o, eo, no⟩ := sol
    obtain ⟨o', e', c', d'⟩ := i
    rw [e, eo] at e'
    cases e'
    rcases no with no | ⟨es, ep, no⟩
    · exact no c'
    · rw [no] at d'
      cases d'
  have lo : ∀ {c : Addr} {o : Obj}, c < Z.TO → s.heap.get? c = some o → h'.get? c = some o := fun {c o} l e => k c o (Nat.ne_of_lt (Nat.lt_trans l w6)) (Nat.ne_of_lt l) e
  have g2a : Z.G2.a < Z.TO := Nat.lt_trans w4 w5
  have g2n : Z.G2.n0 < Z.TO := Nat.lt_trans w3 g2a
  have g1a : Z.G1.a < Z.TO := Nat.lt_trans w2 g2n
  have g1n : Z.G1.n0 < Z.TO := Nat.lt_trans w1 g1a
  refine ⟨A.I.turnedL (t' := t') (ch := [Z.z, Z.TO]) (fun c o hb q => k c o (fun z => hb (by simp [z])) (fun z => hb (by simp [z])) q) (fp_zip f ok), A.a1.keep rfl fun c o m q => ?_, A.a2.keep rfl fun c o m q => ?_, ?_, ?_, lo w5 A.ti, ?_⟩
  · rcases m with m | m | ⟨_, j, it⟩
    · exact lo (m ▸ g1a) q
    · exact lo (m ▸ g1n) q
    · exact k c o (noit solz it) (noit solT it) q
  · rcases m with m | m | ⟨_, j, it⟩
    · exact lo (m ▸ g2a) q
    · exact lo (m ▸ g2n) q
    · exact k c o (noit solz it) (noit solT it) q
  · obtain ⟨o, es, ep, e, d⟩ := A.n1
    exact ⟨o, es, ep, lo g1n e, d⟩
  · obtain ⟨o, es, ep, e, d⟩ := A.n2
    exact ⟨o, es, ep, lo g2n e, d⟩
  · obtain ⟨m, o, es, ep, e, r⟩ := A.c
    exact ⟨m, o, es, ep, k _ _ (Nat.ne_of_gt w7) (Nat.ne_of_gt (Nat.lt_trans w6 w7)) e, r⟩
/-- no list -/
def NoList (o : Obj) : Prop := o.cls ≠ .type "list" ∨ ∃ es ep, o.data = .dict es ep
theorem not_list {X : Cx} {pins : List (Addr × Obj)} {σ : L2.St} {H : Hp} {s : Shared} {al b : Addr} {xs : List V} {o : Obj} (I : Inv X pins σ H s) (l : H al = some (.lst xs)) (e : s.heap.get? b = some o) (n : NoList o) : b ≠ al := fun z => by
  obtain ⟨_, its, m, _, hl⟩ := I.hok _ _ l
  rw [z, hl] at e
  cases e
  rcases n with n | ⟨es, ep, n⟩
  · exact n rfl
  · cases n
theorem at_first (f : Z.Hf H) (ok : Z.Ok X pins) (A : Z.At X pins σ H i1 i2 s) (kt : Kept Z.G1 s s') {j : Nat} (as : Asleep Z.G1 j s') : Z.At X pins σ H j i2 s' := by
  obtain ⟨w1, w2, w3, w4, w5, w6, w7⟩ := ok.ord
  have nfr : ∀ {b : Addr}, Z.G1.n0 < b → b ∉ frs Z.G1.outer := fun {b} l m => absurd (Nat.lt_trans (ok.o1.low b m) l) (Nat.lt_irrefl _)
  have nal := fun {b : Addr} {o : Obj} => not_list (b := b) (o := o) A.I f.l1
  have keep : ∀ b o, Z.G1.n0 < b → NoList o → (∀ j, ¬ s.heap.IsListIter b Z.G1.al j) → s.heap.get? b = some o → s'.heap.get? b = some o := fun b o l nl ni e => kt.keep b o e (nfr l) (fun m => by
    rcases m with m | ⟨_, j, it⟩
    · exact absurd (m ▸ l) (Nat.lt_irrefl _)
    · exact ni j it) (nal e nl)
  have l2n : Z.G1.n0 < Z.G2.n0 := Nat.lt_trans w1 w2
  have l2a : Z.G1.n0 < Z.G2.a := Nat.lt_trans l2n w3
  have lTI : Z.G1.n0 < Z.TI := Nat.lt_trans l2a w4
  have lC : Z.G1.n0 < Z.C := Nat.lt_trans lTI (Nat.lt_trans w5 (Nat.lt_trans w6 w7))
  have n2k : ∀ o, s.heap.get? Z.G2.n0 = some o → s'.heap.get? Z.G2.n0 = some o := fun o e => by
    obtain ⟨o', es, ep, e', d⟩ := A.n2
    have eo := e'
    rw [e] at eo
    cases eo
    exact keep _ o l2n (.inr ⟨es, ep, d⟩) (fun j it => iter_not_dict it e' d) e
  refine ⟨inv_kept A.I ok.o1 ok.ab1 ok.s1.2.2.2.2.2.1 ok.s1.1 ok.s1.2.1 kt f.l1 (mine1 f ok A.I), as, A.a2.keep (kt.gens _ (Ne.symm ok.g)) fun c o m q => ?_, kt.there, ?_, ?_, ?_⟩
  · rcases m with m | m | ⟨lt, j, it⟩
    · rw [m] at q ⊢
      obtain ⟨o', nm, qn, e', r⟩ := A.a2.gen
      have eo := e'
      rw [q] at eo
      cases eo
      refine keep _ o l2a (.inl (by rw [r.1]; decide)) (fun j it => ?_) q
      obtain ⟨o2, e2, c2, _⟩ := it
      rw [e'] at e2
      cases e2
      rw [r.1] at c2
      exact absurd c2 (by decide)
    · rw [m] at q ⊢
      exact n2k o q
    · obtain ⟨o1, e1, c1, d1⟩ := it
      have eo := e1
      rw [q] at eo
      cases eo
      refine keep c o (Nat.lt_trans l2a lt) (.inl (by rw [c1]; decide)) (fun j' it' => ?_) q
      obtain ⟨o2, e2, c2, d2⟩ := it'
      rw [e1] at e2
      cases e2
      rw [d1] at d2
      have z : Z.G2.al = Z.G1.al := by
        injection d2 with d2
        have := congrArg (fun a : Array Value => a[0]?) d2
        simpa using this
      exact ok.qn z.symm
  · obtain ⟨o, es, ep, e, d⟩ := A.n2
    exact ⟨o, es, ep, n2k o e, d⟩
  · refine keep _ _ lTI (.inl (show Value.type "tuple" ≠ Value.type "list" by decide)) (fun j it => ?_) A.ti
    obtain ⟨o2, e2, c2, _⟩ := it
    have ti := A.ti
    rw [show s.heap.get? Z.TI = _ from ti] at e2
    cases e2
    exact absurd (show Value.type "tuple" = Value.type "list_iterator" from c2) (by decide)
  · obtain ⟨m, o, es, ep, e, r⟩ := A.c
    exact ⟨m, o, es, ep, keep _ o lC (.inr ⟨es, ep, r.1⟩) (fun j it => iter_not_dict it e r.1) e, r⟩
theorem keptZ1 (ok : Z.Ok X pins) (f : Z.Hf H) (I : Inv X pins σ H s) (kt : Kept Z.G1 s s') {b : Addr} {o : Obj} (l : Z.G1.n0 < b) (e : s.heap.get? b = some o) (nc : o.cls ≠ .type "list_iterator") (nl : NoList o) : s'.heap.get? b = some o :=
  kt.keep b o e (fun m => absurd (Nat.lt_trans (ok.o1.low b m) l) (Nat.lt_irrefl _)) (fun m => by
    rcases m with m | ⟨_, j, o', e', c', _⟩
    · exact absurd (m ▸ l) (Nat.lt_irrefl _)
    · rw [e] at e'
      cases e'
      exact nc c') (not_list I f.l1 e nl)
theorem keptZ2 (ok : Z.Ok X pins) (f : Z.Hf H) (I : Inv X pins σ H s) (kt : Kept Z.G2 s s') {b : Addr} {o : Obj} (l : Z.G2.n0 < b) (e : s.heap.get? b = some o) (nc : o.cls ≠ .type "list_iterator") (nl : NoList o) : s'.heap.get? b = some o :=
  kt.keep b o e (fun m => absurd (Nat.lt_trans (ok.o2.low b m) l) (Nat.lt_irrefl _)) (fun m => by
    rcases m with m | ⟨_, j, o', e', c', _⟩
    · exact absurd (m ▸ l) (Nat.lt_irrefl _)
    · rw [e] at e'
      cases e'
      exact nc c') (not_list I f.l2 e nl)
/-- behind the second's turn -/
theorem at_second (f : Z.Hf H) (ok : Z.Ok X pins) (A : Z.At X pins σ H i1 i2 s) (kt : Kept Z.G2 s s') {j : Nat} (as : Asleep Z.G2 j s') : Z.At X pins σ H i1 j s' := by
  obtain ⟨w1, w2, w3, w4, w5, w6, w7⟩ := ok.ord
  have low : ∀ {b : Addr}, Z.G1.n0 ≤ b → b ∉ frs Z.G2.outer := fun {b} l m => by
    have e : Z.G2.outer = Z.G1.outer := ok.s2.2.2.2.2.2.1.trans ok.s1.2.2.2.2.2.1.symm
    rw [e] at m
    exact absurd (ok.o1.low b m) (Nat.not_lt_of_le l)
  have nal : ∀ {b : Addr} {o : Obj}, s.heap.get? b = some o → o.cls ≠ .type "list" → b ≠ Z.G2.al := fun {b o} e nc z => by
    obtain ⟨_, its, n, _, hl⟩ := A.I.hok _ _ f.l2
    rw [z, hl] at e
    cases e
    exact nc rfl
  have lTI : Z.G2.n0 < Z.TI := Nat.lt_trans w3 w4
  have n1k : ∀ o, s.heap.get? Z.G1.n0 = some o → s'.heap.get? Z.G1.n0 = some o := fun o e => by
    obtain ⟨o', es, ep, e', d⟩ := A.n1
    refine kt.keep _ o e (low (Nat.le_refl _)) (fun m => ?_) fun z => ?_
    · rcases m with m | ⟨_, j, it⟩
      · exact absurd (m ▸ Nat.lt_trans w1 w2) (Nat.lt_irrefl _)
      · exact iter_not_dict it e' d
    · have q := f.free Z.G1.n0 (by simp)
      rw [z, f.l2] at q
      cases q
  refine ⟨inv_kept A.I ok.o2 ok.ab2 ok.s2.2.2.2.2.2.1 ok.s2.1 ok.s2.2.1 kt f.l2 (mine2 f ok A.I), A.a1.keep (kt.gens _ ok.g) fun c o m q => ?_, as, ?_, kt.there, ?_, ?_⟩
  · rcases m with m | m | ⟨lt, j, it⟩
    · rw [m] at q ⊢
      obtain ⟨o', nm, qn, e', r⟩ := A.a1.gen
      refine kt.keep _ o q (low (Nat.le_of_lt w1)) (fun m => ?_) fun z => ?_
      · rcases m with m | ⟨_, j, o2, e2, c2, _⟩
        · exact absurd (m ▸ w2) (Nat.lt_irrefl _)
        · rw [e'] at e2
          cases e2
          rw [r.1] at c2
          exact absurd c2 (by decide)
      · have q := f.free Z.G1.a (by simp)
        rw [z, f.l2] at q
        cases q
    · rw [m] at q ⊢
      exact n1k o q
    · refine kt.keep c o q (low (Nat.le_of_lt (Nat.lt_trans w1 lt))) (fun m => ?_) fun z => ?_
      · rcases m with m | ⟨_, j', it'⟩
        · obtain ⟨o', es, ep, e', d⟩ := A.n2
          exact iter_not_dict it (m ▸ e') d
        · obtain ⟨o1, e1, c1, d1⟩ := it
          obtain ⟨o2, e2, c2, d2⟩ := it'
          rw [e1] at e2
          cases e2
          rw [d1] at d2
          have z : Z.G1.al = Z.G2.al := by
            injection d2 with d2
            have := congrArg (fun a : Array Value => a[0]?) d2
            simpa using this
          exact ok.qn z
      · rw [z] at it
        exact lst_not_iter A.I.hok f.l2 it
  · obtain ⟨o, es, ep, e, d⟩ := A.n1
    exact ⟨o, es, ep, n1k o e, d⟩
  · exact keptZ2 ok f A.I kt lTI A.ti (fun z => absurd (show Value.type "tuple" = Value.type "list_iterator" from z) (by decide)) (.inl (show Value.type "tuple" ≠ Value.type "list" by decide))
  · obtain ⟨m, o, es, ep, e, r⟩ := A.c
    refine ⟨m, o, es, ep, kt.keep _ o e (low (Nat.le_of_lt (Nat.lt_trans w1 (Nat.lt_trans w2 (Nat.lt_trans lTI (Nat.lt_trans w5 (Nat.lt_trans w6 w7))))))) (fun m => ?_) (fun z => ?_), r⟩
    · rcases m with m | ⟨_, j, it⟩
      · exact absurd (m ▸ Nat.lt_trans lTI (Nat.lt_trans w5 (Nat.lt_trans w6 w7))) (Nat.lt_irrefl _)
      · exact iter_not_dict it e r.1
    · obtain ⟨_, its, n, _, hl⟩ := A.I.hok _ _ f.l2
      rw [z, hl] at e
      cases e
      cases r.1
/-- the next pair -/
theorem pair_next (f : Z.Hf H) (ok : Z.Ok X pins) (A : Z.At X pins σ H i1 i2 s) (hcalm : X.A.handled = none) (hroom : X.A.depth < recursionLimit) (hz : IsZip s.heap Z.z Z.TI Z.TO .none) (hTO : ∃ a b, IsPair s.heap Z.TO a b) {E : Value → Shared → Prop} {Q : Option Value → Shared → Prop}
    (item : ∀ (j1 j2 : Nat) (T : Addr) (v1 v2 : Nat) (t1 t2 : Tok) (s' : Shared), i1 = j1 + 1 → i2 = j2 + 1 → v1 = Z.G1.tot - i1 → v2 = Z.G2.tot - i2 → Z.At X pins σ H j1 j2 s' → IsZip s'.heap Z.z Z.TI Z.TO (rawInt T) → (∃ a b, IsPair s'.heap Z.TO a b) → IsPair s'.heap T (.int (Z.G1.val v1) t1) (.int (Z.G2.val v2) t2) → Z.C < T → Q (some (.ref T)) s')
    (done : i1 = 0 → ∀ s', Inv X pins σ H s' → (∃ m, s'.heap.Ns Z.C m) → Q none s') (same : i1 = i2) : wpAny (model X.prog X.w) X.A (pyNext (.ref Z.z)) Q E s := by
  obtain ⟨w1, w2, w3, w4, w5, w6, w7⟩ := ok.ord
  obtain ⟨a0, b0, hTO⟩ := hTO
  have nzt : Z.TO ≠ Z.z := Nat.ne_of_lt w6
  have lTO : Z.G1.n0 < Z.TO := Nat.lt_trans w1 (Nat.lt_trans w2 (Nat.lt_trans w3 (Nat.lt_trans w4 w5)))
  have lTO2 : Z.G2.n0 < Z.TO := Nat.lt_trans w3 (Nat.lt_trans w4 w5)
  have cz : ∀ {f0 : Value}, ({ cls := .type "zip", dict := none, data := .fields #[f0, .bool false, .bool false, .ref Z.TI, .ref Z.TO], slots := #[] } : Obj).cls ≠ .type "list_iterator" := fun {f0} q => absurd (show Value.type "zip" = Value.type "list_iterator" from q) (by decide)
  have cT : ∀ {x y : Value}, ({ cls := .type "tuple", data := .seq #[x, y] } : Obj).cls ≠ .type "list_iterator" := fun {x y} q => absurd (show Value.type "tuple" = Value.type "list_iterator" from q) (by decide)
  have nz : ∀ {f0 : Value}, NoList ({ cls := .type "zip", dict := none, data := .fields #[f0, .bool false, .bool false, .ref Z.TI, .ref Z.TO], slots := #[] } : Obj) := fun {f0} => .inl (show Value.type "zip" ≠ Value.type "list" by decide)
  have nT : ∀ {x y : Value}, NoList ({ cls := .type "tuple", data := .seq #[x, y] } : Obj) := fun {x y} => .inl (show Value.type "tuple" ≠ Value.type "list" by decide)
  refine next_zip (a := a0) (b := b0) (Nat.ne_of_gt w6) hz A.ti fun h₁ hz₁ sb₁ => ?_
  have A1 : Z.At X pins σ H i1 i2 { s with heap := h₁ } := at_touch (t' := s.toks) f ok A ⟨_, hz, .inl cz⟩ ⟨_, hTO, .inl cT⟩ fun c o h1 _ e => (sb₁.2 c h1).trans e
  have hTO₁ : IsPair h₁ Z.TO a0 b0 := (sb₁.2 _ nzt).trans hTO
  have hw := wake_turn (A := X.A.in1) ok.o1 A1.a1 (e0_of A1.I ok.s1 f.l1) ok.s1.2.2.2.2.2.2.1 hcalm hroom
  rw [ok.s1.1, ok.s1.2.1] at hw
  refine wpAny_mono hw (fun x s₂ hh => ?_) fun x s₂ hh => ?_
  · obtain ⟨m, i, hn, hi, ⟨t, ev⟩, kt, as⟩ := hh
    have A2 := at_first f ok A1 kt as
    have hz₂ : IsZip s₂.heap Z.z Z.TI Z.TO .ellipsis := keptZ1 ok f A1.I kt (Nat.lt_trans lTO w6) hz₁ cz nz
    have hTO₂ : IsPair s₂.heap Z.TO a0 b0 := keptZ1 ok f A1.I kt lTO hTO₁ cT nT
    refine ⟨hz₂, hTO₂, fun h₃ sb₃ hTO₃ => ?_⟩
    have A3 : Z.At X pins σ H m i2 { s₂ with heap := h₃ } := at_touch (t' := s₂.toks) f ok A2 ⟨_, hz₂, .inl cz⟩ ⟨_, hTO₂, .inl cT⟩ fun c o _ h1 e => (sb₃.2 c h1).trans e
    have hz₃ : IsZip h₃ Z.z Z.TI Z.TO .ellipsis := (sb₃.2 _ (Ne.symm nzt)).trans hz₂
    have hw2 := wake_turn (A := X.A.in1) ok.o2 A3.a2 (e0_of A3.I ok.s2 f.l2) ok.s2.2.2.2.2.2.2.1 hcalm hroom
    rw [ok.s2.1, ok.s2.2.1] at hw2
    refine wpAny_mono hw2 (fun y s₄ hh => ?_) fun y s₄ hh => ?_
    · obtain ⟨m2, i', hn2, hi2, ⟨t2, ev2⟩, kt2, as2⟩ := hh
      have A4 := at_second f ok A3 kt2 as2
      have hz₄ : IsZip s₄.heap Z.z Z.TI Z.TO .ellipsis := keptZ2 ok f A3.I kt2 (Nat.lt_trans lTO2 w6) hz₃ cz nz
      have hTO₄ : IsPair s₄.heap Z.TO x b0 := keptZ2 ok f A3.I kt2 lTO2 hTO₃ cT nT
      refine ⟨hz₄, hTO₄, fun h' hz' hTO' hT' k' => ?_⟩
      have A5 : Z.At X pins σ H m m2 { s₄ with heap := h' } := at_touch (t' := s₄.toks) f ok A4 ⟨_, hz₄, .inl cz⟩ ⟨_, hTO₄, .inl cT⟩ k'
      subst ev ev2
      obtain ⟨mm, hns⟩ := A4.c
      exact item m m2 s₄.heap.objs.size i i' t t2 _ hn hn2 (by omega) (by omega) A5 hz' ⟨_, _, hTO'⟩ hT' hns.lt
    · exact absurd hh.1 (by omega)
  · obtain ⟨hn0, b, o, eb, ho, hc, kt⟩ := hh
    subst eb
    have hz₂ : IsZip s₂.heap Z.z Z.TI Z.TO .ellipsis := keptZ1 ok f A1.I kt (Nat.lt_trans lTO w6) hz₁ cz nz
    have I2 : Inv X pins σ H s₂ := inv_kept A1.I ok.o1 ok.ab1 ok.s1.2.2.2.2.2.1 ok.s1.1 ok.s1.2.1 kt f.l1 (mine1 f ok A1.I)
    have nb : b ≠ Z.z := fun q => by
      rw [q, show s₂.heap.get? Z.z = _ from hz₂] at ho
      cases ho
      exact absurd (show Value.type "zip" = Value.type "StopIteration" from hc) (by decide)
    refine ⟨hz₂, fun h sb => ⟨b, o, rfl, (sb.2 b nb).trans ho, hc, done hn0 _ ?_ ?_⟩⟩
    · exact I2.turnedL (t' := s₂.toks) (ch := [Z.z, Z.TO]) (fun c o hb q => (sb.2 c fun z => hb (by simp [z])).trans q) (fp_zip f ok)
    · obtain ⟨mm, o', es, ep, e, r⟩ := A1.c
      have lC : Z.G1.n0 < Z.C := Nat.lt_trans lTO (Nat.lt_trans w6 w7)
      refine ⟨mm, o', es, ep, (sb.2 _ (Nat.ne_of_gt w7)).trans (kt.keep _ _ e (fun q => absurd (Nat.lt_trans (ok.o1.low _ q) lC) (Nat.lt_irrefl _)) (fun q => ?_) (not_list A1.I f.l1 e (.inr ⟨es, ep, r.1⟩))), r⟩
      rcases q with q | ⟨_, j, it⟩
      · exact absurd (q ▸ lC) (Nat.lt_irrefl _)
      · exact iter_not_dict it e r.1
end
end Sq
set_option Elab.async false
set_option linter.all false
set_option maxRecDepth 100000
set_option maxHeartbeats 2000000
namespace Sq
open PySem PySem.Spec PyProof.Rows L2 GenW
structure Zv where
  V1 : Vg
  V2 : Vg
  ns1 : List Int
  ns2 : List Int
  tot : Nat
  val1 : Nat → Int
  val2 : Nat → Int
  TI : Addr
  TO : Addr
  z : Addr
  C : Addr
abbrev Zv.zx (Z : Zv) (al1 al2 : Addr) : Zx := ⟨Z.V1.x al1 Z.ns1 Z.tot Z.val1, Z.V2.x al2 Z.ns2 Z.tot Z.val2, Z.TI, Z.TO, Z.z, Z.C⟩
structure Zv.Ok (Z : Zv) (X : Cx) (pins : List (Addr × Obj)) : Prop where
  o1 : Z.V1.Ok
  o2 : Z.V2.Ok
  ab1 : Above X pins Z.V1.n0
  ab2 : Above X pins Z.V2.n0
  s1 : Z.V1.P = X.prog ∧ Z.V1.w = X.w ∧ Z.V1.K = X.K ∧ Z.V1.mg = X.mg ∧ Z.V1.base = X.base ∧ Z.V1.outer = X.stack ∧ Z.V1.A = X.A.in1.in1 ∧ Z.V1.A.frames = some X.stack
  s2 : Z.V2.P = X.prog ∧ Z.V2.w = X.w ∧ Z.V2.K = X.K ∧ Z.V2.mg = X.mg ∧ Z.V2.base = X.base ∧ Z.V2.outer = X.stack ∧ Z.V2.A = X.A.in1.in1 ∧ Z.V2.A.frames = some X.stack
  g : Z.V1.g ≠ Z.V2.g
  fs : ∀ b ∈ X.fs, b < Z.V1.n0
  q1 : Z.V1.a < Z.V2.n0
  q2 : Z.V2.a < Z.TI
  q3 : Z.TI < Z.TO
  q4 : Z.TO < Z.z
  q5 : Z.z < Z.C
structure Zv.Hf (Z : Zv) (H : Hp) : Prop where
  w1 : ∀ b u, Z.V1.W b = some u → H b = some u
  w2 : ∀ b u, Z.V2.W b = some u → H b = some u
  young : ∀ b u, Z.V1.n0 ≤ b → H b = some u → ∃ xs, u = .lst xs
  free : ∀ b ∈ [Z.V1.n0, Z.V1.a, Z.V2.n0, Z.V2.a, Z.TI, Z.TO, Z.z, Z.C], H b = none
structure Zv.At (Z : Zv) (X : Cx) (pins : List (Addr × Obj)) (σ : L2.St) (H : Hp) (s : Shared) : Prop where
  I : Inv X pins σ H s
  d1 : Dozing Z.V1 Z.ns1 Z.tot Z.val1 s
  d2 : Dozing Z.V2 Z.ns2 Z.tot Z.val2 s
  n1 : ∃ o es ep, s.heap.get? Z.V1.n0 = some o ∧ o.data = .dict es ep
  n2 : ∃ o es ep, s.heap.get? Z.V2.n0 = some o ∧ o.data = .dict es ep
  ti : IsPair s.heap Z.TI (.ref Z.V1.a) (.ref Z.V2.a)
  c : ∃ m, s.heap.Ns Z.C m
theorem hok_sub {P : Program} {w : World} {H W : Hp} {h : Heap} (wk : ∀ b u, W b = some u → (∃ φ, u = .ext φ) ∨ ∃ xs, u = .lst xs) (sub : ∀ b u, W b = some u → H b = some u) (x : HOk P w H h) : HOk P w W h := fun b u e => by
  have y := x b u (sub b u e)
  rcases wk b u e with ⟨φ, rfl⟩ | ⟨xs, rfl⟩
  · exact y
  · exact y
theorem new_ne {h : Heap} {b al : Addr} {o : Obj} (n : h.get? al = none) (e : h.get? b = some o) : b ≠ al := fun z => by
  rw [z, n] at e
  cases e
section
variable {Z : Zv} {X : Cx} {pins : List (Addr × Obj)} {σ : L2.St} {H : Hp} {s s' : Shared} {al : Addr} {ns : List Int}
theorem obj_there {P : Program} {w : World} {h : Heap} {a : Addr} {o : HO} (x : ObjOk P w H h a o) : ∃ u, h.get? a = some u := by
  cases o with
  | lst xs => obtain ⟨_, _, _, _, e⟩ := x; exact ⟨_, e⟩
  | tup xs => obtain ⟨_, _, _, u, e, _⟩ := x; exact ⟨u, e⟩
  | dK kvs => obtain ⟨_, _, _, _, o, _, _, e, _⟩ := x; exact ⟨o, e⟩
  | dT kvs => obtain ⟨_, _, _, _, o, _, _, e, _⟩ := x; exact ⟨o, e⟩
  | set S n => obtain ⟨o, _, _, _, e, _⟩ := x; exact ⟨o, e⟩
  | ins C dx fs => obtain ⟨_, _, _, e, _⟩ := x; exact ⟨_, e⟩
  | own y => exact x
  | xd fs => obtain ⟨_, ⟨_, _, _, e, _⟩, _⟩ := x; exact ⟨_, e⟩
  | rng lo hi => obtain ⟨_, _, _, e⟩ := x; exact ⟨_, e⟩
  | frz ob u => obtain ⟨e, _⟩ := x; exact ⟨_, e⟩
  | tbl ps => exact ⟨_, show h.get? a = some _ from x⟩
  | met f y => exact ⟨_, show h.get? a = some _ from x⟩
  | ext φ => obtain ⟨_, e, _⟩ := x; exact e
theorem new_none {P : Program} {w : World} {h : Heap} (ok : HOk P w H h) (n : h.get? al = none) : H al = none := by
  cases e : H al with
  | none => rfl
  | some u =>
    obtain ⟨o, q⟩ := obj_there (ok _ _ e)
    rw [n] at q
    cases q
theorem e0v_of {G : Vg} (ok : G.Ok) (I : Inv X pins σ H s) (st : G.P = X.prog ∧ G.w = X.w ∧ G.K = X.K ∧ G.mg = X.mg ∧ G.base = X.base ∧ G.outer = X.stack ∧ G.A = X.A.in1.in1 ∧ G.A.frames = some X.stack) (hw : ∀ b u, G.W b = some u → H b = some u) : G.E0 s := by
  obtain ⟨e1, e2, e3, e4, e5, e6, e7, e8⟩ := st
  have e := I.env0
  have ne : ∀ {b : Addr}, H b = none → G.W b = none := fun {b} h => by
    cases w : G.W b with
    | none => rfl
    | some u =>
      rw [hw b u w] at h
      cases h
  show Env0 G.P G.w G.K G.mg G.base G.A G.outer s G.W
  rw [e1, e2, e3, e4, e5, e6]
  exact ⟨e8, e.mod, fun b o q => ⟨(e.bs b o q).1, ne (e.bs b o q).2⟩, e.bsz, e.funs, fun b hb => ne (e.frf b hb), hok_sub ok.wkind hw e.hok, e.bare⟩
theorem keptG {G : Vg} (kt : Kept1 G al ns s s') {b : Addr} {o : Obj} (nf : b ∉ frs G.outer) (nn : b ≠ G.n0) (nw : G.W b = none) (e : s.heap.get? b = some o) (sol : o.cls ≠ .type "list_iterator" ∨ ∃ es ep, o.data = .dict es ep) : s'.heap.get? b = some o :=
  kt.keep b o e nf (fun m => by
    rcases m with m | ⟨_, j, o', e', c', d'⟩
    · exact nn m
    · rw [e] at e'
      cases e'
      rcases sol with sol | ⟨es, ep, sol⟩
      · exact sol c'
      · rw [sol] at d'
        cases d') nw
theorem Zv.Ok.ord (ok : Z.Ok X pins) : Z.V1.n0 < Z.V1.a ∧ Z.V1.a < Z.V2.n0 ∧ Z.V2.n0 < Z.V2.a ∧ Z.V2.a < Z.TI ∧ Z.TI < Z.TO ∧ Z.TO < Z.z ∧ Z.z < Z.C :=
  ⟨ok.o1.na, ok.q1, ok.o2.na, ok.q2, ok.q3, ok.q4, ok.q5⟩
theorem fp_bigV {b : Addr} (ok : Z.Ok X pins) (l : Z.V1.n0 < b) (hf : H b = none) : FpOk X pins H b :=
  ⟨hf, Nat.ne_of_gt (Nat.lt_trans ok.ab1.loc l), fun m => absurd (Nat.lt_trans (ok.fs b m) l) (Nat.lt_irrefl _), .inr (Nat.le_of_lt (Nat.lt_of_le_of_lt ok.ab1.young l)), fun x c e z => absurd z (Nat.ne_of_lt (Nat.lt_trans (ok.ab1.cell x c e) l)), fun p hp z => absurd z (Nat.ne_of_lt (Nat.lt_trans (ok.ab1.pin p hp) l))⟩
theorem doz_keep {G : Vg} {tot : Nat} {val : Nat → Int} (d : Dozing G ns tot val s) (n : ∃ o es ep, s.heap.get? G.n0 = some o ∧ o.data = .dict es ep) (hg : s'.gens[G.g]? = s.gens[G.g]?) (k : ∀ b o, (b = G.a ∨ b = G.n0) → (o.cls ≠ .type "list_iterator" ∨ ∃ es ep, o.data = .dict es ep) → s.heap.get? b = some o → s'.heap.get? b = some o) : Dozing G ns tot val s' := by
  refine d.keep hg fun b o m q => k b o m ?_ q
  rcases m with m | m
  · obtain ⟨o', nm, qn, e', r⟩ := d.gen
    rw [m, e'] at q
    cases q
    exact .inl (by rw [r.1]; decide)
  · obtain ⟨o', es, ep, e', d'⟩ := n
    rw [m, e'] at q
    cases q
    exact .inr ⟨es, ep, d'⟩
/-- zip or its tuple is written -/
theorem atv_touch {h' : Heap} {t' : Nat} (f : Z.Hf H) (ok : Z.Ok X pins) (A : Z.At X pins σ H s) (k : ∀ c o, c ≠ Z.z → c ≠ Z.TO → s.heap.get? c = some o → h'.get? c = some o) : Z.At X pins σ H { s with heap := h', toks := t' } := by
  obtain ⟨w1, w2, w3, w4, w5, w6, w7⟩ := ok.ord
  have lo : ∀ {c : Addr} {o : Obj}, c < Z.TO → s.heap.get? c = some o → h'.get? c = some o := fun {c o} l e => k c o (Nat.ne_of_lt (Nat.lt_trans l w6)) (Nat.ne_of_lt l) e
  have g2a : Z.V2.a < Z.TO := Nat.lt_trans w4 w5
  have g2n : Z.V2.n0 < Z.TO := Nat.lt_trans w3 g2a
  have g1a : Z.V1.a < Z.TO := Nat.lt_trans w2 g2n
  have g1n : Z.V1.n0 < Z.TO := Nat.lt_trans w1 g1a
  refine ⟨A.I.turnedL (t' := t') (ch := [Z.z, Z.TO]) (fun c o hb q => k c o (fun z => hb (by simp [z])) (fun z => hb (by simp [z])) q) (fun b hb => ?_), A.d1.keep rfl fun c o m q => ?_, A.d2.keep rfl fun c o m q => ?_, ?_, ?_, lo w5 A.ti, ?_⟩
  · have e : b = Z.z ∨ b = Z.TO := by simpa using hb
    rcases e with e | e
    · exact fp_bigV ok (e ▸ Nat.lt_trans g1n w6) (f.free b (by simp [e]))
    · exact fp_bigV ok (e ▸ g1n) (f.free b (by simp [e]))
  · rcases m with m | m
    · exact lo (m ▸ g1a) q
    · exact lo (m ▸ g1n) q
  · rcases m with m | m
    · exact lo (m ▸ g2a) q
    · exact lo (m ▸ g2n) q
  · obtain ⟨o, es, ep, e, d⟩ := A.n1
    exact ⟨o, es, ep, lo g1n e, d⟩
  · obtain ⟨o, es, ep, e, d⟩ := A.n2
    exact ⟨o, es, ep, lo g2n e, d⟩
  · obtain ⟨m, o, es, ep, e, r⟩ := A.c
    exact ⟨m, o, es, ep, k _ _ (Nat.ne_of_gt w7) (Nat.ne_of_gt (Nat.lt_trans w6 w7)) e, r⟩
/-- behind the first's first turn -/
structure Zv.Mid (Z : Zv) (X : Cx) (pins : List (Addr × Obj)) (σ : L2.St) (H : Hp) (al1 : Addr) (i1 : Nat) (s : Shared) : Prop where
  I : Inv X pins σ (upd H al1 (.lst (Z.ns1.map V.int))) s
  a1 : Asleep (Z.V1.x al1 Z.ns1 Z.tot Z.val1) i1 s
  d2 : Dozing Z.V2 Z.ns2 Z.tot Z.val2 s
  n1 : ∃ o es ep, s.heap.get? Z.V1.n0 = some o ∧ o.data = .dict es ep
  n2 : ∃ o es ep, s.heap.get? Z.V2.n0 = some o ∧ o.data = .dict es ep
  ti : IsPair s.heap Z.TI (.ref Z.V1.a) (.ref Z.V2.a)
  c : ∃ m, s.heap.Ns Z.C m
  new : H al1 = none
theorem mineV (f : Z.Hf H) {n0 a : Addr} (l : Z.V1.n0 ≤ n0) (na : n0 < a) (hn : H n0 = none) (ok : HOk X.prog X.w H s.heap) : ∀ b, Mine s.heap n0 a al b → H b = none := fun b m => by
  rcases m with m | ⟨m, j, it⟩
  · rw [m]
    exact hn
  · cases e : H b with
    | none => rfl
    | some u =>
      obtain ⟨xs, rfl⟩ := f.young b u (Nat.le_trans l (Nat.le_of_lt (Nat.lt_trans na m))) e
      exact absurd it (lst_not_iter ok e)
theorem mid_of (f : Z.Hf H) (ok : Z.Ok X pins) (A : Z.At X pins σ H s) {al1 : Addr} {j : Nat} (kt : Kept1 Z.V1 al1 Z.ns1 s s') (as : Asleep (Z.V1.x al1 Z.ns1 Z.tot Z.val1) j s') : Z.Mid X pins σ H al1 j s' := by
  obtain ⟨w1, w2, w3, w4, w5, w6, w7⟩ := ok.ord
  have hal : H al1 = none := new_none A.I.hok kt.new
  have k : ∀ {b : Addr} {o : Obj}, Z.V1.n0 < b → (o.cls ≠ .type "list_iterator" ∨ ∃ es ep, o.data = .dict es ep) → s.heap.get? b = some o → s'.heap.get? b = some o := fun {b o} l sol e => keptG kt (fun m => absurd (Nat.lt_trans (ok.o1.low b m) l) (Nat.lt_irrefl _)) (Nat.ne_of_gt l) (by
    cases w : Z.V1.W b with
    | none => rfl
    | some u => exact absurd (Nat.lt_trans (ok.o1.wlow b u w) l) (Nat.lt_irrefl _)) e sol
  have l2n : Z.V1.n0 < Z.V2.n0 := Nat.lt_trans w1 w2
  have l2a : Z.V1.n0 < Z.V2.a := Nat.lt_trans l2n w3
  have lTI : Z.V1.n0 < Z.TI := Nat.lt_trans l2a w4
  have lC : Z.V1.n0 < Z.C := Nat.lt_trans lTI (Nat.lt_trans w5 (Nat.lt_trans w6 w7))
  refine ⟨inv_kept1 A.I ok.o1 ok.ab1 ok.s1.2.2.2.2.2.1 ok.s1.1 ok.s1.2.1 kt f.w1 hal (mineV f (Nat.le_refl _) w1 (f.free _ (by simp)) A.I.hok), as, doz_keep A.d2 A.n2 (kt.gens _ (Ne.symm ok.g)) (fun b o m sol q => ?_), kt.there, ?_, ?_, ?_, hal⟩
  · rcases m with m | m
    · exact k (m ▸ l2a) sol q
    · exact k (m ▸ l2n) sol q
  · obtain ⟨o, es, ep, e, d⟩ := A.n2
    exact ⟨o, es, ep, k l2n (.inr ⟨es, ep, d⟩) e, d⟩
  · exact k lTI (.inl fun z => absurd (show Value.type "tuple" = Value.type "list_iterator" from z) (by decide)) A.ti
  · obtain ⟨m, o, es, ep, e, r⟩ := A.c
    exact ⟨m, o, es, ep, k lC (.inr ⟨es, ep, r.1⟩) e, r⟩
end
end Sq
set_option Elab.async false
set_option linter.all false
set_option maxRecDepth 100000
set_option maxHeartbeats 2000000
namespace Sq
open PySem PySem.Spec PyProof.Rows L2 GenW
section
variable {Z : Zv} {X : Cx} {pins : List (Addr × Obj)} {σ : L2.St} {H : Hp} {s s' : Shared} {al al1 : Addr} {ns : List Int} {i1 : Nat}
/-- what the readings know behind the first's first turn -/
theorem young_upd (f : Z.Hf H) {xs : List V} : ∀ b u, Z.V1.n0 ≤ b → upd H al (.lst xs) b = some u → ∃ xs, u = .lst xs := fun b u l e => by
  by_cases h : b = al
  · rw [h, upd_same] at e
    cases e
    exact ⟨_, rfl⟩
  · rw [upd_ne h] at e
    exact f.young b u l e
/-- all that lies there is no new list -/
theorem mid_ne (A : Z.Mid X pins σ H al1 i1 s) (hz : ∃ o, s.heap.get? Z.z = some o) (hTO : ∃ o, s.heap.get? Z.TO = some o) (n : s.heap.get? al = none) : ∀ b ∈ [Z.V1.n0, Z.V1.a, Z.V2.n0, Z.V2.a, Z.TI, Z.TO, Z.z, Z.C], b ≠ al := fun b hb => by
  obtain ⟨o1, _, _, e1, _⟩ := A.n1
  obtain ⟨o2, _, _, e2, _⟩ := A.n2
  obtain ⟨oz, ez⟩ := hz
  obtain ⟨oT, eT⟩ := hTO
  obtain ⟨_, oC, _, _, eC, _⟩ := A.c
  obtain ⟨oa, _, _, ea, _⟩ := A.a1.gen
  obtain ⟨ob, _, _, eb, _⟩ := A.d2.gen
  simp only [List.mem_cons, List.not_mem_nil, or_false] at hb
  rcases hb with z | z | z | z | z | z | z | z <;> subst z
  · exact new_ne n e1
  · exact new_ne n ea
  · exact new_ne n e2
  · exact new_ne n eb
  · exact new_ne n A.ti
  · exact new_ne n eT
  · exact new_ne n ez
  · exact new_ne n eC
theorem at_ne (A : Z.At X pins σ H s) (hz : ∃ o, s.heap.get? Z.z = some o) (hTO : ∃ o, s.heap.get? Z.TO = some o) (n : s.heap.get? al = none) : ∀ b ∈ [Z.V1.n0, Z.V1.a, Z.V2.n0, Z.V2.a, Z.TI, Z.TO, Z.z, Z.C], b ≠ al := fun b hb => by
  obtain ⟨o1, _, _, e1, _⟩ := A.n1
  obtain ⟨o2, _, _, e2, _⟩ := A.n2
  obtain ⟨oz, ez⟩ := hz
  obtain ⟨oT, eT⟩ := hTO
  obtain ⟨_, oC, _, _, eC, _⟩ := A.c
  obtain ⟨oa, _, _, ea, _⟩ := A.d1.gen
  obtain ⟨ob, _, _, eb, _⟩ := A.d2.gen
  simp only [List.mem_cons, List.not_mem_nil, or_false] at hb
  rcases hb with z | z | z | z | z | z | z | z <;> subst z
  · exact new_ne n e1
  · exact new_ne n ea
  · exact new_ne n e2
  · exact new_ne n eb
  · exact new_ne n A.ti
  · exact new_ne n eT
  · exact new_ne n ez
  · exact new_ne n eC
theorem mid_touch {h' : Heap} {t' : Nat} (f : Z.Hf H) (ok : Z.Ok X pins) (A : Z.Mid X pins σ H al1 i1 s) (nal : ∀ b ∈ [Z.V1.n0, Z.V1.a, Z.V2.n0, Z.V2.a, Z.TI, Z.TO, Z.z, Z.C], b ≠ al1) (solT : Solid s.heap Z.TO) (k : ∀ c o, c ≠ Z.TO → s.heap.get? c = some o → h'.get? c = some o) : Z.Mid X pins σ H al1 i1 { s with heap := h', toks := t' } := by
  obtain ⟨w1, w2, w3, w4, w5, w6, w7⟩ := ok.ord
  have lo : ∀ {c : Addr} {o : Obj}, c < Z.TO → s.heap.get? c = some o → h'.get? c = some o := fun {c o} l e => k c o (Nat.ne_of_lt l) e
  have g2a : Z.V2.a < Z.TO := Nat.lt_trans w4 w5
  have g2n : Z.V2.n0 < Z.TO := Nat.lt_trans w3 g2a
  have g1a : Z.V1.a < Z.TO := Nat.lt_trans w2 g2n
  have g1n : Z.V1.n0 < Z.TO := Nat.lt_trans w1 g1a
  refine ⟨A.I.turnedL (t' := t') (ch := [Z.TO]) (fun c o hb q => k c o (fun z => hb (by simp [z])) q) (fun b hb => ?_), A.a1.keep rfl fun c o m q => ?_, A.d2.keep rfl fun c o m q => ?_, ?_, ?_, lo w5 A.ti, ?_, A.new⟩
  · have e : b = Z.TO := by simpa using hb
    refine fp_bigV ok (e ▸ g1n) ?_
    rw [e, upd_ne (nal _ (by simp))]
    exact f.free _ (by simp)
  · rcases m with m | m | ⟨_, j, it⟩
    · exact lo (m ▸ g1a) q
    · exact lo (m ▸ g1n) q
    · refine k c o (fun z => ?_) q
      obtain ⟨o1, e1, no⟩ := solT
      obtain ⟨o', e', c', d'⟩ := it
      rw [z, e1] at e'
      cases e'
      rcases no with no | ⟨es, ep, no⟩
      · exact no c'
      · rw [no] at d'
        cases d'
  · rcases m with m | m
    · exact lo (m ▸ g2a) q
    · exact lo (m ▸ g2n) q
  · obtain ⟨o, es, ep, e, d⟩ := A.n1
    exact ⟨o, es, ep, lo g1n e, d⟩
  · obtain ⟨o, es, ep, e, d⟩ := A.n2
    exact ⟨o, es, ep, lo g2n e, d⟩
  · obtain ⟨m, o, es, ep, e, r⟩ := A.c
    exact ⟨m, o, es, ep, k _ _ (Nat.ne_of_gt (Nat.lt_trans w6 w7)) e, r⟩
theorem sub_upd {W : Hp} {u : HO} (sub : ∀ b v, W b = some v → H b = some v) (n : H al = none) : ∀ b v, W b = some v → upd H al u b = some v := fun b v e => by
  have q := sub b v e
  rw [upd_ne (ne_of_none q n)]
  exact q
/-- both lists stand -/
theorem at_of (f : Z.Hf H) (ok : Z.Ok X pins) (A : Z.Mid X pins σ H al1 i1 s) (nal : ∀ b ∈ [Z.V1.n0, Z.V1.a, Z.V2.n0, Z.V2.a, Z.TI, Z.TO, Z.z, Z.C], b ≠ al1) (hz : ∃ o, s.heap.get? Z.z = some o) (hTO : ∃ o, s.heap.get? Z.TO = some o) {al2 : Addr} {j : Nat} (ok1 : (Z.V1.x al1 Z.ns1 Z.tot Z.val1).Ok) (ok2 : (Z.V2.x al2 Z.ns2 Z.tot Z.val2).Ok)
    (kt : Kept1 Z.V2 al2 Z.ns2 s s') (as : Asleep (Z.V2.x al2 Z.ns2 Z.tot Z.val2) j s') : (Z.zx al1 al2).Ok X pins ∧ (Z.zx al1 al2).Hf (upd (upd H al1 (.lst (Z.ns1.map V.int))) al2 (.lst (Z.ns2.map V.int))) ∧ (Z.zx al1 al2).At X pins σ (upd (upd H al1 (.lst (Z.ns1.map V.int))) al2 (.lst (Z.ns2.map V.int))) i1 j s' := by
  obtain ⟨w1, w2, w3, w4, w5, w6, w7⟩ := ok.ord
  have hal2 : upd H al1 (.lst (Z.ns1.map V.int)) al2 = none := new_none A.I.hok kt.new
  have ne12 : al1 ≠ al2 := ne_of_none (upd_same (H := H)) hal2
  have nal2 := mid_ne A hz hTO kt.new
  have lo1 : ∀ {b : Addr}, b ∈ frs Z.V2.outer → b < Z.V1.n0 := fun {b} m => by
    have e : Z.V2.outer = Z.V1.outer := ok.s2.2.2.2.2.2.1.trans ok.s1.2.2.2.2.2.1.symm
    rw [e] at m
    exact ok.o1.low b m
  have nf : ∀ {b : Addr}, Z.V1.n0 ≤ b → b ∉ frs Z.V2.outer := fun {b} l m => absurd (lo1 m) (Nat.not_lt_of_le l)
  have nw : ∀ {b : Addr}, H b = none → Z.V2.W b = none := fun {b} h => by
    cases w : Z.V2.W b with
    | none => rfl
    | some u =>
      rw [f.w2 b u w] at h
      cases h
  have k : ∀ {b : Addr} {o : Obj}, b ∈ [Z.V1.n0, Z.V1.a, Z.V2.n0, Z.V2.a, Z.TI, Z.TO, Z.z, Z.C] → Z.V1.n0 ≤ b → b ≠ Z.V2.n0 → (o.cls ≠ .type "list_iterator" ∨ ∃ es ep, o.data = .dict es ep) → s.heap.get? b = some o → s'.heap.get? b = some o := fun {b o} m l nn sol e => keptG kt (nf l) nn (nw (f.free b m)) e sol
  have l1a := Nat.le_of_lt w1
  have l2n := Nat.lt_trans w1 w2
  have lTI := Nat.lt_trans l2n (Nat.lt_trans w3 w4)
  have lC := Nat.lt_trans lTI (Nat.lt_trans w5 (Nat.lt_trans w6 w7))
  have C2 : Z.V2.n0 < Z.C := Nat.lt_trans w3 (Nat.lt_trans w4 (Nat.lt_trans w5 (Nat.lt_trans w6 w7)))
  have I2 : Inv X pins σ (upd (upd H al1 (.lst (Z.ns1.map V.int))) al2 (.lst (Z.ns2.map V.int))) s' := by
    refine inv_kept1 A.I ok.o2 ok.ab2 ok.s2.2.2.2.2.2.1 ok.s2.1 ok.s2.2.1 kt (sub_upd f.w2 A.new) hal2 fun b m => ?_
    rcases m with m | ⟨m, j, it⟩
    · rw [m, upd_ne (nal _ (by simp))]
      exact f.free _ (by simp)
    · cases e : upd H al1 (.lst (Z.ns1.map V.int)) b with
      | none => rfl
      | some u =>
        obtain ⟨xs, rfl⟩ := young_upd f b u (Nat.le_of_lt (Nat.lt_trans l2n (Nat.lt_trans w3 m))) e
        exact absurd it (lst_not_iter A.I.hok e)
  refine ⟨⟨ok1, ok2, ok.ab1, ok.ab2, ok.s1, ok.s2, ok.g, ok.fs, ok.q1, ne12, ok.q2, ok.q3, ok.q4, ok.q5⟩, ⟨?_, upd_same, fun b u l e => ?_, fun b hb => ?_⟩, ⟨I2, A.a1.keep (kt.gens _ ok.g) fun c o m q => ?_, as, ?_, kt.there, ?_, ?_⟩⟩
  · exact (upd_ne ne12).trans upd_same
  · by_cases h : b = al2
    · rw [h, upd_same] at e
      cases e
      exact ⟨_, rfl⟩
    · rw [upd_ne h] at e
      exact young_upd f b u l e
  · rw [upd_ne (nal2 b hb), upd_ne (nal b hb)]
    exact f.free b hb
  · rcases m with m | m | ⟨lt, j, it⟩
    · obtain ⟨o', nm, qn, e', r⟩ := A.a1.gen
      have eo := e'
      rw [← m, q] at eo
      cases eo
      rw [m] at q ⊢
      exact k (by simp) l1a (Nat.ne_of_lt w2) (.inl (by rw [r.1]; decide)) q
    · obtain ⟨o', es, ep, e', d⟩ := A.n1
      have eo := e'
      rw [← show c = Z.V1.n0 from m, q] at eo
      cases eo
      rw [m] at q ⊢
      exact k (by simp) (Nat.le_refl _) (Nat.ne_of_lt l2n) (.inr ⟨es, ep, d⟩) q
    · have lt : Z.V1.a < c := lt
      refine kt.keep c o q (nf (Nat.le_of_lt (Nat.lt_trans w1 lt))) (fun m => ?_) (nw ?_)
      · rcases m with m | ⟨_, j', it'⟩
        · obtain ⟨o', es, ep, e', d⟩ := A.n2
          exact iter_not_dict it (m ▸ e') d
        · obtain ⟨o1, e1, c1, d1⟩ := it
          obtain ⟨o2, e2, c2, d2⟩ := it'
          rw [e1] at e2
          cases e2
          rw [d1] at d2
          have z : al1 = al2 := by
            injection d2 with d2
            have := congrArg (fun a : Array Value => a[0]?) d2
            simpa using this
          exact ne12 z
      · cases e : H c with
        | none => rfl
        | some u =>
          obtain ⟨xs, rfl⟩ := f.young c u (Nat.le_of_lt (Nat.lt_trans w1 lt)) e
          exact absurd it (lst_not_iter A.I.hok (show upd H al1 _ c = _ from (upd_ne (ne_of_none e A.new)).trans e))
  · obtain ⟨o, es, ep, e, d⟩ := A.n1
    exact ⟨o, es, ep, k (by simp) (Nat.le_refl _) (Nat.ne_of_lt l2n) (.inr ⟨es, ep, d⟩) e, d⟩
  · exact k (by simp) (Nat.le_of_lt lTI) (Nat.ne_of_gt (Nat.lt_trans w3 w4)) (.inl fun z => absurd (show Value.type "tuple" = Value.type "list_iterator" from z) (by decide)) A.ti
  · obtain ⟨m, o, es, ep, e, r⟩ := A.c
    exact ⟨m, o, es, ep, k (by simp) (Nat.le_of_lt lC) (Nat.ne_of_gt C2) (.inr ⟨es, ep, r.1⟩) e, r⟩
end
end Sq
set_option Elab.async false
set_option linter.all false
set_option maxRecDepth 100000
set_option maxHeartbeats 2000000
namespace Sq
open PySem PySem.Spec PyProof.Rows L2 GenW
section
variable {Z : Zv} {X : Cx} {pins : List (Addr × Obj)} {σ : L2.St} {H : Hp} {s s' : Shared}
theorem pair_first (f : Z.Hf H) (ok : Z.Ok X pins) (A : Z.At X pins σ H s) (hcalm : X.A.handled = none) (hroom : X.A.depth < recursionLimit) (hz : IsZip s.heap Z.z Z.TI Z.TO .none) (hTO : ∃ a b, IsPair s.heap Z.TO a b) {E : Value → Shared → Prop} {Q : Option Value → Shared → Prop}
    (item : ∀ (al1 al2 : Addr) (j : Nat) (T : Addr) (t1 t2 : Tok) (s' : Shared), Z.tot = j + 1 → (Z.zx al1 al2).Ok X pins → (Z.zx al1 al2).Hf (upd (upd H al1 (.lst (Z.ns1.map V.int))) al2 (.lst (Z.ns2.map V.int))) → (Z.zx al1 al2).At X pins σ (upd (upd H al1 (.lst (Z.ns1.map V.int))) al2 (.lst (Z.ns2.map V.int))) j j s' → H al1 = none → H al2 = none → IsZip s'.heap Z.z Z.TI Z.TO (rawInt T) → (∃ a b, IsPair s'.heap Z.TO a b) → IsPair s'.heap T (.int (Z.val1 0) t1) (.int (Z.val2 0) t2) → Z.C < T → Q (some (.ref T)) s')
    (done : Z.tot = 0 → ∀ al s', H al = none → al ≠ Z.C → Inv X pins σ (upd H al (.lst (Z.ns1.map V.int))) s' → (∃ m, s'.heap.Ns Z.C m) → Q none s') : wpAny (model X.prog X.w) X.A (pyNext (.ref Z.z)) Q E s := by
  obtain ⟨w1, w2, w3, w4, w5, w6, w7⟩ := ok.ord
  obtain ⟨a0, b0, hTO⟩ := hTO
  have nzt : Z.TO ≠ Z.z := Nat.ne_of_lt w6
  have lTO2 : Z.V2.n0 < Z.TO := Nat.lt_trans w3 (Nat.lt_trans w4 w5)
  have lTO : Z.V1.n0 < Z.TO := Nat.lt_trans w1 (Nat.lt_trans w2 lTO2)
  have cz : ∀ {f0 : Value}, ({ cls := .type "zip", dict := none, data := .fields #[f0, .bool false, .bool false, .ref Z.TI, .ref Z.TO], slots := #[] } : Obj).cls ≠ .type "list_iterator" := fun {f0} q => absurd (show Value.type "zip" = Value.type "list_iterator" from q) (by decide)
  have cT : ∀ {x y : Value}, ({ cls := .type "tuple", data := .seq #[x, y] } : Obj).cls ≠ .type "list_iterator" := fun {x y} q => absurd (show Value.type "tuple" = Value.type "list_iterator" from q) (by decide)
  have k1 : ∀ {s s' : Shared} {al : Addr} {b : Addr} {o : Obj}, Kept1 Z.V1 al Z.ns1 s s' → Z.V1.n0 < b → s.heap.get? b = some o → (o.cls ≠ .type "list_iterator" ∨ ∃ es ep, o.data = .dict es ep) → s'.heap.get? b = some o := fun {s s' al b o} kt l e sol => keptG kt (fun m => absurd (Nat.lt_trans (ok.o1.low b m) l) (Nat.lt_irrefl _)) (Nat.ne_of_gt l) (by
    cases w : Z.V1.W b with
    | none => rfl
    | some u => exact absurd (Nat.lt_trans (ok.o1.wlow b u w) l) (Nat.lt_irrefl _)) e sol
  have k2 : ∀ {s s' : Shared} {al : Addr} {b : Addr} {o : Obj}, Kept1 Z.V2 al Z.ns2 s s' → Z.V2.n0 < b → s.heap.get? b = some o → (o.cls ≠ .type "list_iterator" ∨ ∃ es ep, o.data = .dict es ep) → s'.heap.get? b = some o := fun {s s' al b o} kt l e sol => keptG kt (fun m => absurd (Nat.lt_trans (ok.o2.low b m) l) (Nat.lt_irrefl _)) (Nat.ne_of_gt l) (by
    cases w : Z.V2.W b with
    | none => rfl
    | some u => exact absurd (Nat.lt_trans (ok.o2.wlow b u w) l) (Nat.lt_irrefl _)) e sol
  refine next_zip (a := a0) (b := b0) (Nat.ne_of_gt w6) hz A.ti fun h₁ hz₁ sb₁ => ?_
  have A1 : Z.At X pins σ H { s with heap := h₁ } := atv_touch (t' := s.toks) f ok A fun c o h1 _ e => (sb₁.2 c h1).trans e
  have hTO₁ : IsPair h₁ Z.TO a0 b0 := (sb₁.2 _ nzt).trans hTO
  have hw := first_turn (A := X.A.in1) ok.o1 A1.d1 (e0v_of ok.o1 A1.I ok.s1 f.w1) ok.s1.2.2.2.2.2.2.1 hcalm hroom
  rw [ok.s1.1, ok.s1.2.1] at hw
  refine wpAny_mono hw (fun x s₂ hh => ?_) fun x s₂ hh => ?_
  · obtain ⟨al1, m, i, hn, hi, ⟨t, ev⟩, okx1, kt, as⟩ := hh
    obtain rfl : i = 0 := by omega
    have nal := at_ne (al := al1) A1 ⟨_, hz₁⟩ ⟨_, hTO₁⟩ kt.new
    have A2 := mid_of f ok A1 kt as
    have hz₂ : IsZip s₂.heap Z.z Z.TI Z.TO .ellipsis := k1 kt (Nat.lt_trans lTO w6) hz₁ (.inl cz)
    have hTO₂ : IsPair s₂.heap Z.TO a0 b0 := k1 kt lTO hTO₁ (.inl cT)
    refine ⟨hz₂, hTO₂, fun h₃ sb₃ hTO₃ => ?_⟩
    have A3 : Z.Mid X pins σ H al1 m { s₂ with heap := h₃ } := mid_touch (t' := s₂.toks) f ok A2 nal ⟨_, hTO₂, .inl cT⟩ fun c o h1 e => (sb₃.2 c h1).trans e
    have hz₃ : IsZip h₃ Z.z Z.TI Z.TO .ellipsis := (sb₃.2 _ (Ne.symm nzt)).trans hz₂
    have hw2 := first_turn (A := X.A.in1) ok.o2 A3.d2 (e0v_of ok.o2 A3.I ok.s2 (sub_upd f.w2 A3.new)) ok.s2.2.2.2.2.2.2.1 hcalm hroom
    rw [ok.s2.1, ok.s2.2.1] at hw2
    refine wpAny_mono hw2 (fun y s₄ hh => ?_) fun y s₄ hh => ?_
    · obtain ⟨al2, m2, i', hn2, hi2, ⟨t2, ev2⟩, okx2, kt2, as2⟩ := hh
      obtain rfl : i' = 0 := by omega
      obtain rfl : m = m2 := by omega
      obtain ⟨okz, hf, A4⟩ := at_of f ok A3 nal ⟨_, hz₃⟩ ⟨_, hTO₃⟩ okx1 okx2 kt2 as2
      have hz₄ : IsZip s₄.heap Z.z Z.TI Z.TO .ellipsis := k2 kt2 (Nat.lt_trans lTO2 w6) hz₃ (.inl cz)
      have hTO₄ : IsPair s₄.heap Z.TO x b0 := k2 kt2 lTO2 hTO₃ (.inl cT)
      refine ⟨hz₄, hTO₄, fun h' hz' hTO' hT' k' => ?_⟩
      have A5 : (Z.zx al1 al2).At X pins σ _ m m { s₄ with heap := h' } := at_touch (t' := s₄.toks) hf okz A4 ⟨_, hz₄, .inl cz⟩ ⟨_, hTO₄, .inl cT⟩ k'
      subst ev ev2
      obtain ⟨mm, hns⟩ := A4.c
      have h2n := new_none A3.I.hok kt2.new
      have n21 : al2 ≠ al1 := fun z => by
        rw [z, upd_same] at h2n
        cases h2n
      have h2n' := h2n
      rw [upd_ne n21] at h2n'
      exact item al1 al2 m s₄.heap.objs.size t t2 _ hn okz hf A5 A3.new h2n' hz' ⟨_, _, hTO'⟩ hT' hns.lt
    · exact absurd hh.1 (by omega)
  · obtain ⟨hn0, b, o, al, eb, ho, hc, kt⟩ := hh
    subst eb
    have nal := at_ne (al := al) A1 ⟨_, hz₁⟩ ⟨_, hTO₁⟩ kt.new
    have hal := new_none A1.I.hok kt.new
    have hz₂ : IsZip s₂.heap Z.z Z.TI Z.TO .ellipsis := k1 kt (Nat.lt_trans lTO w6) hz₁ (.inl cz)
    have I2 : Inv X pins σ (upd H al (.lst (Z.ns1.map V.int))) s₂ := inv_kept1 A1.I ok.o1 ok.ab1 ok.s1.2.2.2.2.2.1 ok.s1.1 ok.s1.2.1 kt f.w1 hal (mineV f (Nat.le_refl _) w1 (f.free _ (by simp)) A1.I.hok)
    have nb : b ≠ Z.z := fun q => by
      rw [q, show s₂.heap.get? Z.z = _ from hz₂] at ho
      cases ho
      exact absurd (show Value.type "zip" = Value.type "StopIteration" from hc) (by decide)
    refine ⟨hz₂, fun h sb => ⟨b, o, rfl, (sb.2 b nb).trans ho, hc, done hn0 al _ hal (Ne.symm (nal _ (by simp))) ?_ ?_⟩⟩
    · refine I2.turnedL (t' := s₂.toks) (ch := [Z.z]) (fun c o hb q => (sb.2 c fun z => hb (by simp [z])).trans q) fun c hc => ?_
      have e : c = Z.z := by simpa using hc
      refine fp_bigV ok (e ▸ Nat.lt_trans lTO w6) ?_
      rw [e, upd_ne (nal _ (by simp))]
      exact f.free _ (by simp)
    · obtain ⟨mm, o', es, ep, e, r⟩ := A1.c
      exact ⟨mm, o', es, ep, (sb.2 _ (Nat.ne_of_gt w7)).trans (k1 kt (Nat.lt_trans lTO (Nat.lt_trans w6 w7)) e (.inr ⟨es, ep, r.1⟩)), r⟩
end
end Sq
set_option Elab.async false
set_option linter.all false
set_option maxRecDepth 100000
set_option maxHeartbeats 2000000
namespace Sq
open PySem PySem.Spec PyProof.Rows L2 GenW
section
variable {Z : Zx} {X : Cx} {pins : List (Addr × Obj)} {σ : L2.St} {H H' : Hp} {i1 i2 : Nat} {s s' : Shared}
theorem at_move {ch : List Addr} (ok : Z.Ok X pins) (A : Z.At X pins σ H i1 i2 s) (I' : Inv X pins σ H' s') (hg : s'.gens = s.gens) (hc : ∃ m, s'.heap.Ns Z.C m) (k : ∀ c o, c ∉ ch → s.heap.get? c = some o → s'.heap.get? c = some o)
    (big : ∀ b ∈ ch, Z.TI < b) (sol : ∀ b ∈ ch, Solid s.heap b) : Z.At X pins σ H' i1 i2 s' := by
  obtain ⟨w1, w2, w3, w4, w5, w6, w7⟩ := ok.ord
  have lo : ∀ {c : Addr} {o : Obj}, c ≤ Z.TI → s.heap.get? c = some o → s'.heap.get? c = some o := fun {c o} l e => k c o (fun m => absurd (big c m) (Nat.not_lt_of_le l)) e
  have noit : ∀ {c al : Addr} {j : Nat} {o : Obj}, s.heap.IsListIter c al j → s.heap.get? c = some o → s'.heap.get? c = some o := fun {c al j o} i e => k c o (fun m => by
    obtain ⟨o1, e1, no⟩ := sol c m
    obtain ⟨o', e', c', d'⟩ := i
    rw [e1] at e'
    cases e'
    rcases no with no | ⟨es, ep, no⟩
    · exact no c'
    · rw [no] at d'
      cases d') e
  have g2a : Z.G2.a ≤ Z.TI := Nat.le_of_lt w4
  have g2n : Z.G2.n0 ≤ Z.TI := Nat.le_of_lt (Nat.lt_trans w3 w4)
  have g1a : Z.G1.a ≤ Z.TI := Nat.le_of_lt (Nat.lt_trans w2 (Nat.lt_trans w3 w4))
  have g1n : Z.G1.n0 ≤ Z.TI := Nat.le_of_lt (Nat.lt_trans w1 (Nat.lt_trans w2 (Nat.lt_trans w3 w4)))
  refine ⟨I', A.a1.keep (by rw [hg]) fun c o m q => ?_, A.a2.keep (by rw [hg]) fun c o m q => ?_, ?_, ?_, lo (Nat.le_refl _) A.ti, hc⟩
  · rcases m with m | m | ⟨_, j, it⟩
    · exact lo (m ▸ g1a) q
    · exact lo (m ▸ g1n) q
    · exact noit it q
  · rcases m with m | m | ⟨_, j, it⟩
    · exact lo (m ▸ g2a) q
    · exact lo (m ▸ g2n) q
    · exact noit it q
  · obtain ⟨o, es, ep, e, d⟩ := A.n1
    exact ⟨o, es, ep, lo g1n e, d⟩
  · obtain ⟨o, es, ep, e, d⟩ := A.n2
    exact ⟨o, es, ep, lo g2n e, d⟩
theorem solid_ns {h : Heap} {b : Addr} {m : Str → Option Value} (n : h.Ns b m) : Solid h b := by
  obtain ⟨o, es, ep, e, r⟩ := n
  exact ⟨o, e, .inr ⟨es, ep, r.1⟩⟩
def prs (v1 v2 : Nat → Int) (k : Nat) : List (List Int) := (List.range k).map fun i => [v1 i, v2 i]
theorem fp_big {b : Addr} (ok : Z.Ok X pins) (l : Z.G1.n0 < b) (hf : H b = none) : FpOk X pins H b :=
  ⟨hf, Nat.ne_of_gt (Nat.lt_trans ok.ab1.loc l), fun m => absurd (Nat.lt_trans (ok.fs b m) l) (Nat.lt_irrefl _), .inr (Nat.le_of_lt (Nat.lt_of_le_of_lt ok.ab1.young l)), fun x c e z => absurd z (Nat.ne_of_lt (Nat.lt_trans (ok.ab1.cell x c e) l)), fun p hp z => absurd z (Nat.ne_of_lt (Nat.lt_trans (ok.ab1.pin p hp) l))⟩
/-- the loop's state -/
def Zx.Lp (Z : Zx) (X : Cx) (pins : List (Addr × Obj)) (σ : L2.St) (Hs : Hp) (D : Addr) (tot n : Nat) (s : Shared) : Prop := ∃ (H : Hp) (rows : List Addr), Z.Hf H ∧ Z.At X pins σ H n n s ∧ n ≤ tot ∧ IsZip s.heap Z.z Z.TI Z.TO .none ∧ (∃ a b, IsPair s.heap Z.TO a b) ∧
  H D = some (.lst (rows.map V.ref)) ∧ rows.length = tot - n ∧ RowsAt H rows (prs Z.G1.val Z.G2.val (tot - n)) ∧ ∀ b o, Hs b = some o → b ≠ D → H b = some o
theorem zip_item {x1 x2 : Str} {p1 p2 p3 p4 lp tpos : Pos} {kk tot : Nat} {ce : Env} {E : Value → Shared → Prop} {Back : Shared → Prop} {Hs : Hp} {D : Addr} (ok : Z.Ok X pins) (hcalm : X.A.handled = none) (few : tot < 1000) (zD : Z.z < D) (DC : D < Z.C)
    (eC : ce.locals = Z.C) (hk : ce.scope.kind = .function) (k1 : ce.kindOf x1 = some .local) (k2 : ce.kindOf x2 = some .local) (ne : x1 ≠ x2) (d1 : (x1 == ("__debug__" : Str)) = false) (d2 : (x2 == ("__debug__" : Str)) = false)
    {rows : List Addr} {j1 v1 v2 : Nat} {T : Addr} {t1 t2 : Tok} {s2 : Shared} (f : Z.Hf H) (A2 : Z.At X pins σ H j1 j1 s2) (le : j1 + 1 ≤ tot) (hz2 : IsZip s2.heap Z.z Z.TI Z.TO (rawInt T)) (hTO2 : ∃ a b, IsPair s2.heap Z.TO a b) (hT : IsPair s2.heap T (.int (Z.G1.val v1) t1) (.int (Z.G2.val v2) t2)) (lT : Z.C < T)
    (ev1 : v1 = tot - (j1 + 1)) (ev2 : v2 = tot - (j1 + 1)) (hD : H D = some (.lst (rows.map V.ref))) (hrl : rows.length = tot - (j1 + 1)) (hrows : RowsAt H rows (prs Z.G1.val Z.G2.val (tot - (j1 + 1)))) (keep : ∀ b o, Hs b = some o → b ≠ D → H b = some o) (alD1 : Z.G1.al ≠ D) (alD2 : Z.G2.al ≠ D)
    (back : ∀ s, Z.Lp X pins σ Hs D tot j1 s → Back s) :
    wpAny (model X.prog X.w) X.A (letOwnedTupleGo (.Tuple [.Name x1 p3, .Name x2 p4] kk tpos) (.ref Z.z) (.ref T)) (fun _ s₁' => wpAny (model X.prog X.w) X.A (assign (.Tuple [.Name x1 p3, .Name x2 p4] kk tpos) ce (.ref T)) (fun _ s₂ =>
      wpAny (model X.prog X.w) X.A (forIn ([] : List Expr) true fun c r => if r = true then do let ok ← isTrue c ce (eval c ce); pure (ForInStep.yield ok) else pure (ForInStep.yield r)) (fun ok s₃ =>
        if ok = true then wpAny (model X.prog X.w) X.A (eval (.List [.Name x1 p1, .Name x2 p2] lp) ce) (fun x s₄ =>
          wpAny (model X.prog X.w) X.A (call (.builtin "list.append") [.ref D, x]) (fun _ s₅ => Back s₅) E s₄) E s₃
        else Back s₃) E s₂) E s₁') E s2 := by
  obtain ⟨w1, w2, w3, w4, w5, w6, w7⟩ := ok.ord
  have TIz : Z.TI < Z.z := Nat.lt_trans w5 w6
  have nz : IsZip s2.heap Z.z Z.TI Z.TO (rawInt T) := hz2
  have solz : Solid s2.heap Z.z := ⟨_, nz, .inl fun q => absurd (show Value.type "zip" = Value.type "list_iterator" from q) (by decide)⟩
  show wpAny _ _ (letOwnedTupleGo (.Tuple [.Name x1 p3, .Name x2 p4] kk tpos) (.ref Z.z) (.ref T)) _ _ s2
  refine wpAny_letOwnedTupleGo_zip hz2 fun h3 hz3 sb3 => ?_
  have fpz := fp_zip f ok
  have kz : ∀ c o, c ∉ [Z.z] → s2.heap.get? c = some o → h3.get? c = some o := fun c o m e => (sb3.2 c fun z => m (by simp [z])).trans e
  obtain ⟨mC, hC⟩ := A2.c
  have hC3 : h3.Ns Z.C mC := hC.extBut (fun c o m e => (sb3.2 c m).trans e) (Nat.ne_of_gt w7)
  have I3 : Inv X pins σ H { s2 with heap := h3 } := A2.I.turnedL (t' := s2.toks) (ch := [Z.z]) kz fun b hb => fpz b (by
    have : b = Z.z := by simpa using hb
    simp [this])
  have A3 : Z.At X pins σ H j1 j1 { s2 with heap := h3 } := at_move (ch := [Z.z]) ok A2 I3 rfl ⟨mC, hC3⟩ kz (fun b hb => by
    have : b = Z.z := by simpa using hb
    rw [this]
    exact TIz) fun b hb => by
    have : b = Z.z := by simpa using hb
    rw [this]
    exact solz
  have hT3 : IsPair h3 T (.int (Z.G1.val v1) t1) (.int (Z.G2.val v2) t2) := (sb3.2 T (Nat.ne_of_gt (Nat.lt_trans w7 lT))).trans hT
  obtain ⟨ta, tb, hTO⟩ := hTO2
  have hTO3 : IsPair h3 Z.TO ta tb := (sb3.2 _ (Nat.ne_of_lt w6)).trans hTO
  refine assign_Tuple_tuple hcalm (items := #[.int (Z.G1.val v1) t1, .int (Z.G2.val v2) t2]) ⟨_, hT3, rfl, _, rfl⟩ rfl rfl fun h4 hx4 => ?_
  have k4 : ∀ c o, h3.get? c = some o → h4.get? c = some o := fun c o e => hx4 c o (Nat.ne_of_lt (Heap.lt_size e)) e
  have hC4 : h4.Ns Z.C mC := hC3.extBut (fun c o _ e => k4 c o e) (Nat.ne_of_lt (Nat.lt_succ_self _))
  have cls : (ce.scope.kind == .class || (ce.scope.kind == .module && ce.locals != ce.globals)) = false := by
    rw [hk]
    rfl
  show wpAny _ _ (assignInOrder [assign (.Name x1 p3) ce, assign (.Name x2 p4) ce] [.int (Z.G1.val v1) t1, .int (Z.G2.val v2) t2]) _ _ _
  refine assignInOrder_cons (wpAny_assign_Name (wpAny_storeName_local k1 (by rw [eC]; exact hC4) (fun h5 hC5 sb5 => ?_) cls))
  refine assignInOrder_cons (wpAny_assign_Name (wpAny_storeName_local k2 hC5 (fun h6 hC6 sb6 => ?_) cls))
  refine assignInOrder_nil (wpAny_tests_nil ?_)
  rw [if_pos rfl]
  have m2 : (fun x => if x = x2 then some (Value.int (Z.G2.val v2) t2) else if x = x1 then some (Value.int (Z.G1.val v1) t1) else mC x) x1 = some (Value.int (Z.G1.val v1) t1) := by
    show (if x1 = x2 then _ else if x1 = x1 then _ else _) = _
    rw [if_neg ne, if_pos rfl]
  have m3 : (fun x => if x = x2 then some (Value.int (Z.G2.val v2) t2) else if x = x1 then some (Value.int (Z.G1.val v1) t1) else mC x) x2 = some (Value.int (Z.G2.val v2) t2) := if_pos rfl
  refine wpAny_List_spliced ?_
  show wpAny _ _ (spliced ((false, eval (.Name x1 p1) ce) :: backTo lp (starEach [.Name x2 p2] ce))) _ _ _
  refine Calls.spliced_cons (wpAny_Name (wpAny_loadName_local hk k1 hC6 m2 ?_) d1)
  show wpAny _ _ (spliced ((false, eval (.Name x2 p2) ce) :: backTo lp (starEach [] ce))) _ _ _
  refine Calls.spliced_cons (wpAny_Name (wpAny_loadName_local hk k2 hC6 m3 ?_) d2)
  refine Calls.spliced_nil ⟨by show 2 ≤ sizeLine; rw [sizeLine_eq]; decide, ?_⟩
  rw [eC] at sb5 sb6 hC6
  have k6 : ∀ c o, c ∉ [Z.z, Z.C] → s2.heap.get? c = some o → h6.get? c = some o := fun c o m e => (sb6.2 c fun z => m (by simp [z])).trans ((sb5.2 c fun z => m (by simp [z])).trans (k4 c o (kz c o (fun z => m (by simp at z; simp [z])) e)))
  have nC : Z.G1.n0 < Z.C := Nat.lt_trans w1 (Nat.lt_trans w2 (Nat.lt_trans w3 (Nat.lt_trans w4 (Nat.lt_trans TIz w7))))
  have I6 : Inv X pins σ H { s2 with heap := h6, toks := s2.toks + 1 + 1 } := A2.I.turnedL (t' := s2.toks + 1 + 1) (ch := [Z.z, Z.C]) k6 fun b hb => by
    have e : b = Z.z ∨ b = Z.C := by simpa using hb
    rcases e with e | e
    · exact fpz b (by simp [e])
    · exact fp_big ok (e ▸ nC) (f.free b (by simp [e]))
  obtain ⟨r, er⟩ : ∃ r, r = h6.objs.size := ⟨_, rfl⟩
  have rC : Z.C < r := by
    rw [er]
    exact hC6.lt
  have rf : H r = none := by
    rw [er]
    exact I6.hok.fresh (Nat.le_refl _)
  have I7 : Inv X pins σ (upd H r (.lst [.int (Z.G1.val v1), .int (Z.G2.val v2)])) { s2 with heap := h6.push { cls := .type "list", data := .seq [Value.int (Z.G1.val v1) t1, Value.int (Z.G2.val v2) t2].toArray }, toks := s2.toks + 1 + 1 } := by
    rw [er]
    exact I6.laid (t' := s2.toks + 1 + 1) (fun b u e => Heap.get?_push_of_some _ e) (Nat.le_refl _) ⟨by show 2 ≤ sizeLine; rw [sizeLine_eq]; decide, [.int (Z.G1.val v1) t1, .int (Z.G2.val v2) t2], 0, .cons ⟨_, rfl⟩ (.cons ⟨_, rfl⟩ .nil), Heap.get?_push_size _ rfl⟩
  have nDr : D ≠ r := ne_of_none hD rf
  have hD7 : (upd H r (.lst [.int (Z.G1.val v1), .int (Z.G2.val v2)])) D = some (.lst (rows.map V.ref)) := by
    rw [upd_ne nDr]
    exact hD
  obtain ⟨hz', its, nn, ri, e⟩ := I7.hok D _ hD7
  have hl := ri.length
  rw [List.length_map] at hl
  refine append_at (hsz := by rw [List.size_toArray, ← hl, sizeLine_eq]; omega) e fun h8 sb8 ho8 => ?_
  have zD' : Z.z ≠ D := Nat.ne_of_lt zD
  have k8 : ∀ c o, c ∉ [Z.z, Z.C, D] → s2.heap.get? c = some o → h8.get? c = some o := fun c o m e => (sb8.2 c fun z => m (by simp [z])).trans (Heap.get?_push_of_some _ (k6 c o (fun z => m (by
    simp at z ⊢
    rcases z with z | z
    · exact .inl z
    · exact .inr (.inl z))) e))
  have h68 : ∀ c o, c ≠ D → h6.get? c = some o → h8.get? c = some o := fun c o m e => (sb8.2 c m).trans (Heap.get?_push_of_some _ e)
  have zC : Z.z ≠ Z.C := Nat.ne_of_lt w7
  have TOC : Z.TO ≠ Z.C := Nat.ne_of_lt (Nat.lt_trans w6 w7)
  have h36 : ∀ c o, c ≠ Z.C → h3.get? c = some o → h6.get? c = some o := fun c o m e => (sb6.2 c m).trans ((sb5.2 c m).trans (k4 c o e))
  obtain ⟨w', hw'⟩ : ∃ w', w' = upd (upd H r (.lst [.int (Z.G1.val v1), .int (Z.G2.val v2)])) D (.lst (rows.map V.ref ++ [.ref r])) := ⟨_, rfl⟩
  have vr : Vals [V.ref r] [Value.ref r] := .cons rfl .nil
  have I8 := I7.write (x := D) (e := D) (o := .lst (rows.map V.ref ++ [.ref r])) (h' := h8) (t' := s2.toks + 1 + 1) (by rw [hD7]; trivial) (.inl rfl) (fun b u hb q => (sb8.2 b hb).trans q) ⟨_, ho8⟩ ⟨by rw [List.length_append, List.length_map, sizeLine_eq]; show rows.length + 1 ≤ _; omega, its ++ [Value.ref r], nn + 1, ri.append vr, by
    rw [ho8, ← er]
    simp⟩
  rw [← hw'] at I8
  have low : ∀ {b : Addr}, b ≤ Z.z → b ≠ D ∧ b ≠ r := fun {b} l => ⟨Nat.ne_of_lt (Nat.lt_of_le_of_lt l zD), Nat.ne_of_lt (Nat.lt_of_le_of_lt l (Nat.lt_trans w7 rC))⟩
  have hw : ∀ {b : Addr}, b ≠ D → b ≠ r → w' b = H b := fun {b} h1 h2 => by
    rw [hw', upd_ne h1, upd_ne h2]
  have hwD : w' D = some (.lst ((rows ++ [r]).map V.ref)) := by
    rw [hw', upd_same, List.map_append]
    rfl
  have hf' : Z.Hf w' := ⟨(hw alD1 (ne_of_none f.l1 rf)).trans f.l1, (hw alD2 (ne_of_none f.l2 rf)).trans f.l2, fun b u l e => by
    by_cases h1 : b = D
    · rw [h1, hwD] at e
      cases e
      exact ⟨_, rfl⟩
    · by_cases h2 : b = r
      · rw [h2, hw', upd_ne (Ne.symm nDr), upd_same] at e
        cases e
        exact ⟨_, rfl⟩
      · rw [hw h1 h2] at e
        exact f.young b u l e, fun b hb => by
    have hH := f.free b hb
    refine (hw (fun q => ?_) (fun q => ?_)).trans hH
    · rw [q, hD] at hH
      cases hH
    · have lb : b ≤ Z.C := by
        simp at hb
        have c1 := Nat.le_of_lt (Nat.lt_trans TIz w7)
        have c2 := Nat.le_trans (Nat.le_of_lt w4) c1
        have c3 := Nat.le_trans (Nat.le_of_lt w3) c2
        have c4 := Nat.le_trans (Nat.le_of_lt w2) c3
        have c5 := Nat.le_trans (Nat.le_of_lt w1) c4
        rcases hb with z | z | z | z | z | z | z | z <;> rw [z]
        · exact c5
        · exact c4
        · exact c3
        · exact c2
        · exact c1
        · exact Nat.le_of_lt (Nat.lt_trans w6 w7)
        · exact Nat.le_of_lt w7
        · exact Nat.le_refl _
      exact absurd (Nat.lt_of_le_of_lt lb rC) (by rw [q]; exact Nat.lt_irrefl _)⟩
  have offD : D ∉ rows := fun m => by
    obtain ⟨q, hq⟩ := List.mem_iff_getElem?.mp m
    have lq : q < (prs Z.G1.val Z.G2.val (tot - (j1 + 1))).length := by
      rw [← hrows.len]
      exact (List.getElem?_eq_some_iff.mp hq).1
    obtain ⟨a', ha', hac⟩ := hrows.get (List.getElem?_eq_getElem lq)
    rw [hq] at ha'
    cases ha'
    rw [hD] at hac
    have e2 := HO.lst.inj (Option.some.inj hac)
    obtain ⟨kq, _, ek⟩ := List.mem_map.mp (List.getElem_mem lq)
    rw [← ek] at e2
    cases rows with
    | nil => cases m
    | cons x xs => cases e2
  refine back _ ⟨w', rows ++ [r], hf', ?_, by omega, ?_, ?_, hwD, by rw [List.length_append, hrl]; show _ + 1 = _; omega, ?_, fun b o q nb => ?_⟩
  · refine at_move (ch := [Z.z, Z.C, D]) ok A2 I8 rfl ⟨_, hC6.extBut (b := D) (fun c o m e => h68 c o m e) (Nat.ne_of_gt DC)⟩ k8 (fun b hb => ?_) fun b hb => ?_
    · have e : b = Z.z ∨ b = Z.C ∨ b = D := by simpa using hb
      rcases e with e | e | e <;> rw [e]
      · exact TIz
      · exact Nat.lt_trans TIz w7
      · exact Nat.lt_trans TIz zD
    · have e : b = Z.z ∨ b = Z.C ∨ b = D := by simpa using hb
      rcases e with e | e | e <;> rw [e]
      · exact solz
      · exact solid_ns hC
      · obtain ⟨_, its', nn', _, hl'⟩ := A2.I.hok D _ hD
        exact ⟨_, hl', .inl fun q => absurd (show Value.type "list" = Value.type "list_iterator" from q) (by decide)⟩
  · exact h68 _ _ zD' (h36 _ _ zC hz3)
  · exact ⟨_, _, h68 _ _ (Nat.ne_of_lt (Nat.lt_trans w6 zD)) (h36 _ _ TOC hTO3)⟩
  · have ev : tot - j1 = (tot - (j1 + 1)) + 1 := by omega
    rw [ev]
    unfold prs
    rw [List.range_succ, List.map_append]
    have v12 : v1 = tot - (j1 + 1) ∧ v2 = tot - (j1 + 1) := by omega
    have sm : RowsAt w' rows (prs Z.G1.val Z.G2.val (tot - (j1 + 1))) := by
      rw [hw']
      exact RowsAt.upd (RowsAt.same (same_new rf) hrows) offD
    refine RowsAt.app sm ⟨?_, trivial⟩
    rw [hw', upd_ne (Ne.symm nDr), upd_same, v12.1, v12.2]
    rfl
  · rw [hw nb (ne_of_none (keep b o q nb) rf)]
    exact keep b o q nb
/-- it has not begun -/
def Zv.St (Z : Zv) (X : Cx) (pins : List (Addr × Obj)) (σ : L2.St) (Hs : Hp) (D : Addr) (s : Shared) : Prop := ∃ H : Hp, Z.Hf H ∧ Z.At X pins σ H s ∧ IsZip s.heap Z.z Z.TI Z.TO .none ∧ (∃ a b, IsPair s.heap Z.TO a b) ∧ H D = some (.lst []) ∧ ∀ b o, Hs b = some o → b ≠ D → H b = some o
theorem zip_loopV {Z : Zv} {x1 x2 : Str} {p1 p2 p3 p4 lp tpos pos : Pos} {kk : Nat} {iter : Expr} {scope : Scope} {ce : Env} {R : Result → Shared → Prop} {Hs : Hp} {D : Addr} (ok : Z.Ok X pins) (hcalm : X.A.handled = none) (hroom : X.A.depth < recursionLimit) (few : Z.tot < 1000) (zD : Z.z < D) (DC : D < Z.C)
    (eC : ce.locals = Z.C) (hk : ce.scope.kind = .function) (k1 : ce.kindOf x1 = some .local) (k2 : ce.kindOf x2 = some .local) (ne : x1 ≠ x2) (d1 : (x1 == ("__debug__" : Str)) = false) (d2 : (x2 == ("__debug__" : Str)) = false)
    (fin : ∀ s' H rows, Inv X pins σ H s' → (∃ m, s'.heap.Ns Z.C m) → H D = some (.lst (rows.map V.ref)) → RowsAt H rows (prs Z.val1 Z.val2 Z.tot) → (∀ b o, Hs b = some o → b ≠ D → H b = some o) → H Z.C = none → R (.ok .next) s') (h : Z.St X pins σ Hs D s) :
    codeAny (model X.prog X.w) X.A (.compLoop (.ListComp (.List [.Name x1 p1, .Name x2 p2] lp) [⟨.Tuple [.Name x1 p3, .Name x2 p4] kk tpos, iter, [], 0⟩] scope pos) 0 (.ref Z.z) (.ref D) ce) R s := by
  refine compLoop_any (fun n s' => (n = Z.tot ∧ Z.St X pins σ Hs D s') ∨ ∃ al1 al2, (Z.zx al1 al2).Ok X pins ∧ al1 ≠ D ∧ al2 ≠ D ∧ (Z.zx al1 al2).Lp X pins σ Hs D Z.tot n s') (fun n s1 h1 => ?_) Z.tot (.inl ⟨rfl, h⟩)
  rcases h1 with ⟨en, H, f, A, hz, hTO, hD, keep⟩ | ⟨al1, al2, okz, n1, n2, H, rows, f, A, le, hz, hTO, hD, hrl, hrows, keep⟩
  · subst en
    refine pair_first f ok A hcalm hroom hz hTO (fun al1 al2 j T t1 t2 s2 ej okz f2 A2 h1n h2n hz2 hTO2 hT lT => ?_) fun e0 al s2 haln aC I2 hns => ?_
    · have nD1 : D ≠ al1 := ne_of_none hD h1n
      have nD2 : D ≠ al2 := ne_of_none hD h2n
      have z0 : Z.tot - (j + 1) = 0 := by omega
      refine zip_item (rows := []) (tot := Z.tot) (v1 := 0) (v2 := 0) okz hcalm few zD DC eC hk k1 k2 ne d1 d2 f2 A2 (by omega) hz2 hTO2 hT lT z0.symm z0.symm ?_ (by rw [z0]; rfl) ?_ (fun b o q nb => ?_) (Ne.symm nD1) (Ne.symm nD2) fun s' l => ⟨j, by omega, .inr ⟨al1, al2, okz, Ne.symm nD1, Ne.symm nD2, l⟩⟩
      · rw [upd_ne nD2, upd_ne nD1]
        exact hD
      · rw [z0]
        trivial
      · have q2 := keep b o q nb
        rw [upd_ne (ne_of_none q2 h2n), upd_ne (ne_of_none q2 h1n)]
        exact q2
    · have nD : D ≠ al := ne_of_none hD haln
      refine fin s2 _ [] I2 hns ((upd_ne nD).trans hD) (by rw [e0]; trivial) (fun b o q nb => ?_) ((upd_ne (Ne.symm aC)).trans (f.free _ (by simp)))
      have q2 := keep b o q nb
      rw [upd_ne (ne_of_none q2 haln)]
      exact q2
  · refine pair_next f okz A hcalm hroom hz hTO (fun j1 j2 T v1 v2 t1 t2 s2 eq1 eq2 ev1 ev2 A2 hz2 hTO2 hT lT => ?_) (fun e0 s2 I2 hns => ?_) rfl
    · subst eq1
      obtain rfl : j1 = j2 := by omega
      exact zip_item okz hcalm few zD DC eC hk k1 k2 ne d1 d2 f A2 le hz2 hTO2 hT lT ev1 ev2 hD hrl hrows keep n1 n2 fun s' l => ⟨j1, Nat.lt_succ_self _, .inr ⟨al1, al2, okz, n1, n2, l⟩⟩
    · subst e0
      exact fin s2 H rows I2 hns hD (by rw [Nat.sub_zero] at hrows; exact hrows) keep (f.free _ (by simp))
end
end Sq
set_option Elab.async false
set_option linter.all false
set_option maxRecDepth 100000
set_option maxHeartbeats 2000000
namespace Sq
open PySem PySem.Spec PyProof.Rows L2 GenW
def KindW (W : Hp) : Prop := ∀ b u, W b = some u → (∃ φ, u = .ext φ) ∨ ∃ xs, u = .lst xs
def SubW (W H : Hp) : Prop := ∀ b u, W b = some u → H b = some u
section
variable {X : Cx} {pins : List (Addr × Obj)} {σ : L2.St} {H : Hp} {s : Shared} {k : Nat} {C : Addr} {m : Str} {sp : SpV} {o : Expr} {ta : TE} {apos pos' : Pos} {pl : Sem Bool}
theorem env0_W {W : Hp} (wk : KindW W) (I : Inv X pins σ H s) (hw : SubW W H) : Env0 X.prog X.w X.K X.mg X.base X.A X.stack s W := by
  have e := I.env0
  have ne : ∀ {b : Addr}, H b = none → W b = none := fun {b} h => by
    cases w : W b with
    | none => rfl
    | some u =>
      rw [hw b u w] at h
      cases h
  exact ⟨e.frames, e.mod, fun b o q => ⟨(e.bs b o q).1, ne (e.bs b o q).2⟩, e.bsz, e.funs, fun b hb => ne (e.frf b hb), hok_sub wk hw e.hok, e.bare⟩
/-- a generator method of the class at C that makes its list itself -/
structure MtVg (P : Program) (w : World) (K : PySem.W.Frag) (mg : Str → Option Value) (base : Heap) (k : Nat) (C : Addr) (m : Str) (sp : SpV) : Prop where
  ex : ∃ f fd, GFnV P w K mg base k f fd ["self"] sp ∧ Meth K C m f ∧ Binds K fd ["self"] []
  cl : Cls K C
/-- what its call asks -/
def AskV (C : Addr) (m : Str) (sp : SpV) (ta : TE) (σ : L2.St) (H : Hp) (Q : Hp → List Int → Nat → (Nat → Int) → Hp → Prop) : Prop := ta σ H fun x H1 => ∃ a dx mA ks W ns tot val, x = .ref a ∧ Live H1 a C dx mA ks ∧ mA m = none ∧ sp [x] W ns tot val ∧ KindW W ∧ SubW W H1 ∧ Q W ns tot val H1
theorem v_call (D : MtVg X.prog X.w X.K X.mg X.base k C m sp) (he : GE X o ta) (hr : Room k X.A) {Q : Hp → List Int → Nat → (Nat → Int) → Hp → Prop}
    (ht : eval (.Call (.Attribute o m apos) [] [] pos') X.env = (do
      let ov ← eval o X.env
      standAt apos.atName
      let (f, first) ← holding [ov] (getMethod ov m pl)
      callWith pos' f first (backTo pos' (starEach [] X.env)) (backToKw pos' (keywordEach [] X.env)))) (I : Inv X pins σ H s) (h : AskV C m sp ta σ H Q) :
    wpAny (model X.prog X.w) X.A (eval (.Call (.Attribute o m apos) [] [] pos') X.env) (fun u s2 => ∃ (s1 : Shared) (H1 W : Hp) (ns : List Int) (tot : Nat) (val : Nat → Int), s1.gens = s.gens ∧ Inv X pins σ H1 s1 ∧ VMade X.prog X.w X.K X.mg X.base k X.stack s1 W ns tot val u s2 ∧ Inv X pins σ H1 s2 ∧ KindW W ∧ SubW W H1 ∧ Q W ns tot val H1) X.xe s := by
  obtain ⟨⟨f, fd, F, hm, hb⟩, c⟩ := D
  refine PySem.W.methodCall_KW (pl := pl) (thn (he.run pins s σ H _ I h) fun u s1 hh => ?_) ht
  obtain ⟨g1, x, H1, I1, rx, a, dx, mA, ks, W, ns, tot, val, ex, L, l, q, wk, sub, hQ⟩ := hh
  subst ex
  obtain rfl : u = Value.ref a := rx
  refine live_meth I1 L c hm l ?_
  refine PySem.W.callWith_K0 (first := [.ref a]) I1.kIn hm.kp ?_
  have bind := hb s1 [.ref a] I1.kIn rfl
  rw [List.append_nil] at bind
  show wpAny _ X.A (call (.ref f) ([.ref a] ++ [])) _ _ s1
  rw [List.append_nil]
  refine wpAny_call (codeAny_mono (F.run X.A X.stack s1 ⟨[.ref a], []⟩ [.ref a] [.ref a] W ns tot val hr (env0_W wk I1 sub) bind (.cons rfl .nil) q) fun r s2 hq => ?_)
  match r, hq with
  | .ok (.ret u), hq =>
    have hq' := hq
    obtain ⟨a, code, eu, la, isG, eg, eo, lim, keep, n0, bare, sz, wake⟩ := hq'
    refine ⟨s1, H1, W, ns, tot, val, g1, I1, hq, ?_, wk, sub, hQ⟩
    exact I1.call' (ch := []) eo (Un.kept keep) (I1.hok.kept keep) (by rw [eg]; exact AllBare.push I1.bare bare) fun b z => by simp at z
end
theorem fresh_dozing {P : Program} {w : World} {K : PySem.W.Frag} {mg : Str → Option Value} {base : Heap} {k : Nat} {outer : List Env} {s s' s3 : Shared} {W : Hp} {ns : List Int} {tot : Nat} {val : Nat → Int} {u : Value} {A : Around} (M : VMade P w K mg base k outer s W ns tot val u s') (room : Room k A) (fr : A.frames = some outer)
    (hg : s3.gens[s.gens.size]? = s'.gens[s.gens.size]?) (kp : ∀ b o, (u = .ref b ∨ b = s.heap.objs.size) → s'.heap.get? b = some o → s3.heap.get? b = some o) :
    ∃ G : Vg, G.Ok ∧ u = .ref G.a ∧ (G.P = P ∧ G.w = w ∧ G.K = K ∧ G.mg = mg ∧ G.base = base ∧ G.outer = outer ∧ G.A = A ∧ G.A.frames = some outer) ∧ G.n0 = s.heap.objs.size ∧ G.g = s.gens.size ∧ G.W = W ∧ s'.heap.objs.size = G.a + 1 ∧ Dozing G ns tot val s3 ∧ ∃ o es ep, s3.heap.get? G.n0 = some o ∧ o.data = .dict es ep := by
  obtain ⟨a, code, eu, la, isG, eg, eo, lim, keep, n0, bare, sz, wake⟩ := M
  obtain ⟨G, ok, e1, e2, e3, e4, e5, e6, e7, e8, e9, e10, e11, seg⟩ := wake A room fr
  have g3 : s3.heap.IsGen a s.gens.size := by
    obtain ⟨o, nm, qn, ho, r⟩ := isG
    exact ⟨o, nm, qn, kp _ _ (.inl eu) ho, r⟩
  refine ⟨G, ok, by rw [e9]; exact eu, ⟨e1, e2, e3, e4, e5, e7, e6, by rw [e6]; exact fr⟩, e8, e10, e11, by rw [e9]; exact sz, ⟨by rw [e9, e10]; exact g3, code, ?_, fun s2 e own2 => ?_⟩, ?_⟩
  · rw [e10, hg, eg]
    exact Array.getElem?_push_size ..
  · refine seg s2 e fun b o m q => own2 b o ?_ (kp b o ?_ q)
    · rcases m with m | m
      · exact .inl (m.trans e9.symm)
      · exact .inr (m.trans e8.symm)
    · rcases m with m | m
      · rw [m]
        exact .inl eu
      · exact .inr m
  · obtain ⟨o, es, ep, ho, hd⟩ := n0
    rw [e8]
    exact ⟨o, es, ep, kp _ _ (.inr rfl) ho, hd⟩
section
variable {X : Cx} {pins : List (Addr × Obj)} {σ : L2.St} {H1 H2 W1 W2 : Hp} {s1 s1' s2 s2' s3 : Shared} {k : Nat} {ns1 ns2 : List Int} {tot : Nat} {val1 val2 : Nat → Int} {u1 u2 : Value}
theorem zv_start (I1 : Inv X pins σ H1 s1) (M1 : VMade X.prog X.w X.K X.mg X.base k X.stack s1 W1 ns1 tot val1 u1 s1') (I2 : Inv X pins σ H2 s2) (g2 : s2.gens = s1'.gens) (kp : ∀ b o, (u1 = .ref b ∨ b = s1.heap.objs.size) → s1'.heap.get? b = some o → s2.heap.get? b = some o)
    (M2 : VMade X.prog X.w X.K X.mg X.base k X.stack s2 W2 ns2 tot val2 u2 s2') (g3 : s3.gens = s2'.gens) (k3 : ∀ b o, s2'.heap.get? b = some o → s3.heap.get? b = some o) (room : Room k X.A.in1.in1) (fr : X.A.in1.in1.frames = some X.stack) :
    ∃ G1 G2 : Vg, u1 = .ref G1.a ∧ u2 = .ref G2.a ∧ G1.n0 = s1.heap.objs.size ∧ G2.n0 = s2.heap.objs.size ∧ s2'.heap.objs.size = G2.a + 1 ∧ G1.W = W1 ∧ G2.W = W2 ∧ G1.a < G2.n0 ∧ (∀ TI TO z C, G2.a < TI → TI < TO → TO < z → z < C → Zv.Ok ⟨G1, G2, ns1, ns2, tot, val1, val2, TI, TO, z, C⟩ X pins) ∧ Dozing G1 ns1 tot val1 s3 ∧ Dozing G2 ns2 tot val2 s3 ∧
      (∃ o es ep, s3.heap.get? G1.n0 = some o ∧ o.data = .dict es ep) ∧ ∃ o es ep, s3.heap.get? G2.n0 = some o ∧ o.data = .dict es ep := by
  obtain ⟨a1, c1, eu1, la1, isG1, eg1, _, _, keep1, _, _, sz1, _⟩ := id M1
  obtain ⟨a2, c2, eu2, la2, isG2, eg2, _, _, keep2, _, _, sz2, _⟩ := id M2
  have lg : s1.gens.size < s2.gens.size := by
    rw [g2, eg1, Array.size_push]
    exact Nat.lt_succ_self _
  obtain ⟨G1, o1, e1, st1, n1, gg1, l1, z1, as1, d1⟩ := fresh_dozing (s3 := s3) M1 room fr (by
    rw [g3, eg2, Array.getElem?_push_lt lg, ← g2]
    exact (Array.getElem?_eq_getElem lg).symm) fun b o l q => k3 _ _ (keep2 _ _ (kp b o l q))
  obtain ⟨G2, o2, e2, st2, n2, gg2, l2, z2, as2, d2⟩ := fresh_dozing (s3 := s3) M2 room fr (by rw [g3]) fun b o l q => k3 _ _ q
  have lt12 : G1.a < G2.n0 := by
    rw [n2]
    obtain ⟨o, nm, qn, ho, _⟩ := isG1
    have ea : G1.a = a1 := by
      rw [eu1] at e1
      cases e1
      rfl
    rw [ea]
    exact Heap.lt_size (kp _ _ (.inl eu1) ho)
  refine ⟨G1, G2, e1, e2, n1, n2, z2, l1, l2, lt12, fun TI TO z C q2 q3 q4 q5 => ⟨o1, o2, by rw [n1]; exact above_of I1 (Nat.le_refl _), by rw [n2]; exact above_of I2 (Nat.le_refl _), st1, st2, by rw [gg1, gg2]; exact Nat.ne_of_lt lg, fun b hb => ?_, lt12, q2, q3, q4, q5⟩, as1, as2, d1, d2⟩
  obtain ⟨_, o, ho, _⟩ := I1.ok.funs.mem hb
  rw [n1]
  exact Nat.lt_of_lt_of_le (Heap.lt_size ho) I1.sz
end
end Sq
set_option Elab.async false
set_option linter.all false
set_option maxRecDepth 100000
set_option maxHeartbeats 2000000
namespace Sq
open PySem PySem.Spec PyProof.Rows L2 GenW
section
variable {X : Cx} {k : Nat} {Cc : Addr} {m : Str} {sp : SpV} {pz cz pos : Pos} {ap1 ap2 c1 c2 : Pos} {o1 o2 : Expr} {t1 t2 : TE} {pl1 pl2 : Sem Bool} {pins : List (Addr × Obj)} {σ : L2.St} {H : Hp} {s : Shared}
theorem vzip_calls (D : MtVg X.prog X.w X.K X.mg X.base k Cc m sp) (hr : Room k X.A) (hr2 : Room k X.A.in1.in1) (fr : X.A.in1.in1.frames = some X.stack) (he1 : GE X o1 t1) (he2 : GE X o2 t2)
    (hgz : Gl X "zip") (hmz : X.mg "zip" = none) (I : Inv X pins σ H s) {R : Nat → (Nat → Int) → (Nat → Int) → Hp → Prop}
    (ht1 : eval (.Call (.Attribute o1 m ap1) [] [] c1) X.env = (do
      let ov ← eval o1 X.env
      standAt ap1.atName
      let (f, first) ← holding [ov] (getMethod ov m pl1)
      callWith c1 f first (backTo c1 (starEach [] X.env)) (backToKw c1 (keywordEach [] X.env))))
    (ht2 : eval (.Call (.Attribute o2 m ap2) [] [] c2) X.env = (do
      let ov ← eval o2 X.env
      standAt ap2.atName
      let (f, first) ← holding [ov] (getMethod ov m pl2)
      callWith c2 f first (backTo c2 (starEach [] X.env)) (backToKw c2 (keywordEach [] X.env))))
    (h : AskV Cc m sp t1 σ H fun W1 ns1 tot val1 H1 => AskV Cc m sp t2 σ H1 fun W2 ns2 tot2 val2 H2 => tot2 = tot ∧ SubW W1 H2 ∧ (∀ b u, H1 b = none → H2 b = some u → ∃ xs, u = .lst xs) ∧ R tot val1 val2 H2) :
    wpAny (model X.prog X.w) X.A (eval (.Call (.Name "zip" pz) [.Call (.Attribute o1 m ap1) [] [] c1, .Call (.Attribute o2 m ap2) [] [] c2] [] cz) X.env) (fun u s3 => ∃ (G1 G2 : Vg) (H2 : Hp) (ns1 ns2 : List Int) (tot : Nat) (val1 val2 : Nat → Int) (z0 : Addr), u = .ref (z0 + 2) ∧ s3.heap.objs.size = z0 + 3 ∧ IsZip s3.heap (z0 + 2) z0 (z0 + 1) .none ∧ IsPair s3.heap z0 (.ref G1.a) (.ref G2.a) ∧ IsPair s3.heap (z0 + 1) .none .none ∧ Inv X pins σ H2 s3 ∧ (∀ b, z0 ≤ b → H2 b = none) ∧
      (∀ C, z0 + 2 < C → Zv.Ok ⟨G1, G2, ns1, ns2, tot, val1, val2, z0, z0 + 1, z0 + 2, C⟩ X pins) ∧ SubW G1.W H2 ∧ SubW G2.W H2 ∧ (∀ b u, G1.n0 ≤ b → H2 b = some u → ∃ xs, u = .lst xs) ∧ (∀ b ∈ [G1.n0, G1.a, G2.n0, G2.a], H2 b = none) ∧ R tot val1 val2 H2 ∧
      Dozing G1 ns1 tot val1 s3 ∧ Dozing G2 ns2 tot val2 s3 ∧ (∃ o es ep, s3.heap.get? G1.n0 = some o ∧ o.data = .dict es ep) ∧ ∃ o es ep, s3.heap.get? G2.n0 = some o ∧ o.data = .dict es ep) X.xe s := by
  refine Call_ (ld_blt I hgz hmz boot_zip (PyProof.Rows.callWith_type1 ?_ (by rfl) (by rfl)))
  show wpAny _ _ (spliced ((false, eval (.Call (.Attribute o1 m ap1) [] [] c1) X.env) :: backTo cz (starEach [.Call (.Attribute o2 m ap2) [] [] c2] X.env))) _ _ s
  refine Calls.spliced_cons (thn (v_call D he1 hr ht1 I h) fun u1 s1' hh => ?_)
  obtain ⟨s1, H1, W1, ns1, tot, val1, g1, I1, M1, I1', wk1, sub1, h2⟩ := hh
  obtain ⟨a1, code1, eu1, la1, isG1, eg1, eo1, lim1, keep1, ⟨on, esn, epn, hn, dn⟩, bare1, sz1, wake1⟩ := id M1
  obtain ⟨og, nm, qn, hog, rg⟩ := id isG1
  have fpP : Inv X (pins ++ [(s1.heap.objs.size, on), (a1, og)]) σ H1 s1' := I1'.pins_of fun p hp => by
    rcases List.mem_append.mp hp with z | z
    · exact I1'.pin p (List.mem_append_right _ z)
    · have e : p = (s1.heap.objs.size, on) ∨ p = (a1, og) := by simpa using z
      rcases e with e | e <;> rw [e]
      · exact ⟨hn, I1.hok.fresh (Nat.le_refl _), Nat.ne_of_gt I1.lt, I1.nofs (Nat.le_refl _), fun v q => by rw [dn] at q; cases q⟩
      · exact ⟨hog, I1.hok.fresh (Nat.le_of_lt la1), Nat.ne_of_gt (Nat.lt_trans I1.lt la1), I1.nofs (Nat.le_of_lt la1), fun v q => by rw [rg.2.1] at q; cases q⟩
  show wpAny _ _ (spliced ((false, eval (.Call (.Attribute o2 m ap2) [] [] c2) X.env) :: backTo cz (starEach [] X.env))) _ _ s1'
  refine Calls.spliced_cons (thn (v_call D he2 hr ht2 fpP h2) fun u2 s2' hh => ?_)
  obtain ⟨s2, H2, W2, ns2, tot2, val2, g2, I2, M2, I2', wk2, sub2, rfl, sub1', yng, hR⟩ := hh
  refine Calls.spliced_nil ?_
  have pn := I2.pin (s1.heap.objs.size, on) (List.mem_append_right _ (List.mem_append_right _ (by simp)))
  have pa := I2.pin (a1, og) (List.mem_append_right _ (List.mem_append_right _ (by simp)))
  have kp : ∀ b o, (u1 = .ref b ∨ b = s1.heap.objs.size) → s1'.heap.get? b = some o → s2.heap.get? b = some o := fun b o m q => by
    rcases m with m | m
    · rw [eu1] at m
      cases m
      rw [hog] at q
      cases q
      exact pa.1
    · rw [m, hn] at q
      cases q
      rw [m]
      exact pn.1
  obtain ⟨a2, code2, eu2, la2, isG2, eg2, eo2, lim2, keep2, n02, bare2, sz2, wake2⟩ := id M2
  have isG1' : s2'.heap.IsGen a1 s1.gens.size := ⟨og, nm, qn, keep2 _ _ pa.1, rg⟩
  rw [eu1, eu2]
  refine call_zipG isG1' isG2 fun h' hz hTI hTO hsz k' => ?_
  obtain ⟨G1, G2, q1, q2, n1, n2, z2, l1, l2, lt12, okz, as1, as2, d1, d2⟩ := zv_start (s3 := { s2' with heap := h' }) I1 M1 I2.unpinned g2 kp M2 rfl k' hr2 fr
  rw [eu1] at q1
  rw [eu2] at q2
  have e1 : a1 = G1.a := by cases q1; rfl
  have e2 : a2 = G2.a := by cases q2; rfl
  have z0 : G2.a < s2'.heap.objs.size := by
    rw [z2]
    exact Nat.lt_succ_self _
  refine ⟨G1, G2, H2, ns1, ns2, tot2, val1, val2, s2'.heap.objs.size, rfl, hsz, hz, by rw [← e1, ← e2]; exact hTI, hTO, (I2'.kept (t' := s2'.toks) k').unpinned, fun b l => I2'.hok.fresh l, fun C hC => okz _ _ _ _ z0 (Nat.lt_succ_self _) (Nat.lt_succ_self _) hC, by rw [l1]; exact sub1', by rw [l2]; exact sub2, fun b u l q => yng b u (I1.hok.fresh (by rw [← n1]; exact l)) q, fun b hb => ?_, hR, as1, as2, d1, d2⟩
  simp at hb
  rcases hb with e | e | e | e <;> rw [e]
  · rw [n1]
    exact pn.2.1
  · rw [← e1]
    exact pa.2.1
  · rw [n2]
    exact I2.hok.fresh (Nat.le_refl _)
  · rw [← e2]
    exact I2.hok.fresh (Nat.le_of_lt la2)
end
def tZipV (Cc : Addr) (m : Str) (sp : SpV) (t1 t2 : TE) (i : Nat) : TS := fun D σ H => AskV Cc m sp t1 σ H fun W1 ns1 tot val1 H1 => AskV Cc m sp t2 σ H1 fun W2 ns2 tot2 val2 H2 => tot2 = tot ∧ SubW W1 H2 ∧ (∀ b u, H1 b = none → H2 b = some u → ∃ xs, u = .lst xs) ∧
  (tot < 1000 ∧ ∀ Dl rows H3, H2 Dl = none → H3 Dl = some (.lst (rows.map V.ref)) → RowsAt H3 rows (prs val1 val2 tot) → (∀ b o, H2 b = some o → H3 b = some o) → D.nx (σ.set i (some (.ref Dl))) H3)
section
variable {X : Cx} {k : Nat} {Cc : Addr} {m : Str} {sp : SpV} {pz cz pos : Pos} {ap1 ap2 c1 c2 q1 q2 q3 q4 lp_ tpos py spos : Pos} {o1 o2 : Expr} {t1 t2 : TE} {pl1 pl2 : Sem Bool} {scope : Scope} {own : List (Str × Nat)} {i kk : Nat} {y x1 x2 : Str}
theorem ps_zipV (Dm : MtVg X.prog X.w X.K X.mg X.base k Cc m sp) (hr1 : Room (k + 1) X.A) (he1 : GE X o1 t1) (he2 : GE X o2 t2)
    (hgz : Gl X "zip") (hmz : X.mg "zip" = none) (hc : X.calm = true) (hroom : X.A.depth < recursionLimit) (hN : X.N.Nodup) (hy : X.N[i]? = some y) (hyl : X.env.scope.names.lookup y = some .local) (okb : BlkOk X.N X.env.scope scope own) (k1 : scope.names.lookup x1 = some .local) (k2 : scope.names.lookup x2 = some .local) (ne : x1 ≠ x2)
    (hsw : swapsWith (.ListComp (.List [.Name x1 q1, .Name x2 q2] lp_) [⟨.Tuple [.Name x1 q3, .Name x2 q4] kk tpos, (.Call (.Name "zip" pz) [.Call (.Attribute o1 m ap1) [] [] c1, .Call (.Attribute o2 m ap2) [] [] c2] [] cz), [], 0⟩] scope pos) (some (.Name y py)) spos.line X.env = pure true)
    (ht1 : eval (.Call (.Attribute o1 m ap1) [] [] c1) X.env = (do
      let ov ← eval o1 X.env
      standAt ap1.atName
      let (f, first) ← holding [ov] (getMethod ov m pl1)
      callWith c1 f first (backTo c1 (starEach [] X.env)) (backToKw c1 (keywordEach [] X.env))))
    (ht2 : eval (.Call (.Attribute o2 m ap2) [] [] c2) X.env = (do
      let ov ← eval o2 X.env
      standAt ap2.atName
      let (f, first) ← holding [ov] (getMethod ov m pl2)
      callWith c2 f first (backTo c2 (starEach [] X.env)) (backToKw c2 (keywordEach [] X.env))))
    (hs : ∀ v, foldedSetIterable (.Call (.Name "zip" pz) [.Call (.Attribute o1 m ap1) [] [] c1, .Call (.Attribute o2 m ap2) [] [] c2] [] cz) X.env v = pure v := by intro _; rfl) (d1 : (x1 == ("__debug__" : Str)) = false := by decide) (d2 : (x2 == ("__debug__" : Str)) = false := by decide) :
    PS X (.Assign [.Name y py] (.ListComp (.List [.Name x1 q1, .Name x2 q2] lp_) [⟨.Tuple [.Name x1 q3, .Name x2 q4] kk tpos, (.Call (.Name "zip" pz) [.Call (.Attribute o1 m ap1) [] [] c1, .Call (.Attribute o2 m ap2) [] [] c2] [] cz), [], 0⟩] scope pos) spos) (tZipV Cc m sp t1 t2 i) := by
  refine ⟨fun pins s σ H D I h => ?_⟩
  have fr : X.A.in1.in1.frames = some X.stack := I.ok.frames
  have hr : Room k X.A := hr1.mono (by omega)
  have hr2 : Room k X.A.in1.in1 := ⟨hr1.hd, by have := hr1.dp; show X.A.depth + 3 * k + 5 < _; omega, by have := hr1.un; show X.A.units + 1 + 1 + 16 * k + 200 < _; omega⟩
  unfold tZipV at h
  rw [exec_Assign_Name_used _ _ _ _ hsw]
  refine wpAny_bind (wpAny_standAt (wpAny_bind ?_))
  show wpAny _ X.A (do let _ ← comprehension (.ListComp (.List [.Name x1 q1, .Name x2 q2] lp_) [⟨.Tuple [.Name x1 q3, .Name x2 q4] kk tpos, (.Call (.Name "zip" pz) [.Call (.Attribute o1 m ap1) [] [] c1, .Call (.Attribute o2 m ap2) [] [] c2] [] cz), [], 0⟩] scope pos) scope X.env (firstIterPos [⟨.Tuple [.Name x1 q3, .Name x2 q4] kk tpos, (.Call (.Name "zip" pz) [.Call (.Attribute o1 m ap1) [] [] c1, .Call (.Attribute o2 m ap2) [] [] c2] [] cz), [], 0⟩] pos) (newList []) false (eval (.Call (.Name "zip" pz) [.Call (.Attribute o1 m ap1) [] [] c1, .Call (.Attribute o2 m ap2) [] [] c2] [] cz) X.env) (some (assign (.Name y py) X.env))) _ _ s
  have hfree : ∀ y ∈ scope.names, y.2 = .free → ∃ c, X.env.cells.lookup y.1 = some c := fun y hy e => by
    rcases okb.free y hy e with k | k
    · exact I.ok.has _ (.inl k)
    · exact I.ok.has _ (.inr k)
  refine wpAny_bind (thn (Q := fun _ s' => SP X pins D .next s') ?_ fun _ s' hq => wpAny_pure (wpAny_pure hq))
  refine wpAny_comprehension_free (use := some (assign (.Name y py) X.env)) rfl hs (closure_ok hfree) okb.kind (fun y hy e => by rw [okb.uniq y hy, e])
    (thn (vzip_calls Dm hr hr2 fr he1 he2 hgz hmz I (R := fun tot val1 val2 H2 => tot < 1000 ∧ ∀ Dl rows H3, H2 Dl = none → H3 Dl = some (.lst (rows.map V.ref)) → RowsAt H3 rows (prs val1 val2 tot) → (∀ b o, H2 b = some o → H3 b = some o) → D.nx (σ.set i (some (.ref Dl))) H3) ht1 ht2 h) fun xv s1 hx => ?_)
  obtain ⟨G1, G2, H2, ns1, ns2, tot, val1, val2, z0, ex, hsz, hz, hTI, hTO, I2, hfr, okz, l1, l2, yng, free, ⟨few, nxt⟩, as1, as2, dn1, dn2⟩ := hx
  subst ex
  refine wpAny_pyIter_zip hz ?_
  refine wpAny_newObj_type (newEnv_comp ?_) (by show 0 ≤ sizeLine; decide)
  obtain ⟨s3, h3⟩ : ∃ s3 : Shared, s3 = { s1 with heap := s1.heap.push { cls := .type "list", data := .seq ([] : List Value).toArray } } := ⟨_, rfl⟩
  obtain ⟨Dl, hDl⟩ : ∃ Dl, Dl = s1.heap.objs.size := ⟨_, rfl⟩
  have hDn : H2 Dl = none := I2.hok.fresh (Nat.le_of_eq hDl.symm)
  have I3 : Inv X pins σ (upd H2 Dl (.lst [])) s3 := by
    rw [h3, hDl]
    exact I2.laid (t' := s1.toks) (fun b o e => Heap.get?_push_of_some _ e) (Nat.le_refl _) ⟨Nat.zero_le _, [], 0, .nil, Heap.get?_push_size _ rfl⟩
  have k3 : ∀ b o, s1.heap.get? b = some o → s3.heap.get? b = some o := fun b o e => by rw [h3]; exact Heap.get?_push_of_some _ e
  have sz3 : s3.heap.objs.size = Dl + 1 := by rw [h3, hDl]; exact Heap.size_push ..
  have B := block_start (fp := []) I3 okb hN fun b z => absurd z List.not_mem_nil
  obtain ⟨mC, hC, _⟩ := B.loc
  obtain ⟨s4, h4⟩ : ∃ s4 : Shared, s4 = { s3 with heap := pushCells (s3.heap.push { cls := .type "dict", data := .dict #[] }) scope.names } := ⟨_, rfl⟩
  have k4 : ∀ b o, s3.heap.get? b = some o → s4.heap.get? b = some o := fun b o e => by rw [h4]; exact pushCells_keeps _ _ _ _ (Heap.get?_push_of_some _ e)
  have k14 : ∀ b o, s1.heap.get? b = some o → s4.heap.get? b = some o := fun b o e => k4 _ _ (k3 _ _ e)
  have I4 : Inv X pins σ (upd H2 Dl (.lst [])) s4 := by
    rw [h4]
    exact I3.kept (t' := s3.toks) fun b o e => pushCells_keeps _ _ _ _ (Heap.get?_push_of_some _ e)
  have hC4 : s4.heap.Ns s3.heap.objs.size mC := by
    rw [h4]
    exact hC
  have zD : z0 + 2 < Dl := by rw [hDl, hsz]; exact Nat.lt_succ_self _
  have DC : Dl < s3.heap.objs.size := by rw [sz3]; exact Nat.lt_succ_self _
  have ok := okz s3.heap.objs.size (Nat.lt_trans zD DC)
  have g4 : s4.gens = s1.gens := by rw [h4, h3]
  have hlow : ∀ {b : Addr}, b ≠ Dl → (upd H2 Dl (.lst [])) b = H2 b := fun {b} n => upd_ne n
  obtain ⟨w1, w2, w3, w4, w5, w6, w7⟩ := ok.ord
  have w1 : G1.n0 < G1.a := w1
  have w2 : G1.a < G2.n0 := w2
  have w3 : G2.n0 < G2.a := w3
  have w4 : G2.a < z0 := w4
  have z0D : z0 < Dl := Nat.lt_trans (Nat.lt_succ_of_lt (Nat.lt_succ_self _)) zD
  have hf : Zv.Hf ⟨G1, G2, ns1, ns2, tot, val1, val2, z0, z0 + 1, z0 + 2, s3.heap.objs.size⟩ (upd H2 Dl (.lst [])) := by
    refine ⟨fun b u e => (hlow (ne_of_none (l1 b u e) hDn)).trans (l1 b u e), fun b u e => (hlow (ne_of_none (l2 b u e) hDn)).trans (l2 b u e), fun b u l e => ?_, fun b hb => ?_⟩
    · by_cases q : b = Dl
      · rw [q, upd_same] at e
        cases e
        exact ⟨_, rfl⟩
      · rw [hlow q] at e
        exact yng b u l e
    · have both : H2 b = none ∧ b ≠ Dl := by
        simp at hb
        rcases hb with e | e | e | e | e | e | e | e <;> rw [e]
        · exact ⟨free _ (by simp), Nat.ne_of_lt (Nat.lt_trans w1 (Nat.lt_trans w2 (Nat.lt_trans w3 (Nat.lt_trans w4 z0D))))⟩
        · exact ⟨free _ (by simp), Nat.ne_of_lt (Nat.lt_trans w2 (Nat.lt_trans w3 (Nat.lt_trans w4 z0D)))⟩
        · exact ⟨free _ (by simp), Nat.ne_of_lt (Nat.lt_trans w3 (Nat.lt_trans w4 z0D))⟩
        · exact ⟨free _ (by simp), Nat.ne_of_lt (Nat.lt_trans w4 z0D)⟩
        · exact ⟨hfr _ (Nat.le_refl _), Nat.ne_of_lt z0D⟩
        · exact ⟨hfr _ (Nat.le_succ _), Nat.ne_of_lt (Nat.lt_trans (Nat.lt_succ_self _) zD)⟩
        · exact ⟨hfr _ (Nat.le_trans (Nat.le_succ _) (Nat.le_succ _)), Nat.ne_of_lt zD⟩
        · exact ⟨hfr _ (Nat.le_of_lt (Nat.lt_trans z0D DC)), Nat.ne_of_gt DC⟩
      rw [hlow both.2]
      exact both.1
  have lp : Zv.St ⟨G1, G2, ns1, ns2, tot, val1, val2, z0, z0 + 1, z0 + 2, s3.heap.objs.size⟩ X pins σ (upd H2 Dl (.lst [])) Dl s4 := by
    refine ⟨_, hf, ⟨I4, as1.keep (by rw [g4]) fun b o _ q => k14 b o q, as2.keep (by rw [g4]) fun b o _ q => k14 b o q, ?_, ?_, k14 _ _ hTI, ⟨mC, hC4⟩⟩, k14 _ _ hz, ⟨_, _, k14 _ _ hTO⟩, upd_same, fun b o q _ => q⟩
    · obtain ⟨o, es, ep, e, d⟩ := dn1
      exact ⟨o, es, ep, k14 _ _ e, d⟩
    · obtain ⟨o, es, ep, e, d⟩ := dn2
      exact ⟨o, es, ep, k14 _ _ e, d⟩
  have nC : G1.n0 < s3.heap.objs.size := Nat.lt_trans w1 (Nat.lt_trans w2 (Nat.lt_trans w3 (Nat.lt_trans w4 (Nat.lt_trans z0D DC))))
  have loop : codeAny (model X.prog X.w) X.A (.compLoop (.ListComp (.List [.Name x1 q1, .Name x2 q2] lp_) [⟨.Tuple [.Name x1 q3, .Name x2 q4] kk tpos, (.Call (.Name "zip" pz) [.Call (.Attribute o1 m ap1) [] [] c1, .Call (.Attribute o2 m ap2) [] [] c2] [] cz), [], 0⟩] scope pos) 0 (.ref (z0 + 2)) (.ref Dl) (compEnvC scope (cellsFrom (s3.heap.objs.size + 1) scope.names (cloFrom X.env.cells scope.names [])) s3.heap.objs.size X.env))
      (compPost (model X.prog X.w) X.A X.xe (some (assign (.Name y py) X.env)) (fun _ s' => SP X pins D .next s') (.ref Dl) s3.heap.objs.size) s4 := by
    refine zip_loopV (Z := ⟨G1, G2, ns1, ns2, tot, val1, val2, z0, z0 + 1, z0 + 2, s3.heap.objs.size⟩) ok (I4.ok.hd hc) hroom few zD DC rfl okb.kind (lookup_relabel_local k1) (lookup_relabel_local k2) ne d1 d2 (fun s' H' rows I' hns hD' rr kp hCn => ?_) lp
    obtain ⟨m, hn⟩ := hns
    obtain ⟨f0, f1, f2, f3, f4, f5⟩ := fp_bigV ok nC hCn
    show wpAny _ _ (assign (.Name y py) X.env (.ref Dl)) _ _ _
    refine wpAny_assign_Name (store_ok2 (v := V.ref Dl) I' hN hy (.inl hyl) rfl (fun s5 I5 ⟨a, sb, ha⟩ => ?_) (.inr hyl))
    have haC : s3.heap.objs.size ≠ a := by
      rcases ha with q | q
      · rw [q]
        exact f1
      · exact fun q2 => f4 y a q q2.symm
    refine ⟨m, hn.sameBut sb haC, fun h5 sb5 => ?_⟩
    refine ⟨_, H', I5.turned (t' := s5.toks) (fun b o hb q => (sb5.2 b hb).trans q) f0 f1 f3 f4 f5, nxt Dl rows H' hDn hD' rr fun b o q => kp b o ((hlow (ne_of_none q hDn)).trans q) (ne_of_none q hDn)⟩
  have hz4 : IsZip s4.heap (z0 + 2) z0 (z0 + 1) .none := k14 _ _ hz
  have fin := codeAny_compStart_list loop (wpAny_pyIter_zip hz4 loop)
  subst h4 h3 hDl
  exact fin
end
end Sq
set_option Elab.async false
set_option linter.all false
set_option maxRecDepth 100000
set_option maxHeartbeats 2000000
namespace Sq
open PySem PySem.Spec PyProof.Rows L2 GenW
section
variable {X : Cx} {k : Nat} {C : Addr} {f : Str} {sp : Sp} {e a b : Expr} {ta tb te : TE} {pos : Pos}
theorem ge_fldL (he : GE X e ta) (hb : attributeBase e f X.env (eval e X.env) = eval e X.env := by rfl) : GE X (.Attribute e f pos) (tFldL X.K ta f) := by
  refine ⟨fun pins s σ H Q I h => ?_⟩
  refine attr_of hb (thn (he.run pins s σ H _ I h) fun u s1 hh => ?_)
  obtain ⟨g1, x, H1, I1, rx, a, C, dx, m, ks, u1, v, ex, L, c, n, hu, rv, q⟩ := hh
  subst ex
  obtain rfl : u = Value.ref a := rx
  exact live_get I1 L c n hu (handed_of rv) fun I2 => ⟨g1, v, H1, I2, rv, q⟩
/-- a property that keeps the table -/
structure Qr (P : Program) (w : World) (K : PySem.W.Frag) (mg : Str → Option Value) (base : Heap) (k : Nat) (C : Addr) (m : Str) (sp : Sp) : Prop where
  ex : ∃ p g fd, PropOf K C m p g ∧ FnQ P w K mg base k g fd ["self"] sp ∧ Binds K fd ["self"] []
  cl : Cls K C
theorem ge_prL (D : Qr X.prog X.w X.K X.mg X.base k C f sp) (hr : Room (k + 1) X.A) (he : GE X e ta) (hab : attributeBase e f X.env (eval e X.env) = eval e X.env := by rfl) : GE X (.Attribute e f pos) (tPrL C sp ta) := by
  obtain ⟨⟨q, g, fd, hp, F, hb⟩, c⟩ := D
  refine ⟨fun pins s σ H Q I h => ?_⟩
  refine attr_of hab (thn (he.run pins s σ H _ I h) fun u s1 hh => ?_)
  obtain ⟨g1, x, H1, I1, rx, a, dx, m, ks, ex, L, q2⟩ := hh
  subst ex
  obtain rfl : u = Value.ref a := rx
  obtain ⟨od, J, _⟩ := (L.obj I1.hok).1.look
  obtain ⟨rest, isProp⟩ := hp.rec_
  have I2 := I1.tok (s1.toks + 1)
  have known : (PySem.W.clsIn X.K C).isSome = true := by
    obtain ⟨cd, hc, _⟩ := PySem.W.any_some c.hd
    rw [hc]
    rfl
  refine PySem.W.get_bind I1.kIn J (PySem.W.plainGet_of (c.get f)).1 (PySem.W.findObj_data known hp.at_ hp.get hp.tak) (PySem.W.plainGet_of (c.get f)).2 (wpAny_call (PySem.W.prop_get (s := { s1 with toks := s1.toks + 1 }) I1.kIn isProp ?_))
  have bind := hb _ [Value.ref a] I2.kIn rfl
  rw [List.append_nil] at bind
  refine codeAny_mono (F.run X.A.in1 X.stack { s1 with toks := s1.toks + 1 } H1 ⟨[.ref a], []⟩ [.ref a] [.ref a] Q hr.in1 I2.env0.in1 bind (.cons rfl .nil) q2) fun r s' hq => ?_
  match r, hq with
  | .error er, hq => exact False.elim hq
  | .ok (.ret w), hq =>
    obtain ⟨v, H', I3, rv, q3⟩ := I2.after hq.2
    show wpAny _ _ (handedOut w) _ _ _
    rw [PySem.W.handedOut_of (handed_of rv)]
    exact wpAny_pure ⟨hq.1.trans g1, v, H', I3, rv, q3⟩
theorem ge_neg (he : GE X a ta) : GE X (.UnaryOp .USub a pos) (tUn (rU fun i => .int (-i)) ta) := by
  refine ⟨fun pins s σ H Q I h => ?_⟩
  refine UnaryOp_ (thn (he.run pins s σ H _ I h) fun v s1 hh => ?_)
  obtain ⟨g1, x, H1, I1, r1, i, ex, q⟩ := hh
  subst ex
  obtain ⟨t, rfl⟩ := r1
  exact neg_int ⟨g1, .int (-i), H1, I1.tok _, ⟨_, rfl⟩, q⟩
theorem gix_list {value slice : Expr} {pins : List (Addr × Obj)} {s0 s : Shared} {σ : L2.St} {H : Hp} {x y : V} {v u : Value} {Q : VK} (gg : s.gens = s0.gens) (I : Inv X pins σ H s) (rx : RelV x v) (ry : RelV y u) (h : rIxL X.K x y H Q) (hs : subscripted slice false v u = operate [v, u] (getItem v u)) :
    wpAny (model X.prog X.w) X.A (subscriptTail value slice v u) (fun r s' => s'.gens = s0.gens ∧ EP X pins σ Q r s') X.xe s := by
  obtain ⟨p, xs, i, z, rfl, rfl, hq, he, q⟩ := h
  cases rx
  obtain ⟨t, rfl⟩ := ry
  obtain ⟨its, r, pl, hz⟩ := I.list hq
  obtain ⟨j, h1, h2, h3, h4, h5⟩ := atI_get he
  obtain ⟨w, ew, rw'⟩ := r.get h2
  have hl := r.length
  have hn := line63
  have fin : s.gens = s0.gens ∧ EP X pins σ Q w s := ⟨gg, z, H, I, rw', q⟩
  by_cases h0 : 0 ≤ i
  · have hj : i.toNat = j := by
      rw [seqIndex_of h0 h5] at h1
      exact Option.some.inj h1
    exact item_listR pl.isList h0 (by omega) (by rw [hj]; simpa using ew) fin hs
  · have hj : (i + (its.toArray.size : Int)).toNat = j := by
      rw [seqIndex_neg (by omega) h4] at h1
      rw [List.size_toArray, ← hl]
      exact Option.some.inj h1
    exact subscriptTail_builtinR (x := w) pl.isList.typeIs slot_list_getitem.lookup
      (wpAny_getItem_list_neg (Q := fun r s' => r = w ∧ (s'.gens = s0.gens ∧ EP X pins σ Q r s')) pl.isList (by omega) (by rw [List.size_toArray] <;> omega) (by omega) (by rw [hj]; simpa using ew) ⟨rfl, fin⟩) hs
theorem ge_ixL (ha : GE X a ta) (hb : GE X b tb) (hs : PlainIx b) : GE X (.Subscript a b pos) (tOp (rIxL X.K) ta tb) := by
  refine ⟨fun pins s σ H Q I h => ?_⟩
  refine Subscript_ (thn (ha.run pins s σ H _ I h) fun v s1 hh => ?_)
  obtain ⟨g1, x, H1, I1, r1, q1⟩ := hh
  refine thn (hb.run pins s1 σ H1 _ I1 q1) fun u s2 hh => ?_
  obtain ⟨g2, y, H2, I2, r2, q⟩ := hh
  exact gix_list (g2.trans g1) I2 r1 r2 q (hs _ _)
/-- a == b, two texts -/
def rEqST : R2 := fun x y H Q => ∃ p q, x = .str p ∧ y = .str q ∧ Q (.bl (decide (x = y))) H
theorem gt_eqST (ha : GE X a ta) (hb : GE X b tb) (hm : behindInMarks .Eq b = false) : GT X (.Compare a [.Eq] [b] pos) (tTest (tOp rEqST ta tb)) := by
  refine ⟨fun pins s σ H Q I h => ?_⟩
  refine wpAny_isTrue_Compare1 (thn (ha.run pins s σ H _ I h) fun v s1 hh => ?_) hm
  obtain ⟨g1, x, H1, I1, r1, q1⟩ := hh
  refine thn (hb.run pins s1 σ H1 _ I1 q1) fun u s2 hh => ?_
  obtain ⟨g2, y, H2, I2, r2, p, q', rfl, rfl, k, ek, q⟩ := hh
  obtain ⟨t1, rfl⟩ := r1
  obtain ⟨t2, rfl⟩ := r2
  cases ek
  refine PyProof.Rows.eq_str ?_
  rw [← dec_str]
  exact wpAny_truthy_bool ⟨g2.trans g1, H2, I2, q⟩
theorem gstore {i : Nat} {x : Str} (hN : X.N.Nodup) (hi : X.N[i]? = some x) (hx : X.env.scope.names.lookup x = some .local) (hk : X.env.kindOf x = some .local) {pins : List (Addr × Obj)} {s : Shared} {σ : L2.St} {H : Hp} {v : V} {u : Value} {Q : L2.St → Hp → Prop} (I : Inv X pins σ H s) (r : RelV v u) (h : Q (σ.set i (some v)) H) :
    wpAny (model X.prog X.w) X.A (storeName X.env x u) (fun _ s' => s'.gens = s.gens ∧ ∃ σ' H', Inv X pins σ' H' s' ∧ Q σ' H') X.xe s := by
  obtain ⟨m, hn, hl⟩ := id I.loc
  have hcls : (X.env.scope.kind == .class || (X.env.scope.kind == .module && X.env.locals != X.env.globals)) = false := by rw [I.ok.kind]; rfl
  have hiσ : i < σ.length := by rw [I.len]; exact (List.getElem?_eq_some_iff.mp hi).1
  refine wpAny_storeName_local hk hn (fun h' hn' hs => ⟨rfl, σ.set i (some v), H, ?_, h⟩) hcls
  have old : ∀ b o, X.s_0.heap.get? b = some o → b ≠ X.env.locals := fun b o e => Nat.ne_of_lt (Nat.lt_of_lt_of_le (Heap.lt_size e) I.ok.above)
  obtain ⟨oL, _, _, hoL, _⟩ := id hn
  refine ⟨I.ok, I.os, I.bare, ⟨fun b o e n hb hx => ?_, fun b o e n hb hx => ?_, I.base.free, fun b o e hx => ?_, I.base.tups, I.base.frzs, I.base.tbls⟩, ⟨_, hn', fun j y v' e1 e2 e3 => ?_⟩, fun y c e => ?_, I.free, I.freeC, fun p hp => ?_, fun b ob e => ?_, by simpa using I.len⟩
  · exact (hs.2 b (old b o e)).trans (I.base.keep b o e n hb hx)
  · obtain ⟨sl, e1⟩ := I.base.slot b o e n hb hx
    exact ⟨sl, (hs.2 b (old b o e)).trans e1⟩
  · obtain ⟨o', e1⟩ := I.base.there b o e hx
    exact ⟨o', (hs.2 b (old b o e)).trans e1⟩
  · by_cases hj : j = i
    · subst hj
      rw [hi] at e1
      cases e1
      rw [List.getElem?_set_self hiσ] at e2
      cases e2
      exact ⟨u, r, .inl ⟨hk, by simp⟩⟩
    · rw [List.getElem?_set_ne (Ne.symm hj)] at e2
      obtain ⟨u', r', q⟩ := hl j y v' e1 e2 e3
      refine ⟨u', r', ?_⟩
      rcases q with ⟨k, e⟩ | ⟨k, c, e, z⟩
      · have ne : y ≠ x := fun e => hj (nodup_ix hN e1 (e ▸ hi))
        exact .inl ⟨k, by simp [ne, e]⟩
      · exact .inr ⟨k, c, e, z.sameBut hs (I.cne y c e)⟩
  · obtain ⟨w', z⟩ := I.cell y c e
    exact ⟨w', z.sameBut hs (I.cne y c e)⟩
  · obtain ⟨e, n, ne, nf, d⟩ := I.pin p hp
    exact ⟨(hs.2 p.1 ne).trans e, n, ne, nf, d⟩
  · refine (I.hok b ob e).stay (fun c w' hc q => (hs.2 c ?_).trans q) (fun _ q => q) fun _ _ q => q
    rintro rfl
    rcases hc with rfl | hc
    · rw [I.free] at e
      cases e
    · rw [I.free] at hc
      cases hc
theorem gst_aug {i : Nat} {x : Str} {pos' : Pos} (hN : X.N.Nodup) (hi : X.N[i]? = some x) (hx : X.env.scope.names.lookup x = some .local) (he : GE X e te) (hk : X.env.kindOf x = some .local := by first | rfl | assumption) :
    GSt X (.AugAssign (.Name x pos') .Add e pos) (tAug i te (ipI fun i j => i + j)) := by
  refine ⟨fun pins s σ H D I h => ?_⟩
  obtain ⟨v, e1, h⟩ := h
  obtain ⟨m, hn, hl⟩ := I.loc
  obtain ⟨u, r, l⟩ := hl i x v hi e1 (.inl hx)
  refine wpAny_AugAssign_Name ?_
  have go : wpAny (model X.prog X.w) X.A (eval e X.env) (fun w s₂ => wpAny (model X.prog X.w) X.A (inplaceOp .Add u w) (fun r s₃ => wpAny (model X.prog X.w) X.A (storeName X.env x r) (fun _ s4 => s4.gens = s.gens ∧ SP X pins D .next s4) X.xe s₃) X.xe s₂) X.xe s := by
    refine thn (he.run pins s σ H _ I h) fun w s1 hh => ?_
    obtain ⟨g1, y, H1, I1, r1, i, j, rfl, rfl, q1⟩ := hh
    obtain ⟨t, rfl⟩ := r
    obtain ⟨t', rfl⟩ := r1
    refine iadd_int ?_
    exact thn (gstore hN hi hx hk (v := .int (i + j)) (I1.tok _) ⟨_, rfl⟩ q1) fun _ s2 ⟨g2, q2⟩ => ⟨g2.trans g1, q2⟩
  rcases l with ⟨hk, hm⟩ | ⟨hk, c, hc, hcell⟩
  · exact wpAny_loadName_local I.ok.kind hk hn hm go
  · rcases hk with hk | hk
    · exact wpAny_loadName_cell I.ok.kind hk hc hcell go
    · have : X.env.scope.names.lookup x = some .free := hk
      rw [hx] at this
      cases this
/-- for tg in e: body, e a text -/
theorem gst_forS {tg : Expr} {g : TG} {ts : TS} {body : List Stmt} (hp : PassesOwn (model X.prog X.w) X.A X.env X.xe) (hc : X.calm = true) (he : GE X e te) (hg : GG X tg g) (hb : GSts X body ts) (hs : ∀ x, foldedSetIterable e X.env x = pure x := by intro _; rfl) :
    GSt X (.For tg e body [] pos) (tFor (iStr te) g ts) := by
  refine ⟨fun pins s σ H D I h => ?_⟩
  refine wpAny_For (thn (he.run pins s σ H _ I h) fun v s1 hh => ?_) hs
  obtain ⟨g1, y, H1, I1, r1, x, ex, W, ⟨m0, w0⟩, turn⟩ := hh
  subst ex
  obtain ⟨t, rfl⟩ := r1
  cases ha : x.cps.all (· < 128)
  · refine wpAny_pyIter_wide ha ?_
    obtain ⟨it, eit⟩ : ∃ it, it = s1.heap.objs.size := ⟨_, rfl⟩
    have T := turn_str (P := X.prog) (w := X.w) (K := X.K) (tg := tg) it x t "str_iterator" (.inr rfl)
    have I2 : Inv X pins σ H1 { s1 with heap := s1.heap.push { cls := .type "str_iterator", data := .fields #[.str x t, .int 0 s1.toks] } } := I1.kept (t' := s1.toks) fun b o e => Heap.get?_push_of_some _ e
    have f2 : ∀ b ∈ [it], FpOk X pins H1 b := fun b hb => by
      have e : b = it := by simpa using hb
      rw [e, eit]
      exact I1.fpOk (Nat.le_refl _) (I1.hok.fresh (Nat.le_refl _))
    have stat : ∀ {H' : Hp}, (∀ b ∈ [it], H' b = none) → ∀ b ∈ [it], FpOk X pins H' b := fun hn b hb => ⟨hn b hb, (f2 b hb).2⟩
    rw [← eit]
    refine codeAny_forLoop_any (fun n s' => ∃ i σ' H', s'.gens = s.gens ∧ Inv X pins σ' H' s' ∧ s'.heap.IsStrIter it "str_iterator" x t i ∧ (∀ b ∈ [it], H' b = none) ∧ W i n σ' H') ?_ m0 ⟨0, σ, H1, g1, ?_, ?_, fun b hb => (f2 b hb).1, w0⟩
    · rintro n s3 ⟨i, σ3, H3, g3, I3, st3, fr3, w3⟩
      obtain ⟨f0, f1, f2', f3, f4, f5⟩ := stat fr3 it (by simp)
      rcases turn i n σ3 H3 w3 with ⟨stop, qn⟩ | ⟨go, N, hN, step⟩
      · refine wpAny_passesOwn hp (thn (Q := fun r s4 => r = none ∧ s4.gens = s.gens ∧ Inv X pins σ3 H3 s4) (wpAny_pyNext_wide_end (I3.ok.hd hc) st3 (Array.getElem?_eq_none stop) fun h' eb => ⟨rfl, g3, I3.turned (t' := s3.toks) (fun b o hb e => eb b o hb e) f0 f1 f3 f4 f5⟩) fun r s4 ⟨hr, g4, I4⟩ => ?_)
        subst hr
        exact wpAny_execs_nil ⟨g4, σ3, H3, I4, qn⟩
      · have Wk : Walks X.prog X.w X.A it [it] [it] x.cps.size (SignAt x) (fun i h => h.IsStrIter it "str_iterator" x t i) := Walks.strWide (I3.ok.hd hc) it x t
        refine wpAny_passesOwn hp (thn (Q := fun r s4 => ∃ u, r = some u ∧ wpAny (model X.prog X.w) X.A (letOwnedTupleGo tg (.ref it) u) (fun _ s5 => ∃ y H5, s5.gens = s.gens ∧ Inv X pins σ3 H5 s5 ∧ RelV y u ∧ (Its x).yld i H3 y H5 ∧ s5.heap.IsStrIter it "str_iterator" x t (i + 1) ∧ ∀ b ∈ [it], H5 b = none) X.xe s4) (Wk.item i s3 _ _ go st3 fun v h' tk hv st' kk => ?_) fun r s4 ⟨u, hr, h4⟩ => ?_)
        · obtain ⟨c, u, hcx, rfl⟩ := hv
          have I4 : Inv X pins σ3 H3 { s3 with heap := h', toks := tk } := I3.turned (fun b o hb e => kk b o (by simpa using hb) e) f0 f1 f3 f4 f5
          obtain ⟨oi, e, cc, dd⟩ := id st'
          exact ⟨_, rfl, go_of (s := { s3 with heap := h', toks := tk }) e cc dd (by decide) ⟨.str ⟨#[c]⟩, H3, g3, I4, ⟨u, rfl⟩, ⟨rfl, c, hcx, rfl⟩, st', fun b hb => fr3 b hb⟩⟩
        · subst hr
          refine wpAny_passesOwn hp (thn h4 fun _ s5 ⟨y, H5, g5, I5, r5, y5, st5, fr5⟩ => ?_)
          have I5' := I5.pinned (stat fr5) (T.obj _ _ st5)
          refine wpAny_passesOwn hp (thn (hg.run _ s5 σ3 H5 y u _ I5' r5 (step y H5 y5)) fun _ s6 ⟨g6, σ6, H6, I6, q6⟩ => ?_)
          refine wpAny_passesOwn hp (thn (hb.run _ s6 σ6 H6 _ I6 q6) fun f s7 ⟨g7, q7⟩ => ?_)
          have gg : s7.gens = s.gens := g7.trans (g6.trans g5)
          have again : ∀ {σ7 : L2.St} {H7 : Hp}, Inv X (pins ++ pinsAt [it] s5.heap) σ7 H7 s7 → N σ7 H7 → ∃ m, m < n ∧ ∃ i σ' H', s7.gens = s.gens ∧ Inv X pins σ' H' s7 ∧ s7.heap.IsStrIter it "str_iterator" x t i ∧ (∀ b ∈ [it], H' b = none) ∧ W i m σ' H' := fun {σ7 H7} I7 n7 => by
            obtain ⟨m', hm, w7⟩ := hN σ7 H7 n7
            refine ⟨m', hm, i + 1, σ7, H7, gg, I7.unpinned, T.keep _ _ _ st5 fun b hb o e => (I7.pin (b, o) (List.mem_append_right _ (List.mem_append_right _ (mem_pinsAt hb e)))).1, fun b hb => ?_, w7⟩
            obtain ⟨o, e, d⟩ := T.obj _ _ st5 b hb
            exact (I7.pin (b, o) (List.mem_append_right _ (List.mem_append_right _ (mem_pinsAt hb e)))).2.1
          cases f with
          | next => obtain ⟨σ7, H7, I7, n7⟩ := q7; exact again I7 n7
          | cont => obtain ⟨σ7, H7, I7, n7⟩ := q7; exact again I7 n7
          | brk => obtain ⟨σ7, H7, I7, q7⟩ := q7; exact ⟨gg, σ7, H7, I7.unpinned, q7⟩
          | ret v => obtain ⟨x7, σ7, H7, I7, r7, q7⟩ := q7; exact ⟨gg, x7, σ7, H7, I7.unpinned, r7, q7⟩
    · exact I1.kept (t' := s1.toks) fun b o e => Heap.get?_push_of_some _ e
    · rw [eit]
      exact ⟨_, Heap.get?_push_size _ rfl, rfl, rfl⟩
  · refine wpAny_pyIter_ascii ha ?_
    obtain ⟨it, eit⟩ : ∃ it, it = s1.heap.objs.size := ⟨_, rfl⟩
    have T := turn_str (P := X.prog) (w := X.w) (K := X.K) (tg := tg) it x t "str_ascii_iterator" (.inl rfl)
    have I2 : Inv X pins σ H1 { s1 with heap := s1.heap.push { cls := .type "str_ascii_iterator", data := .fields #[.str x t, .int 0 s1.toks] } } := I1.kept (t' := s1.toks) fun b o e => Heap.get?_push_of_some _ e
    have f2 : ∀ b ∈ [it], FpOk X pins H1 b := fun b hb => by
      have e : b = it := by simpa using hb
      rw [e, eit]
      exact I1.fpOk (Nat.le_refl _) (I1.hok.fresh (Nat.le_refl _))
    have stat : ∀ {H' : Hp}, (∀ b ∈ [it], H' b = none) → ∀ b ∈ [it], FpOk X pins H' b := fun hn b hb => ⟨hn b hb, (f2 b hb).2⟩
    rw [← eit]
    refine codeAny_forLoop_any (fun n s' => ∃ i σ' H', s'.gens = s.gens ∧ Inv X pins σ' H' s' ∧ s'.heap.IsStrIter it "str_ascii_iterator" x t i ∧ (∀ b ∈ [it], H' b = none) ∧ W i n σ' H') ?_ m0 ⟨0, σ, H1, g1, ?_, ?_, fun b hb => (f2 b hb).1, w0⟩
    · rintro n s3 ⟨i, σ3, H3, g3, I3, st3, fr3, w3⟩
      obtain ⟨f0, f1, f2', f3, f4, f5⟩ := stat fr3 it (by simp)
      rcases turn i n σ3 H3 w3 with ⟨stop, qn⟩ | ⟨go, N, hN, step⟩
      · refine wpAny_passesOwn hp (thn (Q := fun r s4 => r = none ∧ s4.gens = s.gens ∧ Inv X pins σ3 H3 s4) (wpAny_pyNext_ascii_end (I3.ok.hd hc) st3 (Array.getElem?_eq_none stop) fun h' eb => ⟨rfl, g3, I3.turned (t' := s3.toks) (fun b o hb e => eb b o hb e) f0 f1 f3 f4 f5⟩) fun r s4 ⟨hr, g4, I4⟩ => ?_)
        subst hr
        exact wpAny_execs_nil ⟨g4, σ3, H3, I4, qn⟩
      · have Wk : Walks X.prog X.w X.A it [it] [it] x.cps.size (SignAt x) (fun i h => h.IsStrIter it "str_ascii_iterator" x t i) := Walks.strAscii (I3.ok.hd hc) it x t
        refine wpAny_passesOwn hp (thn (Q := fun r s4 => ∃ u, r = some u ∧ wpAny (model X.prog X.w) X.A (letOwnedTupleGo tg (.ref it) u) (fun _ s5 => ∃ y H5, s5.gens = s.gens ∧ Inv X pins σ3 H5 s5 ∧ RelV y u ∧ (Its x).yld i H3 y H5 ∧ s5.heap.IsStrIter it "str_ascii_iterator" x t (i + 1) ∧ ∀ b ∈ [it], H5 b = none) X.xe s4) (Wk.item i s3 _ _ go st3 fun v h' tk hv st' kk => ?_) fun r s4 ⟨u, hr, h4⟩ => ?_)
        · obtain ⟨c, u, hcx, rfl⟩ := hv
          have I4 : Inv X pins σ3 H3 { s3 with heap := h', toks := tk } := I3.turned (fun b o hb e => kk b o (by simpa using hb) e) f0 f1 f3 f4 f5
          obtain ⟨oi, e, cc, dd⟩ := id st'
          exact ⟨_, rfl, go_of (s := { s3 with heap := h', toks := tk }) e cc dd (by decide) ⟨.str ⟨#[c]⟩, H3, g3, I4, ⟨u, rfl⟩, ⟨rfl, c, hcx, rfl⟩, st', fun b hb => fr3 b hb⟩⟩
        · subst hr
          refine wpAny_passesOwn hp (thn h4 fun _ s5 ⟨y, H5, g5, I5, r5, y5, st5, fr5⟩ => ?_)
          have I5' := I5.pinned (stat fr5) (T.obj _ _ st5)
          refine wpAny_passesOwn hp (thn (hg.run _ s5 σ3 H5 y u _ I5' r5 (step y H5 y5)) fun _ s6 ⟨g6, σ6, H6, I6, q6⟩ => ?_)
          refine wpAny_passesOwn hp (thn (hb.run _ s6 σ6 H6 _ I6 q6) fun f s7 ⟨g7, q7⟩ => ?_)
          have gg : s7.gens = s.gens := g7.trans (g6.trans g5)
          have again : ∀ {σ7 : L2.St} {H7 : Hp}, Inv X (pins ++ pinsAt [it] s5.heap) σ7 H7 s7 → N σ7 H7 → ∃ m, m < n ∧ ∃ i σ' H', s7.gens = s.gens ∧ Inv X pins σ' H' s7 ∧ s7.heap.IsStrIter it "str_ascii_iterator" x t i ∧ (∀ b ∈ [it], H' b = none) ∧ W i m σ' H' := fun {σ7 H7} I7 n7 => by
            obtain ⟨m', hm, w7⟩ := hN σ7 H7 n7
            refine ⟨m', hm, i + 1, σ7, H7, gg, I7.unpinned, T.keep _ _ _ st5 fun b hb o e => (I7.pin (b, o) (List.mem_append_right _ (List.mem_append_right _ (mem_pinsAt hb e)))).1, fun b hb => ?_, w7⟩
            obtain ⟨o, e, d⟩ := T.obj _ _ st5 b hb
            exact (I7.pin (b, o) (List.mem_append_right _ (List.mem_append_right _ (mem_pinsAt hb e)))).2.1
          cases f with
          | next => obtain ⟨σ7, H7, I7, n7⟩ := q7; exact again I7 n7
          | cont => obtain ⟨σ7, H7, I7, n7⟩ := q7; exact again I7 n7
          | brk => obtain ⟨σ7, H7, I7, q7⟩ := q7; exact ⟨gg, σ7, H7, I7.unpinned, q7⟩
          | ret v => obtain ⟨x7, σ7, H7, I7, r7, q7⟩ := q7; exact ⟨gg, x7, σ7, H7, I7.unpinned, r7, q7⟩
    · exact I1.kept (t' := s1.toks) fun b o e => Heap.get?_push_of_some _ e
    · rw [eit]
      exact ⟨_, Heap.get?_push_size _ rfl, rfl, rfl⟩
end
end Sq
set_option Elab.async false
set_option linter.all false
set_option maxRecDepth 100000
set_option maxHeartbeats 8000000
set_option exponentiation.threshold 2000
namespace Sq
open PySem PySem.Spec PyProof.Rows L2 GenW
section
variable {P : Program} {w : World} {K : PySem.W.Frag} {mg : Str → Option Value} {base : Heap} {C : Addr}
theorem ok_betweenQ {f : Addr} {fd : FuncData} (F : Fun K "lengths_between" "lengths_between" s_lengthsbetween f fd) (B : Bi mg) : FnQ P w K mg base 1 f fd ["text", "character"] spBetween := by
  refine fnq_of F sc_lengthsbetween (fun vs H Q E h => ?_) (fun cdv A outer s H vs Q hr h => ?_)
  · obtain ⟨x, b, rfl, _⟩ := h
    rfl
  · obtain ⟨x, b, rfl, hx, q⟩ := h
    refine ⟨_, (gsts_cons (gst_asg (ge_lst ga_nil) (gg_name (i := 2) sc_lengthsbetween.nd rfl rfl))
      (gsts_cons (gst_asg ge_int (gg_name (i := 3) sc_lengthsbetween.nd rfl rfl))
      (gsts_cons (gst_forS PassesOwn.never rfl (ge_var (i := 0) rfl (Or.inl rfl)) (gg_name (i := 4) sc_lengthsbetween.nd rfl rfl)
        (gsts_one (gst_if (gt_eqST (ge_var (i := 4) rfl (Or.inl rfl)) (ge_var (i := 1) rfl (Or.inl rfl)) (nomark _)) (gsts_one (gst_aug (i := 3) sc_lengthsbetween.nd rfl rfl ge_int)) (gsts_cons (gst_expr (ge_append (ge_var (i := 2) rfl (Or.inl rfl)) (ge_var (i := 3) rfl (Or.inl rfl)))) (gsts_one (gst_asg ge_int (gg_name (i := 3) sc_lengthsbetween.nd rfl rfl)))))))
      (gsts_cons (gst_expr (ge_append (ge_var (i := 2) rfl (Or.inl rfl)) (ge_var (i := 3) rfl (Or.inl rfl)))) (gsts_one (gst_ret (ge_var (i := 2) rfl (Or.inl rfl)))))))), ?_⟩
    have szl : sizeLine = 16777216 := sizeLine_eq
    refine ⟨Nat.zero_le _, fun p hp => ?_⟩
    have tl : x.cps.toList.length = x.length := rfl
    have fin : ∀ (H' : Hp) (acc : List Int) (r : Int) (rest : List Nat), Same H (wo H' p) → H' p = some (.lst (acc.map V.int)) → acc ++ lbw b rest r = lbw b x.cps.toList 0 → rest = [] → acc.length < sizeLine ∧ Q (.ref p) (upd H' p (.lst (acc.map V.int ++ [.int r]))) := fun H' acc r rest s1 g e er => by
      subst er
      have e' : acc ++ [r] = lbw b x.cps.toList 0 := e
      have l1 := congrArg List.length e'
      have l2 := lbw_len b x.cps.toList 0
      have l3 := List.length_filter_le (fun x => decide (x ≠ b)) x.cps.toList
      rw [List.length_append, List.length_singleton] at l1
      refine ⟨by omega, q p _ hp (fun a o e => ?_) ?_⟩
      · have ne : a ≠ p := fun z => by rw [z, hp] at e; cases e
        rw [upd_ne ne]
        exact wo_same _ _ (s1 _ _ e)
      · rw [upd_same, ← e', List.map_append]
        rfl
    refine ⟨_, rfl, x, rfl, for_it walk_str (fun i σ H' => ∃ acc r y, σ = [some (.str x), some (.str ⟨#[b]⟩), some (.ref p), some (.int r), y] ∧ Same H (wo H' p) ∧ H' p = some (.lst (acc.map V.int)) ∧ acc ++ lbw b (x.cps.toList.drop i) r = lbw b x.cps.toList 0)
      ⟨[], 0, none, rfl, by rw [wo_upd]; exact same_wo (Same.refl _) hp, upd_same, rfl⟩ (fun _ _ _ _ _ => trivial) ?_ ?_⟩
    · rintro i v σ H1 H2 hi ⟨acc, r, y, rfl, s1, g, e⟩ ⟨rfl, ch, ec, rfl⟩
      have ec' : x.cps.toList[i]? = some ch := by rw [Array.getElem?_toList]; exact ec
      have ed : x.cps.toList.drop i = ch :: x.cps.toList.drop (i + 1) := by
        obtain ⟨_, ee⟩ := List.getElem?_eq_some_iff.mp ec'
        rw [List.drop_eq_getElem_cons (by exact hi), ee]
      rw [ed] at e
      refine ⟨_, rfl, _, rfl, _, _, rfl, rfl, _, rfl, ite2 (fun c1 => ?_) (fun c1 => ?_)⟩
      · have cb : ch = b := by
          have h := of_decide_eq_true c1
          injection h with h
          injection h with h
          injection h with h
          injection h
        rw [lbw_cons, if_pos cb] at e
        exact ⟨_, rfl, _, _, rfl, rfl, acc, r + 1, _, rfl, s1, g, e⟩
      · have cb : ch ≠ b := fun z => c1 (by rw [z]; exact decide_eq_true rfl)
        rw [lbw_cons, if_neg cb] at e
        have l1 := congrArg List.length e
        rw [List.length_append, List.length_cons, lbw_len, lbw_len] at l1
        have l3 := List.length_filter_le (fun x => decide (x ≠ b)) x.cps.toList
        refine ⟨_, rfl, .inl ⟨rfl, _, SqL.of g⟩, _, rfl, p, _, _, rfl, rfl, g, by rw [List.length_map]; omega, acc ++ [r], 0, _, rfl, ?_, ?_, ?_⟩
        · rw [wo_upd]
          exact s1
        · rw [upd_same, List.map_append]
          rfl
        · rw [List.append_assoc]
          exact e
    · rintro σ H' ⟨acc, r, y, rfl, s1, g, e⟩
      obtain ⟨l, q1⟩ := fin H' acc r _ s1 g e (by simp)
      exact ⟨_, rfl, .inl ⟨rfl, _, SqL.of g⟩, _, rfl, p, _, _, rfl, rfl, g, by rw [List.length_map]; exact l, _, rfl, q1⟩
theorem ok_textQ {f : Addr} {fd : FuncData} (F : Fun K "text" "SqueezedText.text" s_SqueezedTexttext f fd) (Z : Lc K C) : FnQ P w K mg base 1 f fd ["self"] (spText C) := by
  refine fnq_of F sc_SqueezedTexttext (fun vs H Q E h => ?_) (fun cdv A outer s H vs Q hr h => ?_)
  · obtain ⟨p, dx, r, t, u0, b, T, ks, rfl, _⟩ := h
    rfl
  · obtain ⟨p, dx, r, t, u0, b, T, ks, rfl, L, q⟩ := h
    refine ⟨_, (gsts_one (gst_ret (ge_ixL (ge_fldL (ge_var (i := 0) rfl (Or.inl rfl))) (ge_neg ge_int) (fun _ _ => rfl)))), ?_⟩
    obtain ⟨m, LL, mC, mR, mT, mN⟩ := L.m
    obtain ⟨T0, l, eT⟩ : ∃ T0 l, T = T0 ++ [l] := by
      rcases List.eq_nil_or_concat T with e | ⟨T0, l, e⟩
      · have := L.len
        rw [e] at this
        simp at this
      · exact ⟨T0, l, by rw [e, List.concat_eq_append]⟩
    subst eT
    rw [lastT_snoc] at q
    refine ⟨_, rfl, p, C, dx, m, _, .ref t, .ref t, rfl, LL, Z.cl, Z.nT, mT, rfl, 1, rfl, t, _, -1, .str (SX.S l), rfl, rfl, SqL.of L.tx, ?_, q⟩
    rw [List.map_append]
    exact atI_tail _ _
end
theorem ge_fldLK {X : Cx} {e : Expr} {f : Str} {ta : TE} {pos : Pos} {K0 : PySem.W.Frag} (hK : X.K = K0) (he : GE X e ta) (hb : attributeBase e f X.env (eval e X.env) = eval e X.env := by rfl) : GE X (.Attribute e f pos) (tFldL K0 ta f) := by
  subst hK
  exact ge_fldL he hb
def tGtI (ta tb : TE) : TT := fun σ H Q => ta σ H fun x H1 => tb σ H1 fun y H2 => ∃ i j, x = .int i ∧ y = .int j ∧ Q (decide (j < i)) H2
section
variable {X : Cx} {pos : Pos}
theorem gt_gt {a b : Expr} {ta tb : TE} (ha : GE X a ta) (hb : GE X b tb) (hm : behindInMarks .Gt b = false) : GT X (.Compare a [.Gt] [b] pos) (tGtI ta tb) := by
  refine ⟨fun pins s σ H Q I h => ?_⟩
  refine wpAny_isTrue_Compare1 (thn (ha.run pins s σ H _ I h) fun v s1 hh => ?_) hm
  obtain ⟨g1, x, H1, I1, r1, q1⟩ := hh
  refine thn (hb.run pins s1 σ H1 _ I1 q1) fun u s2 hh => ?_
  obtain ⟨g2, y, H2, I2, r2, i, j, rfl, rfl, q⟩ := hh
  obtain ⟨t1, rfl⟩ := r1
  obtain ⟨t2, rfl⟩ := r2
  exact gt_int (wpAny_truthy_bool ⟨g2.trans g1, H2, I2, q⟩)
end
section
variable {P : Program} {w : World} {K : PySem.W.Frag} {mg : Str → Option Value} {base : Heap} {C : Addr}
def spRunsV (C : Addr) : SpV := fun vs W ns tot val => ∃ (p dx r t : Addr) (u0 : Value) (b : Nat) (T : List (List Nat)) (ks : List Int), vs = [.ref p] ∧ Txt2 C W p dx r t u0 b T ks ∧ KindW W ∧ ns = lbw b (lastT T) 0 ∧ tot = (runs b (lastT T)).length ∧ val = fun i => (runs b (lastT T))[i]?.getD 0
theorem filter_at (p : Int → Bool) (ns : List Int) {j : Nat} {k : Int} (e : ns[j]? = some k) (hk : p k = true) : (ns.filter p)[((ns.take j).filter p).length]? = some k := by
  have ed : ns.drop j = k :: ns.drop (j + 1) := by
    obtain ⟨h, ee⟩ := List.getElem?_eq_some_iff.mp e
    rw [List.drop_eq_getElem_cons h, ee]
  have h := List.take_append_drop j ns
  have h2 : ns.filter p = (ns.take j).filter p ++ k :: (ns.drop (j + 1)).filter p := by
    conv => lhs; rw [← h, ed]
    rw [List.filter_append, List.filter_cons, if_pos hk]
  rw [h2, List.getElem?_append_right (Nat.le_refl _), Nat.sub_self]
  rfl
def forIter : List Stmt → Expr
  | [.For _ i _ _ _] => i
  | _ => .Name "x" ⟨0, 0, 0, 0⟩
def forBody : List Stmt → List Stmt
  | [.For _ _ b _ _] => b
  | _ => []
def forPos : List Stmt → Pos
  | [.For (.Name _ p) _ _ _ _] => p
  | _ => ⟨0, 0, 0, 0⟩
def forAt : List Stmt → Pos
  | [.For _ _ _ _ p] => p
  | _ => ⟨0, 0, 0, 0⟩
theorem ok_runsV {f : Addr} {fd : FuncData} (F : Fun K "runs" "SqueezedText.runs" s_SqueezedTextruns f fd) (Z : Lc K C) (P_text : Qr P w K mg base 1 C "text" (spText C)) (D_lengthsbetween : Dq P w K mg base 1 "lengths_between" ["text", "character"] spBetween) : GFnV P w K mg base 3 f fd ["self"] (spRunsV C) := by
  obtain ⟨oc, od, kV, doc, pm, an, cdv, ct, osl, rfl, lk, hcd⟩ := F.ex
  refine vfn_of (k := 2) (x := "length") (op := forPos (defBody s_SqueezedTextruns)) (iter := forIter (defBody s_SqueezedTextruns)) (bodyF := forBody (defBody s_SqueezedTextruns)) (fpos := forAt (defBody s_SqueezedTextruns)) lk hcd sc_SqueezedTextruns (fun n x c z => by cases z) rfl (fun vs W ns tot val h => ?_) (fun vs W ns tot val h => ?_) (fun _ _ => rfl) (fun G ns tot val vs ok eP ew eK eM eB eN eq es hr h => ?_)
  · obtain ⟨p, dx, r, t, u0, b, T, ks, rfl, _⟩ := h
    rfl
  · obtain ⟨p, dx, r, t, u0, b, T, ks, _, _, wk, _⟩ := h
    exact wk
  · obtain ⟨p, dx, r, t, u0, b, T, ks, rfl, L, wk, rfl, rfl, rfl⟩ := h
    obtain ⟨P', w', K', mg', base', N', qual', scope', f', cd', A', outer', n0', a', go', g', W'⟩ := G
    cases eP
    cases ew
    cases eK
    cases eM
    cases eB
    cases eN
    cases eq
    cases es
    refine ⟨_, _, _, fun s₀ => ge_callU D_lengthsbetween (hr.mono (by omega)) (by rfl) (ga_cons (ge_prL P_text (hr.mono (by omega)) (ge_var (x := "self") (i := 0) rfl (Or.inl rfl))) (ga_cons (ge_fldLK (K0 := K') rfl (ge_var (x := "self") (i := 0) rfl (Or.inl rfl))) ga_nil)), fun al s₀ => gg_name (i := 1) sc_SqueezedTextruns.nd rfl rfl,
      fun al hokx => xs_cons (x_if (fun s₀ => gt_gt (ge_var (x := "length") (i := 1) rfl (Or.inl rfl)) ge_int (nomark _)) (xs_cons (x_yield hokx (fun s₀ => ge_var (x := "length") (i := 1) rfl (Or.inl rfl)) rfl) xs_nil) xs_nil) xs_nil, fun Hb sub => ?_, fun al Hb hal => ?_⟩
    · obtain ⟨m, LL, mC, mR, mT, mN⟩ := (L.same sub).m
      have l2 := lastT_size L.sz
      refine ⟨_, rfl, p, dx, m, _, rfl, LL, p, dx, r, t, u0, b, T, ks, rfl, L.same sub, ?_⟩
      refine ⟨_, rfl, p, C, dx, m, _, u0, _, rfl, LL, Z.cl, Z.nC, mC, L.u, ?_⟩
      exact ⟨SX.S (lastT T), b, rfl, by rw [SX.S_len]; omega, fun a H1 na s1 ga => ⟨a, rfl, ga, na, s1⟩⟩
    · obtain ⟨ls, els⟩ : ∃ ls, ls = lbw b (lastT T) 0 := ⟨_, rfl⟩
      have eR : runs b (lastT T) = ls.filter fun n => decide (0 < n) := by rw [els]; rfl
      rw [← els] at hal ⊢
      rw [eR]
      refine ⟨fun j i Hb σ H => i = ((ls.take j).filter fun n => decide (0 < n)).length ∧ Same Hb H ∧ H al = some (.lst (ls.map V.int)) ∧ ∃ y, σ = [some (.ref p), y], ⟨rfl, Same.refl _, hal, none, rfl⟩, fun j i Hb σ H q => q.2.2.1, ?_, ?_⟩
      · rintro j k i Hb σ H e ⟨rfl, sm, gal, y, rfl⟩
        have eN : ((ls.take (j + 1)).filter fun n => decide (0 < n)) = ((ls.take j).filter fun n => decide (0 < n)) ++ (if decide (0 < k) = true then [k] else []) := by
          rw [List.take_add_one, e]
          exact filter_snoc _ _ _
        refine ⟨_, rfl, k, 0, rfl, rfl, ?_⟩
        by_cases c : 0 < k
        · rw [decide_eq_true c]
          refine iteT ?_
          have fa := filter_at (fun n => decide (0 < n)) ls e (decide_eq_true c)
          refine ⟨(List.getElem?_eq_some_iff.mp fa).1, _, rfl, ?_, sm, fun Hb2 hal2 => ⟨?_, Same.refl _, hal2, _, rfl⟩⟩
          · have fk : ((ls.filter fun n => decide (0 < n))[((ls.take j).filter fun n => decide (0 < n)).length]?).getD 0 = k := by rw [fa]; rfl
            exact congrArg V.int fk.symm
          · rw [eN, decide_eq_true c, if_pos rfl, List.length_append]
            rfl
        · rw [decide_eq_false c]
          refine iteF ?_
          refine ⟨?_, sm, gal, _, rfl⟩
          rw [eN, decide_eq_false c, if_neg (by decide), List.append_nil]
      · rintro i Hb σ H ⟨rfl, sm, gal, y, rfl⟩
        rw [List.take_length]
        exact ⟨rfl, sm⟩
end
end Sq
set_option Elab.async false
set_option linter.all false
set_option maxRecDepth 100000
set_option maxHeartbeats 2000000
namespace Sq
open PySem PySem.Spec PyProof.Rows L2
open NumText (digitsVal AllDigits)
open TL (numL)
theorem shown_all : ∀ (ks : List PyData), PyData.shownAll ks = ks.map PyData.shown
  | [] => rfl
  | d :: ds => by
    show d.shown :: PyData.shownAll ds = _
    rw [shown_all ds]
    rfl
end Sq
set_option Elab.async false
set_option linter.all false
set_option maxRecDepth 100000
set_option maxHeartbeats 8000000
set_option exponentiation.threshold 2000
namespace Sq
open PySem PySem.Spec PyProof.Rows L2 GenW
abbrev s_lawright : Stmt := topS 25
theorem sc_lawright : FnScope ["pool", "written", "sign", "numbers", "live", "held", "kept", "number", "one", "passed", "pairs", "two"] ["pool"] (defScope s_lawright) := ⟨rfl, rfl, rfl, by decide +kernel, rfl, by decide +kernel, by decide +kernel⟩
section
variable {X : Cx} {Θ : Shared → Prop} {ys : List Str}
theorem cw_reprD (Cl : Clo X ys Θ) (hg : X.A.guards = some []) (hu : X.A.units + 64 < cLine) : CallW X Θ (.builtin "repr") (rReprD X.K) := by
  intro pins s σ H xs us Q I θ r h
  obtain ⟨a, d, rfl, hd, sh, nd, dep, sz, q⟩ := h
  obtain ⟨u, rfl, rv⟩ := vals1 r
  obtain rfl : u = Value.ref a := rv
  obtain ⟨as, rd⟩ := Dp.reads I d _ _ hd (show RelV (.ref a) (.ref a) from rfl)
  refine wpAny_mono (PySem.wpAny_toks (repr_of_reads' (Q := fun w s' => (∀ b o, s.heap.get? b = some o → s'.heap.get? b = some o) ∧ EP X pins σ Q w s') (E := X.xe) rd sh (by rw [nd]; exact fun z => nomatch z) hg (by omega) (fun b o e => e) (fun h' u tk keep => ⟨keep, .str _, H, I.kept keep, ⟨_, rfl⟩, q⟩) sz)) (fun w s' z => ⟨Cl.kept I z.1 z.2.1 θ, z.2.2⟩) fun _ _ z => z.2
end
structure Row where
  q : Addr
  r : Addr
  u : Addr
  m : List Int
  z : List Int
def Row.d (x : Row) : PyData := .list [.list (x.m.map PyData.int), .list (x.z.map PyData.int)]
structure Row.Fit (x : Row) : Prop where
  fm : x.m.length ≤ 2001
  fz : x.z.length ≤ 2001
  sm : ∀ k ∈ x.m, 0 ≤ k ∧ k < 1000000
  sz : ∀ k ∈ x.z, 0 ≤ k ∧ k < 1000000
structure Row.At (x : Row) (H : Hp) : Prop where
  q_ : H x.q = some (.lst [.ref x.r, .ref x.u])
  r_ : H x.r = some (.lst (x.m.map V.int))
  u_ : H x.u = some (.lst (x.z.map V.int))
theorem small12 {ks : List Int} (h : ∀ k ∈ ks, 0 ≤ k ∧ k < 1000000) : ∀ k ∈ ks, k.natAbs < 10 ^ 12 := fun k hk => by
  have := h k hk
  have e : (10 : Nat) ^ 12 = 1000000000000 := by decide
  omega
theorem Row.lay (x : Row) : PyData.canLay0 x.d = true := by
  show (PyData.canLayAll0 (x.m.map PyData.int) && (PyData.canLayAll0 (x.z.map PyData.int) && true)) = true
  rw [laysInts, laysInts]
  rfl
theorem Row.Fit.sh {x : Row} (f : x.Fit) : x.d.showable = true := by
  show (PyData.showableAll (x.m.map PyData.int) && (PyData.showableAll (x.z.map PyData.int) && true)) = true
  rw [shows_ints _ (small12 f.sm), shows_ints _ (small12 f.sz)]
  rfl
theorem Row.nd (x : Row) : x.d.hasDict = false := by
  show (PyData.hasDictAll (x.m.map PyData.int) || (PyData.hasDictAll (x.z.map PyData.int) || false)) = false
  rw [nodict_ints, nodict_ints]
  rfl
theorem Row.dep (x : Row) : x.d.depth ≤ 40 := by
  show max (PyData.depthAll (x.m.map PyData.int) + 1) (max (PyData.depthAll (x.z.map PyData.int) + 1) 0) + 1 ≤ 40
  have h1 := deepInts x.m
  have h2 := deepInts x.z
  omega
theorem Row.Fit.fit {x : Row} (f : x.Fit) : x.d.shown.length ≤ sizeLine := by
  have w1 := heavy_ints x.m (small12 f.sm)
  have w2 := heavy_ints x.z (small12 f.sz)
  have f1 := f.fm
  have f2 := f.fz
  have i1 : PyData.intsShort 13 x.d = true := by
    show (PyData.intsShortAll 13 (x.m.map PyData.int) && (PyData.intsShortAll 13 (x.z.map PyData.int) && true)) = true
    rw [PyData.intsShortAll_ints _ (small12 f.sm), PyData.intsShortAll_ints _ (small12 f.sz)]
    rfl
  refine PyData.shown_fits (B := 13) (by decide) (by decide) (PyData.leavesShort_of_canLay0 13 x.d x.lay i1) ?_
  have e : (2 : Nat) ^ 20 = 1048576 := by decide
  show PyData.weightAll (x.m.map PyData.int) + 1 + (PyData.weightAll (x.z.map PyData.int) + 1 + 0) ≤ _
  omega
theorem mem_joinL {S : List Nat} {c : Nat} : ∀ {ps : List (List Nat)}, c ∈ TL.joinL S ps → c ∈ S ∨ ∃ p ∈ ps, c ∈ p
  | [], h => nomatch h
  | [p], h => .inr ⟨p, List.mem_singleton_self p, h⟩
  | p :: q :: r, h => by
    have h' : c ∈ p ++ (S ++ TL.joinL S (q :: r)) := h
    rcases List.mem_append.mp h' with z | z
    · exact .inr ⟨p, List.mem_cons_self, z⟩
    · rcases List.mem_append.mp z with z | z
      · exact .inl z
      · rcases mem_joinL z with e | ⟨p2, hp, e⟩
        · exact .inl e
        · exact .inr ⟨p2, List.mem_cons_of_mem _ hp, e⟩
def LowT (x : Str) : Prop := ∀ c ∈ TL.tl x, c < 128
theorem low_list {ds : List PyData} (h : ∀ d ∈ ds, LowT d.shown) : LowT (PyData.list ds).shown := by
  intro c hc
  rw [PyData.shown_list, shown_all, TL.tl_append, TL.tl_append, TL.tl_join] at hc
  have h1 : TL.tl ("[" : Str) = [91] := by decide +kernel
  have h2 : TL.tl ("]" : Str) = [93] := by decide +kernel
  have h3 : TL.tl (", " : Str) = [44, 32] := by decide +kernel
  rw [h1, h2, h3] at hc
  rcases List.mem_append.mp hc with z | z
  · rcases List.mem_append.mp z with z | z
    · rw [List.mem_singleton.mp z]; decide
    · rcases mem_joinL z with e | ⟨p, hp, e⟩
      · have all : ∀ c ∈ [44, 32], c < 128 := by decide
        exact all c e
      · obtain ⟨y, hy, rfl⟩ := List.mem_map.mp hp
        obtain ⟨d, hd, rfl⟩ := List.mem_map.mp hy
        exact h d hd c e
  · rw [List.mem_singleton.mp z]; decide
theorem low_int {k : Int} (h : 0 ≤ k) : LowT (PyData.int k).shown := by
  obtain ⟨n, rfl⟩ := Int.eq_ofNat_of_zero_le h
  intro c hc
  have hc' : c ∈ TL.tl (Str.ofString (toString (n : Int))) := hc
  rw [TL.tl_num] at hc'
  exact numL_low n c hc'
theorem low_ints {ks : List Int} (h : ∀ k ∈ ks, 0 ≤ k ∧ k < 1000000) : LowT (PyData.list (ks.map PyData.int)).shown := low_list fun d hd => by
  obtain ⟨k, hk, rfl⟩ := List.mem_map.mp hd
  exact low_int (h k hk).1
theorem Row.Fit.low {x : Row} (f : x.Fit) : LowT x.d.shown := low_list fun d hd => by
  rcases List.mem_cons.mp hd with rfl | hd
  · exact low_ints f.sm
  · rw [List.mem_singleton.mp hd]
    exact low_ints f.sz
theorem low_lay {x : Str} (h : LowT x) : PyData.canLay0 (.str x) = true := by
  show PyData.strOk x = true
  unfold PyData.strOk
  rw [all_tl, List.all_eq_true]
  exact fun c hc => decide_eq_true (by have := h c hc; omega)
theorem lays_texts : ∀ {xs : List Str}, (∀ x ∈ xs, LowT x) → PyData.canLayAll0 (xs.map PyData.str) = true ∧ PyData.depthAll (xs.map PyData.str) ≤ 0
  | [], _ => ⟨rfl, Nat.le_refl _⟩
  | x :: r, h => by
    obtain ⟨a, b⟩ := lays_texts fun y hy => h y (List.mem_cons_of_mem _ hy)
    refine ⟨?_, Nat.max_le.mpr ⟨Nat.zero_le _, b⟩⟩
    show (PyData.canLay0 (.str x) && PyData.canLayAll0 (r.map PyData.str)) = true
    rw [low_lay (h x List.mem_cons_self), a]
    rfl
theorem shaped_texts {xs : List Str} (h : ∀ x ∈ xs, LowT x) : SeqAt.shaped (.list (xs.map PyData.str)) = true := by
  obtain ⟨a, b⟩ := lays_texts h
  exact shaped_il a (Nat.le_trans (Nat.add_le_add_right b 1) (by decide))
theorem dpStrs {K : PySem.W.Frag} {H : Hp} : ∀ (xs : List Str), DpAll K H (xs.map V.str) (xs.map PyData.str)
  | [] => .nil
  | x :: r => .cons (.str x) (dpStrs r)
theorem Row.At.same {x : Row} {H H' : Hp} (a : x.At H) (s : Same H H') : x.At H' := ⟨s _ _ a.q_, s _ _ a.r_, s _ _ a.u_⟩
theorem Row.At.dp {K : PySem.W.Frag} {x : Row} {H : Hp} (a : x.At H) : Dp K H (.ref x.q) x.d := .lst (SqL.of a.q_) (.cons (.lst (SqL.of a.r_) (dpInts _)) (.cons (.lst (SqL.of a.u_) (dpInts _)) .nil))
/-- the first loop: what is held (rows), and the texts kept of it -/
structure S1 (Hs : Hp) (C : Addr) (H : Hp) (l : Addr) (seed cnt : Int) (p dx r t : Addr) (u0 : Value) (b : Nat) (T : List (List Nat)) (ks : List Int) (a : Addr) (ns : List Int) (h kk : Addr) (rows : List Row) (kept : List Str) : Prop where
  S : Rng H l seed cnt
  L : Txt2 C H p dx r t u0 b T ks
  a_ : H a = some (.lst (ns.map V.int))
  h_ : H h = some (.lst (rows.map fun x => V.ref x.q))
  k_ : H kk = some (.lst (kept.map V.str))
  at_ : ∀ x ∈ rows, x.At H ∧ x.Fit
  aw : ∀ x ∈ rows, ∀ y ∈ [l, a, r, t, h, kk], x.q ≠ y ∧ x.r ≠ y ∧ x.u ≠ y
  qw : ∀ x ∈ rows, ∀ y ∈ rows, x.q ≠ y.r ∧ x.q ≠ y.u
  al : a ≠ l ∧ r ≠ l ∧ t ≠ l ∧ h ≠ l ∧ kk ≠ l ∧ a ≠ r ∧ a ≠ t ∧ h ≠ r ∧ h ≠ t ∧ kk ≠ r ∧ kk ≠ t ∧ h ≠ a ∧ kk ≠ a ∧ kk ≠ h
  fr : Hs r = none ∧ Hs t = none ∧ Hs h = none ∧ Hs kk = none ∧ ∀ x ∈ rows, Hs x.r = none ∧ Hs x.u = none
  k : Keep1 Hs H l
section
variable {C l p dx r t a h kk : Addr} {Hs H H' : Hp} {seed cnt : Int} {u0 : Value} {b : Nat} {T T' : List (List Nat)} {ks ks' ns : List Int} {rows : List Row} {kept : List Str}
theorem S1.same (W : S1 Hs C H l seed cnt p dx r t u0 b T ks a ns h kk rows kept) (s : Same H H') : S1 Hs C H' l seed cnt p dx r t u0 b T ks a ns h kk rows kept :=
  ⟨W.S.same s, W.L.same s, s _ _ W.a_, s _ _ W.h_, s _ _ W.k_, fun x hx => ⟨(W.at_ x hx).1.same s, (W.at_ x hx).2⟩, W.aw, W.qw, W.al, W.fr, W.k.trans (Keep1.of s)⟩
/-- something more is held -/
theorem S1.hold (W : S1 Hs C H l seed cnt p dx r t u0 b T ks a ns h kk rows kept) (x : Row) (s : Same H H') (at_ : x.At H') (fit : x.Fit) (hq : H x.q = none) (hr : H x.r = none) (hu : H x.u = none) (ne : x.q ≠ x.r ∧ x.q ≠ x.u) :
    S1 Hs C (upd H' h (.lst (rows.map (fun x => V.ref x.q) ++ [V.ref x.q]))) l seed cnt p dx r t u0 b T ks a ns h kk (rows ++ [x]) kept := by
  obtain ⟨al, rl, tl, hl, kl, ar, at', hr', ht', kr, kt, ha, ka, kh⟩ := W.al
  have W' := W.same s
  obtain ⟨dg, e⟩ := W'.S.ob
  obtain ⟨dg0, e0⟩ := W.S.ob
  have nh : x.q ≠ h ∧ x.r ≠ h ∧ x.u ≠ h := ⟨(ne_of_none W.h_ hq).symm, (ne_of_none W.h_ hr).symm, (ne_of_none W.h_ hu).symm⟩
  have aw : ∀ y ∈ [l, a, r, t, h, kk], x.q ≠ y ∧ x.r ≠ y ∧ x.u ≠ y := fun y hy => by
    have some' : ∃ o, H y = some o := by
      simp only [List.mem_cons, List.not_mem_nil, or_false] at hy
      rcases hy with rfl | rfl | rfl | rfl | rfl | rfl
      · exact ⟨_, e0⟩
      · exact ⟨_, W.a_⟩
      · exact ⟨_, W.L.rp⟩
      · exact ⟨_, W.L.tx⟩
      · exact ⟨_, W.h_⟩
      · exact ⟨_, W.k_⟩
    obtain ⟨o, ho⟩ := some'
    exact ⟨(ne_of_none ho hq).symm, (ne_of_none ho hr).symm, (ne_of_none ho hu).symm⟩
  refine ⟨⟨⟨dg, by rw [upd_ne hl.symm]; exact e⟩, W.S.s0, W.S.s1, W.S.c0⟩, W'.L.keepx Keep1.set W'.h_ hr'.symm ht'.symm, by rw [upd_ne ha.symm]; exact W'.a_, by rw [upd_same, List.map_append]; rfl, by rw [upd_ne kh]; exact W'.k_, fun y hy => ?_, fun y hy => ?_, fun y hy z hz => ?_, W.al, ⟨W.fr.1, W.fr.2.1, W.fr.2.2.1, W.fr.2.2.2.1, fun y hy => ?_⟩, fun c o ec nc => ?_⟩
  · rcases List.mem_append.mp hy with m | m
    · obtain ⟨aa, ff⟩ := W'.at_ y m
      obtain ⟨n1, n2, n3⟩ := W.aw y m h (by simp)
      exact ⟨⟨by rw [upd_ne n1]; exact aa.q_, by rw [upd_ne n2]; exact aa.r_, by rw [upd_ne n3]; exact aa.u_⟩, ff⟩
    · rw [List.mem_singleton.mp m]
      exact ⟨⟨by rw [upd_ne nh.1]; exact at_.q_, by rw [upd_ne nh.2.1]; exact at_.r_, by rw [upd_ne nh.2.2]; exact at_.u_⟩, fit⟩
  · rcases List.mem_append.mp hy with m | m
    · exact W.aw y m
    · rw [List.mem_singleton.mp m]
      exact aw
  · rcases List.mem_append.mp hy with m | m
    · rcases List.mem_append.mp hz with m2 | m2
      · exact W.qw y m z m2
      · rw [List.mem_singleton.mp m2]
        exact ⟨ne_of_none (W.at_ y m).1.q_ hr, ne_of_none (W.at_ y m).1.q_ hu⟩
    · rw [List.mem_singleton.mp m]
      rcases List.mem_append.mp hz with m2 | m2
      · exact ⟨(ne_of_none (W.at_ z m2).1.r_ hq).symm, (ne_of_none (W.at_ z m2).1.u_ hq).symm⟩
      · rw [List.mem_singleton.mp m2]
        exact ne
  · rcases List.mem_append.mp hy with m | m
    · exact W.fr.2.2.2.2 y m
    · rw [List.mem_singleton.mp m]
      exact ⟨free_of_keep W.k hr (aw l (by simp)).2.1, free_of_keep W.k hu (aw l (by simp)).2.2⟩
  · rw [upd_ne (ne_of_none ec W.fr.2.2.1)]
    exact s _ _ (W.k c o ec nc)
/-- something more is kept -/
theorem S1.keep (W : S1 Hs C H l seed cnt p dx r t u0 b T ks a ns h kk rows kept) (y : Str) :
    S1 Hs C (upd H kk (.lst (kept.map V.str ++ [V.str y]))) l seed cnt p dx r t u0 b T ks a ns h kk rows (kept ++ [y]) := by
  obtain ⟨al, rl, tl, hl, kl, ar, at', hr', ht', kr, kt, ha, ka, kh⟩ := W.al
  obtain ⟨dg, e⟩ := W.S.ob
  refine ⟨⟨⟨dg, by rw [upd_ne kl.symm]; exact e⟩, W.S.s0, W.S.s1, W.S.c0⟩, W.L.keepx Keep1.set W.k_ kr.symm kt.symm, by rw [upd_ne ka.symm]; exact W.a_, by rw [upd_ne kh.symm]; exact W.h_, by rw [upd_same, List.map_append]; rfl, fun x hx => ?_, W.aw, W.qw, W.al, W.fr, fun c o ec nc => ?_⟩
  · obtain ⟨aa, ff⟩ := W.at_ x hx
    obtain ⟨n1, n2, n3⟩ := W.aw x hx kk (by simp)
    exact ⟨⟨by rw [upd_ne n1]; exact aa.q_, by rw [upd_ne n2]; exact aa.r_, by rw [upd_ne n3]; exact aa.u_⟩, ff⟩
  · rw [upd_ne (ne_of_none ec W.fr.2.2.2.1)]
    exact W.k c o ec nc
/-- the live text is squeezed -/
theorem S1.but (W : S1 Hs C H l seed cnt p dx r t u0 b T ks a ns h kk rows kept) (k : But2 H H' r t) (L' : Txt2 C H' p dx r t u0 b T' ks') :
    S1 Hs C H' l seed cnt p dx r t u0 b T' ks' a ns h kk rows kept := by
  obtain ⟨al, rl, tl, hl, kl, ar, at', hr', ht', kr, kt, ha, ka, kh⟩ := W.al
  obtain ⟨dg, e⟩ := W.S.ob
  refine ⟨⟨⟨dg, k _ _ e rl.symm tl.symm⟩, W.S.s0, W.S.s1, W.S.c0⟩, L', k _ _ W.a_ ar at', k _ _ W.h_ hr' ht', k _ _ W.k_ kr kt, fun x hx => ?_, W.aw, W.qw, W.al, W.fr, fun c o ec nc => ?_⟩
  · obtain ⟨aa, ff⟩ := W.at_ x hx
    obtain ⟨n1, n2, n3⟩ := W.aw x hx r (by simp)
    obtain ⟨m1, m2, m3⟩ := W.aw x hx t (by simp)
    exact ⟨⟨k _ _ aa.q_ n1 m1, k _ _ aa.r_ n2 m2, k _ _ aa.u_ n3 m3⟩, ff⟩
  · exact k _ _ (W.k c o ec nc) (ne_of_none ec W.fr.1) (ne_of_none ec W.fr.2.1)
end
/-- the second loop: the held lists change -/
structure S2 (Hs : Hp) (C : Addr) (H : Hp) (l : Addr) (seed cnt : Int) (p dx r t : Addr) (u0 : Value) (b : Nat) (T : List (List Nat)) (ks : List Int) (a : Addr) (ns : List Int) (h : Addr) (rows : List Row) (n : Nat) : Prop where
  S : Rng H l seed cnt
  L : Txt2 C H p dx r t u0 b T ks
  a_ : H a = some (.lst (ns.map V.int))
  h_ : H h = some (.lst (rows.map fun x => V.ref x.q))
  q_ : ∀ x ∈ rows, H x.q = some (.lst [.ref x.r, .ref x.u])
  w_ : ∀ x ∈ rows, (∃ zs : List Int, H x.r = some (.lst (zs.map V.int)) ∧ zs.length ≤ n) ∧ ∃ zs : List Int, H x.u = some (.lst (zs.map V.int)) ∧ zs.length ≤ n
  aw : ∀ x ∈ rows, ∀ y ∈ [l, a, r, t, h], x.r ≠ y ∧ x.u ≠ y
  qw : ∀ x ∈ rows, ∀ y ∈ rows, x.q ≠ y.r ∧ x.q ≠ y.u
  fr : ∀ x ∈ rows, Hs x.r = none ∧ Hs x.u = none
  k : Keep1 Hs H l
section
variable {C l p dx r t a h kk w : Addr} {Hs H H' : Hp} {seed cnt : Int} {u0 : Value} {b n : Nat} {T T' : List (List Nat)} {ks ks' ns zs : List Int} {rows : List Row} {kept : List Str}
theorem S1.second (W : S1 Hs C H l seed cnt p dx r t u0 b T ks a ns h kk rows kept) : S2 Hs C H l seed cnt p dx r t u0 b T ks a ns h rows 2001 :=
  ⟨W.S, W.L, W.a_, W.h_, fun x hx => (W.at_ x hx).1.q_, fun x hx => ⟨⟨_, (W.at_ x hx).1.r_, (W.at_ x hx).2.fm⟩, ⟨_, (W.at_ x hx).1.u_, (W.at_ x hx).2.fz⟩⟩,
    fun x hx y hy => (W.aw x hx y (by simp at hy ⊢; rcases hy with h | h | h | h | h <;> simp [h])).2, W.qw, W.fr.2.2.2.2, W.k⟩
/-- a held list is written anew -/
theorem S2.set (W : S2 Hs C H l seed cnt p dx r t u0 b T ks a ns h rows n) {x : Row} (hx : x ∈ rows) (hw : w = x.r ∨ w = x.u) (hz : zs.length ≤ n + 1) : S2 Hs C (upd H w (.lst (zs.map V.int))) l seed cnt p dx r t u0 b T ks a ns h rows (n + 1) := by
  have gw : ∃ ys : List V, H w = some (.lst ys) := by
    rcases hw with e | e <;> rw [e]
    · exact ⟨_, (W.w_ x hx).1.choose_spec.1⟩
    · exact ⟨_, (W.w_ x hx).2.choose_spec.1⟩
  obtain ⟨ys, gw⟩ := gw
  have aw : ∀ y ∈ [l, a, r, t, h], w ≠ y := fun y hy => by
    rcases hw with e | e <;> rw [e]
    · exact (W.aw x hx y hy).1
    · exact (W.aw x hx y hy).2
  have qw : ∀ y ∈ rows, y.q ≠ w := fun y hy => by
    rcases hw with e | e <;> rw [e]
    · exact (W.qw y hy x hx).1
    · exact (W.qw y hy x hx).2
  have fr : Hs w = none := by
    rcases hw with e | e <;> rw [e]
    · exact (W.fr x hx).1
    · exact (W.fr x hx).2
  obtain ⟨dg, e⟩ := W.S.ob
  have al := aw l (by simp)
  have aa := aw a (by simp)
  have ar := aw r (by simp)
  have at' := aw t (by simp)
  have ah := aw h (by simp)
  have one : ∀ y, (∃ vs : List Int, H y = some (.lst (vs.map V.int)) ∧ vs.length ≤ n) → ∃ vs : List Int, upd H w (.lst (zs.map V.int)) y = some (.lst (vs.map V.int)) ∧ vs.length ≤ n + 1 := fun y ⟨vs, g, lv⟩ => by
    by_cases e : y = w
    · exact ⟨zs, by rw [e, upd_same], hz⟩
    · exact ⟨vs, by rw [upd_ne e]; exact g, Nat.le_succ_of_le lv⟩
  refine ⟨⟨⟨dg, by rw [upd_ne al.symm]; exact e⟩, W.S.s0, W.S.s1, W.S.c0⟩, W.L.keepx Keep1.set gw ar.symm at'.symm, by rw [upd_ne aa.symm]; exact W.a_, by rw [upd_ne ah.symm]; exact W.h_, fun y hy => by rw [upd_ne (qw y hy)]; exact W.q_ y hy, fun y hy => ⟨one _ (W.w_ y hy).1, one _ (W.w_ y hy).2⟩, W.aw, W.qw, W.fr, fun c o ec nc => ?_⟩
  rw [upd_ne (ne_of_none ec fr)]
  exact W.k c o ec nc
end
theorem Txt2.cut {C p dx r t : Addr} {H : Hp} {u0 : Value} {b : Nat} {T : List (List Nat)} {ks : List Int} (L : Txt2 C H p dx r t u0 b T ks) : ∃ W : Hp, Txt2 C W p dx r t u0 b T ks ∧ KindW W ∧ SubW W H := by
  obtain ⟨m, LL, e⟩ := id L.m
  obtain ⟨W, hW⟩ : ∃ W : Hp, W = fun y => if y = p ∨ y = dx ∨ y = r ∨ y = t then H y else none := ⟨_, rfl⟩
  have up : ∀ {y : Addr} {o : HO}, (y = p ∨ y = dx ∨ y = r ∨ y = t) → H y = some o → W y = some o := fun {y o} c g => by
    rw [hW]
    show (if _ then H y else none) = _
    rw [if_pos c]
    exact g
  have sub : SubW W H := fun y o g => by
    rw [hW] at g
    have g' : (if y = p ∨ y = dx ∨ y = r ∨ y = t then H y else none) = some o := g
    by_cases c : y = p ∨ y = dx ∨ y = r ∨ y = t
    · rwa [if_pos c] at g'
    · rw [if_neg c] at g'
      cases g'
  refine ⟨W, ⟨⟨m, ⟨up (.inl rfl) LL.i, up (.inr (.inl rfl)) LL.d, LL.ne⟩, e⟩, L.u, up (.inr (.inr (.inl rfl))) L.rp, up (.inr (.inr (.inr rfl))) L.tx, L.ne, L.len, L.sz⟩, fun y o g => ?_, sub⟩
  have g2 := sub y o g
  have c : y = p ∨ y = dx ∨ y = r ∨ y = t := by
    by_cases c : y = p ∨ y = dx ∨ y = r ∨ y = t
    · exact c
    · exfalso
      rw [hW] at g
      have g' : (if y = p ∨ y = dx ∨ y = r ∨ y = t then H y else none) = some o := g
      rw [if_neg c] at g'
      cases g'
  rcases c with rfl | rfl | rfl | rfl
  · rw [LL.i] at g2
    exact .inl ⟨_, (Option.some.inj g2).symm⟩
  · rw [LL.d] at g2
    exact .inl ⟨_, (Option.some.inj g2).symm⟩
  · rw [L.rp] at g2
    exact .inr ⟨_, (Option.some.inj g2).symm⟩
  · rw [L.tx] at g2
    exact .inr ⟨_, (Option.some.inj g2).symm⟩
theorem appT_short {b N : Nat} : ∀ {ns : List Int} {T : List (List Nat)}, T ≠ [] → (∀ l ∈ T, l.length ≤ N) → Rpl ns → ∀ l ∈ appT b T ns, l.length ≤ N
  | [], _, _, hl, _ => hl
  | k :: ns, T, ne, hl, h => by
    show ∀ l ∈ appT b (T ++ [sqT b [k] (lastT T) 0]) ns, l.length ≤ N
    refine appT_short (by simp) (fun l hm => ?_) fun x hx => h x (List.mem_cons_of_mem _ hx)
    rcases List.mem_append.mp hm with z | z
    · exact hl l z
    · rw [List.mem_singleton.mp z]
      have h1 := hl _ (lastT_mem ne)
      have := sqT_len (b := b) (ks := [k]) (fun x hx => by rw [List.mem_singleton.mp hx]; exact (h k List.mem_cons_self).1) (lastT T) 0 (by decide)
      omega
theorem runs_len {b : Nat} (l : List Nat) : (runs b l).length ≤ l.length + 1 := by
  have h1 := List.length_filter_le (fun n => decide ((0:Int) < n)) (lbw b l 0)
  have h2 := lbw_len b l 0
  have h3 := List.length_filter_le (fun x => decide (x ≠ b)) l
  show ((lbw b l 0).filter fun n => decide (0 < n)).length ≤ _
  omega
theorem runs_mem {b : Nat} {l : List Nat} {k : Int} (h : k ∈ runs b l) : 0 ≤ k ∧ k ≤ l.length := by
  have := lbw_mem b l 0 (by decide) k (List.mem_filter.mp h).1
  omega
section
variable {P : Program} {w : World} {K : PySem.W.Frag} {mg : Str → Option Value} {base : Heap} {C : Addr}
def spRight : Sp := fun vs H Q _ => ∃ (l : Addr) (seed cnt : Int), vs = [.ref l] ∧ Rng H l seed cnt ∧ cnt < 300000 ∧ ∀ cnt' H', Rng H' l seed cnt' → cnt' ≤ cnt + 2000 → Keep1 H H' l → Q (.bl true) H'
theorem ok_lawright {f : Addr} {fd : FuncData} (F : Fun K "_law_right" "_law_right" s_lawright f fd) (B : Bi mg) (R_lawtext : DfR P w K mg base 3 "_law_text" ["pool", "most"] spLtxt) (D_lawlist : Df P w K mg base 2 "_law_list" ["pool", "most", "far"] spList) (W_SqueezedText : MkW P w K mg base 2 "SqueezedText" C ["self", "text", "character"] 1 (spLvInit C))
    (T_lawon : DfT P w K mg base 2 "_law_on" ["passed", "sign", "numbers"] 1 (spOn K)) (D_lawtoldright : Df P w K mg base 7 "_law_told_right" ["live", "passed", "numbers", "sign"] (spTold K C)) (D_lawruns : Df P w K mg base 1 "_law_runs" ["written", "sign"] spRunsL)
    (MV_squeeze : MtV P w K mg base 5 C "squeeze" (spSqueeze C)) (G_runs : MtG P w K mg base 3 C "runs" (spRuns C)) (V_runs : MtVg P w K mg base 3 C "runs" (spRunsV C)) (P_reps : Pr P w K mg base 1 C "replacements" (spReps C)) : FnG P w K mg base 8 f fd ["pool"] spRight := by
  refine okG F sc_lawright (fun vs H Q E h => ?_) (fun cdv A outer s H vs Q E hr quiet h => ?_)
  · obtain ⟨l, seed, cnt, rfl, _⟩ := h
    rfl
  · obtain ⟨l, seed, cnt, rfl, S, hc, q⟩ := h
    have kcl : ∀ (u0 : Value) (n : Nat), Clo (cxOf CX0 P w K mg base ["pool", "written", "sign", "numbers", "live", "held", "kept", "number", "one", "passed", "pairs", "two"] "_law_right" (defScope s_lawright) f cdv A outer s H E).nox ["sign"] (fun s' => Raw (cxOf CX0 P w K mg base ["pool", "written", "sign", "numbers", "live", "held", "kept", "number", "one", "passed", "pairs", "two"] "_law_right" (defScope s_lawright) f cdv A outer s H E).nox "sign" u0 s' ∧ n ≤ s'.toks) := fun u0 n => (clo_raw rfl).and clo_n
    have kkn : ∀ (u0 : Value) (n : Nat), KnownU (cxOf CX0 P w K mg base ["pool", "written", "sign", "numbers", "live", "held", "kept", "number", "one", "passed", "pairs", "two"] "_law_right" (defScope s_lawright) f cdv A outer s H E).nox (fun s' => Raw (cxOf CX0 P w K mg base ["pool", "written", "sign", "numbers", "live", "held", "kept", "number", "one", "passed", "pairs", "two"] "_law_right" (defScope s_lawright) f cdv A outer s H E).nox "sign" u0 s' ∧ n ≤ s'.toks) "sign" u0 := fun u0 n => ⟨fun s' h => .inl ⟨rfl, h.1⟩⟩
    refine ⟨_, (pss_ofWu (wu_text2 (i := 1) (j := 2) (l := 3) R_lawtext (hr.mono (by omega)) (by rfl) (pa_cons (pv 0) (pa_cons pe_int pa_nil)) (pe_callD D_lawlist (hr.mono (by omega)) (by rfl) (pa_cons (pv 0) (pa_cons pe_int (pa_cons pe_int pa_nil)))) rfl sc_lawright.nd rfl rfl rfl rfl rfl rfl (by decide) (fun u0 n good =>
 (wu_cons (ws_set (i := 4) (kcl u0 n) (by decide) sc_lawright.nd rfl (Or.inl rfl) (we_new (n := n) (kcl u0 n) W_SqueezedText (fun _ h => h.2) (hr.mono (by omega)) (by rfl) (wq_skip (wv 1) (wq_name (i := 2) (kkn u0 n) rfl (Or.inl rfl) wa_nil))))
 (wu_cons (ws_par2 (i := 5) (j := 6) (kcl u0 n) (by decide) (by decide) rfl sc_lawright.nd rfl rfl (by decide) rfl rfl (wa_cons (we_lst (kcl u0 n) wa_nil) (wa_cons (we_lst (kcl u0 n) wa_nil) wa_nil)) (by rfl))
 (wu_cons (ws_forL rfl PassesOwn.never (kcl u0 n) (wv 3) (wg_name (i := 7) (kcl u0 n) (by decide) sc_lawright.nd rfl (Or.inl rfl))
 (wss_cons (ws_expr (we_append (kcl u0 n) (wv 5) (we_lst (kcl u0 n) (wa_cons (we_prL (kcl u0 n) P_reps (hr.mono (by omega)) (wv 4)) (wa_cons (we_listG (kcl u0 n) (wgen_methL G_runs (wv 4) (hr.mono (by omega))) (hr.mono (by omega)) (by rfl) B.n_list) wa_nil)))))
 (wss_cons (ws_expr (we_append (kcl u0 n) (wv 6) (we_callB (id := "repr") (cw_reprD (kcl u0 n) quiet hr.units) (by rfl) B.n_repr (by decide +kernel) (wa_cons (we_ixL (wv 5) (we_neg (kcl u0 n) (we_int (kcl u0 n))) (fun _ _ => rfl)) wa_nil))))
 (wss_one (ws_expr (we_mV (kcl u0 n) MV_squeeze (fun _ h => h.2) (hr.mono (by omega)) (wv 4) (wa_cons (wv 7) wa_nil)))))))
 (wu_cons (ws_if (wt_cmp (ow_neD (kcl u0 n) hr.units) (we_lc (own := [("one", 8)]) (g := gName 8) (kcl u0 n) rfl sc_lawright.nd (wi_list (kcl u0 n) (wv 5)) (blkOk_by (own := [("one", 8)]) (N := ["pool", "written", "sign", "numbers", "live", "held", "kept", "number", "one", "passed", "pairs", "two"]) (sc := defScope s_lawright) (by decide +kernel)) (fun _ _ _ _ _ => (pg_name (i := 8) sc_lawright.nd rfl (Or.inl rfl))) (fun _ _ _ _ _ => pts_nil) (fun _ _ _ _ _ => (pe_callB (id := "repr") (r := rReprD K) (call_reprD quiet hr.units) (by rfl) B.n_repr (by decide +kernel) (pa_cons (pv 8) pa_nil)))) (wv 6) (by rfl)) (wss_one (ws_ret we_bl)) wss_nil)
 (wu_cons (ws_forL rfl PassesOwn.never (kcl u0 n) (wv 5) (wg_name (i := 8) (kcl u0 n) (by decide) sc_lawright.nd rfl (Or.inl rfl))
 (wss_cons (ws_expr (we_append (kcl u0 n) (we_ixL (wv 8) (we_int (kcl u0 n)) (fun _ _ => rfl)) (we_int (kcl u0 n))))
 (wss_one (ws_expr (we_clear (kcl u0 n) (we_ixL (wv 8) (we_int (kcl u0 n)) (fun _ _ => rfl)))))))
 (wu_cons (ws_set (i := 9) (kcl u0 n) (by decide) sc_lawright.nd rfl (Or.inl rfl) (we_callT (kcl u0 n) T_lawon (hr.mono (by omega)) (by rfl) (wx_skip (we_lst (kcl u0 n) (wa_cons (wv 1) wa_nil)) (wx_name (i := 2) (known_local rfl good) rfl (Or.inl rfl) (wa_cons (wv 3) wa_nil)))))
 (wu_cons (ws_if (wt_not (wt_val (we_callD (kcl u0 n) D_lawtoldright (hr.mono (by omega)) (by rfl) (wa_cons (wv 4) (wa_cons (wv 9) (wa_cons (wv 3) (wa_cons (wv 2) wa_nil))))))) (wss_one (ws_ret we_bl)) wss_nil)
 (wu_ps (pss_cons (ps_zipV (own := [("one", 8), ("two", 11)]) (i := 10) V_runs (hr.mono (by omega)) (ge_var (i := 4) rfl (Or.inl rfl)) (ge_var (i := 4) rfl (Or.inl rfl)) (by rfl) B.n_zip rfl hr.depth sc_lawright.nd rfl rfl (blkOk_by (own := [("one", 8), ("two", 11)]) (N := ["pool", "written", "sign", "numbers", "live", "held", "kept", "number", "one", "passed", "pairs", "two"]) (sc := defScope s_lawright) (by decide +kernel)) rfl rfl (by decide) (sw_true rfl rfl rfl (by decide +kernel)) (by rfl) (by rfl))
 (pss_one (ps_ret (pe_cmpR (op_eqD hr.units) (pv 10) (pe_lc (own := [("one", 8)]) (g := gName 8) rfl sc_lawright.nd (pi_list (pe_callD D_lawruns (hr.mono (by omega)) (by rfl) (pa_cons (pe_ix (r := rIxL K) ix_list (pv 9) (pe_un un_neg pe_int) (fun _ _ => rfl)) (pa_cons (pv 2) pa_nil)))) (blkOk_by (own := [("one", 8)]) (N := ["pool", "written", "sign", "numbers", "live", "held", "kept", "number", "one", "passed", "pairs", "two"]) (sc := defScope s_lawright) (by decide +kernel)) (fun _ _ _ _ _ => (pg_name (i := 8) sc_lawright.nd rfl (Or.inl rfl))) (fun _ _ _ _ _ => pts_nil) (fun _ _ _ _ _ => (pe_lst (pa_cons (pv 8) (pa_cons (pv 8) pa_nil))))) (nomark _)))))))))))))))), ?_⟩
    have szl : sizeLine = 16777216 := sizeLine_eq
    have w1 : 1 ≤ sizeLine := by omega
    have w2 : 2 ≤ sizeLine := by omega
    refine ⟨_, rfl, l, seed, cnt, 400, rfl, by decide, by decide, S, by omega, fun xs b cnt1 t1 H1 lx b128 lo ht1 S1 hc1 k1 g1 => ⟨t1, _, _, rfl, g1, ?_⟩⟩
    have nt1 : t1 ≠ l := S.ne ht1
    have S2 : Rng (wo H1 t1) l seed cnt1 := by
      obtain ⟨dg, e⟩ := S1.ob
      exact ⟨⟨dg, by rw [wo_ne nt1.symm]; exact e⟩, S1.s0, S1.s1, S1.c0⟩
    have k2 : Keep1 H (wo H1 t1) l := fun x o e nx => by
      rw [wo_ne (fun z => by rw [z, ht1] at e; cases e)]
      exact k1 x o e nx
    generalize wo H1 t1 = H2 at S2 k2 ⊢
    clear k1 g1 S1 ht1 nt1 H1
    -- numbers
    refine ⟨_, rfl, l, seed, cnt1, 8, 40, rfl, by decide, by decide, by decide, by decide, S2, by omega, fun a ns c3 H3 ha0 S3 hc3 k3 ga few rg u0 n good => ?_⟩
    have na : a ≠ l := S2.ne ha0
    have rpl : Rpl ns := fun k hk => by have := rg k hk; omega
    -- live
    refine ⟨_, rfl, _, rfl, fun ru p dx np ndx nex => ⟨p, dx, xs, b, rfl, ⟨upd_same, by rw [upd_ne nex, upd_same], nex⟩, by omega, fun r t H4 nr nt L kd => ⟨rfl, ?_⟩⟩⟩
    have sJ : Same H3 H4 := bornS (C := C) np ndx kd
    have hr0 : H3 r = none := born (C := C) (H' := H4) np ndx nr
    have ht0 : H3 t = none := born (C := C) (H' := H4) np ndx nt
    -- held, kept
    refine ⟨Nat.zero_le _, fun h hh => ⟨Nat.zero_le _, fun kk hk => ⟨_, _, rfl, ?_⟩⟩⟩
    have z3 : 3 ≤ sizeLine := by omega
    have kJ : Keep1 H H4 l := (k2.trans k3).trans (Keep1.of sJ)
    have gh0 : upd H4 h (HO.lst []) h = some (.lst []) := upd_same
    have s45 : Same H4 (upd (upd H4 h (HO.lst [])) kk (HO.lst [])) := (same_new hh).trans (same_new hk)
    have S4 : Rng (upd (upd H4 h (HO.lst [])) kk (HO.lst [])) l seed c3 := (S3.same sJ).same s45
    have L5 := L.same s45
    have ga5 := s45 _ _ (sJ _ _ ga)
    have g4h := same_new (o := .lst []) hk _ _ gh0
    have g4k : (upd (upd H4 h (HO.lst [])) kk (HO.lst [])) kk = some (.lst []) := upd_same
    have W0 : S1 H C (upd (upd H4 h (HO.lst [])) kk (HO.lst [])) l seed c3 p dx r t u0 b [xs] [] a ns h kk [] [] := by
      have nrl : r ≠ l := S3.ne hr0
      have ntl : t ≠ l := S3.ne ht0
      have ga4 := sJ _ _ ga
      have nhl : h ≠ l := (S3.same sJ).ne hh
      have nkl : kk ≠ l := ((S3.same sJ).same (same_new hh)).ne hk
      refine ⟨S4, L5, ga5, g4h, g4k, (fun x hx => nomatch hx), (fun x hx => nomatch hx), (fun x hx => nomatch hx),
        ⟨na, nrl, ntl, nhl, nkl, ne_of_none ga hr0, ne_of_none ga ht0, (ne_of_none L.rp hh).symm, (ne_of_none L.tx hh).symm, (ne_of_none (same_new (o := .lst []) hh _ _ L.rp) hk).symm, (ne_of_none (same_new (o := .lst []) hh _ _ L.tx) hk).symm, (ne_of_none ga4 hh).symm, (ne_of_none (same_new (o := .lst []) hh _ _ ga4) hk).symm, (ne_of_none gh0 hk).symm⟩,
        ⟨free_of_keep (k2.trans k3) hr0 nrl, free_of_keep (k2.trans k3) ht0 ntl, free_of_keep kJ hh nhl, free_of_keep (kJ.trans (Keep1.of (same_new hh))) hk nkl, fun x hx => nomatch hx⟩, kJ.trans (Keep1.of s45)⟩
    generalize (upd (upd H4 h (HO.lst [])) kk (HO.lst [])) = H5 at W0 ⊢
    clear s45 S4 L5 ga5 g4h g4k gh0 kJ kd nr nt np ndx nex sJ hr0 ht0 hh hk L S3 ga S2 k2 k3
    -- the first loop
    refine ⟨_, rfl, a, _, rfl, SqL.of W0.a_, (fun i σ H' => ∃ y7 rows, σ = [some (.ref l), some (.str (SX.S xs)), some (.str ⟨#[b]⟩), some (.ref a), some (.ref p), some (.ref h), some (.ref kk), y7, none, none, none, none] ∧ rows.length = i ∧ S1 H C H' l seed c3 p dx r t u0 b (appT b [xs] (ns.take i)) (ns.take i) a ns h kk rows (rows.map fun x => x.d.shown)),
      ⟨none, [], rfl, rfl, W0⟩, (fun i σ H' hh => by obtain ⟨y7, rows, rfl, _, W⟩ := hh; exact SqL.of W.a_), ?_, ?_⟩
    · rintro i z σ H6 hz ⟨y7, rows, rfl, lr, W⟩
      obtain ⟨k, hk, rfl⟩ := map_at hz
      have ilt : i < ns.length := (List.getElem?_eq_some_iff.mp hk).1
      have kin : k ∈ ns := List.mem_of_getElem? hk
      obtain ⟨m, LL, mC, mR, mT, mN⟩ := id W.L.m
      refine ⟨_, rfl, .inl ⟨rfl, _, SqL.of W.h_⟩, _, rfl, p, dx, m, _, rfl, LL, p, dx, r, t, u0, b, _, _, rfl, W.L, fun r1 hr1 => ?_⟩
      have s1 := same_new (o := .lst ((ns.take i).map V.int)) hr1
      have g1 : (upd H6 r1 (.lst ((ns.take i).map V.int))) r1 = some (.lst ((ns.take i).map V.int)) := upd_same
      generalize upd H6 r1 (.lst ((ns.take i).map V.int)) = G1 at s1 g1 ⊢
      refine ⟨_, rfl, p, dx, m, _, rfl, LL.same s1, mN _ (by decide +kernel) (by decide +kernel) (by decide +kernel), p, dx, r, t, u0, b, _, _, rfl, W.L.same s1, fun G2 s2 u1 hu1 => ?_⟩
      have llt : (lastT (appT b [xs] (ns.take i))).length ≤ 2000 := lastT_size W.L.sz
      generalize elt : lastT (appT b [xs] (ns.take i)) = lt at llt ⊢
      have s3 := same_new (o := .lst ((runs b lt).map V.int)) hu1
      have g3 : (upd G2 u1 (.lst ((runs b lt).map V.int))) u1 = some (.lst ((runs b lt).map V.int)) := upd_same
      generalize upd G2 u1 (.lst ((runs b lt).map V.int)) = G3 at s3 g3 ⊢
      refine ⟨w2, fun q1 hq1 => ?_⟩
      have s4 := same_new (o := .lst [V.ref r1, V.ref u1]) hq1
      have g4 : (upd G3 q1 (.lst [V.ref r1, V.ref u1])) q1 = some (.lst [V.ref r1, V.ref u1]) := upd_same
      generalize upd G3 q1 (.lst [V.ref r1, V.ref u1]) = G4 at s4 g4 ⊢
      have gr3 := s3 _ _ (s2 _ _ g1)
      have s13 := (s1.trans s2).trans s3
      have s14 := s13.trans s4
      have fitx : (Row.mk q1 r1 u1 (ns.take i) (runs b lt)).Fit := ⟨by show (ns.take i).length ≤ _; rw [List.length_take]; omega, by have := runs_len (b := b) lt; show (runs b lt).length ≤ _; omega, fun k hk => by have := rg k (List.mem_of_mem_take hk); omega, fun k hk => by have := runs_mem hk; omega⟩
      have W2 := W.hold (Row.mk q1 r1 u1 (ns.take i) (runs b lt)) s14 ⟨g4, s4 _ _ gr3, s4 _ _ g3⟩ fitx (s13.free hq1) hr1 ((s1.trans s2).free hu1) ⟨(ne_of_none gr3 hq1).symm, (ne_of_none g3 hq1).symm⟩
      refine ⟨h, _, _, rfl, rfl, s14 _ _ W.h_, by rw [List.length_map, lr]; omega, ?_⟩
      have low1 : ((rows.map fun x => x.d.shown).map V.str).length < sizeLine := by rw [List.length_map, List.length_map, lr]; omega
      clear s1 s2 s3 s4 s13 s14 g1 g3 g4 gr3 hr1 hu1 hq1 W
      revert W2
      generalize upd G4 h (HO.lst _) = G5
      intro W2
      have at1 : atI ((rows ++ [Row.mk q1 r1 u1 (ns.take i) (runs b lt)]).map fun x => V.ref x.q) (-1) = some (.ref q1) := by
        rw [List.map_append]
        exact atI_tail _ _
      obtain ⟨ax, fx⟩ := W2.at_ _ (List.mem_append_right _ (List.mem_singleton_self _))
      refine ⟨_, rfl, .inl ⟨rfl, _, SqL.of W2.k_⟩, _, rfl, 1, rfl, h, _, -1, .ref q1, rfl, rfl, SqL.of W2.h_, at1, q1, _, rfl, ax.dp, fx.sh, Row.nd _, Row.dep _, fx.fit, kk, _, _, rfl, rfl, W2.k_, low1, ?_⟩
      have W3 := W2.keep (Row.mk q1 r1 u1 (ns.take i) (runs b lt)).d.shown
      clear W2 ax fx at1 low1
      revert W3
      generalize upd G5 kk (HO.lst _) = G6
      intro W3
      obtain ⟨m', LL', mC', mR', mT', mN'⟩ := id W3.L.m
      refine ⟨_, rfl, p, dx, m', _, rfl, LL', mN' _ (by decide +kernel) (by decide +kernel) (by decide +kernel), _, rfl, w1, fun T1 nT1 => ⟨p, dx, r, t, T1, u0, b, _, _, [k], rfl, upd_same, W3.L.same (same_new nT1), good, (fun x hx => by rw [List.mem_singleton.mp hx]; exact rpl k kin), by rw [List.length_take]; show min i ns.length + 1 ≤ _; omega, fun H9 L9 k9 => ?_⟩⟩
      have W4 := W3.but ((But2.of (same_new nT1)).trans k9) L9
      have et : ns.take (i + 1) = ns.take i ++ [k] := by rw [List.take_add_one, hk]; rfl
      refine ⟨_, rows ++ [Row.mk q1 r1 u1 (ns.take i) (runs b lt)], rfl, by rw [List.length_append, lr]; rfl, ?_⟩
      rw [et, appT_snoc, List.map_append]
      exact W4
    · rintro σ H6 ⟨y7, rows, rfl, lr, W⟩
      rw [List.length_map] at lr W
      rw [List.take_length] at W
      -- the texts again
      refine ⟨_, rfl, h, rfl, ⟨_, SqL.of W.h_⟩, fun D hD => lc_list (xs := rows.map fun x => V.ref x.q) (fun i H' => Same H6 (wo H' D) ∧ H' D = some (.lst ((rows.take i).map fun x => V.str x.d.shown)))
        ⟨by rw [wo_upd]; exact same_wo (Same.refl _) hD, upd_same⟩ (fun i H' _ hh => SqL.of (wo_same _ _ (hh.1 _ _ W.h_))) ?_ ?_⟩
      · rintro i z H7 hz ⟨s7, g7⟩
        obtain ⟨x, hx, rfl⟩ : ∃ x, rows[i]? = some x ∧ V.ref x.q = z := by
          rw [List.getElem?_map] at hz
          cases e : rows[i]? with
          | none => rw [e] at hz; cases hz
          | some x => rw [e] at hz; exact ⟨x, rfl, Option.some.inj hz⟩
        obtain ⟨ax, fx⟩ := W.at_ x (List.mem_of_getElem? hx)
        have ax7 : x.At H7 := ⟨wo_same _ _ (s7 _ _ ax.q_), wo_same _ _ (s7 _ _ ax.r_), wo_same _ _ (s7 _ _ ax.u_)⟩
        refine ⟨rfl, _, rfl, x.q, _, rfl, ax7.dp, fx.sh, Row.nd _, Row.dep _, fx.fit, _, g7, by rw [List.length_map, List.length_take]; omega, ?_, ?_⟩
        · rw [wo_upd]
          exact s7
        · rw [upd_same, List.take_add_one, hx, List.map_append]
          rfl
      rintro H7 ⟨s7, g7⟩
      rw [List.length_map, List.take_length] at g7
      have W7 := W.same (H' := H7) (s7.trans wo_same)
      have lowT : ∀ y ∈ rows.map (fun x => x.d.shown), LowT y := fun y hy => by
        obtain ⟨x, hx, rfl⟩ := List.mem_map.mp hy
        exact (W.at_ x hx).2.low
      have sh := shaped_texts lowT
      have e1 : (rows.map fun x => V.str x.d.shown) = (rows.map fun x => x.d.shown).map V.str := by rw [List.map_map]; rfl
      rw [e1] at g7
      refine ⟨_, rfl, _, _, .lst (SqL.of g7) (dpStrs _), .lst (SqL.of W7.k_) (dpStrs _), sh, sh, _, rfl, ?_⟩
      rw [SeqAt.eqv_refl _ (show PyData.canLay0 (.list ((rows.map fun x => x.d.shown).map PyData.str)) = true from (lays_texts lowT).1)]
      refine iteF ?_
      have Y0 := W7.second
      clear W s7 g7 W7 sh e1 lowT W0 hD
      -- the second loop
      refine ⟨_, rfl, h, _, rfl, SqL.of Y0.h_, (fun j σ H' => ∃ y8, σ = [some (.ref l), some (.str (SX.S xs)), some (.str ⟨#[b]⟩), some (.ref a), some (.ref p), some (.ref h), some (.ref kk), y7, y8, none, none, none] ∧ S2 H C H' l seed c3 p dx r t u0 b (appT b [xs] ns) ns a ns h rows (2001 + 2 * j)),
        ⟨none, rfl, Y0⟩, (fun j σ H' hh => by obtain ⟨y8, rfl, Y⟩ := hh; exact SqL.of Y.h_), ?_, ?_⟩
      · rintro j z σ H8 hz ⟨y8, rfl, Y⟩
        have jl : j < rows.length := by
          have := (List.getElem?_eq_some_iff.mp hz).1
          rwa [List.length_map] at this
        obtain ⟨x, hx, rfl⟩ : ∃ x, rows[j]? = some x ∧ V.ref x.q = z := by
          rw [List.getElem?_map] at hz
          cases e : rows[j]? with
          | none => rw [e] at hz; cases hz
          | some x => rw [e] at hz; exact ⟨x, rfl, Option.some.inj hz⟩
        have hm := List.mem_of_getElem? hx
        obtain ⟨⟨zs, gr, lz⟩, _⟩ := Y.w_ x hm
        have gq := Y.q_ x hm
        refine ⟨_, rfl, x.q, _, 0, .ref x.r, rfl, rfl, SqL.of gq, rfl, .inl ⟨rfl, _, SqL.of gr⟩, x.r, _, _, rfl, rfl, gr, by rw [List.length_map]; omega, ?_⟩
        have Y1 := Y.set (zs := zs ++ [7]) hm (.inl rfl) (by rw [List.length_append]; exact Nat.succ_le_succ lz)
        rw [List.map_append, show [(7 : Int)].map V.int = [V.int 7] from rfl] at Y1
        revert Y1
        generalize upd H8 x.r (HO.lst _) = H9
        intro Y1
        obtain ⟨_, ⟨ys, gu, ly⟩⟩ := Y1.w_ x hm
        have gq1 := Y1.q_ x hm
        refine ⟨_, rfl, x.q, _, 1, .ref x.u, rfl, rfl, SqL.of gq1, rfl, .inl ⟨rfl, _, SqL.of gu⟩, x.u, _, rfl, rfl, gu, ?_⟩
        exact ⟨_, rfl, Y1.set (zs := []) hm (.inr rfl) (Nat.zero_le _)⟩
      rintro σ H8 ⟨y8, rfl, Y⟩
      obtain ⟨S8, L8, a8, _, _, _, _, _, _, k8⟩ := Y
      clear Y0
      -- passed
      have low9 : ∀ y ∈ appT b [xs] ns, ∀ c ∈ y, c < 128 := appT_low b128 fun y hy => by rw [List.mem_singleton.mp hy]; exact lo
      have short9 : (lastT (appT b [xs] ns)).length ≤ 400 := appT_short (by simp) (fun y hy => by rw [List.mem_singleton.mp hy]; omega) rpl _ (lastT_mem fun e => by have := L8.len; rw [e] at this; cases this)
      obtain ⟨T0, lt, eT⟩ : ∃ T0 lt, appT b [xs] ns = T0 ++ [lt] := by
        rcases List.eq_nil_or_concat (appT b [xs] ns) with e | ⟨T0, y, e⟩
        · have := L8.len
          rw [e] at this
          cases this
        · exact ⟨T0, y, by rw [e, List.concat_eq_append]⟩
      have el : lastT (appT b [xs] ns) = lt := by rw [eT, lastT_snoc]
      refine ⟨_, rfl, w1, fun q1 hq1 => ?_⟩
      have s1 := same_new (o := .lst [V.str (SX.S xs)]) hq1
      refine ⟨_, rfl, _, rfl, q1, a, b, [xs], ns, rfl, SqL.of upd_same, SqL.of (s1 _ _ a8), by simp, fun y hy => by rw [List.mem_singleton.mp hy]; omega, fun k hk => ⟨(rg k hk).1, by have := (rg k hk).2; omega⟩, by show 1 + ns.length ≤ _; omega, fun t9 H9 ht9 s9 g9 => ?_⟩
      have s89 := s1.trans s9
      -- told
      refine ⟨_, rfl, _, rfl, _, rfl, _, rfl, p, dx, r, t, t9, a, u0, b, _, _, rfl, L8.same s89, SqL.of g9, SqL.of (s89 _ _ a8), lastT_low low9, fun H10 s10 => ⟨_, rfl, iteF ?_⟩⟩
      have s8a := s89.trans s10
      have L10 := L8.same s8a
      have g10 := s10 _ _ g9
      have S10 := S8.same s8a
      have k10 := k8.trans (Keep1.of s8a)
      clear s1 s9 s89 s10 s8a g9 ht9 hq1 S8 k8 a8 L8
      -- two walks at once
      obtain ⟨W, LW, wk, sub⟩ := L10.cut
      obtain ⟨m, LL, mC, mR, mT, mN⟩ := id L10.m
      have nrun := mN "runs" (by decide +kernel) (by decide +kernel) (by decide +kernel)
      have fewr : (runs b (lastT (appT b [xs] ns))).length < 1000 := by
        have := runs_len (b := b) (lastT (appT b [xs] ns))
        omega
      refine ⟨_, rfl, p, dx, m, _, W, _, _, _, rfl, LL, nrun, ⟨p, dx, r, t, u0, b, _, _, rfl, LW, wk, rfl, rfl, rfl⟩, wk, sub, _, rfl, p, dx, m, _, W, _, _, _, rfl, LL, nrun, ⟨p, dx, r, t, u0, b, _, _, rfl, LW, wk, rfl, rfl, rfl⟩, wk, sub, rfl, sub, (fun y o e1 e2 => by rw [e1] at e2; cases e2), fewr, fun Dl rows2 H11 hDl gD rr s11 => ?_⟩
      rw [el] at rr fewr short9
      have s11 : Same H10 H11 := s11
      have at1 : atI (texts (appT b [xs] ns)) (-1) = some (.str (SX.S lt)) := by
        rw [eT]
        show atI ((T0 ++ [lt]).map _) (-1) = _
        rw [List.map_append]
        exact atI_tail _ _
      refine ⟨_, rfl, _, rfl, 1, rfl, t9, _, -1, .str (SX.S lt), rfl, rfl, SqL.of (s11 _ _ g10), at1, _, rfl, lt, b, rfl, by omega, fun g H12 ng s12 gg => ⟨g, rfl, ⟨_, SqL.of gg⟩, fun D2 hD2 => lc_list (xs := (runs b lt).map V.int) (fun j H' => Same H12 (wo H' D2) ∧ ∃ as : List Addr, H' D2 = some (.lst (as.map V.ref)) ∧ as.length = j ∧ RowsAt (wo H' D2) as (((runs b lt).take j).map fun x => [x, x]))
        ⟨by rw [wo_upd]; exact same_wo (Same.refl _) hD2, [], upd_same, rfl, trivial⟩ (fun j H' _ hh => SqL.of (wo_same _ _ (hh.1 _ _ gg))) ?_ ?_⟩⟩
      · rintro j z H13 hz ⟨s13, as, g13, la, ra⟩
        obtain ⟨x, hx, rfl⟩ := map_at hz
        have jl : j < (runs b lt).length := (List.getElem?_eq_some_iff.mp hx).1
        refine ⟨rfl, _, rfl, _, rfl, w2, fun q hq => ⟨_, same_new hq _ _ g13, by rw [List.length_map]; omega, ?_⟩⟩
        have nq : q ≠ D2 := (ne_of_none g13 hq).symm
        have m13 := wo_mon (D := D2) (same_new (o := .lst [V.int x, V.int x]) hq)
        refine ⟨by rw [wo_upd]; exact s13.trans m13, as ++ [q], by rw [upd_same, List.map_append]; rfl, by rw [List.length_append, la]; rfl, ?_⟩
        rw [wo_upd, List.take_add_one, hx, List.map_append]
        exact (ra.same m13).app ⟨by rw [wo_ne nq, upd_same]; rfl, trivial⟩
      rintro H13 ⟨s13, as, g13, la, ra⟩
      rw [List.length_map, List.take_length] at ra
      have sF : Same H11 H13 := s12.trans (s13.trans wo_same)
      have ep : prs (fun i => (runs b (lastT (appT b [xs] ns)))[i]?.getD 0) (fun i => (runs b (lastT (appT b [xs] ns)))[i]?.getD 0) (runs b lt).length = (runs b lt).map fun x => [x, x] := by
        rw [el]
        refine List.ext_getElem? fun i => ?_
        by_cases h : i < (runs b lt).length
        · unfold prs
          rw [List.getElem?_map, List.getElem?_map, List.getElem?_range h, List.getElem?_eq_getElem h]
          show some [(runs b lt)[i]?.getD 0, (runs b lt)[i]?.getD 0] = some [(runs b lt)[i], (runs b lt)[i]]
          rw [List.getElem?_eq_getElem h]
          rfl
        · have h' : (runs b lt).length ≤ i := by omega
          rw [List.getElem?_eq_none (by unfold prs; rw [List.length_map, List.length_range]; exact h'), List.getElem?_eq_none (by rw [List.length_map]; exact h')]
      rw [el] at ep
      rw [ep] at rr
      have ra' := ra.same (wo_same (H := H13) (D := D2))
      refine ⟨.list (dRows ((runs b lt).map fun x => [x, x])), .list (dRows ((runs b lt).map fun x => [x, x])), .lst (SqL.of (sF _ _ gD)) (dp_rows (rr.same sF)), .lst (SqL.of g13) (dp_rows ra'), shaped_rows _, shaped_rows _, ?_⟩
      rw [SeqAt.eqv_refl (.list (dRows ((runs b lt).map fun x => [x, x]))) (show PyData.canLay0 (.list (dRows ((runs b lt).map fun x => [x, x]))) = true from lay_rows _)]
      exact q c3 H13 ((S10.same s11).same sF) (by omega) (k10.trans (Keep1.of (s11.trans sF)))
end
end Sq
set_option Elab.async false
set_option linter.all false
set_option maxRecDepth 100000
set_option maxHeartbeats 8000000
set_option exponentiation.threshold 2000
namespace Sq
open PySem PySem.Spec PyProof.Rows L2
abbrev s_law : Stmt := topS 27
theorem sc_law : FnScope ["script", "at", "pool", "turn"] ["script"] (defScope s_law) := ⟨rfl, rfl, rfl, by decide +kernel, rfl, by decide +kernel, by decide +kernel⟩
section
variable {P : Program} {w : World} {K : PySem.W.Frag} {mg : Str → Option Value} {base : Heap}
def spLaw (K : PySem.W.Frag) : Sp := fun vs H Q _ => ∃ (a : Addr) (ns : List Int), vs = [.ref a] ∧ SqL K H a (ns.map V.int) ∧ ns.length ≤ 63 ∧ ∀ H', Q (.bl true) H'
theorem ok_law {f : Addr} {fd : FuncData} (F : Fun K "law" "law" s_law f fd) (B : Bi mg) (D_lawpool : Df P w K mg base 1 "_law_pool" ["script", "at"] (spPool K)) (D_lawright : Dgr P w K mg base 8 "_law_right" ["pool"] spRight) (D_lawmanyright : Df P w K mg base 8 "_law_many_right" ["pool"] spMany) : Top P w K mg base 9 f fd "script" (spLaw K) := by
  refine atTop F sc_law ⟨rfl, by decide, by decide⟩ (fun vs H Q E h => ?_) (fun cdv outer s H vs Q E hr h => ?_)
  · obtain ⟨a, ns, rfl, _⟩ := h
    rfl
  · obtain ⟨a, ns, rfl, hS, hn, q⟩ := h
    refine ⟨_, (pss_cons (ps_for PassesOwn.never rfl (pi_range1 (by rfl) B.n_range (pa_cons (pe_callB (id := "max") (call_max2 rfl) (by rfl) B.n_max (by decide +kernel) (pa_cons pe_int (pa_cons (pe_callB (id := "min") (call_min2 rfl) (by rfl) B.n_min (by decide +kernel) (pa_cons pe_int (pa_cons (pe_callB (id := "len") (r := rLenK K) call_lenK (by rfl) B.n_len (by decide +kernel) (pa_cons (pv 0) pa_nil)) pa_nil))) pa_nil))) pa_nil)) (pg_name (i := 1) sc_law.nd rfl (Or.inl rfl))
 (pss_cons (ps_set (i := 2) sc_law.nd rfl (Or.inl rfl) (pe_callD D_lawpool (hr.mono (by omega)) (by rfl) (pa_cons (pv 0) (pa_cons (pv 1) pa_nil))))
 (pss_cons (ps_for PassesOwn.never rfl (pi_range1 (by rfl) B.n_range (pa_cons pe_int pa_nil)) (pg_name (i := 3) sc_law.nd rfl (Or.inl rfl))
 (pss_one (ps_if (pt_not (pt_val (pe_callG D_lawright (hr.mono (by omega)) rfl (by rfl) (pa_cons (pv 2) pa_nil))))
 (pss_one (ps_ret pe_bl))
 pss_nil)))
 (pss_one (ps_if (pt_not (pt_val (pe_callD D_lawmanyright (hr.mono (by omega)) (by rfl) (pa_cons (pv 2) pa_nil))))
 (pss_one (ps_ret pe_bl))
 pss_nil)))))
 (pss_one (ps_ret pe_bl))), ?_⟩
    have lim : sizeLine = 16777216 := sizeLine_eq
    refine ⟨_, rfl, a, _, rfl, .inl hS, 6, _, rfl, 1, _, rfl, ?_⟩
    rw [List.length_map]
    obtain ⟨N, eN⟩ : ∃ N, N = (if (if (ns.length : Int) < 6 then (ns.length : Int) else 6) > 1 then (if (ns.length : Int) < 6 then (ns.length : Int) else 6) else 1) := ⟨_, rfl⟩
    have hN : 1 ≤ N ∧ N ≤ 6 := by
      rw [eN]
      split <;> split <;> omega
    refine ⟨N, by subst eN; rfl, by omega, by omega, for_range (lo := 0) (n := N.toNat) (fun i σ H' => Same H H' ∧ ∃ y1 y2 y3, σ = [some (.ref a), y1, y2, y3]) ⟨Same.refl H, none, none, none, rfl⟩ ?_ ?_⟩
    · rintro i σ H1 hi ⟨s1, y1, y2, y3, rfl⟩
      refine ⟨_, rfl, _, rfl, a, ns, i, by rw [Int.zero_add]; rfl, s1.seq hS, hn, by omega, fun l seed H2 hl s2 S2 => ?_⟩
      refine ⟨4, rfl, by decide, by decide, for_range (lo := 0) (n := 4) (fun j σ H' => ∃ cnt y3, σ = [some (.ref a), some (.int (0 + (i : Int))), some (.ref l), y3] ∧ Rng H' l seed cnt ∧ cnt ≤ 2000 * j ∧ Same H1 H')
        ⟨0, y3, rfl, S2, by omega, s2⟩ ?_ ?_⟩
      · rintro j σ H3 hj ⟨cnt, y3, rfl, S3, hc3, s3⟩
        refine ⟨_, rfl, l, seed, cnt, rfl, S3, by omega, fun c4 H4 S4 hc4 k4 => ⟨_, rfl, iteF ⟨c4, _, rfl, S4, by omega, fun b o e => k4 _ _ (s3 _ _ e) (ne_of_none e hl)⟩⟩⟩
      · rintro σ H3 ⟨cnt, y3, rfl, S3, hc3, s3⟩
        refine ⟨_, rfl, l, seed, cnt, rfl, S3, by omega, fun c4 H4 S4 hc4 k4 => ⟨_, rfl, iteF ⟨s1.trans fun b o e => k4 _ _ (s3 _ _ e) (ne_of_none e hl), _, _, _, rfl⟩⟩⟩
    · rintro σ H1 ⟨s1, y1, y2, y3, rfl⟩
      exact q _
end
end Sq
set_option Elab.async false
set_option linter.all false
set_option maxRecDepth 100000
set_option maxHeartbeats 4000000
namespace Sq
open PySem PySem.Spec PyProof.Rows L2
theorem all_mk {l : PySem.W.OpenLaw} {w : World} {K : PySem.W.Frag} {h : Heap} {mg : Str → Option Value} {fa : Addr} (X : K.In h) (G : h.Ns mainGlobals mg) (hfa : mg "law" = some (.ref fa))
    {f_checklist : Addr} {od_checklist an_checklist : Option Addr} {sl_checklist : Array (Option Value)} {oc_checklist kV_checklist dc_checklist pm_checklist cd_checklist ct_checklist : Value}
    (a_checklist : PySem.W.nsIn K mainGlobals "check_list" = some (some (.ref f_checklist)))
    (l_checklist : K.lookup f_checklist = some ⟨oc_checklist, od_checklist, .func (PySem.W.fnOf "check_list" "check_list" (defArgs s_checklist) (defBody s_checklist) (defScope s_checklist) .none kV_checklist dc_checklist pm_checklist an_checklist cd_checklist ct_checklist), sl_checklist⟩)
    (c_checklist : PySem.W.codeIn K cd_checklist "check_list" = true) (k_checklist : PySem.W.keepIn K (.ref f_checklist) = true)
    {f_checkcharacter : Addr} {od_checkcharacter an_checkcharacter : Option Addr} {sl_checkcharacter : Array (Option Value)} {oc_checkcharacter kV_checkcharacter dc_checkcharacter pm_checkcharacter cd_checkcharacter ct_checkcharacter : Value}
    (a_checkcharacter : PySem.W.nsIn K mainGlobals "check_character" = some (some (.ref f_checkcharacter)))
    (l_checkcharacter : K.lookup f_checkcharacter = some ⟨oc_checkcharacter, od_checkcharacter, .func (PySem.W.fnOf "check_character" "check_character" (defArgs s_checkcharacter) (defBody s_checkcharacter) (defScope s_checkcharacter) .none kV_checkcharacter dc_checkcharacter pm_checkcharacter an_checkcharacter cd_checkcharacter ct_checkcharacter), sl_checkcharacter⟩)
    (c_checkcharacter : PySem.W.codeIn K cd_checkcharacter "check_character" = true) (k_checkcharacter : PySem.W.keepIn K (.ref f_checkcharacter) = true)
    {f_squeezetext : Addr} {od_squeezetext an_squeezetext : Option Addr} {sl_squeezetext : Array (Option Value)} {oc_squeezetext kV_squeezetext dc_squeezetext pm_squeezetext cd_squeezetext ct_squeezetext : Value}
    (a_squeezetext : PySem.W.nsIn K mainGlobals "squeeze_text" = some (some (.ref f_squeezetext)))
    (l_squeezetext : K.lookup f_squeezetext = some ⟨oc_squeezetext, od_squeezetext, .func (PySem.W.fnOf "squeeze_text" "squeeze_text" (defArgs s_squeezetext) (defBody s_squeezetext) (defScope s_squeezetext) .none kV_squeezetext dc_squeezetext pm_squeezetext an_squeezetext cd_squeezetext ct_squeezetext), sl_squeezetext⟩)
    (c_squeezetext : PySem.W.codeIn K cd_squeezetext "squeeze_text" = true) (k_squeezetext : PySem.W.keepIn K (.ref f_squeezetext) = true)
    {f_lengthafter : Addr} {od_lengthafter an_lengthafter : Option Addr} {sl_lengthafter : Array (Option Value)} {oc_lengthafter kV_lengthafter dc_lengthafter pm_lengthafter cd_lengthafter ct_lengthafter : Value}
    (a_lengthafter : PySem.W.nsIn K mainGlobals "length_after" = some (some (.ref f_lengthafter)))
    (l_lengthafter : K.lookup f_lengthafter = some ⟨oc_lengthafter, od_lengthafter, .func (PySem.W.fnOf "length_after" "length_after" (defArgs s_lengthafter) (defBody s_lengthafter) (defScope s_lengthafter) .none kV_lengthafter dc_lengthafter pm_lengthafter an_lengthafter cd_lengthafter ct_lengthafter), sl_lengthafter⟩)
    (c_lengthafter : PySem.W.codeIn K cd_lengthafter "length_after" = true) (k_lengthafter : PySem.W.keepIn K (.ref f_lengthafter) = true)
    {f_lengthafterone : Addr} {od_lengthafterone an_lengthafterone : Option Addr} {sl_lengthafterone : Array (Option Value)} {oc_lengthafterone kV_lengthafterone dc_lengthafterone pm_lengthafterone cd_lengthafterone ct_lengthafterone : Value}
    (a_lengthafterone : PySem.W.nsIn K mainGlobals "length_after_one" = some (some (.ref f_lengthafterone)))
    (l_lengthafterone : K.lookup f_lengthafterone = some ⟨oc_lengthafterone, od_lengthafterone, .func (PySem.W.fnOf "length_after_one" "length_after_one" (defArgs s_lengthafterone) (defBody s_lengthafterone) (defScope s_lengthafterone) .none kV_lengthafterone dc_lengthafterone pm_lengthafterone an_lengthafterone cd_lengthafterone ct_lengthafterone), sl_lengthafterone⟩)
    (c_lengthafterone : PySem.W.codeIn K cd_lengthafterone "length_after_one" = true) (k_lengthafterone : PySem.W.keepIn K (.ref f_lengthafterone) = true)
    {f_lengthsbetween : Addr} {od_lengthsbetween an_lengthsbetween : Option Addr} {sl_lengthsbetween : Array (Option Value)} {oc_lengthsbetween kV_lengthsbetween dc_lengthsbetween pm_lengthsbetween cd_lengthsbetween ct_lengthsbetween : Value}
    (a_lengthsbetween : PySem.W.nsIn K mainGlobals "lengths_between" = some (some (.ref f_lengthsbetween)))
    (l_lengthsbetween : K.lookup f_lengthsbetween = some ⟨oc_lengthsbetween, od_lengthsbetween, .func (PySem.W.fnOf "lengths_between" "lengths_between" (defArgs s_lengthsbetween) (defBody s_lengthsbetween) (defScope s_lengthsbetween) .none kV_lengthsbetween dc_lengthsbetween pm_lengthsbetween an_lengthsbetween cd_lengthsbetween ct_lengthsbetween), sl_lengthsbetween⟩)
    (c_lengthsbetween : PySem.W.codeIn K cd_lengthsbetween "lengths_between" = true) (k_lengthsbetween : PySem.W.keepIn K (.ref f_lengthsbetween) = true)
    {f_lawpool : Addr} {od_lawpool an_lawpool : Option Addr} {sl_lawpool : Array (Option Value)} {oc_lawpool kV_lawpool dc_lawpool pm_lawpool cd_lawpool ct_lawpool : Value}
    (a_lawpool : PySem.W.nsIn K mainGlobals "_law_pool" = some (some (.ref f_lawpool)))
    (l_lawpool : K.lookup f_lawpool = some ⟨oc_lawpool, od_lawpool, .func (PySem.W.fnOf "_law_pool" "_law_pool" (defArgs s_lawpool) (defBody s_lawpool) (defScope s_lawpool) .none kV_lawpool dc_lawpool pm_lawpool an_lawpool cd_lawpool ct_lawpool), sl_lawpool⟩)
    (c_lawpool : PySem.W.codeIn K cd_lawpool "_law_pool" = true) (k_lawpool : PySem.W.keepIn K (.ref f_lawpool) = true)
    {f_lawdraw : Addr} {od_lawdraw an_lawdraw : Option Addr} {sl_lawdraw : Array (Option Value)} {oc_lawdraw kV_lawdraw dc_lawdraw pm_lawdraw cd_lawdraw ct_lawdraw : Value}
    (a_lawdraw : PySem.W.nsIn K mainGlobals "_law_draw" = some (some (.ref f_lawdraw)))
    (l_lawdraw : K.lookup f_lawdraw = some ⟨oc_lawdraw, od_lawdraw, .func (PySem.W.fnOf "_law_draw" "_law_draw" (defArgs s_lawdraw) (defBody s_lawdraw) (defScope s_lawdraw) .none kV_lawdraw dc_lawdraw pm_lawdraw an_lawdraw cd_lawdraw ct_lawdraw), sl_lawdraw⟩)
    (c_lawdraw : PySem.W.codeIn K cd_lawdraw "_law_draw" = true) (k_lawdraw : PySem.W.keepIn K (.ref f_lawdraw) = true)
    {f_lawlist : Addr} {od_lawlist an_lawlist : Option Addr} {sl_lawlist : Array (Option Value)} {oc_lawlist kV_lawlist dc_lawlist pm_lawlist cd_lawlist ct_lawlist : Value}
    (a_lawlist : PySem.W.nsIn K mainGlobals "_law_list" = some (some (.ref f_lawlist)))
    (l_lawlist : K.lookup f_lawlist = some ⟨oc_lawlist, od_lawlist, .func (PySem.W.fnOf "_law_list" "_law_list" (defArgs s_lawlist) (defBody s_lawlist) (defScope s_lawlist) .none kV_lawlist dc_lawlist pm_lawlist an_lawlist cd_lawlist ct_lawlist), sl_lawlist⟩)
    (c_lawlist : PySem.W.codeIn K cd_lawlist "_law_list" = true) (k_lawlist : PySem.W.keepIn K (.ref f_lawlist) = true)
    {f_lawtext : Addr} {od_lawtext an_lawtext : Option Addr} {sl_lawtext : Array (Option Value)} {oc_lawtext kV_lawtext dc_lawtext pm_lawtext cd_lawtext ct_lawtext : Value}
    (a_lawtext : PySem.W.nsIn K mainGlobals "_law_text" = some (some (.ref f_lawtext)))
    (l_lawtext : K.lookup f_lawtext = some ⟨oc_lawtext, od_lawtext, .func (PySem.W.fnOf "_law_text" "_law_text" (defArgs s_lawtext) (defBody s_lawtext) (defScope s_lawtext) .none kV_lawtext dc_lawtext pm_lawtext an_lawtext cd_lawtext ct_lawtext), sl_lawtext⟩)
    (c_lawtext : PySem.W.codeIn K cd_lawtext "_law_text" = true) (k_lawtext : PySem.W.keepIn K (.ref f_lawtext) = true)
    {f_lawreplaced : Addr} {od_lawreplaced an_lawreplaced : Option Addr} {sl_lawreplaced : Array (Option Value)} {oc_lawreplaced kV_lawreplaced dc_lawreplaced pm_lawreplaced cd_lawreplaced ct_lawreplaced : Value}
    (a_lawreplaced : PySem.W.nsIn K mainGlobals "_law_replaced" = some (some (.ref f_lawreplaced)))
    (l_lawreplaced : K.lookup f_lawreplaced = some ⟨oc_lawreplaced, od_lawreplaced, .func (PySem.W.fnOf "_law_replaced" "_law_replaced" (defArgs s_lawreplaced) (defBody s_lawreplaced) (defScope s_lawreplaced) .none kV_lawreplaced dc_lawreplaced pm_lawreplaced an_lawreplaced cd_lawreplaced ct_lawreplaced), sl_lawreplaced⟩)
    (c_lawreplaced : PySem.W.codeIn K cd_lawreplaced "_law_replaced" = true) (k_lawreplaced : PySem.W.keepIn K (.ref f_lawreplaced) = true)
    {f_lawruns : Addr} {od_lawruns an_lawruns : Option Addr} {sl_lawruns : Array (Option Value)} {oc_lawruns kV_lawruns dc_lawruns pm_lawruns cd_lawruns ct_lawruns : Value}
    (a_lawruns : PySem.W.nsIn K mainGlobals "_law_runs" = some (some (.ref f_lawruns)))
    (l_lawruns : K.lookup f_lawruns = some ⟨oc_lawruns, od_lawruns, .func (PySem.W.fnOf "_law_runs" "_law_runs" (defArgs s_lawruns) (defBody s_lawruns) (defScope s_lawruns) .none kV_lawruns dc_lawruns pm_lawruns an_lawruns cd_lawruns ct_lawruns), sl_lawruns⟩)
    (c_lawruns : PySem.W.codeIn K cd_lawruns "_law_runs" = true) (k_lawruns : PySem.W.keepIn K (.ref f_lawruns) = true)
    {f_lawtoldright : Addr} {od_lawtoldright an_lawtoldright : Option Addr} {sl_lawtoldright : Array (Option Value)} {oc_lawtoldright kV_lawtoldright dc_lawtoldright pm_lawtoldright cd_lawtoldright ct_lawtoldright : Value}
    (a_lawtoldright : PySem.W.nsIn K mainGlobals "_law_told_right" = some (some (.ref f_lawtoldright)))
    (l_lawtoldright : K.lookup f_lawtoldright = some ⟨oc_lawtoldright, od_lawtoldright, .func (PySem.W.fnOf "_law_told_right" "_law_told_right" (defArgs s_lawtoldright) (defBody s_lawtoldright) (defScope s_lawtoldright) .none kV_lawtoldright dc_lawtoldright pm_lawtoldright an_lawtoldright cd_lawtoldright ct_lawtoldright), sl_lawtoldright⟩)
    (c_lawtoldright : PySem.W.codeIn K cd_lawtoldright "_law_told_right" = true) (k_lawtoldright : PySem.W.keepIn K (.ref f_lawtoldright) = true)
    {f_lawon : Addr} {od_lawon an_lawon : Option Addr} {sl_lawon : Array (Option Value)} {oc_lawon kV_lawon dc_lawon pm_lawon cd_lawon ct_lawon : Value}
    (a_lawon : PySem.W.nsIn K mainGlobals "_law_on" = some (some (.ref f_lawon)))
    (l_lawon : K.lookup f_lawon = some ⟨oc_lawon, od_lawon, .func (PySem.W.fnOf "_law_on" "_law_on" (defArgs s_lawon) (defBody s_lawon) (defScope s_lawon) .none kV_lawon dc_lawon pm_lawon an_lawon cd_lawon ct_lawon), sl_lawon⟩)
    (c_lawon : PySem.W.codeIn K cd_lawon "_law_on" = true) (k_lawon : PySem.W.keepIn K (.ref f_lawon) = true)
    {f_lawmanyright : Addr} {od_lawmanyright an_lawmanyright : Option Addr} {sl_lawmanyright : Array (Option Value)} {oc_lawmanyright kV_lawmanyright dc_lawmanyright pm_lawmanyright cd_lawmanyright ct_lawmanyright : Value}
    (a_lawmanyright : PySem.W.nsIn K mainGlobals "_law_many_right" = some (some (.ref f_lawmanyright)))
    (l_lawmanyright : K.lookup f_lawmanyright = some ⟨oc_lawmanyright, od_lawmanyright, .func (PySem.W.fnOf "_law_many_right" "_law_many_right" (defArgs s_lawmanyright) (defBody s_lawmanyright) (defScope s_lawmanyright) .none kV_lawmanyright dc_lawmanyright pm_lawmanyright an_lawmanyright cd_lawmanyright ct_lawmanyright), sl_lawmanyright⟩)
    (c_lawmanyright : PySem.W.codeIn K cd_lawmanyright "_law_many_right" = true) (k_lawmanyright : PySem.W.keepIn K (.ref f_lawmanyright) = true)
    {f_lawright : Addr} {od_lawright an_lawright : Option Addr} {sl_lawright : Array (Option Value)} {oc_lawright kV_lawright dc_lawright pm_lawright cd_lawright ct_lawright : Value}
    (a_lawright : PySem.W.nsIn K mainGlobals "_law_right" = some (some (.ref f_lawright)))
    (l_lawright : K.lookup f_lawright = some ⟨oc_lawright, od_lawright, .func (PySem.W.fnOf "_law_right" "_law_right" (defArgs s_lawright) (defBody s_lawright) (defScope s_lawright) .none kV_lawright dc_lawright pm_lawright an_lawright cd_lawright ct_lawright), sl_lawright⟩)
    (c_lawright : PySem.W.codeIn K cd_lawright "_law_right" = true) (k_lawright : PySem.W.keepIn K (.ref f_lawright) = true)
    {f_law : Addr} {od_law an_law : Option Addr} {sl_law : Array (Option Value)} {oc_law kV_law dc_law pm_law cd_law ct_law : Value}
    (a_law : PySem.W.nsIn K mainGlobals "law" = some (some (.ref f_law)))
    (l_law : K.lookup f_law = some ⟨oc_law, od_law, .func (PySem.W.fnOf "law" "law" (defArgs s_law) (defBody s_law) (defScope s_law) .none kV_law dc_law pm_law an_law cd_law ct_law), sl_law⟩)
    (c_law : PySem.W.codeIn K cd_law "law" = true) (k_law : PySem.W.keepIn K (.ref f_law) = true)
    (z_len : PySem.W.nsIn K mainGlobals "len" = some none)
    (z_min : PySem.W.nsIn K mainGlobals "min" = some none)
    (z_max : PySem.W.nsIn K mainGlobals "max" = some none)
    (z_abs : PySem.W.nsIn K mainGlobals "abs" = some none)
    (z_range : PySem.W.nsIn K mainGlobals "range" = some none)
    (z_isinstance : PySem.W.nsIn K mainGlobals "isinstance" = some none)
    (z_repr : PySem.W.nsIn K mainGlobals "repr" = some none)
    (z_enumerate : PySem.W.nsIn K mainGlobals "enumerate" = some none)
    (z_reversed : PySem.W.nsIn K mainGlobals "reversed" = some none)
    (z_sorted : PySem.W.nsIn K mainGlobals "sorted" = some none)
    (z_bool : PySem.W.nsIn K mainGlobals "bool" = some none)
    (z_int : PySem.W.nsIn K mainGlobals "int" = some none)
    (z_str : PySem.W.nsIn K mainGlobals "str" = some none)
    (z_list : PySem.W.nsIn K mainGlobals "list" = some none)
    (z_tuple : PySem.W.nsIn K mainGlobals "tuple" = some none)
    (z_set : PySem.W.nsIn K mainGlobals "set" = some none)
    (z_sum : PySem.W.nsIn K mainGlobals "sum" = some none)
    (z_zip : PySem.W.nsIn K mainGlobals "zip" = some none)
    (z_all : PySem.W.nsIn K mainGlobals "all" = some none)
    (z_any : PySem.W.nsIn K mainGlobals "any" = some none)
    (z_ValueError : PySem.W.nsIn K mainGlobals "ValueError" = some none)
    (z_divmod : PySem.W.nsIn K mainGlobals "divmod" = some none)
    {CT : Addr} (aCT : PySem.W.nsIn K mainGlobals "SqueezedText" = some (some (.ref CT)))
    (pgCT : PySem.W.plainGet K CT Str.empty = true)
    (hdCT : PySem.W.hasDictIn K CT = true)
    (poCT : PySem.W.plainOver K CT = true)
    (saCT : PySem.W.findIn K (.ref CT) "__setattr__" = some (some (.builtin "object.__setattr__")))
    (mkCT : PySem.W.makesIn K CT = true)
    (kcCT : PySem.W.keepIn K (.ref CT) = true)
    (nCT_0 : PySem.W.findIn K (.ref CT) "_character" = some none)
    (nCT_1 : PySem.W.findIn K (.ref CT) "_replacements" = some none)
    (nCT_2 : PySem.W.findIn K (.ref CT) "_texts" = some none)
    {f_SqueezedTextinit : Addr} {od_SqueezedTextinit an_SqueezedTextinit : Option Addr} {sl_SqueezedTextinit : Array (Option Value)} {oc_SqueezedTextinit kV_SqueezedTextinit dc_SqueezedTextinit pm_SqueezedTextinit cd_SqueezedTextinit ct_SqueezedTextinit : Value}
    (a_SqueezedTextinit : PySem.W.findIn K (.ref CT) "__init__" = some (some (.ref f_SqueezedTextinit))) (i_SqueezedTextinit : PySem.W.isFn K (.ref f_SqueezedTextinit) = true)
    (l_SqueezedTextinit : K.lookup f_SqueezedTextinit = some ⟨oc_SqueezedTextinit, od_SqueezedTextinit, .func (PySem.W.fnOf "__init__" "SqueezedText.__init__" (defArgs s_SqueezedTextinit) (defBody s_SqueezedTextinit) (defScope s_SqueezedTextinit) .none kV_SqueezedTextinit dc_SqueezedTextinit pm_SqueezedTextinit an_SqueezedTextinit cd_SqueezedTextinit ct_SqueezedTextinit), sl_SqueezedTextinit⟩)
    (c_SqueezedTextinit : PySem.W.codeIn K cd_SqueezedTextinit "SqueezedText.__init__" = true) (k_SqueezedTextinit : PySem.W.keepIn K (.ref f_SqueezedTextinit) = true)
    {f_SqueezedTextsqueeze : Addr} {od_SqueezedTextsqueeze an_SqueezedTextsqueeze : Option Addr} {sl_SqueezedTextsqueeze : Array (Option Value)} {oc_SqueezedTextsqueeze kV_SqueezedTextsqueeze dc_SqueezedTextsqueeze pm_SqueezedTextsqueeze cd_SqueezedTextsqueeze ct_SqueezedTextsqueeze : Value}
    (a_SqueezedTextsqueeze : PySem.W.findIn K (.ref CT) "squeeze" = some (some (.ref f_SqueezedTextsqueeze))) (i_SqueezedTextsqueeze : PySem.W.isFn K (.ref f_SqueezedTextsqueeze) = true)
    (l_SqueezedTextsqueeze : K.lookup f_SqueezedTextsqueeze = some ⟨oc_SqueezedTextsqueeze, od_SqueezedTextsqueeze, .func (PySem.W.fnOf "squeeze" "SqueezedText.squeeze" (defArgs s_SqueezedTextsqueeze) (defBody s_SqueezedTextsqueeze) (defScope s_SqueezedTextsqueeze) .none kV_SqueezedTextsqueeze dc_SqueezedTextsqueeze pm_SqueezedTextsqueeze an_SqueezedTextsqueeze cd_SqueezedTextsqueeze ct_SqueezedTextsqueeze), sl_SqueezedTextsqueeze⟩)
    (c_SqueezedTextsqueeze : PySem.W.codeIn K cd_SqueezedTextsqueeze "SqueezedText.squeeze" = true) (k_SqueezedTextsqueeze : PySem.W.keepIn K (.ref f_SqueezedTextsqueeze) = true)
    {f_SqueezedTextundo : Addr} {od_SqueezedTextundo an_SqueezedTextundo : Option Addr} {sl_SqueezedTextundo : Array (Option Value)} {oc_SqueezedTextundo kV_SqueezedTextundo dc_SqueezedTextundo pm_SqueezedTextundo cd_SqueezedTextundo ct_SqueezedTextundo : Value}
    (a_SqueezedTextundo : PySem.W.findIn K (.ref CT) "undo" = some (some (.ref f_SqueezedTextundo))) (i_SqueezedTextundo : PySem.W.isFn K (.ref f_SqueezedTextundo) = true)
    (l_SqueezedTextundo : K.lookup f_SqueezedTextundo = some ⟨oc_SqueezedTextundo, od_SqueezedTextundo, .func (PySem.W.fnOf "undo" "SqueezedText.undo" (defArgs s_SqueezedTextundo) (defBody s_SqueezedTextundo) (defScope s_SqueezedTextundo) .none kV_SqueezedTextundo dc_SqueezedTextundo pm_SqueezedTextundo an_SqueezedTextundo cd_SqueezedTextundo ct_SqueezedTextundo), sl_SqueezedTextundo⟩)
    (c_SqueezedTextundo : PySem.W.codeIn K cd_SqueezedTextundo "SqueezedText.undo" = true) (k_SqueezedTextundo : PySem.W.keepIn K (.ref f_SqueezedTextundo) = true)
    {f_SqueezedTextruns : Addr} {od_SqueezedTextruns an_SqueezedTextruns : Option Addr} {sl_SqueezedTextruns : Array (Option Value)} {oc_SqueezedTextruns kV_SqueezedTextruns dc_SqueezedTextruns pm_SqueezedTextruns cd_SqueezedTextruns ct_SqueezedTextruns : Value}
    (a_SqueezedTextruns : PySem.W.findIn K (.ref CT) "runs" = some (some (.ref f_SqueezedTextruns))) (i_SqueezedTextruns : PySem.W.isFn K (.ref f_SqueezedTextruns) = true)
    (l_SqueezedTextruns : K.lookup f_SqueezedTextruns = some ⟨oc_SqueezedTextruns, od_SqueezedTextruns, .func (PySem.W.fnOf "runs" "SqueezedText.runs" (defArgs s_SqueezedTextruns) (defBody s_SqueezedTextruns) (defScope s_SqueezedTextruns) .none kV_SqueezedTextruns dc_SqueezedTextruns pm_SqueezedTextruns an_SqueezedTextruns cd_SqueezedTextruns ct_SqueezedTextruns), sl_SqueezedTextruns⟩)
    (c_SqueezedTextruns : PySem.W.codeIn K cd_SqueezedTextruns "SqueezedText.runs" = true) (k_SqueezedTextruns : PySem.W.keepIn K (.ref f_SqueezedTextruns) = true)
    {f_SqueezedTexttext p_SqueezedTexttext : Addr} {od_SqueezedTexttext an_SqueezedTexttext : Option Addr} {sl_SqueezedTexttext : Array (Option Value)} {oc_SqueezedTexttext kV_SqueezedTexttext dc_SqueezedTexttext pm_SqueezedTexttext cd_SqueezedTexttext ct_SqueezedTexttext : Value}
    {rs_SqueezedTexttext : List Value} (a_SqueezedTexttext : PySem.W.findIn K (.ref CT) "text" = some (some (.ref p_SqueezedTexttext))) (g_SqueezedTexttext : PySem.W.specialIn K (.ref p_SqueezedTexttext) "__get__" = some (some (.builtin "property.__get__"))) (t_SqueezedTexttext : PySem.W.takesIn K (.ref p_SqueezedTexttext) = some true) (r_SqueezedTexttext : PySem.W.recIn K p_SqueezedTexttext "property" = some (.ref f_SqueezedTexttext :: rs_SqueezedTexttext))
    (l_SqueezedTexttext : K.lookup f_SqueezedTexttext = some ⟨oc_SqueezedTexttext, od_SqueezedTexttext, .func (PySem.W.fnOf "text" "SqueezedText.text" (defArgs s_SqueezedTexttext) (defBody s_SqueezedTexttext) (defScope s_SqueezedTexttext) .none kV_SqueezedTexttext dc_SqueezedTexttext pm_SqueezedTexttext an_SqueezedTexttext cd_SqueezedTexttext ct_SqueezedTexttext), sl_SqueezedTexttext⟩)
    (c_SqueezedTexttext : PySem.W.codeIn K cd_SqueezedTexttext "SqueezedText.text" = true) (k_SqueezedTexttext : PySem.W.keepIn K (.ref f_SqueezedTexttext) = true)
    {f_SqueezedTextreplacements p_SqueezedTextreplacements : Addr} {od_SqueezedTextreplacements an_SqueezedTextreplacements : Option Addr} {sl_SqueezedTextreplacements : Array (Option Value)} {oc_SqueezedTextreplacements kV_SqueezedTextreplacements dc_SqueezedTextreplacements pm_SqueezedTextreplacements cd_SqueezedTextreplacements ct_SqueezedTextreplacements : Value}
    {rs_SqueezedTextreplacements : List Value} (a_SqueezedTextreplacements : PySem.W.findIn K (.ref CT) "replacements" = some (some (.ref p_SqueezedTextreplacements))) (g_SqueezedTextreplacements : PySem.W.specialIn K (.ref p_SqueezedTextreplacements) "__get__" = some (some (.builtin "property.__get__"))) (t_SqueezedTextreplacements : PySem.W.takesIn K (.ref p_SqueezedTextreplacements) = some true) (r_SqueezedTextreplacements : PySem.W.recIn K p_SqueezedTextreplacements "property" = some (.ref f_SqueezedTextreplacements :: rs_SqueezedTextreplacements))
    (l_SqueezedTextreplacements : K.lookup f_SqueezedTextreplacements = some ⟨oc_SqueezedTextreplacements, od_SqueezedTextreplacements, .func (PySem.W.fnOf "replacements" "SqueezedText.replacements" (defArgs s_SqueezedTextreplacements) (defBody s_SqueezedTextreplacements) (defScope s_SqueezedTextreplacements) .none kV_SqueezedTextreplacements dc_SqueezedTextreplacements pm_SqueezedTextreplacements an_SqueezedTextreplacements cd_SqueezedTextreplacements ct_SqueezedTextreplacements), sl_SqueezedTextreplacements⟩)
    (c_SqueezedTextreplacements : PySem.W.codeIn K cd_SqueezedTextreplacements "SqueezedText.replacements" = true) (k_SqueezedTextreplacements : PySem.W.keepIn K (.ref f_SqueezedTextreplacements) = true)
    {f_SqueezedTextlongest p_SqueezedTextlongest : Addr} {od_SqueezedTextlongest an_SqueezedTextlongest : Option Addr} {sl_SqueezedTextlongest : Array (Option Value)} {oc_SqueezedTextlongest kV_SqueezedTextlongest dc_SqueezedTextlongest pm_SqueezedTextlongest cd_SqueezedTextlongest ct_SqueezedTextlongest : Value}
    {rs_SqueezedTextlongest : List Value} (a_SqueezedTextlongest : PySem.W.findIn K (.ref CT) "longest" = some (some (.ref p_SqueezedTextlongest))) (g_SqueezedTextlongest : PySem.W.specialIn K (.ref p_SqueezedTextlongest) "__get__" = some (some (.builtin "property.__get__"))) (t_SqueezedTextlongest : PySem.W.takesIn K (.ref p_SqueezedTextlongest) = some true) (r_SqueezedTextlongest : PySem.W.recIn K p_SqueezedTextlongest "property" = some (.ref f_SqueezedTextlongest :: rs_SqueezedTextlongest))
    (l_SqueezedTextlongest : K.lookup f_SqueezedTextlongest = some ⟨oc_SqueezedTextlongest, od_SqueezedTextlongest, .func (PySem.W.fnOf "longest" "SqueezedText.longest" (defArgs s_SqueezedTextlongest) (defBody s_SqueezedTextlongest) (defScope s_SqueezedTextlongest) .none kV_SqueezedTextlongest dc_SqueezedTextlongest pm_SqueezedTextlongest an_SqueezedTextlongest cd_SqueezedTextlongest ct_SqueezedTextlongest), sl_SqueezedTextlongest⟩)
    (c_SqueezedTextlongest : PySem.W.codeIn K cd_SqueezedTextlongest "SqueezedText.longest" = true) (k_SqueezedTextlongest : PySem.W.keepIn K (.ref f_SqueezedTextlongest) = true)
    (bg_sq : PySem.W.specialIn K (.ref f_SqueezedTextsqueeze) "__get__" = some (some (.builtin "function.__get__")))
    (bt_sq : PySem.W.takesIn K (.ref f_SqueezedTextsqueeze) = some false)
    (bf_sq : PySem.W.fnIn K f_SqueezedTextsqueeze = true)
    : ∃ fd : FuncData, (∀ (s : Shared) (v : Value), BindsTo s fd ⟨[v], []⟩ [("script", v)]) ∧ ∀ base : Heap, K.In base → base.Ns mainGlobals mg → Top l.prog w K mg base 9 fa fd "script" (spLaw K) := by
  have e := hfa.symm.trans (PySem.W.mg_of X G a_law)
  cases e
  have B : Bi mg := ⟨PySem.W.mg_none_of X G z_len, PySem.W.mg_none_of X G z_min, PySem.W.mg_none_of X G z_max, PySem.W.mg_none_of X G z_abs, PySem.W.mg_none_of X G z_range, PySem.W.mg_none_of X G z_isinstance, PySem.W.mg_none_of X G z_repr, PySem.W.mg_none_of X G z_enumerate, PySem.W.mg_none_of X G z_reversed, PySem.W.mg_none_of X G z_sorted, PySem.W.mg_none_of X G z_bool, PySem.W.mg_none_of X G z_int, PySem.W.mg_none_of X G z_str, PySem.W.mg_none_of X G z_list, PySem.W.mg_none_of X G z_tuple, PySem.W.mg_none_of X G z_set, PySem.W.mg_none_of X G z_sum, PySem.W.mg_none_of X G z_zip, PySem.W.mg_none_of X G z_all, PySem.W.mg_none_of X G z_any, PySem.W.mg_none_of X G z_ValueError, PySem.W.mg_none_of X G z_divmod⟩
  have F_checklist := fun_mk (st := s_checklist) l_checklist c_checklist k_checklist
  have b_checklist := F_checklist.binds (ps := ["replacements"]) fun _ _ _ _ _ _ us hl => match us, hl with | [_], _ => rfl
  have g_checklist := PySem.W.mg_of X G a_checklist
  have F_checkcharacter := fun_mk (st := s_checkcharacter) l_checkcharacter c_checkcharacter k_checkcharacter
  have b_checkcharacter := F_checkcharacter.binds (ps := ["character"]) fun _ _ _ _ _ _ us hl => match us, hl with | [_], _ => rfl
  have g_checkcharacter := PySem.W.mg_of X G a_checkcharacter
  have F_squeezetext := fun_mk (st := s_squeezetext) l_squeezetext c_squeezetext k_squeezetext
  have b_squeezetext := F_squeezetext.binds (ps := ["text", "character", "replacements"]) fun _ _ _ _ _ _ us hl => match us, hl with | [_, _, _], _ => rfl
  have g_squeezetext := PySem.W.mg_of X G a_squeezetext
  have F_lengthafter := fun_mk (st := s_lengthafter) l_lengthafter c_lengthafter k_lengthafter
  have b_lengthafter := F_lengthafter.binds (ps := ["length", "replacements"]) fun _ _ _ _ _ _ us hl => match us, hl with | [_, _], _ => rfl
  have g_lengthafter := PySem.W.mg_of X G a_lengthafter
  have F_lengthafterone := fun_mk (st := s_lengthafterone) l_lengthafterone c_lengthafterone k_lengthafterone
  have b_lengthafterone := F_lengthafterone.binds (ps := ["length", "number"]) fun _ _ _ _ _ _ us hl => match us, hl with | [_, _], _ => rfl
  have g_lengthafterone := PySem.W.mg_of X G a_lengthafterone
  have F_lengthsbetween := fun_mk (st := s_lengthsbetween) l_lengthsbetween c_lengthsbetween k_lengthsbetween
  have b_lengthsbetween := F_lengthsbetween.binds (ps := ["text", "character"]) fun _ _ _ _ _ _ us hl => match us, hl with | [_, _], _ => rfl
  have g_lengthsbetween := PySem.W.mg_of X G a_lengthsbetween
  have F_lawpool := fun_mk (st := s_lawpool) l_lawpool c_lawpool k_lawpool
  have b_lawpool := F_lawpool.binds (ps := ["script", "at"]) fun _ _ _ _ _ _ us hl => match us, hl with | [_, _], _ => rfl
  have g_lawpool := PySem.W.mg_of X G a_lawpool
  have F_lawdraw := fun_mk (st := s_lawdraw) l_lawdraw c_lawdraw k_lawdraw
  have b_lawdraw := F_lawdraw.binds (ps := ["pool", "many"]) fun _ _ _ _ _ _ us hl => match us, hl with | [_, _], _ => rfl
  have g_lawdraw := PySem.W.mg_of X G a_lawdraw
  have F_lawlist := fun_mk (st := s_lawlist) l_lawlist c_lawlist k_lawlist
  have b_lawlist := F_lawlist.binds (ps := ["pool", "most", "far"]) fun _ _ _ _ _ _ us hl => match us, hl with | [_, _, _], _ => rfl
  have g_lawlist := PySem.W.mg_of X G a_lawlist
  have F_lawtext := fun_mk (st := s_lawtext) l_lawtext c_lawtext k_lawtext
  have b_lawtext := F_lawtext.binds (ps := ["pool", "most"]) fun _ _ _ _ _ _ us hl => match us, hl with | [_, _], _ => rfl
  have g_lawtext := PySem.W.mg_of X G a_lawtext
  have F_lawreplaced := fun_mk (st := s_lawreplaced) l_lawreplaced c_lawreplaced k_lawreplaced
  have b_lawreplaced := F_lawreplaced.binds (ps := ["written", "sign", "numbers"]) fun _ _ _ _ _ _ us hl => match us, hl with | [_, _, _], _ => rfl
  have g_lawreplaced := PySem.W.mg_of X G a_lawreplaced
  have F_lawruns := fun_mk (st := s_lawruns) l_lawruns c_lawruns k_lawruns
  have b_lawruns := F_lawruns.binds (ps := ["written", "sign"]) fun _ _ _ _ _ _ us hl => match us, hl with | [_, _], _ => rfl
  have g_lawruns := PySem.W.mg_of X G a_lawruns
  have F_lawtoldright := fun_mk (st := s_lawtoldright) l_lawtoldright c_lawtoldright k_lawtoldright
  have b_lawtoldright := F_lawtoldright.binds (ps := ["live", "passed", "numbers", "sign"]) fun _ _ _ _ _ _ us hl => match us, hl with | [_, _, _, _], _ => rfl
  have g_lawtoldright := PySem.W.mg_of X G a_lawtoldright
  have F_lawon := fun_mk (st := s_lawon) l_lawon c_lawon k_lawon
  have b_lawon := F_lawon.binds (ps := ["passed", "sign", "numbers"]) fun _ _ _ _ _ _ us hl => match us, hl with | [_, _, _], _ => rfl
  have g_lawon := PySem.W.mg_of X G a_lawon
  have F_lawmanyright := fun_mk (st := s_lawmanyright) l_lawmanyright c_lawmanyright k_lawmanyright
  have b_lawmanyright := F_lawmanyright.binds (ps := ["pool"]) fun _ _ _ _ _ _ us hl => match us, hl with | [_], _ => rfl
  have g_lawmanyright := PySem.W.mg_of X G a_lawmanyright
  have F_lawright := fun_mk (st := s_lawright) l_lawright c_lawright k_lawright
  have b_lawright := F_lawright.binds (ps := ["pool"]) fun _ _ _ _ _ _ us hl => match us, hl with | [_], _ => rfl
  have g_lawright := PySem.W.mg_of X G a_lawright
  have F_law := fun_mk (st := s_law) l_law c_law k_law
  exact ⟨_, fun s v => .of_eq rfl, fun base _ _ => by
    have F_SqueezedTextinit := fun_mk (st := s_SqueezedTextinit) l_SqueezedTextinit c_SqueezedTextinit k_SqueezedTextinit
    have F_SqueezedTextsqueeze := fun_mk (st := s_SqueezedTextsqueeze) l_SqueezedTextsqueeze c_SqueezedTextsqueeze k_SqueezedTextsqueeze
    have F_SqueezedTextundo := fun_mk (st := s_SqueezedTextundo) l_SqueezedTextundo c_SqueezedTextundo k_SqueezedTextundo
    have F_SqueezedTextruns := fun_mk (st := s_SqueezedTextruns) l_SqueezedTextruns c_SqueezedTextruns k_SqueezedTextruns
    have F_SqueezedTexttext := fun_mk (st := s_SqueezedTexttext) l_SqueezedTexttext c_SqueezedTexttext k_SqueezedTexttext
    have F_SqueezedTextreplacements := fun_mk (st := s_SqueezedTextreplacements) l_SqueezedTextreplacements c_SqueezedTextreplacements k_SqueezedTextreplacements
    have F_SqueezedTextlongest := fun_mk (st := s_SqueezedTextlongest) l_SqueezedTextlongest c_SqueezedTextlongest k_SqueezedTextlongest
    have clT : Cls K CT := ⟨pgCT, hdCT, poCT, saCT⟩
    have b_SqueezedTextinit := F_SqueezedTextinit.binds (ps := ["self", "text", "character"]) fun _ _ _ _ _ _ us hl => match us, hl with | [_, _, _], _ => rfl
    have b_SqueezedTextundo := F_SqueezedTextundo.binds (ps := ["self"]) fun _ _ _ _ _ _ us hl => match us, hl with | [_], _ => rfl
    have b_SqueezedTextruns := F_SqueezedTextruns.binds (ps := ["self"]) fun _ _ _ _ _ _ us hl => match us, hl with | [_], _ => rfl
    have b_SqueezedTexttext := F_SqueezedTexttext.binds (ps := ["self"]) fun _ _ _ _ _ _ us hl => match us, hl with | [_], _ => rfl
    have b_SqueezedTextreplacements := F_SqueezedTextreplacements.binds (ps := ["self"]) fun _ _ _ _ _ _ us hl => match us, hl with | [_], _ => rfl
    have b_SqueezedTextlongest := F_SqueezedTextlongest.binds (ps := ["self"]) fun _ _ _ _ _ _ us hl => match us, hl with | [_], _ => rfl
    have TH : Lc K CT := ⟨clT, nCT_0, nCT_1, nCT_2⟩
    have D_checklistT : Df l.prog w K mg base 1 "check_list" ["replacements"] spCheckListT := .mk' F_checklist (ok_checklistT F_checklist B) g_checklist b_checklist
    have D_checklist : Df l.prog w K mg base 1 "check_list" ["replacements"] (spCheckList K) := .mk' F_checklist (ok_checklist F_checklist B) g_checklist b_checklist
    have D_checkcharacter : Df l.prog w K mg base 1 "check_character" ["character"] spCheckChr := .mk' F_checkcharacter (ok_checkcharacter F_checkcharacter B) g_checkcharacter b_checkcharacter
    have D_lengthafterone : Df l.prog w K mg base 1 "length_after_one" ["length", "number"] spOnceS := .mk' F_lengthafterone (ok_lengthafterone F_lengthafterone B) g_lengthafterone b_lengthafterone
    have D_lengthafter : Df l.prog w K mg base 2 "length_after" ["length", "replacements"] (spSqzS K) := .mk' F_lengthafter (ok_lengthafter F_lengthafter D_lengthafterone) g_lengthafter b_lengthafter
    have D_lengthsbetween : Df l.prog w K mg base 1 "lengths_between" ["text", "character"] spBetween := .mk' F_lengthsbetween (ok_between F_lengthsbetween B) g_lengthsbetween b_lengthsbetween
    have T_squeezetext : DfT l.prog w K mg base 4 "squeeze_text" ["text", "character", "replacements"] 1 (spSqT K) := ⟨_, _, ok_squeezetext F_squeezetext B D_checkcharacter D_checklist D_lengthsbetween D_lengthafter, g_squeezetext, k_squeezetext, b_squeezetext⟩
    have Mk_ : Mk K CT f_SqueezedTextinit := ⟨mkCT, a_SqueezedTextinit, i_SqueezedTextinit, kcCT⟩
    have P_text : Pr l.prog w K mg base 1 CT "text" (spText CT) := ⟨⟨_, _, _, ⟨a_SqueezedTexttext, g_SqueezedTexttext, t_SqueezedTexttext, ⟨_, r_SqueezedTexttext⟩⟩, ok_text F_SqueezedTexttext TH, b_SqueezedTexttext⟩, clT⟩
    have P_reps : Pr l.prog w K mg base 1 CT "replacements" (spReps CT) := ⟨⟨_, _, _, ⟨a_SqueezedTextreplacements, g_SqueezedTextreplacements, t_SqueezedTextreplacements, ⟨_, r_SqueezedTextreplacements⟩⟩, ok_reps F_SqueezedTextreplacements B TH, b_SqueezedTextreplacements⟩, clT⟩
    have P_longest : Pr l.prog w K mg base 3 CT "longest" (spLongest CT) := ⟨⟨_, _, _, ⟨a_SqueezedTextlongest, g_SqueezedTextlongest, t_SqueezedTextlongest, ⟨_, r_SqueezedTextlongest⟩⟩, ok_longest F_SqueezedTextlongest B TH P_text D_lengthsbetween, b_SqueezedTextlongest⟩, clT⟩
    have FV_squeeze := ok_squeeze F_SqueezedTextsqueeze B TH P_text P_longest D_lengthsbetween D_checklistT T_squeezetext
    have MV_squeeze : MtV l.prog w K mg base 5 CT "squeeze" (spSqueeze CT) := ⟨⟨_, FV_squeeze, ⟨a_SqueezedTextsqueeze, i_SqueezedTextsqueeze, k_SqueezedTextsqueeze⟩⟩, clT⟩
    have MB_squeeze : MtB l.prog w K mg base 5 CT "squeeze" (spSqueeze CT) := ⟨⟨_, FV_squeeze, ⟨⟨a_SqueezedTextsqueeze, i_SqueezedTextsqueeze, k_SqueezedTextsqueeze⟩, bg_sq, bt_sq, by decide, bf_sq⟩⟩, clT⟩
    have M_undo : Mt CX0 l.prog w K mg base 1 CT "undo" ["self"] (spUndo CT) := ⟨⟨_, _, ok_undo F_SqueezedTextundo TH, ⟨a_SqueezedTextundo, i_SqueezedTextundo, k_SqueezedTextundo⟩, b_SqueezedTextundo⟩, clT⟩
    have G_runs : MtG l.prog w K mg base 3 CT "runs" (spRuns CT) := ⟨⟨_, _, ok_runs F_SqueezedTextruns TH P_text D_lengthsbetween, ⟨a_SqueezedTextruns, i_SqueezedTextruns, k_SqueezedTextruns⟩, b_SqueezedTextruns⟩, clT⟩
    have FW_init := ok_lvinit F_SqueezedTextinit TH D_checkcharacter
    have W_SqueezedText : MkW l.prog w K mg base 2 "SqueezedText" CT ["self", "text", "character"] 1 (spLvInit CT) := ⟨⟨_, _, Mk_, FW_init, b_SqueezedTextinit⟩, PySem.W.mg_of X G aCT⟩
    have D_lawpool : Df l.prog w K mg base 1 "_law_pool" ["script", "at"] (spPool K) := .mk' F_lawpool (ok_lawpool F_lawpool B) g_lawpool b_lawpool
    have D_lawdraw : Df l.prog w K mg base 1 "_law_draw" ["pool", "many"] spDraw := .mk' F_lawdraw (ok_lawdraw F_lawdraw) g_lawdraw b_lawdraw
    have R_lawtext : DfR l.prog w K mg base 3 "_law_text" ["pool", "most"] spLtxt := ⟨_, _, ok_lawtext F_lawtext B D_lawdraw, g_lawtext, k_lawtext, b_lawtext⟩
    have D_lawruns : Df l.prog w K mg base 1 "_law_runs" ["written", "sign"] spRunsL := .mk' F_lawruns (ok_lawruns F_lawruns B) g_lawruns b_lawruns
    have Q_text : Qr l.prog w K mg base 1 CT "text" (spText CT) := ⟨⟨_, _, _, ⟨a_SqueezedTexttext, g_SqueezedTexttext, t_SqueezedTexttext, ⟨_, r_SqueezedTexttext⟩⟩, ok_textQ F_SqueezedTexttext TH, b_SqueezedTexttext⟩, clT⟩
    have Q_lengthsbetween : Dq l.prog w K mg base 1 "lengths_between" ["text", "character"] spBetween := ⟨_, _, ok_betweenQ F_lengthsbetween B, g_lengthsbetween, k_lengthsbetween, b_lengthsbetween⟩
    have V_runs : MtVg l.prog w K mg base 3 CT "runs" (spRunsV CT) := ⟨⟨_, _, ok_runsV F_SqueezedTextruns TH Q_text Q_lengthsbetween, ⟨a_SqueezedTextruns, i_SqueezedTextruns, k_SqueezedTextruns⟩, b_SqueezedTextruns⟩, clT⟩
    have D_lawlist : Df l.prog w K mg base 2 "_law_list" ["pool", "most", "far"] spList := .mk' F_lawlist (ok_lawlist F_lawlist B D_lawdraw) g_lawlist b_lawlist
    have T_lawreplaced : DfT l.prog w K mg base 1 "_law_replaced" ["written", "sign", "numbers"] 1 (spReplaced K) := ⟨_, _, ok_lawreplaced F_lawreplaced, g_lawreplaced, k_lawreplaced, b_lawreplaced⟩
    have T_lawon : DfT l.prog w K mg base 2 "_law_on" ["passed", "sign", "numbers"] 1 (spOn K) := ⟨_, _, ok_lawon F_lawon B T_lawreplaced, g_lawon, k_lawon, b_lawon⟩
    have D_lawtoldright : Df l.prog w K mg base 7 "_law_told_right" ["live", "passed", "numbers", "sign"] (spTold K CT) := .mk' F_lawtoldright (ok_lawtoldright F_lawtoldright B TH P_text P_reps P_longest G_runs D_lawruns) g_lawtoldright b_lawtoldright
    have D_lawmanyright : Df l.prog w K mg base 8 "_law_many_right" ["pool"] spMany := .mk' F_lawmanyright (ok_lawmanyright F_lawmanyright B D_lawdraw W_SqueezedText T_lawon D_lawtoldright MV_squeeze MB_squeeze M_undo) g_lawmanyright b_lawmanyright
    have D_lawright : Dgr l.prog w K mg base 8 "_law_right" ["pool"] spRight := .mk' F_lawright (ok_lawright F_lawright B R_lawtext D_lawlist W_SqueezedText T_lawon D_lawtoldright D_lawruns MV_squeeze G_runs V_runs P_reps) g_lawright b_lawright
    exact ok_law F_law B D_lawpool D_lawright D_lawmanyright⟩
end Sq
open PySem PySem.W PyProof.Rows
set_option maxRecDepth 100000 in
set_option maxHeartbeats 0 in
theorem PySem.Challenge.cw_squeezelists_k22_live_texts_copy_holds : PySem.Challenge.rw_squeezelists_k22_live_texts_copy.Holds := by
  w_on; o_law; k_head; (case hw => w_witness2)
  k_fill
  refine Sq.walkAt (l := PySem.Challenge.rw_squeezelists_k22_live_texts_copy) (n := 63) (k := 9) (x := "script") (sp := fun w => Sq.spLaw _) rfl (by decide) rfl (fun w h Y => PySem.W.kIn_of Y) ?F (fun _ _ a ns hl _ hS => ⟨a, ns, rfl, hS, hl, fun _ => rfl⟩)
  case F =>
    intro w mg fa h KX G hmg
    refine' Sq.all_mk KX G hmg ?a_checklist ?l_checklist ?c_checklist ?k_checklist ?a_checkcharacter ?l_checkcharacter ?c_checkcharacter ?k_checkcharacter ?a_squeezetext ?l_squeezetext ?c_squeezetext ?k_squeezetext ?a_lengthafter ?l_lengthafter ?c_lengthafter ?k_lengthafter ?a_lengthafterone ?l_lengthafterone ?c_lengthafterone ?k_lengthafterone ?a_lengthsbetween ?l_lengthsbetween ?c_lengthsbetween ?k_lengthsbetween ?a_lawpool ?l_lawpool ?c_lawpool ?k_lawpool ?a_lawdraw ?l_lawdraw ?c_lawdraw ?k_lawdraw ?a_lawlist ?l_lawlist ?c_lawlist ?k_lawlist ?a_lawtext ?l_lawtext ?c_lawtext ?k_lawtext ?a_lawreplaced ?l_lawreplaced ?c_lawreplaced ?k_lawreplaced ?a_lawruns ?l_lawruns ?c_lawruns ?k_lawruns ?a_lawtoldright ?l_lawtoldright ?c_lawtoldright ?k_lawtoldright ?a_lawon ?l_lawon ?c_lawon ?k_lawon ?a_lawmanyright ?l_lawmanyright ?c_lawmanyright ?k_lawmanyright ?a_lawright ?l_lawright ?c_lawright ?k_lawright ?a_law ?l_law ?c_law ?k_law ?z_len ?z_min ?z_max ?z_abs ?z_range ?z_isinstance ?z_repr ?z_enumerate ?z_reversed ?z_sorted ?z_bool ?z_int ?z_str ?z_list ?z_tuple ?z_set ?z_sum ?z_zip ?z_all ?z_any ?z_ValueError ?z_divmod ?aCT ?pgCT ?hdCT ?poCT ?saCT ?mkCT ?kcCT ?nCT_0 ?nCT_1 ?nCT_2 ?a_SqueezedTextinit ?i_SqueezedTextinit ?l_SqueezedTextinit ?c_SqueezedTextinit ?k_SqueezedTextinit ?a_SqueezedTextsqueeze ?i_SqueezedTextsqueeze ?l_SqueezedTextsqueeze ?c_SqueezedTextsqueeze ?k_SqueezedTextsqueeze ?a_SqueezedTextundo ?i_SqueezedTextundo ?l_SqueezedTextundo ?c_SqueezedTextundo ?k_SqueezedTextundo ?a_SqueezedTextruns ?i_SqueezedTextruns ?l_SqueezedTextruns ?c_SqueezedTextruns ?k_SqueezedTextruns ?a_SqueezedTexttext ?g_SqueezedTexttext ?t_SqueezedTexttext ?r_SqueezedTexttext ?l_SqueezedTexttext ?c_SqueezedTexttext ?k_SqueezedTexttext ?a_SqueezedTextreplacements ?g_SqueezedTextreplacements ?t_SqueezedTextreplacements ?r_SqueezedTextreplacements ?l_SqueezedTextreplacements ?c_SqueezedTextreplacements ?k_SqueezedTextreplacements ?a_SqueezedTextlongest ?g_SqueezedTextlongest ?t_SqueezedTextlongest ?r_SqueezedTextlongest ?l_SqueezedTextlongest ?c_SqueezedTextlongest ?k_SqueezedTextlongest ?bg_sq ?bt_sq ?bf_sq
    (case a_checklist => k_is); (case l_checklist => k_is); (case c_checklist => k_is); (case k_checklist => k_is); (case a_checkcharacter => k_is); (case l_checkcharacter => k_is); (case c_checkcharacter => k_is); (case k_checkcharacter => k_is); (case a_squeezetext => k_is); (case l_squeezetext => k_is); (case c_squeezetext => k_is); (case k_squeezetext => k_is); (case a_lengthafter => k_is); (case l_lengthafter => k_is); (case c_lengthafter => k_is); (case k_lengthafter => k_is); (case a_lengthafterone => k_is); (case l_lengthafterone => k_is); (case c_lengthafterone => k_is); (case k_lengthafterone => k_is); (case a_lengthsbetween => k_is); (case l_lengthsbetween => k_is); (case c_lengthsbetween => k_is); (case k_lengthsbetween => k_is); (case a_lawpool => k_is); (case l_lawpool => k_is); (case c_lawpool => k_is); (case k_lawpool => k_is); (case a_lawdraw => k_is); (case l_lawdraw => k_is); (case c_lawdraw => k_is); (case k_lawdraw => k_is); (case a_lawlist => k_is); (case l_lawlist => k_is); (case c_lawlist => k_is); (case k_lawlist => k_is); (case a_lawtext => k_is); (case l_lawtext => k_is); (case c_lawtext => k_is); (case k_lawtext => k_is); (case a_lawreplaced => k_is); (case l_lawreplaced => k_is); (case c_lawreplaced => k_is); (case k_lawreplaced => k_is); (case a_lawruns => k_is); (case l_lawruns => k_is); (case c_lawruns => k_is); (case k_lawruns => k_is); (case a_lawtoldright => k_is); (case l_lawtoldright => k_is); (case c_lawtoldright => k_is); (case k_lawtoldright => k_is); (case a_lawon => k_is); (case l_lawon => k_is); (case c_lawon => k_is); (case k_lawon => k_is); (case a_lawmanyright => k_is); (case l_lawmanyright => k_is); (case c_lawmanyright => k_is); (case k_lawmanyright => k_is); (case a_lawright => k_is); (case l_lawright => k_is); (case c_lawright => k_is); (case k_lawright => k_is); (case a_law => k_is); (case l_law => k_is); (case c_law => k_is); (case k_law => k_is); (case z_len => k_is); (case z_min => k_is); (case z_max => k_is); (case z_abs => k_is); (case z_range => k_is); (case z_isinstance => k_is); (case z_repr => k_is); (case z_enumerate => k_is); (case z_reversed => k_is); (case z_sorted => k_is); (case z_bool => k_is); (case z_int => k_is); (case z_str => k_is); (case z_list => k_is); (case z_tuple => k_is); (case z_set => k_is); (case z_sum => k_is); (case z_zip => k_is); (case z_all => k_is); (case z_any => k_is); (case z_ValueError => k_is); (case z_divmod => k_is); (case aCT => k_is); (case pgCT => k_is); (case hdCT => k_is); (case poCT => k_is); (case saCT => k_is); (case mkCT => k_is); (case kcCT => k_is); (case nCT_0 => k_is); (case nCT_1 => k_is); (case nCT_2 => k_is); (case a_SqueezedTextinit => k_is); (case i_SqueezedTextinit => k_is); (case l_SqueezedTextinit => k_is); (case c_SqueezedTextinit => k_is); (case k_SqueezedTextinit => k_is); (case a_SqueezedTextsqueeze => k_is); (case i_SqueezedTextsqueeze => k_is); (case l_SqueezedTextsqueeze => k_is); (case c_SqueezedTextsqueeze => k_is); (case k_SqueezedTextsqueeze => k_is); (case a_SqueezedTextundo => k_is); (case i_SqueezedTextundo => k_is); (case l_SqueezedTextundo => k_is); (case c_SqueezedTextundo => k_is); (case k_SqueezedTextundo => k_is); (case a_SqueezedTextruns => k_is); (case i_SqueezedTextruns => k_is); (case l_SqueezedTextruns => k_is); (case c_SqueezedTextruns => k_is); (case k_SqueezedTextruns => k_is); (case a_SqueezedTexttext => k_is); (case g_SqueezedTexttext => k_is); (case t_SqueezedTexttext => k_is); (case r_SqueezedTexttext => k_is); (case l_SqueezedTexttext => k_is); (case c_SqueezedTexttext => k_is); (case k_SqueezedTexttext => k_is); (case a_SqueezedTextreplacements => k_is); (case g_SqueezedTextreplacements => k_is); (case t_SqueezedTextreplacements => k_is); (case r_SqueezedTextreplacements => k_is); (case l_SqueezedTextreplacements => k_is); (case c_SqueezedTextreplacements => k_is); (case k_SqueezedTextreplacements => k_is); (case a_SqueezedTextlongest => k_is); (case g_SqueezedTextlongest => k_is); (case t_SqueezedTextlongest => k_is); (case r_SqueezedTextlongest => k_is); (case l_SqueezedTextlongest => k_is); (case c_SqueezedTextlongest => k_is); (case k_SqueezedTextlongest => k_is); (case bg_sq => k_is); (case bt_sq => k_is); (case bf_sq => k_is)
