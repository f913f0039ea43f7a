import PyProof.Rows.All
import Wide.All
import OpenK.AllK
import Wide.FinOn
import HandS.ForMost
import HandS.IsInst
import HandS.Walk
import HandS.Defaults
import HandS.RaiseMore
import HandS.Wide
import HandS.Exc
import HandS.ExcOwn
import HandS.ExcInit
import HandS.ExcSuper
import KE.KExcSuper
import HandS.ExcValue
import HandS.ExcIs
import HandS.ExcField
import HandS.GenList
import HandS.WordsExc
import HandS.HotCalls
import HandS.Comp
import HandS.Deep
import HandS.Text
import HandS.StrMore
import HandS.Style
import HandS.GenBody
import HandS.GenYield
import PyProof.GenComp
import PyProof.ForAny
import HandS.Strs
import HandS.SetBool
import HandS.SuiteRaise
import HandS.Iter
import HandS.Property
import HandS.MakeKw
import HandS.MakeKwOnly
import PyProof.FactsSeq
import HandS.Replace
import HandS.GenOver
import HandS.Words
import HandS.WideBits
import HandS.SortInts
import HandS.Set
import HandS.SetFor
import HandS.Zip
import HandS.DictComp
import KE.GoesMore
import PyProof.LongRange
import HandS.More
import HandS.FStr
import HandS.NoneIn
import HandS.ReplaceList
import HandS.Codes
import PySem.Challenge.RW_squeezelists_k03_whole_texts_squeezed
set_option Elab.async false
set_option linter.all false
set_option maxRecDepth 100000
set_option maxHeartbeats 2000000
/-! The layer for the laws: a def of the law run at the outermost call (where no repr is under way), repr of data, calls by keywords alone. -/
namespace Sq
open PySem PySem.Spec PyProof.Rows L2
/-! ### the law's own def, at one given surrounding -/
theorem fnAt {CX : CXT} {P : Program} {w : World} {K : PySem.W.Frag} {mg : Str → Option Value} {base : Heap} {k : Nat} {f : Addr} {nmF qualF : Str} {prm : Arguments} {bd : List Stmt} {scp : Scope}
    {dflt kwd docv pmv cdv ctv ocv : Value} {anv odv : Option Addr} {slv : Array (Option Value)} {names prs : List Str} {sp : Sp} {A : Around}
    (stands : K.lookup f = some ⟨ocv, odv, .func (PySem.W.fnOf nmF qualF prm bd scp dflt kwd docv pmv anv cdv ctv), slv⟩)
    (code : PySem.W.codeIn K cdv qualF = true) (sc : FnScope names prs scp)
    (count : ∀ vs H Q E, sp vs H Q E → vs.length = prs.length)
    (inner : ∀ (outer : List Env) (s : Shared) (H : Hp) (vs : List V) (Q : VK) (E : XK), Room k (A.deeper (envOfC qualF scp s.heap.objs.size f cdv)) → sp vs H Q E →
      ∃ t, PSs (cxOf CX P w K mg base names qualF scp f cdv A outer s H E) bd t ∧ t { nx := fun _ H' => Q .non H', rt := Q } (start names vs) H)
    {outer : List Env} {s : Shared} {H : Hp} {ag : Args} {us : List Value} {vs : List V} {Q : VK} {E : XK}
    (room : Room (k + 1) A) (entry : Env0 P w K mg base A outer s H)
    (bound : BindsTo s (PySem.W.fnOf nmF qualF prm bd scp dflt kwd docv pmv anv cdv ctv) ag (prs.zip us)) (rel : Vals vs us) (wish : sp vs H Q E) :
    codeAny (model P w) A (.call (.ref f) ag) (CR CX outer P w H s Q E) s := by
  have written : K.In s.heap := entry.mod.kin.keeps (fun b o e => (entry.bs b o e).1)
  have roomy : s.heap.NoLimit := entry.mod.nolimit.keeps (fun b o e => (entry.bs b o e).1)
  refine codeAny_call_function room.depth (written _ _ stands) rfl sc.co sc.gen rfl (PySem.W.codeRec_of written code) (bound _ _ _ _ ?_)
  refine wpAny_newFunctionEnv_cells sc.kind ?kinds ?body
  case kinds =>
    rintro ⟨n, v⟩ hn
    have inP := (List.of_mem_zip hn).1
    cases sc.par n inP with
    | inl q => exact Or.inl q
    | inr q => exact Or.inr ⟨q, PySem.W.cellsFrom_some _ _ _ (Or.inl q)⟩
  case body =>
    intro env eqn s1 fresh
    subst eqn
    refine ⟨roomy.keeps fresh.toInCall.keep, codeAny_func ?_⟩
    obtain ⟨t, steps, holds⟩ := inner outer s H vs Q E (room.deeper _) wish
    have inv := inv_start (CX := CX) (mg := mg) (base := base) (E := E) sc room.hd entry (count _ _ _ _ wish) rel fresh
    refine wpAny_mono (steps.run [] s1 (start names vs) H _ inv holds) ?_ (fun _ _ q => q)
    intro flow s' got
    cases flow with
    | ret u =>
      obtain ⟨v, σ', H', J, rv, q⟩ := got
      exact ⟨v, H', J.os, J.bare, J.base, J.hok, rv, q⟩
    | next =>
      obtain ⟨σ', H', J, q⟩ := got
      exact ⟨V.non, H', J.os, J.bare, J.base, J.hok, rfl, q⟩
    | brk => exact got.elim fun _ h => h.elim fun _ h => False.elim h.2
    | cont => exact got.elim fun _ h => h.elim fun _ h => False.elim h.2
/-- what the top's def promises at the outermost call alone -/
def Top (P : Program) (w : World) (K : PySem.W.Frag) (mg : Str → Option Value) (base : Heap) (k : Nat) (f : Addr) (fd : FuncData) (x : Str) (sp : Sp) : Prop :=
  ∀ (s : Shared) (H : Hp) (ag : Args) (u : Value) (v : V) (Q : VK), Env0 P w K mg base callerA [] s H → BindsTo s fd ag [(x, u)] → RelV v u → sp [v] H Q (fun _ _ _ => False) →
    codeAny (model P w) callerA (.call (.ref f) ag) (CR CX0 [] P w H s Q (fun _ _ _ => False)) s
theorem atTop {P : Program} {w : World} {K : PySem.W.Frag} {mg : Str → Option Value} {base : Heap} {k : Nat} {f : Addr} {fd : FuncData} {x y qual : Str} {st : Stmt} {names : List Str} {sp : Sp}
    (F : Fun K y qual st f fd) (sc : FnScope names [x] (defScope st)) (room : Room (k + 1) callerA) (count : ∀ vs H Q E, sp vs H Q E → vs.length = 1)
    (inner : ∀ (cdv : Value) (outer : List Env) (s : Shared) (H : Hp) (vs : List V) (Q : VK) (E : XK), Room k (callerA.deeper (envOfC qual (defScope st) s.heap.objs.size f cdv)) → sp vs H Q E →
      ∃ t, PSs (cxOf CX0 P w K mg base names qual (defScope st) f cdv callerA outer s H E).nox (defBody st) t ∧ t { nx := fun _ H' => Q .non H', rt := Q } (start names vs) H) :
    Top P w K mg base k f fd x sp := by
  intro s H ag u v Q e0 hb hv hs
  obtain ⟨oc, od, kV, doc, pm, an, cdv, ct, osl, rfl, lk, hcd⟩ := F.ex
  refine fnAt (us := [u]) (vs := [v]) lk hcd sc count (fun outer s' H' vs' Q' E' room' wish => ?_) room e0 hb (.cons hv .nil) hs
  obtain ⟨t, h, q⟩ := inner cdv outer s' H' vs' Q' E' room' wish
  exact ⟨t, h.nox, q⟩
/-- from the def's promise at the outermost call to the row's claim about that call -/
theorem lawAt {P : Program} {w : World} {K : PySem.W.Frag} {mg mb : Str → Option Value} {k : Nat} {fa a : Addr} {fd : FuncData} {x : Str} {sp : Sp} {s₁ : Shared} {cells : List Value} {nums : List Int}
    (inK : K.In s₁.heap) (nsM : s₁.heap.Ns mainGlobals mg) (nsB : s₁.heap.Ns builtinsNs mb) (boot : ∀ y : Str, y ≠ "__name__" → mb y = bootBuiltins y) (lim : s₁.heap.NoLimit) (gens : s₁.gens = #[])
    (script : s₁.heap.get? a = some { cls := .type "list", data := .seq cells.toArray }) (are : IntsAre cells nums) (few : nums.length ≤ sizeLine)
    (main : ∀ base : Heap, K.In base → base.Ns mainGlobals mg → Top P w K mg base k fa fd x sp) (binds : ∀ (s : Shared) (u : Value), BindsTo s fd ⟨[u], []⟩ [(x, u)])
    (told : ∀ H : Hp, Only H → SqL K H a (nums.map V.int) → sp [.ref a] H (fun v _ => v = .bl true) fun _ _ _ => False) :
    codeAny (model P w) callerA (.call (.ref fa) ⟨[.ref a], []⟩) (fun r s' => r = .ok (.ret (.bool true)) ∧ OldK s₁.heap s'.heap ∧ s'.os = s₁.os ∧ AllBare s'.gens) s₁ := by
  have rel := vals_ints are
  have same := are.length
  suffices goal : ∀ H : Hp, Only H → SqL K H a (nums.map V.int) → HOk P w H s₁.heap → (∀ b o, H b = some o → b = a ∧ K.lookup a = none) →
      codeAny (model P w) callerA (.call (.ref fa) ⟨[.ref a], []⟩) (fun r s' => r = .ok (.ret (.bool true)) ∧ OldK s₁.heap s'.heap ∧ s'.os = s₁.os ∧ AllBare s'.gens) s₁ by
    cases look : K.lookup a with
    | some o =>
      have here := inK a o look
      rw [script] at here
      cases here
      exact goal (fun _ => none) (fun _ => Or.inl rfl) (Or.inr ⟨_, cells.toArray, _, look, rfl, rfl, rfl, (by rw [List.size_toArray, same]; exact few), (by simpa using rel)⟩) (fun b u z => by cases (show (none : Option HO) = some u from z)) (fun b o z => by cases (show (none : Option HO) = some o from z))
    | none =>
      let Ha : Hp := fun b => if b = a then some (.frz { cls := .type "list", data := .seq cells.toArray } (.lst (nums.map V.int))) else none
      have at_a : Ha a = some (.frz { cls := .type "list", data := .seq cells.toArray } (.lst (nums.map V.int))) := if_pos rfl
      have off : ∀ b o, Ha b = some o → b = a := fun b o z => by
        by_cases hb : b = a
        · exact hb
        · rw [show Ha b = none from if_neg hb] at z
          cases z
      refine goal Ha (fun b => ?_) (Or.inl (Or.inr ⟨_, at_a⟩)) (fun b u z => ?_) (fun b o z => ⟨off b o z, look⟩)
      · by_cases hb : b = a
        · exact Or.inr ⟨_, _, if_pos hb⟩
        · exact Or.inl (if_neg hb)
      · obtain rfl := off b u z
        rw [at_a] at z
        cases z
        exact ⟨script, by rw [List.length_map]; exact few, cells, _, rel, script⟩
  intro H only seq hok apart
  have free : ∀ {b : Addr} {o : Obj}, s₁.heap.get? b = some o → (∀ u, H b = some u → False) → (hidT s₁.heap H).get? b = some o := fun {b o} e n =>
    hidT_get e (by
      cases q : H b with
      | none => rfl
      | some u => exact (n u q).elim)
  have nsH : ∀ {b : Addr} {m : Str → Option Value}, s₁.heap.Ns b m → (hidT s₁.heap H).Ns b m := by
    rintro b m ⟨o, es, ep, e, d, r⟩
    refine ⟨o, es, ep, free e fun u z => ?_, d, r⟩
    obtain ⟨rfl, _⟩ := apart b u z
    rw [script] at e
    cases e
    cases (show Data.seq cells.toArray _ = Data.dict es ep from d)
  have kH : K.In (hidT s₁.heap H) := fun b o e => free (inK b o e) fun u z => by
    obtain ⟨rfl, n⟩ := apart b u z
    rw [n] at e
    cases e
  have mod : Mod K mg (hidT s₁.heap H) := ⟨kH, nsH nsM, ⟨mb, nsH nsB, boot⟩, let ⟨mc, h1, h2⟩ := lim; ⟨mc, nsH h1, h2⟩⟩
  have entry : Env0 P w K mg (hidT s₁.heap H) callerA [] s₁ H :=
    ⟨rfl, mod, fun b o e => of_hidT e, Nat.le_of_eq (hidT_size _ _), trivial, fun b hb => absurd (show b ∈ ([] : List Addr) from hb) (by simp), hok, .of_eq gens⟩
  refine codeAny_mono (main _ kH (nsH nsM) s₁ H ⟨[.ref a], []⟩ (.ref a) (.ref a) _ entry (binds s₁ (.ref a)) rfl (told H only seq)) ?_
  intro r s' got
  match r, got with
  | .ok (.ret u), got =>
    obtain ⟨v, H', os, bare, un, hok', rv, q⟩ := got
    obtain rfl : v = .bl true := q
    obtain rfl : u = Value.bool true := rv
    refine ⟨rfl, OldK.of_keep fun b o e => ?_, os, bare⟩
    rcases only b with z | ⟨ob, xs, z⟩
    · exact un.keep b o e z (by intro y; exact absurd (show b ∈ ([] : List Addr) from y) (by simp)) (by simp)
    · obtain ⟨e1, _⟩ := hok b _ z
      obtain ⟨e2, _⟩ := hok' b _ (un.frzs b ob _ z)
      rw [e] at e1
      cases e1
      exact e2
/-- the goal that k_head leaves, from the law's promise at the outermost call -/
theorem walkAt {l : PySem.W.OpenLaw} {n k : Nat} {q : Program} {loose : List Str} {XP : (Str → Option Value) → Heap → Prop} {YP : World → Heap → Prop} {d : DefRec} {K : Params → PySem.W.Frag} {sp : World → Sp} {x : Str}
    (most : l.most = some n) (line : n ≤ sizeLine) (plain : d.params.defaults = []) (inK : ∀ (w : World) (h : Heap), YP w h → (K w.params).In h)
    (F : ∀ (w : World) (mg : Str → Option Value) (fa : Addr) (h : Heap), (K w.params).In h → h.Ns mainGlobals mg → mg d.name = some (.ref fa) →
      ∃ fd : FuncData, (∀ (s : Shared) (u : Value), BindsTo s fd ⟨[u], []⟩ [(x, u)]) ∧ ∀ base : Heap, (K w.params).In base → base.Ns mainGlobals mg → Top l.prog w (K w.params) mg base k fa fd x (sp w))
    (told : ∀ (w : World) (H : Hp) (a : Addr) (ns : List Int), ns.length ≤ n → Only H → SqL (K w.params) H a (ns.map V.int) → sp w [.ref a] H (fun v _ => v = .bl true) fun _ _ _ => False) :
    PySem.W.WalkO q loose XP YP l.row.toRowW d [] (fun f vs => PySem.call f vs) := by
  refine Att.attach_call most plain ?_
  intro w s₀ s₁ mg mb fa o pm cd doc a vs ns G Y ho hd hcd hmg hobj hints hlen hg
  obtain ⟨fd, hb, hF⟩ := F w mg fa _ (inK w _ Y) G.T.g hmg
  exact lawAt (inK w _ Y) G.T.g G.T.b G.T.builtins G.T.nolimit hg hobj hints (Nat.le_trans hlen line) hF hb fun H hO hS => told w H a ns hlen hO hS
/-! ### repr of data, where no repr is under way -/
def rReprD (K : PySem.W.Frag) : List V → Hp → VK → Prop := fun xs H Q => ∃ a d, xs = [.ref a] ∧ Dp K H (.ref a) d ∧ d.showable = true ∧ d.hasDict = false ∧ d.depth ≤ 40 ∧ d.shown.length ≤ sizeLine ∧ Q (.str d.shown) H
/-! ### f(k = v, ..): keywords alone -/
end Sq
namespace Sq
open PySem PySem.Spec PyProof.Rows L2
/-- what a caller wants of a def of the text: it stands at its name and keeps its promise -/
structure Df (P : Program) (w : World) (K : PySem.W.Frag) (mg : Str → Option Value) (base : Heap) (k : Nat) (x : Str) (ps : List Str) (sp : Sp) : Prop where
  ex : ∃ f fd, FnOk P w K mg base CX0 k f fd ps sp ∧ mg x = some (.ref f) ∧ PySem.W.keepIn K (.ref f) = true ∧ Binds K fd ps []
section
variable {X : Cx} {k : Nat} {ps : List Str} {sp : Sp} {x : Str} {p pos : Pos} {e : Expr} {es : List Expr} {t : TA}
theorem pe_callD (D : Df X.prog X.w X.K X.mg X.base k x ps sp) (hr : Room k X.A) (hg : Gl X x) (ha : PA X (e :: es) t) (hdb : (x == ("__debug__" : Str)) = false := by decide)
    (he : starEach (e :: es) X.env = (false, eval e X.env) :: starEach es X.env := by rfl) (hpl : (backTo pos (starEach es X.env)).any (·.1) = false := by rfl) :
    PE X (.Call (.Name x p) (e :: es) [] pos) (tCall sp [] E0 t) := by
  obtain ⟨f, fd, F, g, kp, b⟩ := D.ex
  exact pe_call F hr hg g kp b .nil pass0 ha hdb he hpl
end
section
variable {P : Program} {w : World} {K : PySem.W.Frag} {mg : Str → Option Value} {base : Heap}
/-- a def without defaults, from its place in the text and its promise -/
theorem Df.mk' {k : Nat} {x : Str} {st : Stmt} {ps : List Str} {sp : Sp} {f : Addr} {fd : FuncData} (F : Fun K x x st f fd) (G : FnOk P w K mg base CX0 k f fd ps sp) (g : mg x = some (.ref f)) (b : Binds K fd ps []) : Df P w K mg base k x ps sp :=
  ⟨⟨f, fd, G, g, F.kp, b⟩⟩
end
end Sq
namespace Sq
open PySem PySem.Spec PyProof.Rows L2
/-- a def with defaults, no error leaves it -/
theorem okD {P : Program} {w : World} {K : PySem.W.Frag} {mg : Str → Option Value} {base : Heap} {x qual : Str} {prm : Arguments} {bd : List Stmt} {scp : Scope} {dvs : List V} {kws : List (Str × V)} {f : Addr} {fd : FuncData} {names ps : List Str} {k : Nat} {sp : Sp}
    (F : FunD K x qual prm bd scp dvs kws f fd) (sc : FnScope names ps scp) (count : ∀ vs H Q E, sp vs H Q E → vs.length = ps.length)
    (inner : ∀ (cdv : Value) (A : Around) (outer : List Env) (s : Shared) (H : Hp) (vs : List V) (Q : VK) (E : XK), Room k (A.deeper (envOfC qual scp s.heap.objs.size f cdv)) → sp vs H Q E →
      ∃ t, PSs (cxOf CX0 P w K mg base names qual scp f cdv A outer s H E).nox bd t ∧ t { nx := fun _ H' => Q .non H', rt := Q } (start names vs) H) : FnOk P w K mg base CX0 (k + 1) f fd ps sp :=
  F.ok sc count fun cdv A outer s H vs Q E hr h => let ⟨t, a, b⟩ := inner cdv A outer s H vs Q E hr h; ⟨t, a.nox, b⟩
end Sq
set_option Elab.async false
set_option linter.all false
set_option maxRecDepth 100000
set_option maxHeartbeats 2000000
/-! Own errors whose __init__ says super().__init__(..) and stores its argument as value. -/
namespace SqX
open PySem PySem.W PySem.Calls PyProof.Rows PySem.HandSPX
def xA (p1 p2 : Pos) : Arguments := { posonlyargs := [], args := [{ arg := "self", annotation := none, pos := p1 }, { arg := "value", annotation := none, pos := p2 }], vararg := none, kwonlyargs := [], kw_defaults := [], kwarg := none, defaults := [] }
def xB (msg : Str) (j : Nat) (q0 q1 q2 q3 q4 q5 r1 r2 r3 r4 : Pos) : List Stmt :=
  [.Expr (.Call (.Attribute (.Call (.Name "super" q0) [] [] q1) "__init__" q2) [.Constant (.str msg) j q3] [] q4) q5, .Assign [.Attribute (.Name "self" r1) "value" r2] (.Name "value" r3) r4]
def xS : Scope := { kind := .function, names := [(PySem.Str.ofString "self", .local), (PySem.Str.ofString "value", .local), (PySem.Str.ofString "__class__", .free), (PySem.Str.ofString "super", .globalImplicit)], isGenerator := false, isCoroutine := false, more := [] }
/-- what the written part says of such a class at C, of its __init__ at fI -/
structure Er (K : Frag) (prog : Program) (C fI : Addr) (q : Str) : Prop where
  cls : ∃ nm qn N bs bm sn sub ab col dd k0 k1 k2 k3 k5, K.lookup C = some (excClassObj nm qn C N bs bm true sn sub ab col dd k0 k1 k2 k3 k5 "ValueError.__new__") ∧ refsVE bm = true
  sa : findIn K (.ref C) "__setattr__" = some (some (.builtin "object.__setattr__"))
  noV : findIn K (.ref C) "value" = some none
  iC : findIn K (.ref C) "__init__" = some (some (.ref fI))
  tC : typeIn K (.ref fI) = some (.type "function")
  kC : keepIn K (.ref C) = true
  exC : subIn K (.ref C) (.type "BaseException") = some true
  veC : subIn K (.ref C) (.type "ValueError") = some true
  tyC : typeIn K (.ref C) = some (.type "type")
  mC : mroIn K C (.ref C) = some true
  suC : ks_superIn K C C "__init__" = some (some (.builtin "ValueError.__init__"))
  third : nsIn K cStatics "thirdparty.any" = some none
  super : nsIn K mainGlobals "super" = some none
  top : (prog.main.scope.names.lookup ("super" : Str)).isSome = false
  fn : ∃ (oc : Value) (od : Option Addr) (doc pm : Value) (an : Option Addr) (ct : Value) (osl : Array (Option Value)) (cda cc : Addr) (msg : Str) (j : Nat) (p1 p2 q0 q1 q2 q3 q4 q5 r1 r2 r3 r4 : Pos) (ccl : Value) (cdd : Option Addr) (vs : Array Value) (ccs : Array (Option Value)) (file : Str) (tf : Tok) (cl : Value) (cld : Option Addr) (csl : Array (Option Value)),
    K.lookup fI = some ⟨oc, od, .func (ksFn "__init__" q (xA p1 p2) (xB msg j q0 q1 q2 q3 q4 q5 r1 r2 r3 r4) xS .none .none doc pm an (.ref cda) ct cc), osl⟩ ∧ codeIn K (.ref cda) q = true ∧
    K.lookup cda = some ⟨ccl, cdd, .fields vs, ccs⟩ ∧ vs[2]? = some (.str file tf) ∧ ((prog.main.file : Str) == file) = true ∧ K.lookup cc = some ⟨cl, cld, .cell (some (.ref C)), csl⟩ ∧ (q2.endLine == q4.line) = true
/-- what __init__ leaves of a fresh exception at x -/
structure Inited (h h' : Heap) (x C dx t1 : Addr) (v : Value) : Prop where
  keep : ∀ b o, b ≠ x → h.get? b = some o → h'.get? b = some o
  obj : h'.get? x = some { cls := .ref C, dict := some dx, data := .fields #[.ref t1, .none, .none, .none, .bool false, .none] }
  dbig : h.objs.size ≤ dx
  dne : dx ≠ x
  ns : h'.Ns1 dx (fun y => if y = "value" then some v else none)
theorem one_size (v : Value) : [v].length ≤ sizeLine := by
  rw [sizeLine_eq]
  exact (by decide : 1 ≤ 16777216)
theorem call_is {o e : Expr} {name : Str} {apos pos : Pos} {env : Env} (hline : (apos.endLine == pos.line) = true) (he : starEach [e] env = [(false, eval e env)]) :
    eval (.Call (.Attribute o name apos) [e] [] pos) env = (do
      let ov ← attributeBase o name env (eval o env)
      standAt apos.atName
      let (f, first) ← holding [ov] (getMethod ov name (do return (← importBound o env).getD true))
      callWith pos f first (backTo pos (starEach [e] env)) []) := by
  rw [arm_eval_Call]
  have hf : methodCallForm 1 (backTo pos (starEach [e] env)) (backToKw pos (keywordEach [] env)) = true := by
    rw [he]
    rfl
  have hp : methodCallPos true o env apos pos = pure pos := by
    unfold methodCallPos
    simp [hline]
  refine congrArg _ (funext fun ov => congrArg _ (funext fun _ => ?_))
  show methodCall o name apos pos env ov 1 (backTo pos (starEach [e] env)) (backToKw pos (keywordEach [] env)) = _
  unfold methodCall
  rw [hf, hp]
  rfl
/-- the bound ValueError.__init__ called: the args are laid anew -/
theorem call_mw {prog : Program} {w : World} {A : Around} {E : Value → Shared → Prop} {h : Heap} {g : Array GenState} {d : Drawn} {t : Nat} {os : OsState}
    {nm qn : Str} {C N : Addr} {bs bm : List Value} {hdct : Bool} {sn : List Str} {sub : List Value} {ab : Bool} {col : Option Bool} {dd : Option Addr} {k0 k1 k2 k3 k5 : Option Value} {u e t0 : Addr} {rest : List Value} {Q : Value → Shared → Prop}
    (atC : h.get? C = some (excClassObj nm qn C N bs bm hdct sn sub ab col dd k0 k1 k2 k3 k5 "ValueError.__new__")) (atE : h.get? e = some (excO C t0)) (atU : h.get? u = some (kxs_mw "ValueError.__init__" e)) (line : rest.length ≤ sizeLine)
    (fin : ∀ h' t1, (∀ b o, b ≠ e → h.get? b = some o → h'.get? b = some o) → h'.get? e = some (excO C t1) → Q .none ⟨h', g, d, t, os⟩) :
    wpAny (model prog w) A (call (.ref u) rest) Q E ⟨h, g, d, t, os⟩ := by
  refine wpAny_call (codeAny_of_tree ?_)
  show wpAny _ A.in1 (callAny (.ref u) ⟨rest, []⟩) _ _ _
  simp only [callAny]
  refine wpAny_bind (wpAny_load atU ?_)
  simp only [kxs_mw, show (Value.type "method-wrapper" == Value.type "method" || Value.type "method-wrapper" == Value.type "builtin_function_or_method" || Value.type "method-wrapper" == Value.type "method-wrapper") = true by decide, if_true]
  refine W.KFB.if_so (by decide) ?_
  refine wpAny_bind (ESX.check_bound F.excBase_ValueError atC atE rfl ?_)
  refine wpAny_bind (wpAny_pure (wpAny_pure ?_))
  refine ⟨Code.quiet_builtin _ (by decide +kernel), codeAny_builtin F.excBase_ValueError.initEntry ?_⟩
  rw [Around.under_plainId F.excBase_ValueError.init.plain _]
  wp_walk
  refine fin _ h.objs.size (fun b o nb hb => ?_) ?_
  · exact (Heap.get?_update_other _ _ (Ne.symm nb)).trans (Heap.get?_push_of_some _ hb)
  · exact (Heap.get?_update_self _ (Heap.get?_push_of_some _ atE) rfl).trans rfl
section
variable {prog : Program} {w : World} {A : Around} {E : Value → Shared → Prop} {R : Result → Shared → Prop} {s : Shared} {K : Frag} {mg : Str → Option Value} {base : Heap} {C fI : Addr} {q : Str}
theorem init (T : Er K prog C fI q) {x t0 : Addr} {v : Value} {args : Args} (X : K.In s.heap) (hg : s.heap.Ns mainGlobals mg) (hlim : s.heap.NoLimit) {mb : Str → Option Value} (hb : s.heap.Ns builtinsNs mb) (boot : ∀ y : Str, y ≠ "__name__" → mb y = bootBuiltins y)
    (hx : s.heap.get? x = some (excO C t0)) (hnx : K.lookup x = none) (hroom : A.depth < recursionLimit)
    (hargs : ∀ fd : FuncData, (∃ p1 p2 bd doc pm an cda ct cc, fd = ksFn "__init__" q (xA p1 p2) bd xS .none .none doc pm an (.ref cda) ct cc) → BindsTo s fd args [("self", .ref x), ("value", v)])
    (hq : ∀ h' tk dx t1, Inited s.heap h' x C dx t1 v → R (.ok (.ret .none)) { s with heap := h', toks := tk }) :
    codeAny (model prog w) A (.call (.ref fI) args) R s := by
  obtain ⟨oc, od, doc, pm, an, ct, osl, cda, cc, msg, j, p1, p2, q0, q1, q2, q3, q4, q5, r1, r2, r3, r4, ccl, cdd, vs, ccs, file, tf, cl, cld, csl, ho, hcd, hcode, hvs, hfile, hcell, hline⟩ := T.fn
  obtain ⟨nm, qn, N, bs, bm, sn, sub, ab, col, dd, k0, k1, k2, k3, k5, hC, hbm⟩ := T.cls
  have hcl : clsIn K C = some { name := nm, bases := bs, mro := .ref C :: bm, ns := N, qualname := qn, hasDict := true, slotNames := sn, subclasses := sub, abstract := ab, collection := col, hasDel := false } := by unfold clsIn; rw [hC] <;> rfl
  refine ks_codeAny_call_defAt (fd := ksFn "__init__" q (xA p1 p2) (xB msg j q0 q1 q2 q3 q4 q5 r1 r2 r3 r4) xS .none .none doc pm an (.ref cda) ct cc) (binds := [("self", .ref x), ("value", v)]) hroom (X _ _ ho) rfl hlim (codeRec_of X hcd) rfl
    (hargs _ ⟨_, _, _, _, _, _, _, _, _, rfl⟩) (show ∀ x ∈ xS.names, x.2 ≠ .cell by decide) (fun y hy => ?loc) (fun h₁ hns k => ?_)
  case loc =>
    rcases List.mem_cons.mp hy with rfl | hy
    · exact (show xS.names.lookup ("self" : Str) = some .local by decide)
    · obtain rfl := List.mem_singleton.mp hy
      exact (show xS.names.lookup ("value" : Str) = some .local by decide)
  have X₁ : K.In h₁ := X.keeps k
  have hx₁ := k _ _ hx
  obtain ⟨hh, g, d, t, os⟩ := s
  show _root_.PySem.wpAt _ _ _ (execs (xB msg j q0 q1 q2 q3 q4 q5 r1 r2 r3 r4) _) _ _ _
  refine ks_wpAt_execs_cons (ks_wpAt_Expr_any (ks_wpAt_MethodCall ?_ (call_is hline rfl)))
  obtain ⟨oD, hD1, hD2⟩ : ∃ oD, h₁.get? C = some oD ∧ ∃ cdD, oD.data = .cls cdD := ⟨_, X₁ _ _ hC, _, rfl⟩
  obtain ⟨cdD, hD2⟩ := hD2
  have I₁ : InstAt h₁ x (excO C t0) C none := ⟨hx₁, rfl, rfl, trivial⟩
  refine ks_wpAt_super_base (f := fI) (cc := cda) rfl rfl rfl rfl (X₁ _ _ ho) rfl rfl rfl (X₁ _ _ hcode) rfl hvs hfile T.top ?_
  refine ks_loadName_global rfl rfl (loadGlobal_builtin (hg.keeps k) (mg_none_of X hg T.super) (hb.keeps k) ((boot _ (by decide +kernel)).trans (by decide +kernel)) ⟨rfl, ?_⟩)
  refine wpAny_loadName_free rfl rfl rfl ⟨_, X₁ _ _ hcell, rfl⟩ ?_
  refine wpAny_loadName_local (v := .ref x) rfl rfl hns rfl ?_
  refine ks_wpAny_isType_cls hD1 hD2 ⟨rfl, ?_⟩
  refine ks_wpAny_call_super hD1 hD2 I₁.at_ I₁.cls (fun c e => by cases e) (looks_mroIn X₁ T.mC) (fun h₂ e₂ k₂ => ?_)
  have X₂ : K.In h₂ := X₁.keeps k₂
  have hx₂ := k₂ _ _ hx₁
  have I₂ : InstAt h₂ x (excO C t0) C none := ⟨hx₂, rfl, rfl, trivial⟩
  have al := T.suC
  unfold ks_superIn at al
  rw [hcl] at al
  refine kxs_getMethod kxs_ValueError e₂ (looks_opaque X₂ T.third) (l₀ := .ref C :: bm) ((looks_clsIn X₂ hcl).andThen .now) rfl X₂ al (I₂.type.andThen (looks_subIn X₂ T.veC)) (ks_ne X₂ I₂ hcl) (by decide) ?_
  have k₃ : ∀ b o, h₂.get? b = some o → (h₂.push (kxs_mw "ValueError.__init__" x)).get? b = some o := fun b o e => Heap.get?_push_of_some _ e
  have hu : (h₂.push (kxs_mw "ValueError.__init__" x)).get? h₂.objs.size = some (kxs_mw "ValueError.__init__" x) := Heap.get?_push_at rfl rfl
  refine kxs_callWith (i := "ValueError.__init__") (x := x) rfl (evalArgs_plain ?_)
  refine Calls.spliced_cons ?_
  show wpAny _ _ (eval (.Constant (.str msg) j q3) _) _ _ _
  refine Calls.Constant_str ?_
  refine Calls.spliced_nil ⟨hu, ?_⟩
  refine call_mw (k₃ _ _ (X₂ _ _ hC)) (k₃ _ _ hx₂) hu (one_size _) (fun h₄ t1 k₄ hx₄ => ?_)
  have kk : ∀ b o, b ≠ x → hh.get? b = some o → h₄.get? b = some o := fun b o nb e => k₄ b o nb (k₃ _ _ (k₂ _ _ (k _ _ e)))
  have X₄ : K.In h₄ := fun a o e => kk a o (fun z => by rw [z, hnx] at e; cases e) (X a o e)
  have nx : hh.objs.size ≠ x := fun z => by
    have := Heap.lt_size hx
    rw [← z] at this
    exact absurd this (Nat.lt_irrefl _)
  have ns₄ : h₄.Ns hh.objs.size (fun y => List.lookup y [(("self" : Str), Value.ref x), ("value", v)].reverse) :=
    hns.at fun o e => k₄ _ _ nx (k₃ _ _ (k₂ _ _ e))
  -- self.value = value
  refine ks_wpAt_execs_cons (wpAt_of_wpAny (plainObj_wpAny_Assign_Attribute ?_))
  refine wpAny_Name (wpAny_loadName_local (v := v) rfl rfl ns₄ rfl ?_) (by decide)
  refine wpAny_Name (wpAny_loadName_local (v := .ref x) rfl rfl ns₄ rfl ?_) (by decide)
  refine set_plain X₄ (ox := excO C t1) (od := none) ⟨hx₄, rfl, rfl, trivial⟩ T.sa ?_
  refine exc_osa X₄ hx₄ hcl (show refsVE (.ref C :: bm) = true from hbm) rfl T.noV (fun h₅ tk₅ dx k₅ dn dne hx₅ hn₅ => ?_)
  have big : hh.objs.size ≤ dx := by
    have l1 : hh.objs.size < h₁.objs.size := hns.lt
    have l2 : h₁.objs.size < h₂.objs.size := Heap.lt_size e₂
    have nu : h₂.objs.size ≠ x := Nat.ne_of_gt (Heap.lt_size hx₂)
    have l4 : h₂.objs.size < h₄.objs.size := Heap.lt_size (k₄ _ _ nu hu)
    have l5 : h₄.objs.size ≤ dx := dn
    exact Nat.le_trans (Nat.le_of_lt (Nat.lt_trans l1 (Nat.lt_trans l2 l4))) l5
  refine wpAt_of_wpAny (wpAny_execs_nil ?_)
  exact hq h₅ tk₅ dx t1 ⟨fun b o nb e => k₅ b o nb (kk b o nb e), hx₅, big, dne, hn₅⟩
end
end SqX
set_option Elab.async false
set_option linter.all false
set_option maxRecDepth 100000
set_option maxHeartbeats 2000000
namespace SqX
open PySem PySem.W PySem.Calls PyProof.Rows PySem.HandSPX
/-- a new error at e, its dict at d -/
structure New (h h' : Heap) (e C d t1 : Addr) (v : Value) : Prop where
  keep : ∀ b o, h.get? b = some o → h'.get? b = some o
  big : h.objs.size ≤ e
  obj : h'.get? e = some { cls := .ref C, dict := some d, data := .fields #[.ref t1, .none, .none, .none, .bool false, .none] }
  dbig : h.objs.size ≤ d
  dne : d ≠ e
  ns : h'.Ns1 d (fun y => if y = "value" then some v else none)
section
variable {prog : Program} {w : World} {A : Around} {E : Value → Shared → Prop} {R : Result → Shared → Prop} {K : Frag} {mg mb : Str → Option Value} {C fI : Addr} {q : Str}
theorem bind2 {s : Shared} {q : Str} {x v : Value} : ∀ fd : FuncData, (∃ p1 p2 bd doc pm an cda ct cc, fd = ksFn "__init__" q (xA p1 p2) bd xS .none .none doc pm an (.ref cda) ct cc) → BindsTo s fd ⟨[x, v], []⟩ [("self", x), ("value", v)] := by
  rintro fd ⟨p1, p2, bd, doc, pm, an, cda, ct, cc, rfl⟩
  exact BindsTo.of_eq (by first | rfl | with_unfolding_all rfl)
theorem made {s : Shared} (T : Er K prog C fI q) {v : Value} (X : K.In s.heap) (hg : s.heap.Ns mainGlobals mg) (hlim : s.heap.NoLimit) (hb : s.heap.Ns builtinsNs mb) (boot : ∀ y : Str, y ≠ "__name__" → mb y = bootBuiltins y)
    (hroom : A.depth + 1 < recursionLimit)
    (fin : ∀ h' tk e d t1, New s.heap h' e C d t1 v → R (.ok (.ret (.ref e))) { s with heap := h', toks := tk }) :
    codeAny (model prog w) A (.call (.ref C) ⟨[v], []⟩) R s := by
  obtain ⟨nm, qn, N, bs, bm, sn, sub, ab, col, dd, k0, k1, k2, k3, k5, hC, hbm⟩ := T.cls
  obtain ⟨hp, g, dr, tk, os⟩ := s
  have k : ∀ b o, hp.get? b = some o → ((hp.push (kdv_tup [v])).push (excO C hp.objs.size)).get? b = some o := fun b o e => Heap.get?_push_of_some _ (Heap.get?_push_of_some _ e)
  have atE : ((hp.push (kdv_tup [v])).push (excO C hp.objs.size)).get? (hp.objs.size + 1) = some (excO C hp.objs.size) := by heap_get
  have off : K.lookup (hp.objs.size + 1) = none := by
    cases e : K.lookup (hp.objs.size + 1) with
    | none => rfl
    | some o => exact absurd (Nat.lt_of_succ_lt (Heap.lt_size (X _ _ e))) (Nat.lt_irrefl _)
  refine call_own F.excBase_ValueError (fun Y => refsVE_contains Y bm hbm) (X _ _ hC) (looks_findIn X T.iC) (fun self => bind_fn X self T.tC) (one_size v) ?_
  refine init (s := ⟨(hp.push (kdv_tup [v])).push (excO C hp.objs.size), g, dr, tk, os⟩) T (X.keeps k) (hg.keeps k) (hlim.keeps k) (hb.keeps k) boot atE off (show A.depth + 1 < recursionLimit from hroom) bind2 ?_
  rintro h' tk' dx t1 ⟨kp, ob, dn, dne, ns⟩
  have old : ∀ b o, hp.get? b = some o → h'.get? b = some o := fun b o e => kp b o (Nat.ne_of_lt (Nat.lt_succ_of_lt (Heap.lt_size e))) (k b o e)
  have z : hp.objs.size + 1 + 1 ≤ dx := by
    first
      | (simpa only [Heap.size_push] using dn)
      | exact dn
      | (have y := dn; rw [Heap.size_push, Heap.size_push] at y; exact y)
  exact ⟨rfl, fin h' tk' (hp.objs.size + 1) dx t1 ⟨old, Nat.le_succ _, ob, Nat.le_trans (Nat.le_trans (Nat.le_succ _) (Nat.le_succ _)) z, dne, ns⟩⟩
end
end SqX
set_option Elab.async false
set_option linter.all false
set_option maxRecDepth 100000
set_option maxHeartbeats 4000000
/-! The same by keyword. -/
set_option Elab.async false
set_option linter.all false
set_option maxRecDepth 100000
set_option maxHeartbeats 2000000
/-! Own errors as values of the layer: made by position and by name, isinstance of them, their value. -/
namespace Sq
open PySem PySem.Spec PyProof.Rows L2
/-- an error of the class at C stands at a, its dict at d; it holds v -/
def ErrAt (H : Hp) (a d C : Addr) (v : V) : Prop := H a = some (exo a C (some d)) ∧ H d = some (exd d [(("value" : Str), v)])
theorem ErrAt.same {H H' : Hp} {a d C : Addr} {v : V} (s : Same H H') (e : ErrAt H a d C v) : ErrAt H' a d C v := ⟨s _ _ e.1, s _ _ e.2⟩
end Sq
set_option Elab.async false
set_option linter.all false
set_option maxRecDepth 100000
set_option maxHeartbeats 2000000
set_option Elab.async false
set_option linter.all false
set_option maxRecDepth 100000
set_option maxHeartbeats 2000000
/-! Own errors raised; a caught one kept behind its suite. -/
namespace Sq
open PySem PySem.Spec PyProof.Rows L2
/-- an error that was raised: its class and its dict are known -/
def exq (a C : Addr) (d : Option Addr) : HO := .ext fun h => ∃ (oe : Obj) (vs : Array Value), h.get? a = some oe ∧ Zc (.ref C) d oe ∧ oe.data = .fields vs
end Sq
set_option Elab.async false
set_option linter.all false
set_option maxRecDepth 100000
set_option maxHeartbeats 4000000
/-! try: .. except X as n: suite, where the caught error is still known behind it. -/
namespace Sq
open PySem PySem.Spec PyProof.Rows L2
/-! ### what is asked of a caught error -/
/-- an error of the class at C was caught at a, its dict at d; it holds v -/
def CaughtAt (H : Hp) (a d C : Addr) (v : V) : Prop := H a = some (exq a C (some d)) ∧ H d = some (exd d [(("value" : Str), v)])
theorem CaughtAt.same {H H' : Hp} {a d C : Addr} {v : V} (s : Same H H') (e : CaughtAt H a d C v) : CaughtAt H' a d C v := ⟨s _ _ e.1, s _ _ e.2⟩
end Sq
set_option Elab.async false
set_option linter.all false
set_option maxRecDepth 100000
set_option maxHeartbeats 2000000
/-! A walk that is left at its first item: for x in g(..): break. -/
set_option Elab.async false
set_option linter.all false
set_option maxRecDepth 100000
set_option maxHeartbeats 2000000
/-! Calls that may raise. -/
namespace Sq
open PySem PySem.Spec PyProof.Rows L2
structure Dx (P : Program) (w : World) (K : PySem.W.Frag) (mg : Str → Option Value) (base : Heap) (k : Nat) (x : Str) (ps : List Str) (sp : Sp) : Prop where
  ex : ∃ f fd, FnOk P w K mg base (L2.CX P w) k f fd ps sp ∧ mg x = some (.ref f) ∧ PySem.W.keepIn K (.ref f) = true ∧ Binds K fd ps []
theorem Dx.mk' {P : Program} {w : World} {K : PySem.W.Frag} {mg : Str → Option Value} {base : Heap} {k : Nat} {x : Str} {st : Stmt} {ps : List Str} {sp : Sp} {f : Addr} {fd : FuncData} (F : Fun K x x st f fd) (G : FnOk P w K mg base (L2.CX P w) k f fd ps sp) (g : mg x = some (.ref f)) (b : Binds K fd ps []) : Dx P w K mg base k x ps sp :=
  ⟨⟨f, fd, G, g, F.kp, b⟩⟩
end Sq
set_option Elab.async false
set_option linter.all false
set_option maxRecDepth 100000
set_option maxHeartbeats 4000000
/-! A def called within an except suite: walks over lists, pairs unpacked, comprehensions, the handled error asked. -/
namespace Sq
open PySem PySem.Spec PyProof.Rows L2 HotX L2H
/-! ### hot contexts -/
/-- wherever the context's invariant holds an error is handled whose context is None -/
def HotW (X : Cx) : Prop := ∀ (pins : List (Addr × Obj)) (σ : L2.St) (H : Hp) (s : Shared), Inv X pins σ H s → ∃ x1, HotAt X.A x1 s.heap
theorem HotC.w {X : Cx} (c : HotC X) : HotW X := fun _ _ _ _ I => c.at I
end Sq
set_option Elab.async false
set_option linter.all false
set_option maxRecDepth 100000
set_option maxHeartbeats 4000000
/-! A def of the law called within an except suite with the caught error. -/
namespace Sq
open PySem PySem.Spec PyProof.Rows L2 HotX L2H
/-- what a def promises there: e the handled error, its class, its dict -/
abbrev SpZ := Addr → Value → Option Addr → Sp
structure FnHZ (P : Program) (w : World) (K : PySem.W.Frag) (mg : Str → Option Value) (base : Heap) (CX : CXT) (k : Nat) (f : Addr) (fd : FuncData) (ps : List Str) (sp : SpZ) : Prop where
  len : ∀ a c d vs H Q E, sp a c d vs H Q E → vs.length = ps.length
  run : ∀ (A : Around) (outer : List Env) (s : Shared) (H : Hp) (args : Args) (us : List Value) (vs : List V) (Q : VK) (E : XK) (p : Addr × Obj) (cls : Value) (d : Option Addr), RoomH k A → Hot1 A p → L2N.Zn cls d p.2 → PinOk outer H s p → Env0 P w K mg base A outer s H → BindsTo s fd args (ps.zip us) → Vals vs us → sp p.1 cls d vs H Q E →
    codeAny (model P w) A (.call (.ref f) args) (CR CX outer P w H s Q E) s
/-- it stands at its name -/
structure Dz (P : Program) (w : World) (K : PySem.W.Frag) (mg : Str → Option Value) (base : Heap) (k : Nat) (x : Str) (ps : List Str) (sp : SpZ) : Prop where
  ex : ∃ f fd, FnHZ P w K mg base CX0 k f fd ps sp ∧ mg x = some (.ref f) ∧ PySem.W.keepIn K (.ref f) = true ∧ Binds K fd ps []
/-! ### what is asked of the handled error -/
end Sq
set_option Elab.async false
set_option linter.all false
set_option maxRecDepth 100000
set_option maxHeartbeats 4000000
/-! Calls that may raise, where the error's context is known to be None. -/
namespace Sq
open PySem PySem.Spec PyProof.Rows L2
structure Dn (P : Program) (w : World) (K : PySem.W.Frag) (mg : Str → Option Value) (base : Heap) (k : Nat) (x : Str) (ps : List Str) (sp : Sp) : Prop where
  ex : ∃ f fd, FnOk P w K mg base (L2N.CX P w) k f fd ps sp ∧ mg x = some (.ref f) ∧ PySem.W.keepIn K (.ref f) = true ∧ Binds K fd ps []
theorem Dn.mk' {P : Program} {w : World} {K : PySem.W.Frag} {mg : Str → Option Value} {base : Heap} {k : Nat} {x : Str} {st : Stmt} {ps : List Str} {sp : Sp} {f : Addr} {fd : FuncData} (F : Fun K x x st f fd) (G : FnOk P w K mg base (L2N.CX P w) k f fd ps sp) (g : mg x = some (.ref f)) (b : Binds K fd ps []) : Dn P w K mg base k x ps sp :=
  ⟨⟨f, fd, G, g, F.kp, b⟩⟩
theorem Dz.mk' {P : Program} {w : World} {K : PySem.W.Frag} {mg : Str → Option Value} {base : Heap} {k : Nat} {x : Str} {st : Stmt} {ps : List Str} {sp : SpZ} {f : Addr} {fd : FuncData} (F : Fun K x x st f fd) (G : FnHZ P w K mg base CX0 k f fd ps sp) (g : mg x = some (.ref f)) (b : Binds K fd ps []) : Dz P w K mg base k x ps sp :=
  ⟨⟨f, fd, G, g, F.kp, b⟩⟩
end Sq
set_option Elab.async false
set_option linter.all false
set_option maxRecDepth 100000
set_option maxHeartbeats 2000000
/-! Data read off the layer's heap. -/
namespace Sq
open PySem PySem.Spec PyProof.Rows L2
theorem same_new {H : Hp} {p : Addr} {o : HO} (h : H p = none) : Same H (upd H p o) := fun b x e => by
  rw [upd_ne (ne_of_none e h)]
  exact e
theorem map_at {ks : List Int} {i : Nat} {x : V} (h : (ks.map V.int)[i]? = some x) : ∃ k, ks[i]? = some k ∧ V.int k = x := by
  rw [List.getElem?_map] at h
  exact Option.map_eq_some_iff.mp h
section
variable {K : PySem.W.Frag}
theorem dp_ints {H : Hp} : ∀ (ds : List Int), DpAll K H (ds.map V.int) (ds.map PyData.int)
  | [] => .nil
  | d :: ds => .cons (.int d) (dp_ints ds)
theorem lays_ints : ∀ (ds : List Int), PyData.canLayAll0 (ds.map PyData.int) = true
  | [] => rfl
  | d :: ds => by
    show (PyData.canLay0 (.int d) && PyData.canLayAll0 (ds.map PyData.int)) = true
    rw [lays_ints ds]
    rfl
theorem deep_ints : ∀ (ds : List Int), PyData.depthAll (ds.map PyData.int) ≤ 1
  | [] => Nat.zero_le _
  | _ :: ds => Nat.max_le.mpr ⟨Nat.zero_le _, deep_ints ds⟩
theorem shaped_ints (ds : List Int) : SeqAt.shaped (.list (ds.map PyData.int)) = true :=
  Bool.and_eq_true_iff.mpr ⟨lays_ints ds, decide_eq_true (Nat.le_trans (Nat.add_le_add_right (deep_ints ds) 1) (by decide))⟩
end
/-! ### data of ints and short lists -/
mutual
def il : PyData → Bool
  | .int _ => true
  | .list xs => decide (xs.length ≤ 1000) && ilAll xs
  | _ => false
def ilAll : List PyData → Bool
  | [] => true
  | x :: xs => il x && ilAll xs
end
mutual
theorem Dp.same {K : PySem.W.Frag} {H H' : Hp} (s : Same H H') : ∀ {d : PyData} {x : V}, Dp K H x d → Dp K H' x d
  | .none, _, .non => .non
  | .bool b, _, .bl _ => .bl b
  | .int i, _, .int _ => .int i
  | .str x, _, .str _ => .str x
  | .list ds, _, .lst h a => .lst (s.seq h) (DpAll.same s a)
  | .tuple ds, _, .tup h a => .tup (by
      rcases h with (h | ⟨o, h⟩) | h
      · exact .inl (.inl (s _ _ h))
      · exact .inl (.inr ⟨o, s _ _ h⟩)
      · exact .inr h) (DpAll.same s a)
theorem DpAll.same {K : PySem.W.Frag} {H H' : Hp} (s : Same H H') : ∀ {ds : List PyData} {xs : List V}, DpAll K H xs ds → DpAll K H' xs ds
  | [], _, .nil => .nil
  | _ :: _, _, .cons h t => .cons (Dp.same s h) (DpAll.same s t)
end
/-! ### the text of a list of ints -/
theorem heavy_ints : ∀ (ks : List Int), (∀ k ∈ ks, k.natAbs < 10 ^ 12) → PyData.weightAll (ks.map PyData.int) ≤ 64 * ks.length
  | [], _ => Nat.le_refl _
  | k :: ks, h => by
    have ih := heavy_ints ks fun x hx => h x (List.mem_cons_of_mem _ hx)
    have hk := h k (List.mem_cons_self ..)
    have w1 : PyData.weight (.int k) ≤ 41 := by
      show (if k == 0 then 0 else k.natAbs.log2 + 1) ≤ 41
      split
      · omega
      · have : k.natAbs.log2 < 40 := PySem.Flt.log2_lt_of (by decide) (Nat.lt_of_lt_of_le hk (by decide))
        omega
    show PyData.weight (.int k) + 1 + PyData.weightAll (ks.map PyData.int) ≤ 64 * (ks.length + 1)
    omega
theorem shows_ints : ∀ (ks : List Int), (∀ k ∈ ks, k.natAbs < 10 ^ 12) → PyData.showableAll (ks.map PyData.int) = true
  | [], _ => rfl
  | k :: ks, h => by
    have ih := shows_ints ks fun x hx => h x (List.mem_cons_of_mem _ hx)
    have hk := h k (List.mem_cons_self ..)
    have : k.natAbs.log2 < 40 := PySem.Flt.log2_lt_of (by decide) (Nat.lt_of_lt_of_le hk (by decide))
    show (decide (k.natAbs.log2 < 1920) && PyData.showableAll (ks.map PyData.int)) = true
    rw [ih, decide_eq_true (by omega)]
    rfl
theorem nodict_ints : ∀ (ks : List Int), PyData.hasDictAll (ks.map PyData.int) = false
  | [] => rfl
  | _ :: ks => nodict_ints ks
theorem short_ints {ks : List Int} (h : ∀ k ∈ ks, k.natAbs < 10 ^ 12) (hl : ks.length ≤ 1000) : (PyData.list (ks.map PyData.int)).shown.length ≤ sizeLine := by
  have w1 : PyData.weight (.list (ks.map PyData.int)) ≤ 64 * ks.length := heavy_ints ks h
  have lv := PyData.leavesShort_of_canLay0 13 (.list (ks.map PyData.int)) (lays_ints ks) (PyData.intsShortAll_ints ks h)
  refine PyData.shown_fits (B := 13) (by decide) (by decide) lv (Nat.le_trans w1 ?_)
  have e : (2 : Nat) ^ 20 = 1048576 := by decide
  omega
theorem dep40 (ks : List Int) : (PyData.list (ks.map PyData.int)).depth ≤ 40 := Nat.le_trans (Nat.add_le_add_right (deep_ints ks) 1) (by decide)
end Sq
namespace Sq
open PySem PySem.Spec PyProof.Rows L2
/-! ### repr of any value whose data is known -/
structure Shown (K : PySem.W.Frag) (H : Hp) (x : V) (d : PyData) : Prop where
  dp : Dp K H x d
  sh : d.showable = true
  nd : d.hasDict = false
  dep : d.depth ≤ 40
  fit : d.shown.length ≤ sizeLine
theorem Shown.same {K : PySem.W.Frag} {H H' : Hp} {x : V} {d : PyData} (S : Shown K H x d) (s : Same H H') : Shown K H' x d := ⟨Dp.same s S.dp, S.sh, S.nd, S.dep, S.fit⟩
theorem fits40 {d : PyData} (h : d.leavesShort 40 = true) (hw : d.weight ≤ 100000) : d.shown.length ≤ sizeLine := by
  have e := PyData.shown_le 40 (by decide) d h
  rw [sizeLine_eq]
  omega
/-! ### powers of greater numbers -/
def CPowW (i j : Int) : Prop := 0 ≤ j ∧ (Builtin.Int.intBits i : Int) * j ≤ 2 ^ 27
theorem op_powW {X : Cx} : OpR X (binaryOp .Pow) (rI CPowW fun i j => .int (i ^ j.toNat)) := opI fun _ _ _ _ _ _ _ hc q => pow_int hc.1 hc.2 q
theorem powW_of {i j : Int} {m : Nat} (h0 : 0 ≤ j) (hi : i.natAbs < 2 ^ m) (hm : 0 < m) (hj : (m : Int) * j ≤ 2 ^ 27) : CPowW i j := by
  refine ⟨h0, Int.le_trans (Int.mul_le_mul_of_nonneg_right ?_ h0) hj⟩
  unfold Builtin.Int.intBits
  split
  · omega
  · have := PySem.Flt.log2_lt_of hm hi
    omega
end Sq
namespace Sq
open PySem PySem.Spec PyProof.Rows L2
def rMulS : R2 := fun x y H Q => ∃ a n, x = .str a ∧ y = .int n ∧ _root_.PySem.MulOk a n ∧ Q (.str (_root_.PySem.Txt.mul a n)) H
theorem op_mulS {X : Cx} : OpR X (binaryOp .Mult) rMulS := by
  intro pins s σ H x y v u Q I rx ry h
  obtain ⟨a, n, rfl, rfl, hok, q⟩ := h
  obtain ⟨t, rfl⟩ := rx
  obtain ⟨t', rfl⟩ := ry
  exact SB.mul hok fun t2 k => ⟨.str _, H, I.tok k, ⟨_, rfl⟩, q⟩
end Sq
set_option Elab.async false
set_option linter.all false
/-! Squeezing and reaches in plain Lean. -/
namespace Sq
def once (n k : Int) : Int := n / k + n % k
def sq (n : Int) (ks : List Int) : Int := ks.foldl once n
def rw1 (k R : Int) : Int := if k > R + 1 then R else (R + 3 - k) * k - 2
theorem once_nonneg {k n : Int} (hk : 2 ≤ k) (h0 : 0 ≤ n) : 0 ≤ once n k := by
  unfold once
  have h1 := Int.ediv_nonneg h0 (by omega : 0 ≤ k)
  have h2 := Int.emod_nonneg n (by omega : k ≠ 0)
  omega
theorem sq_concat (n : Int) (ks : List Int) (k : Int) : sq n (ks ++ [k]) = once (sq n ks) k := by
  unfold sq
  rw [List.foldl_append]
  rfl
end Sq
set_option Elab.async false
set_option linter.all false
set_option maxRecDepth 100000
set_option maxHeartbeats 2000000
/-! What the laws share: the built-in names, the error classes, low numbers, data that can be shown, keeping heaps. -/
namespace Sq
open PySem PySem.Spec PyProof.Rows L2
structure Bi (mg : Str → Option Value) : Prop where
  n_len : mg "len" = none
  n_min : mg "min" = none
  n_max : mg "max" = none
  n_abs : mg "abs" = none
  n_range : mg "range" = none
  n_isinstance : mg "isinstance" = none
  n_repr : mg "repr" = none
  n_enumerate : mg "enumerate" = none
  n_reversed : mg "reversed" = none
  n_sorted : mg "sorted" = none
  n_bool : mg "bool" = none
  n_int : mg "int" = none
  n_str : mg "str" = none
  n_list : mg "list" = none
  n_tuple : mg "tuple" = none
  n_set : mg "set" = none
  n_sum : mg "sum" = none
  n_zip : mg "zip" = none
  n_all : mg "all" = none
  n_any : mg "any" = none
  n_ValueError : mg "ValueError" = none
  n_divmod : mg "divmod" = none
/-! ### data that can be shown -/
structure Gd (n : Nat) (d : PyData) : Prop where
  sh : d.showable = true
  nd : d.hasDict = false
  dep : d.depth ≤ 4
  lf : d.leavesShort 40 = true
  wt : d.weight ≤ n
structure GdA (n : Nat) (ds : List PyData) : Prop where
  sh : PyData.showableAll ds = true
  nd : PyData.hasDictAll ds = false
  dep : PyData.depthAll ds ≤ 3
  lf : PyData.leavesShortAll 40 ds = true
  wt : PyData.weightAll ds ≤ n
theorem GdA.nil : GdA 0 [] := ⟨rfl, rfl, Nat.zero_le _, rfl, Nat.le_refl _⟩
theorem GdA.cons {n m : Nat} {d : PyData} {ds : List PyData} (h : Gd n d) (dp : d.depth ≤ 3) (t : GdA m ds) : GdA (n + 1 + m) (d :: ds) := by
  refine ⟨?_, ?_, Nat.max_le.mpr ⟨dp, t.dep⟩, ?_, ?_⟩
  · show (d.showable && PyData.showableAll ds) = true
    rw [h.sh, t.sh]; rfl
  · show (d.hasDict || PyData.hasDictAll ds) = false
    rw [h.nd, t.nd]; rfl
  · show (d.leavesShort 40 && PyData.leavesShortAll 40 ds) = true
    rw [h.lf, t.lf]; rfl
  · have a := h.wt
    have b := t.wt
    show d.weight + 1 + PyData.weightAll ds ≤ n + 1 + m
    omega
theorem GdA.list {n : Nat} {ds : List PyData} (t : GdA n ds) : Gd n (.list ds) := ⟨t.sh, t.nd, Nat.add_le_add_right t.dep 1, t.lf, t.wt⟩
theorem Gd.shown {n : Nat} {K : PySem.W.Frag} {H : Hp} {x : V} {d : PyData} (h : Gd n d) (l : n ≤ 100000) (dp : Dp K H x d) : Shown K H x d :=
  ⟨dp, h.sh, h.nd, Nat.le_trans h.dep (by decide), fits40 h.lf (Nat.le_trans h.wt l)⟩
/-! ### the low numbers -/
/-- the heap without one cell -/
def wo (H : Hp) (D : Addr) : Hp := fun b => if b = D then none else H b
theorem wo_upd {H : Hp} {D : Addr} {o : HO} : wo (upd H D o) D = wo H D := by
  funext b
  unfold wo
  by_cases h : b = D
  · rw [if_pos h, if_pos h]
  · rw [if_neg h, if_neg h, upd_ne h]
theorem wo_ne {H : Hp} {D b : Addr} (h : b ≠ D) : wo H D b = H b := by
  unfold wo
  rw [if_neg h]
theorem wo_same {H : Hp} {D : Addr} : Same (wo H D) H := fun b o e => by
  unfold wo at e
  by_cases h : b = D
  · rw [if_pos h] at e; cases e
  · rw [if_neg h] at e; exact e
theorem same_wo {G H : Hp} {D : Addr} (s : Same G H) (h : G D = none) : Same G (wo H D) := fun b o e => by
  rw [wo_ne (fun z => by subst z; rw [h] at e; cases e)]
  exact s b o e
theorem wo_self {H : Hp} {D : Addr} : wo H D D = none := by
  unfold wo
  rw [if_pos rfl]
end Sq
set_option Elab.async false
set_option linter.all false
set_option maxHeartbeats 1000000
/-! Small numbers as texts. -/
namespace Sq
open PySem PySem.Spec PyProof.Rows L2
theorem rep_one {α : Type} (x : α) : ∀ n : Nat, (List.replicate n [x]).flatten = List.replicate n x
  | 0 => rfl
  | n + 1 => by
    rw [List.replicate_succ, List.flatten_cons, rep_one x n, List.replicate_succ]
    rfl
end Sq
set_option Elab.async false
set_option linter.all false
set_option maxRecDepth 100000
set_option maxHeartbeats 1000000
/-! Texts of lists, read: in plain Lean, over the lists of signs. -/
namespace Sq
open PySem PySem.Spec PyProof.Rows L2 TL
open NumText (digitsVal AllDigits)
def digB (l : List Nat) : Bool := l.all fun c => decide (48 ≤ c) && decide (c ≤ 57)
def numOk (l : List Nat) : Bool := digB l && (!l.isEmpty && (decide (l.length ≤ 200) && (decide (l.head? ≠ some 48) && decide (l ≠ [49]))))
def rPart (l : List Nat) : Option (Nat × Nat) :=
  match par [94] [] l with
  | none => if numOk l = true then some (digitsVal l, 1) else none
  | some (a, b) => if (numOk a && numOk b) = true then some (digitsVal a, digitsVal b) else none
def rStep (F : List Int) (l : List Nat) : Option (List Int) :=
  match rPart l with
  | none => none
  | some (n, k) => if F.getLast? = some (n : Int) then none else some (F ++ List.replicate k (n : Int))
def rAll : List Int → List (List Nat) → Option (List Int)
  | F, [] => some F
  | F, l :: r => match rStep F l with
    | none => none
    | some F' => rAll F' r
def rText (l : List Nat) : Option (List Int) := if l = [110, 111, 110, 101] then some [] else rAll [] (spl [44, 32] 0 [] l)
/-- no part stands for more than a thousand numbers -/
def Small (l : List Nat) : Prop := ∀ p ∈ spl [44, 32] 0 [] l, ∀ n k, rPart p = some (n, k) → k ≤ 1000
theorem all_tl (x : Str) (f : Nat → Bool) : x.cps.all f = (tl x).all f := by
  show x.cps.all f = x.cps.toList.all f
  rw [Array.all_toList]
theorem dig_of : ∀ n : _root_.Fin 128, Unicode.isDigit n.val = (decide (48 ≤ n.val) && decide (n.val ≤ 57)) := by decide +kernel
theorem asc_dig (x : Str) : (Txt.isascii x && Txt.isdigit x) = (digB (tl x) && !(tl x).isEmpty) := by
  show (x.cps.all (· < 128) && (decide (x.length > 0) && x.cps.all Unicode.isDigit)) = _
  rw [all_tl, all_tl, len_tl]
  have key : ∀ l : List Nat, (l.all (· < 128) && l.all Unicode.isDigit) = digB l := fun l => by
    induction l with
    | nil => rfl
    | cons c l ih =>
      show ((decide (c < 128) && l.all (· < 128)) && (Unicode.isDigit c && l.all Unicode.isDigit)) = ((decide (48 ≤ c) && decide (c ≤ 57)) && digB l)
      rw [← ih]
      by_cases h : c < 128
      · rw [decide_eq_true h, dig_of ⟨c, h⟩]
        cases l.all (· < 128) <;> cases l.all Unicode.isDigit <;> simp
      · have h2 : ¬ c ≤ 57 := by omega
        rw [decide_eq_false h, decide_eq_false h2]
        simp
  rw [← key]
  cases tl x with
  | nil => rfl
  | cons c l =>
    cases ((c :: l).all (· < 128)) <;> cases ((c :: l).all Unicode.isDigit) <;> simp
theorem digB_all {l : List Nat} : digB l = true ↔ AllDigits l := by
  unfold digB AllDigits
  rw [List.all_eq_true]
  constructor
  · intro h c hc
    have := h c hc
    simp only [Bool.and_eq_true, decide_eq_true_eq] at this
    exact this
  · intro h c hc
    have := h c hc
    simp only [Bool.and_eq_true, decide_eq_true_eq]
    exact this
theorem numOk_iff {l : List Nat} : numOk l = true ↔ AllDigits l ∧ l ≠ [] ∧ l.length ≤ 200 ∧ l.head? ≠ some 48 ∧ l ≠ [49] := by
  unfold numOk
  simp only [Bool.and_eq_true, decide_eq_true_eq, digB_all, Bool.not_eq_true', List.isEmpty_eq_false_iff]
/-- int(..) of such signs -/
theorem int_ok {x : Str} (h : numOk (tl x) = true) : intText? x = some ((digitsVal (tl x) : Nat) : Int) ∧ x.length ≤ 640 := by
  obtain ⟨a, b, c, _⟩ := numOk_iff.mp h
  have l : x.length = (tl x).length := len_tl x
  exact ⟨intText_digits a b (by omega), by omega⟩
end Sq
namespace Sq
open PySem PySem.Spec PyProof.Rows L2 TL
open NumText (digitsVal AllDigits)
theorem signs_hat : tl ("^" : Str) = [94] := by decide +kernel
theorem signs_sep : tl (", " : Str) = [44, 32] := by decide +kernel
theorem split_sep (x : Str) : (Txt.split x ", ").map tl = spl [44, 32] 0 [] (tl x) := by
  have e := split_spl x ", " (by rw [signs_sep]; simp) (kind_ok (by decide +kernel))
  rw [signs_sep] at e
  exact e
/-- a readable part, cut at its first ^ -/
theorem part_cut {y : Str} {n k : Nat} (h : rPart (tl y) = some (n, k)) : ∃ D M N : Str, Txt.partition y "^" = (D, M, N) ∧ numOk (tl D) = true ∧ n = digitsVal (tl D) ∧
    ((M.length = 0 ∧ k = 1) ∨ (M.length = 1 ∧ numOk (tl N) = true ∧ k = digitsVal (tl N))) := by
  have e := partition_par y "^" (by rw [signs_hat]; simp)
  rw [signs_hat] at e
  unfold rPart at h
  cases hp : par [94] [] (tl y) with
  | none =>
    rw [hp] at h e
    have h' : (if numOk (tl y) = true then some (digitsVal (tl y), 1) else none) = some (n, k) := h
    by_cases c : numOk (tl y) = true
    · rw [if_pos c] at h'
      cases h'
      exact ⟨y, Str.empty, Str.empty, e, c, rfl, .inl ⟨rfl, rfl⟩⟩
    · rw [if_neg c] at h'
      cases h'
  | some ab =>
    obtain ⟨a, b⟩ := ab
    rw [hp] at h e
    have h' : (if (numOk a && numOk b) = true then some (digitsVal a, digitsVal b) else none) = some (n, k) := h
    by_cases c : (numOk a && numOk b) = true
    · rw [if_pos c] at h'
      cases h'
      rw [Bool.and_eq_true] at c
      exact ⟨⟨a.toArray⟩, "^", ⟨b.toArray⟩, e, c.1, rfl, .inr ⟨by decide +kernel, c.2, rfl⟩⟩
    · rw [if_neg c] at h'
      cases h'
theorem rStep_some {F F' : List Int} {l : List Nat} (h : rStep F l = some F') : ∃ n k, rPart l = some (n, k) ∧ F.getLast? ≠ some (n : Int) ∧ F' = F ++ List.replicate k (n : Int) := by
  unfold rStep at h
  cases hp : rPart l with
  | none => rw [hp] at h; cases h
  | some nk =>
    obtain ⟨n, k⟩ := nk
    rw [hp] at h
    have h' : (if F.getLast? = some (n : Int) then none else some (F ++ List.replicate k (n : Int))) = some F' := h
    by_cases c : F.getLast? = some (n : Int)
    · rw [if_pos c] at h'; cases h'
    · rw [if_neg c] at h'
      cases h'
      exact ⟨n, k, rfl, c, rfl⟩
theorem rAll_cons {F ks : List Int} {l : List Nat} {r : List (List Nat)} (h : rAll F (l :: r) = some ks) : ∃ F', rStep F l = some F' ∧ rAll F' r = some ks := by
  have h' : (match rStep F l with | none => none | some F' => rAll F' r) = some ks := h
  cases hp : rStep F l with
  | none => rw [hp] at h'; cases h'
  | some F' => rw [hp] at h'; exact ⟨F', rfl, h'⟩
theorem spl_len (S : List Nat) : ∀ (k : Nat) (acc l : List Nat), (spl S k acc l).length ≤ l.length + 1
  | k, acc, [] => by rw [spl_nil]; simp
  | 0, acc, c :: r => by
    show (if pre S (c :: r) = true then acc :: spl S (S.length - 1) [] r else spl S 0 (acc ++ [c]) r).length ≤ _
    split
    · have := spl_len S (S.length - 1) [] r
      simp only [List.length_cons]
      omega
    · have := spl_len S 0 (acc ++ [c]) r
      simp only [List.length_cons]
      omega
  | k + 1, acc, c :: r => by
    show (spl S k acc r).length ≤ _
    have := spl_len S k acc r
    simp only [List.length_cons]
    omega
theorem str_at {ys : List Str} {i : Nat} {v : V} (h : (ys.map V.str)[i]? = some v) : ∃ y, ys[i]? = some y ∧ v = .str y := by
  rw [List.getElem?_map] at h
  cases e : ys[i]? with
  | none => rw [e] at h; cases h
  | some y => rw [e] at h; exact ⟨y, rfl, (Option.some.inj h).symm⟩
theorem spl_mem (S : List Nat) : ∀ (k : Nat) (acc l : List Nat), ∀ q ∈ spl S k acc l, q.length ≤ acc.length + l.length
  | k, acc, [] => by
    rw [spl_nil]
    intro q hq
    rw [List.mem_singleton.mp hq]
    exact Nat.le_add_right _ _
  | 0, acc, c :: r => by
    show ∀ q ∈ (if pre S (c :: r) = true then acc :: spl S (S.length - 1) [] r else spl S 0 (acc ++ [c]) r), _
    split
    · intro q hq
      rcases List.mem_cons.mp hq with z | z
      · rw [z]
        exact Nat.le_add_right _ _
      · have := spl_mem S (S.length - 1) [] r q z
        simp only [List.length_nil, List.length_cons] at this ⊢
        omega
    · intro q hq
      have := spl_mem S 0 (acc ++ [c]) r q hq
      simp only [List.length_append, List.length_cons, List.length_nil] at this ⊢
      omega
  | k + 1, acc, c :: r => by
    intro q hq
    have := spl_mem S k acc r q hq
    simp only [List.length_cons]
    omega
theorem atI_lst {α : Type} (xs : List α) (v : α) (h : xs.getLast? = some v) : atI xs (-1) = some v := by
  rcases List.eq_nil_or_concat xs with e | ⟨ys, z, e⟩
  · rw [e] at h
    cases h
  · rw [e, List.concat_eq_append] at h ⊢
    rw [List.getLast?_concat] at h
    cases h
    exact L2.atI_last ys _
theorem z0L : 0 ≤ sizeLine := Nat.zero_le _
end Sq
set_option Elab.async false
set_option linter.all false
set_option maxRecDepth 100000
set_option maxHeartbeats 1000000
/-! What is written is read. -/
namespace Sq
open PySem PySem.Spec PyProof.Rows L2 TL
open NumText (digitsVal AllDigits)
def outL (ps : List (Nat × Nat)) : List Int := (ps.map fun p => List.replicate p.2 (p.1 : Int)).flatten
/-- neighbours differ -/
def Alt : Option Int → List (Nat × Nat) → Prop
  | _, [] => True
  | o, p :: r => o ≠ some (p.1 : Int) ∧ Alt (some (p.1 : Int)) r
end Sq
set_option Elab.async false
set_option linter.all false
set_option maxRecDepth 100000
set_option maxHeartbeats 1000000
/-! Texts of lists, written: the groups of equal neighbours, the digits of great numbers. -/
namespace Sq
open PySem PySem.Spec PyProof.Rows L2 TL
open NumText (digitsVal AllDigits)
/-- the number of the last group -/
def lastN (o : Option Int) (ps : List (Nat × Nat)) : Option Int := match ps.getLast? with
  | some p => some (p.1 : Int)
  | none => o
theorem lastN_cons (o : Option Int) (p : Nat × Nat) (ps : List (Nat × Nat)) : lastN o (p :: ps) = lastN (some (p.1 : Int)) ps := by
  unfold lastN
  cases ps with
  | nil => rfl
  | cons q r => rw [List.getLast?_cons_cons]; cases h : (q :: r).getLast? with
    | some z => rfl
    | none => simp at h
theorem alt_snoc : ∀ (ps : List (Nat × Nat)) (o : Option Int) (p : Nat × Nat), Alt o (ps ++ [p]) ↔ Alt o ps ∧ lastN o ps ≠ some (p.1 : Int)
  | [], o, p => ⟨fun h => ⟨trivial, h.1⟩, fun h => ⟨h.2, trivial⟩⟩
  | q :: r, o, p => by
    rw [lastN_cons]
    show (o ≠ some (q.1 : Int) ∧ Alt (some (q.1 : Int)) (r ++ [p])) ↔ (o ≠ some (q.1 : Int) ∧ Alt (some (q.1 : Int)) r) ∧ _
    rw [alt_snoc r]
    exact ⟨fun h => ⟨⟨h.1, h.2.1⟩, h.2.2⟩, fun h => ⟨h.1.1, h.1.2, h.2⟩⟩
/-- ks by its groups of equal neighbours -/
structure Grp (ks : List Int) (ps : List (Nat × Nat)) : Prop where
  alt : Alt none ps
  one : ∀ p ∈ ps, 1 ≤ p.2
  out : outL ps = ks
theorem outL_cons (p : Nat × Nat) (ps : List (Nat × Nat)) : outL (p :: ps) = List.replicate p.2 (p.1 : Int) ++ outL ps := rfl
theorem outL_snoc (ps : List (Nat × Nat)) (p : Nat × Nat) : outL (ps ++ [p]) = outL ps ++ List.replicate p.2 (p.1 : Int) := by
  unfold outL
  rw [List.map_append, List.flatten_append]
  simp
theorem Grp.nil : Grp [] [] := ⟨trivial, fun p h => (nomatch h), rfl⟩
/-- one more number, another one -/
theorem Grp.new {ks : List Int} {ps : List (Nat × Nat)} {k : Nat} (g : Grp ks ps) (h : lastN none ps ≠ some (k : Int)) : Grp (ks ++ [(k : Int)]) (ps ++ [(k, 1)]) := by
  refine ⟨(alt_snoc _ _ _).mpr ⟨g.alt, h⟩, fun p hp => ?_, ?_⟩
  · rcases List.mem_append.mp hp with z | z
    · exact g.one p z
    · rw [List.mem_singleton.mp z]
      exact Nat.le_refl _
  · rw [outL_snoc, g.out]
    rfl
theorem outL_head {p : Nat × Nat} {ps : List (Nat × Nat)} (h : 1 ≤ p.2) : ∃ r, outL (p :: ps) = (p.1 : Int) :: r := by
  rw [outL_cons]
  obtain ⟨m, e⟩ : ∃ m, p.2 = m + 1 := ⟨p.2 - 1, by omega⟩
  rw [e, List.replicate_succ]
  exact ⟨_, rfl⟩
theorem outL_eq_nil {ps : List (Nat × Nat)} (h : ∀ p ∈ ps, 1 ≤ p.2) (e : outL ps = []) : ps = [] := by
  cases ps with
  | nil => rfl
  | cons p r =>
    obtain ⟨s, z⟩ := outL_head (ps := r) (h p List.mem_cons_self)
    rw [z] at e
    cases e
theorem rep_cut {x : Int} {A B : List Int} : ∀ (m n : Nat), m ≤ n → List.replicate m x ++ A = List.replicate n x ++ B → A = List.replicate (n - m) x ++ B
  | 0, n, _, h => h
  | m + 1, 0, l, _ => absurd l (by omega)
  | m + 1, n + 1, l, h => by
    rw [List.replicate_succ, List.replicate_succ, List.cons_append, List.cons_append] at h
    rw [rep_cut m n (by omega) (List.cons.inj h).2, Nat.add_sub_add_right]
theorem alt_ne_head {k : Nat} {ps : List (Nat × Nat)} {B : List Int} {d : Nat} (a : Alt (some (k : Int)) ps) (o : ∀ p ∈ ps, 1 ≤ p.2) (hd : 0 < d) : outL ps ≠ List.replicate d (k : Int) ++ B := fun e => by
  obtain ⟨m, rfl⟩ : ∃ m, d = m + 1 := ⟨d - 1, by omega⟩
  rw [List.replicate_succ] at e
  cases ps with
  | nil => cases e
  | cons p r =>
    obtain ⟨s, z⟩ := outL_head (ps := r) (o p List.mem_cons_self)
    rw [z] at e
    have h := (List.cons.inj e).1
    exact a.1 (by rw [h])
theorem grp_one : ∀ (ps qs : List (Nat × Nat)) (o o' : Option Int), Alt o ps → Alt o' qs → (∀ p ∈ ps, 1 ≤ p.2) → (∀ p ∈ qs, 1 ≤ p.2) → outL ps = outL qs → ps = qs
  | [], qs, _, _, _, _, _, h2, e => (outL_eq_nil h2 e.symm).symm
  | p :: r, [], _, _, _, _, h1, _, e => outL_eq_nil h1 e
  | (k, m) :: r, (l, n) :: s, o, o', a1, a2, h1, h2, e => by
    have m1 : 1 ≤ m := h1 (k, m) List.mem_cons_self
    have n1 : 1 ≤ n := h2 (l, n) List.mem_cons_self
    have kl : (k : Int) = (l : Int) := by
      obtain ⟨x, e1⟩ := outL_head (p := (k, m)) (ps := r) m1
      obtain ⟨y, e2⟩ := outL_head (p := (l, n)) (ps := s) n1
      rw [e1, e2] at e
      exact (List.cons.inj e).1
    have kl' : k = l := Int.ofNat.inj kl
    subst kl'
    have e' : List.replicate m (k : Int) ++ outL r = List.replicate n (k : Int) ++ outL s := e
    have mn : m = n := by
      by_cases c : m < n
      · exact absurd (rep_cut m n (by omega) e') (alt_ne_head a1.2 (fun p hp => h1 p (List.mem_cons_of_mem _ hp)) (by omega))
      · by_cases c2 : n < m
        · exact absurd (rep_cut n m (by omega) e'.symm) (alt_ne_head a2.2 (fun p hp => h2 p (List.mem_cons_of_mem _ hp)) (by omega))
        · omega
    subst mn
    have e3 := rep_cut m m (Nat.le_refl _) e'
    rw [Nat.sub_self] at e3
    rw [grp_one r s _ _ a1.2 a2.2 (fun p hp => h1 p (List.mem_cons_of_mem _ hp)) (fun p hp => h2 p (List.mem_cons_of_mem _ hp)) e3]
theorem Grp.uniq {ks : List Int} {ps qs : List (Nat × Nat)} (a : Grp ks ps) (b : Grp ks qs) : ps = qs := grp_one ps qs none none a.alt b.alt a.one b.one (a.out.trans b.out.symm)
theorem Grp.mem {ks : List Int} {ps : List (Nat × Nat)} (g : Grp ks ps) : ∀ p ∈ ps, (p.1 : Int) ∈ ks := fun p hp => by
  rw [← g.out]
  unfold outL
  have h1 := g.one p hp
  exact List.mem_flatten.mpr ⟨_, List.mem_map.mpr ⟨p, hp, rfl⟩, List.mem_replicate.mpr ⟨by omega, rfl⟩⟩
theorem outL_len : ∀ (ps : List (Nat × Nat)), (outL ps).length = (ps.map (·.2)).sum
  | [] => rfl
  | p :: r => by
    rw [outL_cons, List.length_append, List.length_replicate, outL_len r]
    rfl
theorem sum_ge {ps : List (Nat × Nat)} : (∀ p ∈ ps, 1 ≤ p.2) → ps.length ≤ (ps.map (·.2)).sum ∧ ∀ p ∈ ps, p.2 ≤ (ps.map (·.2)).sum := by
  induction ps with
  | nil => exact fun _ => ⟨Nat.le_refl _, fun p hp => (nomatch hp)⟩
  | cons q r ih =>
    intro h
    obtain ⟨a, b⟩ := ih fun p hp => h p (List.mem_cons_of_mem _ hp)
    have h1 := h q List.mem_cons_self
    refine ⟨?_, fun p hp => ?_⟩
    · simp only [List.length_cons, List.map_cons, List.sum_cons]
      omega
    · simp only [List.map_cons, List.sum_cons]
      rcases List.mem_cons.mp hp with z | z
      · rw [z]; omega
      · have := b p z; omega
theorem Grp.len {ks : List Int} {ps : List (Nat × Nat)} (g : Grp ks ps) : ps.length ≤ ks.length ∧ ∀ p ∈ ps, p.2 ≤ ks.length := by
  rw [← g.out, outL_len]
  exact sum_ge g.one
/-! ### great numbers, piece by piece -/
end Sq
namespace Sq
open PySem PySem.Spec PyProof.Rows L2 TL
/-- one group's way of writing: the state of a writer that has closed the groups C and stands t signs in the next -/
structure OwnS (ks : List Int) (i : Nat) (C : List (Nat × Nat)) (t : Nat) : Prop where
  alt : Alt none C
  one : ∀ p ∈ C, 1 ≤ p.2
  nx : ∀ n, ks[i]? = some n → ks.take i = outL C ++ List.replicate t n ∧ lastN none C ≠ some n
  fin : ks[i]? = none → t = 0 ∧ outL C = ks
theorem OwnS.start (ks : List Int) : OwnS ks 0 [] 0 := ⟨trivial, fun p h => (nomatch h), fun n _ => ⟨rfl, fun z => (nomatch z)⟩, fun h => ⟨rfl, by
  cases ks with
  | nil => rfl
  | cons k r => cases h⟩⟩
theorem OwnS.same {ks : List Int} {i : Nat} {C : List (Nat × Nat)} {t : Nat} {n : Int} (h : OwnS ks i C t) (e : ks[i]? = some n) (e2 : ks[i + 1]? = some n) : OwnS ks (i + 1) C (t + 1) := by
  obtain ⟨a, b⟩ := h.nx n e
  refine ⟨h.alt, h.one, fun m hm => ?_, fun z => by rw [e2] at z; cases z⟩
  rw [e2] at hm
  cases hm
  refine ⟨?_, b⟩
  rw [List.take_add_one, e, a, List.replicate_succ', List.append_assoc]
  rfl
end Sq
set_option Elab.async false
set_option linter.all false
set_option maxRecDepth 100000
set_option maxHeartbeats 1000000
/-! What is read is written. -/
namespace Sq
open PySem PySem.Spec PyProof.Rows L2 TL
open NumText (digitsVal AllDigits)
/-! ### few digits behind each ^ -/
def isDg (c : Nat) : Bool := decide (48 ≤ c) && decide (c ≤ 57)
/-- of the two signs that stand second and third behind a ^ none is a digit -/
def Gap (l : List Nat) : Prop := ∀ i, l[i]? = some 94 → (∀ b, l[i + 2]? = some b → isDg b = false) ∧ (∀ c, l[i + 3]? = some c → isDg c = false)
theorem Gap.cons {c : Nat} {l : List Nat} (h : Gap l) (hc : c ≠ 94) : Gap (c :: l) := fun i e => by
  cases i with
  | zero => exact absurd (Option.some.inj e) hc
  | succ i => exact h i e
theorem Gap.nil : Gap [] := fun i e => (nomatch e)
end Sq
set_option Elab.async false
set_option linter.all false
set_option maxHeartbeats 1000000
/-! Two lists part at the run between their greatest origins of 1. -/
set_option Elab.async false
set_option linter.all false
set_option maxHeartbeats 1000000
/-! What parting_run returns. -/
set_option Elab.async false
set_option linter.all false
set_option maxHeartbeats 1000000
/-! A hidden list, found by questions. -/
set_option Elab.async false
set_option linter.all false
set_option maxRecDepth 100000
set_option maxHeartbeats 1000000
/-! What is asked of the handled error in its suite, whatever its class. -/
set_option Elab.async false
set_option linter.all false
set_option maxRecDepth 100000
set_option maxHeartbeats 1000000
/-! A def that may raise, called where it doesn't; keywords of such a def. -/
namespace Sq
open PySem PySem.Spec PyProof.Rows L2
theorem kbn_mk {K : PySem.W.Frag} {x qual : Str} {st : Stmt} {f : Addr} {fd : FuncData} {ps : List Str} (F : Fun K x qual st f fd) (ks : List Str) (g : List Value → List Value → List Value) (gV : List V → List V → List V)
    (rel : ∀ {vs : List V} {us : List Value} {zs : List V} {ws : List Value}, Vals vs us → Vals zs ws → Vals (gV vs zs) (g us ws))
    (h : ∀ (kV doc pm : Value) (an : Option Addr) (cdv ct : Value) (ws : List Value), ws.length = ks.length → bindArgs (PySem.W.fnOf x qual (defArgs st) (defBody st) (defScope st) .none kV doc pm an cdv ct) ⟨[], ks.zip ws⟩ = pure (ps.zip (g [] ws))) : KBn K fd ps 0 ks g gV := by
  obtain ⟨oc, od, kV, doc, pm, an, cdv, ct, osl, rfl, lk, hcd⟩ := F.ex
  refine ⟨fun s us ws X l1 l2 => ?_, rel⟩
  obtain rfl : us = [] := List.length_eq_zero_iff.mp l1
  exact .of_eq (h kV doc pm an cdv ct ws l2)
/-- three values in another order -/
def perm3 {α : Type} (i j k : Nat) : List α → List α → List α := fun _ zs => match zs with
  | [x, y, z] => [[x, y, z].getD i x, [x, y, z].getD j x, [x, y, z].getD k x]
  | _ => []
end Sq
set_option Elab.async false
set_option linter.all false
/-! A statement told apart from what follows. -/
namespace Sq
open PySem PySem.Spec PyProof.Rows L2
theorem cut_take (xs : List V) (n : Nat) (h : n ≤ xs.length) : cutV xs none (some (n : Int)) = xs.take n := by
  unfold cutV
  rw [HT.sIx_nat, HT.sIx_none, List.drop_zero, Nat.min_eq_left h, Nat.sub_zero]
end Sq
set_option Elab.async false
set_option linter.all false
set_option maxHeartbeats 1000000
/-! Lists of replacements in the heap; slices of them. -/
namespace Sq
open PySem PySem.Spec PyProof.Rows L2
/-- replacements, not too great -/
def Rpl (ks : List Int) : Prop := ∀ k ∈ ks, 2 ≤ k ∧ k < 1073741824
theorem Rpl.two {ks : List Int} (h : Rpl ks) : ∀ k ∈ ks, 2 ≤ k := fun k hk => (h k hk).1
/-- a list of at most n replacements -/
def RL (H : Hp) (p : Addr) (n : Nat) : Prop := ∃ ks : List Int, H p = some (.lst (ks.map V.int)) ∧ ks.length ≤ n ∧ Rpl ks
theorem RL.same {H H' : Hp} {p : Addr} {n : Nat} (h : RL H p n) (s : Same H H') : RL H' p n := by
  obtain ⟨ks, g, l, r⟩ := h
  exact ⟨ks, s _ _ g, l, r⟩
end Sq
set_option Elab.async false
set_option linter.all false
set_option maxRecDepth 100000
set_option maxHeartbeats 2000000
/-! A def of the law that asks for a repr: run where no repr is under way. -/
namespace Sq
open PySem PySem.Spec PyProof.Rows L2
structure FnG (P : Program) (w : World) (K : PySem.W.Frag) (mg : Str → Option Value) (base : Heap) (k : Nat) (f : Addr) (fd : FuncData) (ps : List Str) (sp : Sp) : Prop where
  count : ∀ vs H Q E, sp vs H Q E → vs.length = ps.length
  go : ∀ (A : Around) (outer : List Env) (s : Shared) (H : Hp) (ag : Args) (us : List Value) (vs : List V) (Q : VK) (E : XK), Room k A → A.guards = some [] → Env0 P w K mg base A outer s H →
    BindsTo s fd ag (ps.zip us) → Vals vs us → sp vs H Q E → codeAny (model P w) A (.call (.ref f) ag) (CR CX0 outer P w H s Q E) s
structure Dgr (P : Program) (w : World) (K : PySem.W.Frag) (mg : Str → Option Value) (base : Heap) (k : Nat) (x : Str) (ps : List Str) (sp : Sp) : Prop where
  ex : ∃ f fd, FnG P w K mg base k f fd ps sp ∧ mg x = some (.ref f) ∧ PySem.W.keepIn K (.ref f) = true ∧ Binds K fd ps []
theorem Dgr.mk' {P : Program} {w : World} {K : PySem.W.Frag} {mg : Str → Option Value} {base : Heap} {k : Nat} {x : Str} {st : Stmt} {ps : List Str} {sp : Sp} {f : Addr} {fd : FuncData} (F : Fun K x x st f fd) (G : FnG P w K mg base k f fd ps sp) (g : mg x = some (.ref f)) (b : Binds K fd ps []) : Dgr P w K mg base k x ps sp :=
  ⟨⟨f, fd, G, g, F.kp, b⟩⟩
end Sq
set_option Elab.async false
set_option linter.all false
/-! The best replacements, in plain Lean. -/
namespace Sq
def low (R : Int) : Int := (R + 3) / 2
def grow (R : Int) : Int := rw1 (low R) R
def up : Nat → Int → Int
  | 0, v => v
  | n + 1, v => grow (up n v)
end Sq
set_option Elab.async false
set_option linter.all false
/-! One of each choice, by its place. -/
namespace Sq
def Full (cs : List (List Int)) : Prop := ∀ c ∈ cs, 0 < c.length
theorem Full.tl {c : List Int} {cs : List (List Int)} (h : Full (c :: cs)) : Full cs := fun x hx => h x (List.mem_cons_of_mem _ hx)
theorem Full.hd {c : List Int} {cs : List (List Int)} (h : Full (c :: cs)) : 0 < c.length := h c (List.mem_cons_self ..)
end Sq
set_option Elab.async false
set_option linter.all false
set_option maxRecDepth 100000
set_option maxHeartbeats 1000000
/-! `for` in a generator's body, with yields in its suite. -/
namespace PySem
open Sem (wp)
end PySem
namespace L2
open PySem PySem.Spec PyProof.Rows GenW
end L2
set_option Elab.async false
set_option linter.all false
set_option maxRecDepth 100000
set_option maxHeartbeats 2000000
/-! Lists of lists of ints; a walk in a generator. -/
namespace Sq
open PySem PySem.Spec PyProof.Rows L2
/-- at each of them stands its list of ints -/
def RowsAt (H : Hp) : List Addr → List (List Int) → Prop
  | [], [] => True
  | a :: as, c :: cs => H a = some (.lst (c.map V.int)) ∧ RowsAt H as cs
  | _, _ => False
theorem RowsAt.same {H H' : Hp} (s : Same H H') : ∀ {as : List Addr} {cs : List (List Int)}, RowsAt H as cs → RowsAt H' as cs
  | [], [], _ => trivial
  | _ :: _, _ :: _, h => ⟨s _ _ h.1, RowsAt.same s h.2⟩
  | [], _ :: _, h => h.elim
  | _ :: _, [], h => h.elim
theorem RowsAt.len {H : Hp} : ∀ {as : List Addr} {cs : List (List Int)}, RowsAt H as cs → as.length = cs.length
  | [], [], _ => rfl
  | _ :: _, _ :: _, h => congrArg Nat.succ (RowsAt.len h.2)
  | [], _ :: _, h => h.elim
  | _ :: _, [], h => h.elim
theorem RowsAt.get {H : Hp} : ∀ {as : List Addr} {cs : List (List Int)} {i : Nat} {c : List Int}, RowsAt H as cs → cs[i]? = some c → ∃ a, as[i]? = some a ∧ H a = some (.lst (c.map V.int))
  | _ :: _, _ :: _, 0, _, h, e => by
    cases e
    exact ⟨_, rfl, h.1⟩
  | _ :: _, _ :: _, i + 1, _, h, e => RowsAt.get (i := i) h.2 e
  | [], _ :: _, _, _, h, _ => h.elim
  | _, [], _, _, _, e => by simp at e
theorem RowsAt.upd {H : Hp} {p : Addr} {o : HO} : ∀ {as : List Addr} {cs : List (List Int)}, RowsAt H as cs → p ∉ as → RowsAt (upd H p o) as cs
  | [], [], _, _ => trivial
  | a :: _, _ :: _, h, n => ⟨by rw [upd_ne (fun z => n (by rw [z]; exact List.mem_cons_self ..))]; exact h.1, RowsAt.upd h.2 (fun z => n (List.mem_cons_of_mem _ z))⟩
  | [], _ :: _, h, _ => h.elim
  | _ :: _, [], h, _ => h.elim
end Sq
set_option Elab.async false
set_option linter.all false
set_option maxRecDepth 100000
set_option maxHeartbeats 1000000
/-! Lists of lists of ints as data. -/
namespace Sq
open PySem PySem.Spec PyProof.Rows L2
theorem eqvAll_ints : ∀ xs ys : List Int, PyData.eqvAll (xs.map PyData.int) (ys.map PyData.int) = decide (xs = ys)
  | [], [] => rfl
  | [], _ :: _ => rfl
  | _ :: _, [] => rfl
  | x :: xs, y :: ys => by
    show (PyData.eqv (.int x) (.int y) && PyData.eqvAll (xs.map PyData.int) (ys.map PyData.int)) = decide (x :: xs = y :: ys)
    rw [eqvAll_ints xs ys]
    have e : PyData.eqv (.int x) (.int y) = decide (x = y) := by
      show (x == y) = decide (x = y)
      by_cases h : x = y
      · rw [decide_eq_true h]; exact beq_iff_eq.mpr h
      · rw [decide_eq_false h]; exact beq_eq_false_iff_ne.mpr h
    rw [e]
    by_cases h1 : x = y
    · by_cases h2 : xs = ys
      · subst h1 h2
        simp
      · simp [h1, h2]
    · simp [h1]
theorem eqv_ints (xs ys : List Int) : PyData.eqv (.list (xs.map PyData.int)) (.list (ys.map PyData.int)) = decide (xs = ys) := eqvAll_ints xs ys
def rLenK (K : PySem.W.Frag) : List V → Hp → VK → Prop := fun xs H Q => ∃ p ys, xs = [V.ref p] ∧ (SqL K H p ys ∨ SqT K H p ys) ∧ Q (V.int (ys.length : Nat)) H
theorem call_lenK {X : Cx} : CallR X (.builtin "len") (rLenK X.K) := call_len_seq
/-- kept by what turns the source alone -/
theorem RowsAt.keep {H H' : Hp} {l d : Addr} (k : ∀ b o, H b = some o → b ≠ l → b ≠ d → H' b = some o) : ∀ {as : List Addr} {cs : List (List Int)}, RowsAt H as cs → l ∉ as → d ∉ as → RowsAt H' as cs
  | [], [], _, _, _ => trivial
  | a :: _, _ :: _, h, n1, n2 => ⟨k _ _ h.1 (fun z => n1 (by rw [z]; exact List.mem_cons_self ..)) (fun z => n2 (by rw [z]; exact List.mem_cons_self ..)), RowsAt.keep k h.2 (fun z => n1 (List.mem_cons_of_mem _ z)) (fun z => n2 (List.mem_cons_of_mem _ z))⟩
  | [], _ :: _, h, _, _ => h.elim
  | _ :: _, [], h, _, _ => h.elim
end Sq
set_option Elab.async false
set_option linter.all false
set_option maxRecDepth 100000
set_option maxHeartbeats 4000000
/-! {e for a in xs for b in ys}, e an int: over the library's rules of the same with a list. -/
set_option Elab.async false
set_option linter.all false
set_option maxHeartbeats 1000000
/-! Choices counted: the longest run after a replacement, and how many choices are good. -/
namespace Sq
def la (L k : Int) : Int := if k > L then L else (L + 1) / k + k - 2
/-- 2, 3, .., g -/
def cand (g : Int) : List Int := (List.range (g - 1).toNat).map fun i : Nat => 2 + (i : Int)
def cnt (g : Int) : Nat → Int → Nat
  | 0, L => if L ≤ 1 then 1 else 0
  | n + 1, L => ((cand g).map fun k => cnt g n (la L k)).sum
end Sq
set_option Elab.async false
set_option linter.all false
set_option maxRecDepth 100000
set_option maxHeartbeats 1000000
/-! Walks with an open step; members without doubles; the lengths by place. -/
namespace Sq
open PySem PySem.Spec PyProof.Rows L2
theorem walkL {K : PySem.W.Frag} {a : Addr} {xs : List V} {Qd : Hp → Prop} {St : V → Hp → (Hp → Prop) → Prop} {H0 : Hp} (Pv : Nat → Hp → Prop) (h0 : Pv 0 H0) (hl : ∀ i H, i ≤ xs.length → Pv i H → SqL K H a xs)
    (hs : ∀ i x H, xs[i]? = some x → Pv i H → St x H (Pv (i + 1))) (hd : ∀ H, Pv xs.length H → Qd H) :
    ∃ W : Nat → Nat → Hp → Prop, (∃ m, W 0 m H0) ∧ ∀ i m H, W i m H → ((Itl K a).stop i H ∧ Qd H) ∨ ((Itl K a).go i H ∧ ∃ Nx : Hp → Prop, (∀ H', Nx H' → ∃ m', m' < m ∧ W (i + 1) m' H') ∧ ∀ x H', (Itl K a).yld i H x H' → St x H' Nx) := by
  refine ⟨fun i m H => m = xs.length - i ∧ i ≤ xs.length ∧ Pv i H, ⟨_, rfl, Nat.zero_le _, h0⟩, ?_⟩
  rintro i m H ⟨rfl, le, p⟩
  have there := hl i H le p
  by_cases lt : i < xs.length
  · exact .inr ⟨⟨xs, xs[i], there, List.getElem?_eq_getElem lt⟩, Pv (i + 1), fun H' p' => ⟨xs.length - (i + 1), by omega, rfl, lt, p'⟩, fun x H' y => by
      obtain ⟨rfl, e⟩ := y
      exact hs i x _ (e xs there) p⟩
  · obtain rfl : i = xs.length := by omega
    exact .inl ⟨⟨xs, there, Nat.le_refl _⟩, hd H p⟩
/-! ### without doubles -/
/-! ### the lengths by place -/
structure Lens (n : Nat) (g L : Int) (i : Nat) (rows : List (List Int)) : Prop where
  len : rows.length = i + 1
  zero : rows[0]? = some [L]
  asc : ∀ (p : Nat) (r : List Int), rows[p]? = some r → r.Pairwise (· < ·)
  mem : ∀ (p : Nat) (r : List Int), rows[p]? = some r → ∀ x ∈ r, 0 ≤ x ∧ x ≤ L
  next : ∀ (p : Nat) (r r' : List Int), rows[p]? = some r → rows[p + 1]? = some r' → ∀ x, x ∈ r' ↔ (∃ l ∈ r, ∃ k, 2 ≤ k ∧ k ≤ g ∧ x = la l k) ∧ x ≤ up (n - (p + 1)) 1
  short : L < 63 ∨ ∀ (p : Nat) (r : List Int), rows[p]? = some r → r.length ≤ 6
theorem Lens.start {n : Nat} {g L : Int} (h0 : 0 ≤ L) : Lens n g L 0 [[L]] where
  len := rfl
  zero := rfl
  asc := fun p r e => by
    match p, e with
    | 0, e => cases e; exact List.pairwise_singleton _ _
  mem := fun p r e x hx => by
    match p, e with
    | 0, e =>
      cases e
      rw [List.mem_singleton.mp hx]
      exact ⟨h0, Int.le_refl _⟩
  next := fun p r r' e e' => by
    match p, e' with
    | 0, e' => cases e'
    | p + 1, e' => cases e'
  short := .inr fun p r e => by
    match p, e with
    | 0, e => cases e; exact (show 1 ≤ 6 by decide)
theorem asc_nodup {ns : List Int} (h : ns.Pairwise (· < ·)) : ns.Nodup := List.Pairwise.imp (fun {a b} z e => by omega) h
end Sq
set_option Elab.async false
set_option linter.all false
set_option maxRecDepth 100000
set_option maxHeartbeats 2000000
/-! Generators that live beside their consumer: what stands, seen from either side. -/
set_option Elab.async false
set_option linter.all false
set_option maxRecDepth 100000
set_option maxHeartbeats 2000000
set_option Elab.async false
set_option linter.all false
set_option maxRecDepth 100000
set_option maxHeartbeats 1000000
/-! Counting: how many lengths up to a limit become one that is told. -/
set_option Elab.async false
set_option linter.all false
set_option maxRecDepth 100000
set_option maxHeartbeats 1000000
/-! A dict of limits, each with how often it counts: what it says of a length. -/
namespace Sq
open PySem PySem.Spec PyProof.Rows L2
/-! ### dicts from ints to ints -/
def one (b : Bool) : Int := if b = true then 1 else 0
/-! ### counts -/
end Sq
set_option Elab.async false
set_option linter.all false
set_option maxRecDepth 100000
set_option maxHeartbeats 1000000
/-! One replacement more: the next dict of limits. -/
set_option Elab.async false
set_option linter.all false
set_option maxRecDepth 100000
set_option maxHeartbeats 2000000
/-! Objects of an own class: made, their methods called, their properties read, where these may raise too. -/
namespace Sq
open PySem PySem.Spec PyProof.Rows L2
theorem at0 {X : Cx} : ∀ σ, PassesAt CX0 X σ ((fun _ => E0 : L2.St → XK) σ) := fun _ _ _ _ _ _ _ h => h.elim
end Sq
set_option Elab.async false
set_option linter.all false
set_option maxRecDepth 100000
set_option maxHeartbeats 1000000
/-! a <= b <= c <= d as a test; the number of all origins. -/
set_option Elab.async false
set_option linter.all false
set_option maxRecDepth 100000
set_option maxHeartbeats 1000000
/-! The number of all origins, replacement by replacement. -/
set_option Elab.async false
set_option linter.all false
set_option maxRecDepth 100000
set_option maxHeartbeats 1000000
/-! yield from a list. -/
namespace L2
open PySem PySem.Spec PyProof.Rows GenW
end L2
set_option Elab.async false
set_option linter.all false
set_option maxRecDepth 100000
set_option maxHeartbeats 2000000
namespace Sq
open PySem PySem.Spec PyProof.Rows L2 GenW
structure GEndL where
  nx : Nat → Hp → L2.St → Hp → Prop
  rt : Nat → Hp → VK
  bk : Nat → Hp → L2.St → Hp → Prop := fun _ _ _ _ => False
  ct : Nat → Hp → L2.St → Hp → Prop := fun _ _ _ _ => False
def GEndL.at (D : GEndL) (i : Nat) (Hb : Hp) : Ends := { nx := D.nx i Hb, rt := D.rt i Hb, bk := D.bk i Hb, ct := D.ct i Hb }
end Sq
set_option Elab.async false
set_option linter.all false
set_option maxRecDepth 100000
set_option maxHeartbeats 2000000
set_option Elab.async false
set_option linter.all false
set_option maxRecDepth 100000
set_option maxHeartbeats 2000000
set_option Elab.async false
set_option linter.all false
set_option maxRecDepth 100000
set_option maxHeartbeats 2000000
/-! Code that leaves the generators' table as it is. -/
set_option Elab.async false
set_option linter.all false
set_option maxRecDepth 100000
set_option maxHeartbeats 2000000
/-! for x in g(e, ..): body, where g is a generator def that lives beside its consumer. -/
set_option Elab.async false
set_option linter.all false
set_option maxRecDepth 100000
set_option maxHeartbeats 2000000
set_option Elab.async false
set_option linter.all false
set_option maxRecDepth 100000
set_option maxHeartbeats 2000000
/-! More code that leaves the generators' table as it is: calls of defs, operators, tuples, enumerate. -/
set_option Elab.async false
set_option linter.all false
set_option maxRecDepth 100000
set_option maxHeartbeats 2000000
/-! Methods called by keywords: one value by place, the rest by name. -/
set_option Elab.async false
set_option linter.all false
set_option maxRecDepth 100000
set_option maxHeartbeats 2000000
/-! A def that may raise, called by keywords. -/
set_option Elab.async false
set_option linter.all false
set_option maxRecDepth 100000
set_option maxHeartbeats 2000000
/-! sorted of a set of ints, any number of members. -/
namespace Sq
open PySem PySem.Spec PyProof.Rows L2
theorem set_sorted {P : Program} {w : World} {A : Around} {E : Value → Shared → Prop} {s : Shared} {a : Addr} {S : Int → Bool} {n : Nat} {Q : Value → Shared → Prop} (R : SetR w s.heap a S n) (quiet : A.handled = none) (few : n ≤ sizeLine)
    (fin : ∀ s' p (got : List Value) (ep : Nat) (ns : List Int), (∀ b o, s.heap.get? b = some o → s'.heap.get? b = some o) → s'.gens = s.gens → s'.os = s.os → s.heap.objs.size ≤ p → s'.heap.get? p = some (seqObj "list" got.toArray ep) →
      IntsAre got ns → ns.Pairwise (· < ·) → (∀ k, k ∈ ns ↔ S k = true) → ns.length = n → Q (.ref p) s') : wpAny (model P w) A (call (.builtin "sorted") [.ref a]) Q E s := by
  obtain ⟨o, es, ep, t, get, exact', data, good, once, mem, bound, fits, size, ris, led⟩ := R
  apply Calls.call_function_entry kind_sorted plain_sorted entry_sorted (args_sorted1 _)
  unfold Builtin.«sorted»
  apply wpAny_bind (m := checkCount "sorted" 1 1 _)
  apply wpAny_pure
  apply wpAny_bind
  refine collect_set (A := A.in1) quiet ⟨o, get, exact'.1, data⟩ fits bound ris led fun s1 vs kept grown gens os perm => ?_
  have len : vs.length = n := by
    rw [perm.length_eq, List.length_map, Array.length_toList]
    exact size
  have areInts : IntsAre vs (vs.map Builtin.Re.reRawOf) := ints_of vs fun v hv => by
    obtain ⟨e, he, q⟩ := List.mem_map.mp (perm.mem_iff.mp hv)
    obtain ⟨k, tk, h1, _⟩ := good e he
    exact ⟨k, tk, q ▸ h1⟩
  have keys : (vs.map Builtin.Re.reRawOf).Perm (es.toList.map keyOf) := by
    have := perm.map Builtin.Re.reRawOf
    rwa [List.map_map] at this
  apply wpAny_bind
  refine wpAny_newList ?_ (by omega)
  have fresh : (s1.heap.push (seqObj "list" vs.toArray 0)).get? s1.heap.objs.size = some (seqObj "list" vs.toArray 0) := Heap.get?_push_size _ rfl
  apply wpAny_bind
  apply wpAny_holding
  refine wpAny_call_entry slot_list_sort ⟨_, fresh, rfl⟩ entry_list_sort ?_ (args_list_sort _)
  refine SrtO.list_sort_ord SrtO.swo_int fresh (by omega) (fun two => SrtO.ints_sortable areInts two) fun out up stable => ⟨_, rfl, ?_⟩
  obtain ⟨i1, i2, i3⟩ := SrtO.ints_out areInts up stable
  obtain ⟨c, hc⟩ := sortedHeap_at (vs := vs) (out := out.toArray) fresh
  have all := i2.trans keys
  apply wpAny_pure
  refine ⟨_, rfl, fin _ s1.heap.objs.size out c (out.map SrtO.iv) (fun b u e => ?_) gens os grown hc i1 (lt_of_le_nodup _ i3 (all.nodup_iff.mpr once)) (fun k => by rw [all.mem_iff, ← mem k]) ?_⟩
  · have old := kept b u e
    have lt := Heap.lt_size old
    refine (sortedHeap_old (Nat.ne_of_lt lt) ?_).trans (Heap.get?_push_of_some _ old)
    rw [size_push']
    exact Nat.lt_succ_of_lt lt
  · rw [all.length_eq, List.length_map, Array.length_toList, size]
def rSortedSetI (w : World) : List V → Hp → VK → Prop := fun vs H Q => ∃ (a : Addr) (S : Int → Bool) (n : Nat), vs = [V.ref a] ∧ H a = some (SetO w a S n) ∧ n ≤ sizeLine ∧
  ∀ (ns : List Int) (p : Addr), ns.Pairwise (· < ·) → (∀ k : Int, k ∈ ns ↔ S k = true) → ns.length = n → H p = none → Q (.ref p) (upd H p (.lst (ns.map V.int)))
end Sq
set_option Elab.async false
set_option linter.all false
set_option maxHeartbeats 1000000
/-! The runs that a list makes single: the greatest two, and how many runs one replacement makes equal. -/
set_option Elab.async false
set_option linter.all false
set_option maxHeartbeats 1000000
/-! Reading a list back: one step. -/
namespace Sq
theorem len_le_of {α : Type} [DecidableEq α] : ∀ {A B : List α}, A.Nodup → (∀ x ∈ A, x ∈ B) → A.length ≤ B.length
  | [], B, _, _ => Nat.zero_le _
  | a :: A, B, nd, sub => by
    have nd' := List.nodup_cons.mp nd
    have h := len_le_of (A := A) (B := B.erase a) nd'.2 fun x hx => (List.mem_erase_of_ne (fun z : x = a => nd'.1 (by rw [← z]; exact hx))).mpr (sub x (List.mem_cons_of_mem _ hx))
    have l := List.length_erase_of_mem (sub a (List.mem_cons_self ..))
    have p : 0 < B.length := List.length_pos_of_mem (sub a (List.mem_cons_self ..))
    rw [List.length_cons]
    omega
end Sq
set_option Elab.async false
set_option linter.all false
set_option maxRecDepth 100000
set_option maxHeartbeats 4000000
/-! set(l) of a list of ints, kept so that it may be sorted; its len. -/
namespace Sq
open PySem PySem.Spec PyProof.Rows L2
abbrev emptyS (w : World) : Obj := { cls := .type "set", dict := none, data := .set #[] 0 (.fresh 0 0 (!w.params.followText "set-order")) }
section
variable {P : Program} {w : World} {A : Around} {E : Value → Shared → Prop} {s : Shared}
theorem set_of_list {l : Addr} {its : Array Value} {zs : List Int} {Q : Value → Shared → Prop} (quiet : A.handled = none) (isL : s.heap.IsList l its) (areI : IntsAre its.toList zs) (few : zs.length + 1 < scanBound)
    (fin : ∀ (g : Heap) (tk m : Nat), SetR w g s.heap.objs.size (fun j => decide (j ∈ zs)) m → m ≤ zs.length → (∀ b o, s.heap.get? b = some o → g.get? b = some o) → Q (.ref s.heap.objs.size) { s with heap := g, toks := tk }) :
    wpAny (model P w) A (call (.type "set") [.ref l]) Q E s := by
  have size : its.size = zs.length := by
    rw [← Array.length_toList]
    exact IntsAre.length areI
  obtain ⟨c0, tl0, mro0⟩ := F.called_set.mro
  have made0 := F.called_set.made
  have sub0 := F.called_set.sub
  refine wpAny_call (codeAny_of_tree (show wpAny _ _ (callAny (.type "set") _) _ _ _ from ?_))
  refine wpAny_pure ⟨Code.quiet_builtin _ (by decide +kernel), codeAny_builtin F.entry_type_call ?_⟩
  rw [Around.under_plain (weight_type_call_type "set" [.ref l] []) rfl]
  have t1 := F.called_set.notType
  have t2 := F.called_set.canCreate
  have t3 := F.typeCall_set_1 (.ref l)
  repeat (any_goals (first | assumption | wp_step))
  refine codeAny_mono (code_set_led1 (.ref l) (E := E) (Q₁ := fun ob s' => ob = .ref s.heap.objs.size ∧ s' = { s with heap := s.heap.push (emptyS w) }) ⟨rfl, rfl⟩) fun r s' hr => ?_
  match r, hr with
  | .error e, hr => exact hr
  | .ok .next, hr => exact hr.elim
  | .ok .brk, hr => exact hr.elim
  | .ok .cont, hr => exact hr.elim
  | .ok (.ret ob), hr =>
    obtain ⟨rfl, rfl⟩ := hr
    have gS : (s.heap.push (emptyS w)).get? s.heap.objs.size = some (emptyS w) := Heap.get?_push_size _ rfl
    have tS : Shared.TypeIs { s with heap := s.heap.push (emptyS w) } (.ref s.heap.objs.size) "set" := ⟨_, gS, rfl⟩
    have i1 := F.called_set.init.lookup
    have i2 := F.called_set.init.bind (.ref s.heap.objs.size)
    repeat (any_goals (first | assumption | wp_step))
    refine codeAny_mono (codeAny_call_builtin (R := wants (fun r s2 => r = .none ∧ ∃ g tk m, s2 = { s with heap := g, toks := tk } ∧ SetR w g s.heap.objs.size (fun j => decide (j ∈ zs)) m ∧ m ≤ zs.length ∧
        ∀ b o, s.heap.get? b = some o → g.get? b = some o) E) F.called_set.init.plain F.entry_set_init (check_set_init_1 tS ?_)) fun r2 s2 hr2 => ?_
    · obtain ⟨⟨cl, di, da, sl⟩, ol, isC, nl, isD⟩ := isL
      simp only at isC isD
      subst isC isD
      have ol1 : (s.heap.push (emptyS w)).get? l = some { cls := .type "list", dict := di, data := .seq its nl, slots := sl } := Heap.get?_push_of_some _ ol
      have n1 := F.sub_list_set
      have n2 := F.sub_list_frozenset
      have n3 : (Value.type "list" == Value.type "dict") = false := by decide
      have isL1 : (s.heap.push (emptyS w)).IsList l its := ⟨_, ol1, rfl, nl, rfl⟩
      unfold Builtin.«set.__init__» noKeywords Builtin.Frozenset.updateFrom
      generalize pk : pyIter = PK
      wp_walk
      subst pk
      refine wpAny_pyIter_list isL1 (wpAny_bind (wpAny_runValue ?_))
      have low : l < s.heap.objs.size := Heap.lt_size ol
      have q3 : A.in1.in1.in1.handled = none := by simp [quiet]
      have big : (s.heap.push (emptyS w)).objs.size = s.heap.objs.size + 1 := Heap.size_push ..
      have apart : l ≠ (s.heap.push (emptyS w)).objs.size := by rw [big]; exact Nat.ne_of_lt (Nat.lt_succ_of_lt low)
      have notIn : s.heap.objs.size ∉ [(s.heap.push (emptyS w)).objs.size, l] := by
        rw [big]
        intro z
        rcases List.mem_cons.mp z with z | z
        · exact absurd z (Nat.ne_of_lt (Nat.lt_succ_self _))
        · exact absurd (List.mem_singleton.mp z) (Nat.ne_of_gt low)
      have vals : ∀ (i : Nat) (v : Value), its[i]? = some v → ∃ k t, zs[i]? = some k ∧ v = .int k t := fun i v hv => by
        have li : i < zs.length := by rw [← size]; exact (Array.getElem?_eq_some_iff.mp hv).1
        obtain ⟨t, e⟩ := IntsAre.int_at areI i v (by rw [Array.getElem?_toList]; exact hv)
        refine ⟨zs[i], t, List.getElem?_eq_getElem li, ?_⟩
        rw [e, List.getD_eq_getElem?_getD, List.getElem?_eq_getElem li] <;> rfl
      refine set_update_ints ((Walks.list q3 _ l apart its).toS) s.heap.objs.size notIn zs size few vals (its.size - 0) 0 _ (by omega) (Nat.zero_le _) ⟨⟨_, Heap.get?_push_size _ rfl, rfl, rfl⟩, isL1.push _⟩ ⟨0, Nat.le_refl 0, setR_new_at (Heap.get?_push_of_some _ gS)⟩ ?_
      intro s3 m mv lm R3
      obtain ⟨g, gn, dr, tk, os⟩ := s3
      obtain rfl : gn = s.gens := mv.gens
      obtain rfl : dr = s.drawn := mv.drawn
      obtain rfl : os = s.os := mv.os
      rw [size] at lm
      refine (show wpAny _ _ _ _ _ _ from wpAny_pure (show wpAny _ _ (ret Value.none) _ _ _ from ?_))
      refine wpAny_pure ⟨rfl, g, tk, m, rfl, R3, lm, fun b o e => ?_⟩
      have lb : b < s.heap.objs.size := Heap.lt_size e
      refine mv.heap b o (fun z => ?_) (Heap.get?_push_of_some _ (Heap.get?_push_of_some _ e))
      rcases List.mem_cons.mp z with z | z
      · exact absurd z (Nat.ne_of_lt lb)
      · have z := List.mem_singleton.mp z
        rw [big] at z
        exact absurd z (Nat.ne_of_lt (Nat.lt_succ_of_lt lb))
    · match r2, hr2 with
      | .error e, hr2 => exact hr2
      | .ok .next, hr2 => exact hr2.elim
      | .ok .brk, hr2 => exact hr2.elim
      | .ok .cont, hr2 => exact hr2.elim
      | .ok (.ret v), hr2 =>
        obtain ⟨rfl, g, tk, m, rfl, R3, lm, kept⟩ := hr2
        repeat (any_goals (first | assumption | wp_step))
        exact fin _ _ _ R3 lm kept
end
theorem perm_of_sub {α : Type} [DecidableEq α] : ∀ {A B : List α}, A.Nodup → (∀ x ∈ A, x ∈ B) → B.length = A.length → A.Perm B
  | [], B, _, _, l => by rw [List.length_eq_zero_iff.mp l]
  | a :: A, B, nd, sub, l => by
    have nd' := List.nodup_cons.mp nd
    have ha := sub a List.mem_cons_self
    have le := List.length_erase_of_mem ha
    rw [List.length_cons] at l
    have ih := perm_of_sub (A := A) (B := B.erase a) nd'.2 (fun x hx => (List.mem_erase_of_ne (fun z : x = a => nd'.1 (by rw [← z]; exact hx))).mpr (sub x (List.mem_cons_of_mem _ hx))) (by omega)
    exact (ih.cons a).trans (List.perm_cons_erase ha).symm
theorem setR_count {w : World} {h : Heap} {a : Addr} {zs : List Int} {m : Nat} (R : SetR w h a (fun j => decide (j ∈ zs)) m) : m = zs.length ↔ zs.Nodup := by
  obtain ⟨o, es, ep, t, get, ex, data, good, once, mem, bound, fits, size, ris, led⟩ := R
  have len : (es.toList.map keyOf).length = m := by rw [List.length_map, Array.length_toList]; exact size
  have sub : ∀ x, x ∈ es.toList.map keyOf ↔ x ∈ zs := fun x => by rw [← mem x]; exact decide_eq_true_iff
  constructor
  · intro e
    exact (perm_of_sub once (fun x hx => (sub x).mp hx) (by rw [len, e])).nodup_iff.mp once
  · intro nd
    have a := len_le_of nd fun x hx => (sub x).mpr hx
    have b := len_le_of once fun x hx => (sub x).mp hx
    omega
section
variable {X : Cx}
def rSetL (K : PySem.W.Frag) (w : World) : List V → Hp → VK → Prop := fun vs H Q => ∃ (l : Addr) (zs : List Int), vs = [.ref l] ∧ SqL K H l (zs.map V.int) ∧ zs.length ≤ 4000 ∧ ∀ p m, H p = none → m ≤ zs.length → (m = zs.length ↔ zs.Nodup) → Q (.ref p) (upd H p (SetO w p (fun j => decide (j ∈ zs)) m))
end
end Sq
set_option Elab.async false
set_option linter.all false
set_option maxRecDepth 100000
set_option maxHeartbeats 1000000
/-! Texts of lists: what the laws share. -/
namespace Sq
open PySem PySem.Spec PyProof.Rows L2
open TL (numL numL_len)
theorem small_dec {l : List Nat} (h : ((TL.spl [44, 32] 0 [] l).all fun p => match rPart p with | some (_, k) => decide (k ≤ 1000) | none => true) = true) : Small l := fun p hp n k e => by
  have := List.all_eq_true.mp h p hp
  rw [e] at this
  exact of_decide_eq_true this
theorem cutS_take (z : Str) (n : Nat) (h : n ≤ z.length) : TL.tl (cutS z none (some (n : Int))) = (TL.tl z).take n := by
  show ((z.cps.toList.drop (HT.sIx z.length 0 none)).take (HT.sIx z.length z.length (some (n : Int)) - HT.sIx z.length 0 none)) = _
  rw [HT.sIx_nat, HT.sIx_none, List.drop_zero, Nat.min_eq_left h, Nat.sub_zero]
end Sq
set_option Elab.async false
set_option linter.all false
set_option maxRecDepth 100000
set_option maxHeartbeats 2000000
/-! list(text); texts cut at ^ or at ", "; how long a shown list of numbers is. -/
namespace Sq
open PySem PySem.Spec PyProof.Rows L2
open NumText (digitsVal AllDigits)
def signsV (x : Str) : List V := (TL.tl x).map fun c => V.str ⟨#[c]⟩
def rListStr : List V → Hp → VK → Prop := fun xs H Q => ∃ x : Str, xs = [.str x] ∧ x.length ≤ sizeLine ∧ ∀ p, H p = none → Q (.ref p) (upd H p (.lst (signsV x)))
theorem vals_signs {x : Str} {acc : Array Value} (h : ItemsOf (SignAt x) acc x.cps.size) : Vals (signsV x) acc.toList := by
  obtain ⟨sz, items⟩ := h
  have key : ∀ (cs : List Nat) (vs : List Value), cs.length = vs.length → (∀ (j : Nat) (v : Value), vs[j]? = some v → ∃ c u, cs[j]? = some c ∧ v = Value.str ⟨#[c]⟩ u) → Vals (cs.map fun c => V.str ⟨#[c]⟩) vs := fun cs => by
    induction cs with
    | nil =>
      intro vs l _
      cases vs with
      | nil => exact .nil
      | cons v vs => cases l
    | cons c cs ih =>
      intro vs l it
      cases vs with
      | nil => cases l
      | cons v vs =>
        obtain ⟨c', u, e, rfl⟩ := it 0 v rfl
        cases e
        exact .cons ⟨u, rfl⟩ (ih vs (Nat.succ.inj l) fun j w e => it (j + 1) w e)
  refine key (TL.tl x) acc.toList ?_ fun j v e => ?_
  · show x.cps.toList.length = _
    rw [Array.length_toList, Array.length_toList, sz]
  · obtain ⟨c, u, e2, e3⟩ := items j v (by rw [← Array.getElem?_toList]; exact e)
    exact ⟨c, u, by show x.cps.toList[j]? = some c; rw [Array.getElem?_toList]; exact e2, e3⟩
theorem call_listStr {X : Cx} (hc : X.calm = true) : CallR X (.type "list") rListStr := by
  intro pins s σ H xs us Q I r h
  obtain ⟨x, rfl, hl, q⟩ := h
  obtain ⟨u, rfl, t, rfl⟩ := vals1 r
  refine PySem.call_list_str (I.ok.hd hc) x t (fun h' tk acc' c' keep got items => ?_) hl
  have free : H s.heap.objs.size = none := I.hok.fresh (Nat.le_refl _)
  have len : (signsV x).length ≤ sizeLine := by
    unfold signsV
    rw [List.length_map, ← TL.len_tl]
    exact hl
  refine ⟨.ref s.heap.objs.size, upd H s.heap.objs.size (.lst (signsV x)), ?_, rfl, q _ free⟩
  exact I.call (ch := []) (Un.laid keep (Nat.le_refl _) free) (I.hok.laid keep (Nat.le_refl _) ⟨len, acc'.toList, c', vals_signs items, by rw [Array.toArray_toList]; exact got⟩) I.bare (fun _ z => nomatch z)
end Sq
set_option Elab.async false
set_option linter.all false
set_option maxRecDepth 100000
set_option maxHeartbeats 2000000
/-! Code that leaves one cell of the frame as it is, to the token of its text: for str.replace. -/
namespace Sq
open PySem PySem.Spec PyProof.Rows L2 GenW
/-- the object at c is as it was -/
def Kc (c : Addr) (s s' : Shared) : Prop := ∀ o, s.heap.get? c = some o → s'.heap.get? c = some o
theorem Kc.refl {c : Addr} {s : Shared} : Kc c s s := fun _ e => e
theorem Kc.trans {c : Addr} {s s1 s2 : Shared} (a : Kc c s s1) (b : Kc c s1 s2) : Kc c s s2 := fun o e => b o (a o e)
/-- c is the cell of a name of the def's own -/
structure Cel (X : Cx) (y : Str) (c : Addr) : Prop where
  is : X.env.cells.lookup y = some c
  own : X.fn y = true
section
variable {X : Cx} {y : Str} {c : Addr} {pins : List (Addr × Obj)} {σ : L2.St} {H H' : Hp} {s s' : Shared}
theorem Cel.free (C : Cel X y c) (I : Inv X pins σ H s) : H c = none := I.freeC _ _ C.is
theorem Cel.nofs (C : Cel X y c) (I : Inv X pins σ H s) : c ∉ X.fs := fun hb => by
  obtain ⟨_, o, ho, _⟩ := I.ok.funs.mem hb
  exact absurd (Nat.lt_of_lt_of_le (Heap.lt_size ho) (I.ok.cab _ _ C.own C.is)) (Nat.lt_irrefl _)
theorem Cel.nostk (C : Cel X y c) (I : Inv X pins σ H s) : c ∉ frs X.stack := by
  rcases I.ok.stk with e | ⟨e, fr⟩
  · rw [e]
    exact C.nofs I
  · rw [e]
    intro h
    obtain ⟨en, hm, hf⟩ := List.mem_filterMap.mp h
    rcases List.mem_cons.mp hm with z | z
    · rw [z, fr] at hf
      exact I.cne _ _ C.is (Option.some.inj hf).symm
    · exact C.nofs I (List.mem_filterMap.mpr ⟨en, z, hf⟩)
theorem Cel.un (C : Cel X y c) (I : Inv X pins σ H s) (u : Un (frs X.stack) [] H H' s.heap s'.heap) : Kc c s s' := fun o e => u.keep c o e (C.free I) (C.nostk I) (by simp)
end
structure JE (X : Cx) (c : Addr) (e : Expr) (t : TE) : Prop where
  run : ∀ (pins : List (Addr × Obj)) (s : Shared) (σ : L2.St) (H : Hp) (Q : VK), Inv X pins σ H s → t σ H Q → wpAny (model X.prog X.w) X.A (eval e X.env) (fun u s' => Kc c s s' ∧ EP X pins σ Q u s') X.xe s
structure JA (X : Cx) (c : Addr) (es : List Expr) (t : TA) : Prop where
  run : ∀ (pos : Pos) (pins : List (Addr × Obj)) (s : Shared) (σ : L2.St) (H : Hp) (Q : List V → Hp → Prop), Inv X pins σ H s → t σ H Q → wpAny (model X.prog X.w) X.A (spliced (backTo pos (starEach es X.env))) (fun us s' => Kc c s s' ∧ AP X pins σ Q us s') X.xe s
structure JSt (X : Cx) (c : Addr) (st : Stmt) (t : TS) : Prop where
  run : ∀ (pins : List (Addr × Obj)) (s : Shared) (σ : L2.St) (H : Hp) (D : Ends), Inv X pins σ H s → t D σ H → wpAny (model X.prog X.w) X.A (exec st X.env) (fun f s' => Kc c s s' ∧ SP X pins D f s') X.xe s
def CallJ (X : Cx) (c : Addr) (f : Value) (r : List V → Hp → VK → Prop) : Prop := ∀ (pins : List (Addr × Obj)) (s : Shared) (σ : L2.St) (H : Hp) (vs : List V) (us : List Value) (Q : VK), Inv X pins σ H s → Vals vs us → r vs H Q → wpAny (model X.prog X.w) X.A (call f us) (fun u s' => Kc c s s' ∧ EP X pins σ Q u s') X.xe s
section
variable {X : Cx} {y : Str} {c : Addr} {pins : List (Addr × Obj)} {σ : L2.St} {H : Hp} {s : Shared} {x : Str} {p pos : Pos} {e : Expr} {es : List Expr} {te : TE} {t : TA}
/-! ### expressions -/
theorem je_var {i : Nat} (hN : X.N[i]? = some x) (hv : Vis X.env.scope x) (hd : (x == ("__debug__" : Str)) = false := by decide) (hcd : (x == ("__classdict__" : Str)) = false := by decide) : JE X c (.Name x pos) (tVar i) :=
  ⟨fun pins s σ H Q I h => by
    obtain ⟨v, e, q⟩ := h
    exact raw_name hN hv I e (fun u r => ⟨Kc.refl, v, H, I, r, q⟩) hd hcd⟩
theorem jv (i : Nat) (hN : X.N[i]? = some x := by rfl) (hv : Vis X.env.scope x := by first | exact Or.inl rfl | exact Or.inr (Or.inl rfl) | exact Or.inr (Or.inr rfl)) (hd : (x == ("__debug__" : Str)) = false := by decide)
    (hcd : (x == ("__classdict__" : Str)) = false := by decide) : JE X c (.Name x pos) (tVar i) := je_var hN hv hd hcd
theorem je_int {i : Int} {k : Nat} : JE X c (.Constant (.int i) k pos) (tC (.int i)) :=
  ⟨fun pins s σ H Q I h => wpAny_Constant_int ⟨Kc.refl, .int i, H, I.tok _, ⟨_, rfl⟩, h⟩⟩
theorem ja_nil : JA X c [] tNil := ⟨fun pos pins s σ H Q I h => Calls.spliced_nil ⟨Kc.refl, [], H, I, .nil, h⟩⟩
theorem ja_cons (ha : JE X c e te) (hr : JA X c es t) (hs : starEach (e :: es) X.env = (false, eval e X.env) :: starEach es X.env := by rfl) : JA X c (e :: es) (tCons te t) := by
  refine ⟨fun pos pins s σ H Q I h => ?_⟩
  rw [hs]
  show wpAny _ _ (spliced ((false, eval e X.env) :: backTo pos (starEach es X.env))) _ _ s
  refine Calls.spliced_cons (thn (ha.run pins s σ H _ I h) fun u s1 hh => ?_)
  obtain ⟨g1, x, H1, I1, r1, q1⟩ := hh
  exact thn (hr.run pos pins s1 σ H1 _ I1 q1) fun us s2 ⟨g2, xs, H2, I2, r2, q2⟩ => ⟨g1.trans g2, x :: xs, H2, I2, .cons r1 r2, q2⟩
theorem run_fnJ {CX : CXT} {k : Nat} {f : Addr} {fd : FuncData} {ps : List Str} {sp : Sp} {dvs : List V} {ds : List Value} {E : XK} {Q : VK} {us : List Value} {vs : List V} (C : Cel X y c) (F : FnOk X.prog X.w X.K X.mg X.base CX k f fd ps sp) (hr : Room k X.A) (hb : Binds X.K fd ps ds) (hd : Vals dvs ds) (hx : Passes CX X E)
    (I : Inv X pins σ H s) (r : Vals vs us) (h : sp (vs ++ dvs) H Q E) : wpAny (model X.prog X.w) X.A (call (.ref f) us) (fun u s' => Kc c s s' ∧ EP X pins σ Q u s') X.xe s := by
  have r2 : Vals (vs ++ dvs) (us ++ ds) := r.append hd
  have hl : (us ++ ds).length = ps.length := by rw [← r2.length]; exact F.len _ _ _ _ h
  refine wpAny_call (codeAny_mono (F.run X.A X.stack s H ⟨us, []⟩ (us ++ ds) (vs ++ dvs) Q E hr I.env0 (hb s us I.kIn hl) r2 h) fun r s' hq => ?_)
  match r, hq with
  | .error e, hq => exact hx pins σ H s e s' I hq
  | .ok (.ret u), hq =>
    have ce : CE X.stack X.prog X.w H s Q u s' := hq
    obtain ⟨_, _, _, _, un, _⟩ := id ce
    exact ⟨C.un I un, I.after ce⟩
  | .ok .next, hq => exact False.elim hq
  | .ok .brk, hq => exact False.elim hq
  | .ok .cont, hq => exact False.elim hq
theorem je_call {CX : CXT} {k : Nat} {f : Addr} {fd : FuncData} {ps : List Str} {sp : Sp} {dvs : List V} {ds : List Value} {E : XK} (C : Cel X y c) (F : FnOk X.prog X.w X.K X.mg X.base CX k f fd ps sp) (hr : Room k X.A) (hg : Gl X x) (hm : X.mg x = some (.ref f)) (hk : PySem.W.keepIn X.K (.ref f) = true) (hb : Binds X.K fd ps ds) (hd : Vals dvs ds) (hx : Passes CX X E)
    (ha : JA X c (e :: es) t) (hdb : (x == ("__debug__" : Str)) = false := by decide) (he : starEach (e :: es) X.env = (false, eval e X.env) :: starEach es X.env := by rfl) (hpl : (backTo pos (starEach es X.env)).any (·.1) = false := by rfl) :
    JE X c (.Call (.Name x p) (e :: es) [] pos) (tCall sp dvs E t) := by
  refine ⟨fun pins s σ H Q I h => ?_⟩
  refine wpAny_Call_Name_kw (ld_glob I hg hm ?_ hdb)
  refine PySem.W.callWith_K (h₀ := X.base) I.ok.mod.kin hk (thn (ha.run pos pins s σ H _ I h) fun us s1 hh => ?_) he hpl
  obtain ⟨g1, vs, H1, I1, r, q⟩ := hh
  exact ⟨I1.kIn, thn (run_fnJ C F hr hb hd hx I1 r q) fun u s2 ⟨g2, q2⟩ => ⟨g1.trans g2, q2⟩⟩
theorem je_callD {k : Nat} {ps : List Str} {sp : Sp} (C : Cel X y c) (D : Df X.prog X.w X.K X.mg X.base k x ps sp) (hr : Room k X.A) (hg : Gl X x) (ha : JA X c (e :: es) t) (hdb : (x == ("__debug__" : Str)) = false := by decide)
    (he : starEach (e :: es) X.env = (false, eval e X.env) :: starEach es X.env := by rfl) (hpl : (backTo pos (starEach es X.env)).any (·.1) = false := by rfl) : JE X c (.Call (.Name x p) (e :: es) [] pos) (tCall sp [] E0 t) := by
  obtain ⟨f, fd, F, g, kp, b⟩ := D.ex
  exact je_call C F hr hg g kp b .nil pass0 ha hdb he hpl
theorem je_callB {id : String} {r : List V → Hp → VK → Prop} (hc : CallJ X c (.builtin id) r) (hg : Gl X x) (hm : X.mg x = none) (hv : bootBuiltins x = some (.builtin id)) (ha : JA X c (e :: es) t) (hn : x ≠ "__name__" := by decide) (hdb : (x == ("__debug__" : Str)) = false := by decide)
    (he : starEach (e :: es) X.env = (false, eval e X.env) :: starEach es X.env := by rfl) (hpl : (backTo pos (starEach es X.env)).any (·.1) = false := by rfl) : JE X c (.Call (.Name x p) (e :: es) [] pos) (tCB r t) := by
  refine ⟨fun pins s σ H Q I h => ?_⟩
  refine wpAny_Call_Name_kw (ld_blt I hg hm hv ?_ hn hdb)
  refine PyProof.Rows.callWith_builtin1 (thn (ha.run pos pins s σ H _ I h) fun us s1 hh => ?_) he hpl
  obtain ⟨g1, vs, H1, I1, r1, q1⟩ := hh
  exact thn (hc pins s1 σ H1 vs us Q I1 r1 q1) fun u s2 ⟨g2, q2⟩ => ⟨g1.trans g2, q2⟩
theorem cj_sortedSetI (hc : X.calm = true) : CallJ X c (.builtin "sorted") (rSortedSetI X.w) := by
  intro pins s σ H vs us Q I r h
  obtain ⟨a, S, n, rfl, ha, few, q⟩ := h
  rw [Vals.ref1 r]
  refine set_sorted (setO_get I ha) (I.ok.hd hc) few fun s' p got ep ns kept g os lp hg areI up mem len => ?_
  have free : H p = none := I.hok.fresh lp
  have sz : (ns.map V.int).length ≤ sizeLine := by
    rw [List.length_map]
    omega
  have same : s' = { s with heap := s'.heap, gens := s'.gens, drawn := s'.drawn, toks := s'.toks } := by
    cases s'
    cases s
    cases os
    rfl
  rw [same]
  exact ⟨fun o e => kept _ _ e, .ref p, upd H p (.lst (ns.map V.int)), I.call (ch := []) (Un.laid kept lp free) (I.hok.laid kept lp ⟨sz, got, ep, vals_of_ints areI, hg⟩) (by rw [g]; exact I.bare) (fun _ z => nomatch z), rfl, q ns p up mem len free⟩
/-! ### statements -/
theorem jst_expr (he : JE X c e te) (hs : swapsWith e none pos.line X.env = pure false := by rfl) : JSt X c (.Expr e pos) (tDrop te) := by
  refine ⟨fun pins s σ H D I h => ?_⟩
  refine wpAny_Expr_any (thn (he.run pins s σ H _ I h) fun v s1 hh => ?_) I.quiet hs
  obtain ⟨g1, x, H1, I1, r1, q1⟩ := hh
  exact ⟨g1, σ, H1, I1, q1⟩
theorem jst_set {i : Nat} {pos' : Pos} (C : Cel X y c) (ne : x ≠ y) (hN : X.N.Nodup) (hi : X.N[i]? = some x) (hx : Loc X.env.scope x) (he : JE X c e te) (hs : swapsWith e (some (.Name x pos')) pos.line X.env = pure false := by rfl) (hf : X.fn x = true ∨ X.env.scope.names.lookup x = some .local := by first | exact .inl rfl | exact .inr rfl | assumption) :
    JSt X c (.Assign [.Name x pos'] e pos) (tAsg te (gName i)) := by
  refine ⟨fun pins s σ H D I h => ?_⟩
  refine wpAny_Assign_Name (thn (he.run pins s σ H _ I h) fun v s1 hh => ?_) hs
  obtain ⟨g1, z, H1, I1, r1, q1⟩ := hh
  refine store_ok2 I1 hN hi hx r1 (fun s2 I2 hh => ?_) hf
  obtain ⟨a, sb, ha⟩ := hh
  have ca : c ≠ a := fun z => by
    rcases ha with ha | ha
    · exact I1.cne _ _ C.is (z.trans ha)
    · rw [← z] at ha
      exact ne (I1.ok.inj _ _ _ ha C.is)
  exact ⟨g1.trans fun o e => (sb.2 c ca).trans e, _, H1, I2, q1⟩
end
end Sq
set_option Elab.async false
set_option linter.all false
set_option maxRecDepth 100000
set_option maxHeartbeats 4000000
/-! More code that leaves one cell as it is: a dict comprehension with one for, set(l), list(x). -/
namespace Sq
open PySem PySem.Spec PyProof.Rows L2 GenW
section
variable {X : Cx}
/-- where a loop's items come from -/
structure JI (X : Cx) (c : Addr) (tg iter : Expr) (wi : TI) : Prop where
  run : ∀ (pins : List (Addr × Obj)) (s : Shared) (σ : L2.St) (H : Hp) (R : It → Hp → Prop), Inv X pins σ H s → wi σ H R →
    wpAny (model X.prog X.w) X.A (eval iter X.env) (fun v s1 => wpAny (model X.prog X.w) X.A (pyIter v) (fun u s2 => Kc c s s2 ∧ PIE X pins σ tg R u s2) X.xe s1) X.xe s
theorem ji_list {c : Addr} {tg l : Expr} {tl : TE} (hl : JE X c l tl) : JI X c tg l (iList X.K tl) := by
  refine ⟨fun pins s σ H R I h => ?_⟩
  refine thn (hl.run pins s σ H _ I h) fun v s1 hh => ?_
  obtain ⟨g1, x, H1, I1, r1, a, e, ⟨xs, hq⟩, q⟩ := hh
  subst e
  cases r1
  obtain ⟨its, rv, p, hz⟩ := I1.list hq
  refine wpAny_pyIter_list p.isList ⟨g1.trans fun o e => Heap.get?_push_of_some _ e, ?_⟩
  have lo : s1.heap.objs.size ≤ s1.heap.objs.size := Nat.le_refl _
  refine ⟨s1.heap.objs.size, [s1.heap.objs.size], _, _, H1, rfl, I1.kept (t' := s1.toks) fun b o e => Heap.get?_push_of_some _ e, turn_list a _, ⟨_, Heap.get?_push_size _ rfl, rfl, rfl⟩, fun b hb => ?_, q⟩
  rw [List.mem_singleton.mp hb]
  exact I1.fpOk lo (I1.hok.fresh lo)
theorem dcJ_core {y0 : Str} {c0 : Addr} (Ce : Cel X y0 c0) {pins : List (Addr × Obj)} {s : Shared} {σ : L2.St} {H : Hp} {Q : VK} {elt eltv tg iter : Expr} {ifs : List Expr} {scope : Scope} {own : List (Str × Nat)} {pos pos' : Pos} {wi : TI} {g : TG} {tt : TT} {te tf : TE} {use : Option (Value → Sem Unit)} {Qf : Value → Shared → Prop}
    (mood : X.calm = true) (nodupN : X.N.Nodup) (I : Inv X pins σ H s) (sourceA : JI X c0 tg iter wi) (ok : BlkOk X.N X.env.scope scope own)
    (targetA : ∀ (s : Shared) (H : Hp) (C : Addr) (cl : List (Str × Addr)) (fp : List Addr), PG (X.blk s H scope (compEnvC scope cl C X.env) fp) tg g) (testsA : ∀ (s : Shared) (H : Hp) (C : Addr) (cl : List (Str × Addr)) (fp : List Addr), PTs (X.blk s H scope (compEnvC scope cl C X.env) fp) ifs tt)
    (elemA : ∀ (s : Shared) (H : Hp) (C : Addr) (cl : List (Str × Addr)) (fp : List Addr), PE (X.blk s H scope (compEnvC scope cl C X.env) fp) elt te)
    (valA : ∀ (s : Shared) (H : Hp) (C : Addr) (cl : List (Str × Addr)) (fp : List Addr), PE (X.blk s H scope (compEnvC scope cl C X.env) fp) eltv tf) (plainA : ∀ x, foldedSetIterable iter X.env x = pure x)
    (h : tDc wi g tt te tf (own.map (·.2)) σ H Q)
    (back : ∀ D C s' m H', Kc c0 s s' → Inv X pins σ H' s' → Q (.ref D) H' → s'.heap.Ns C m → FpOk X pins H' C → compPost (model X.prog X.w) X.A X.xe use Qf (.ref D) C (.ok .next) s') :
    wpAny (model X.prog X.w) X.A (comprehension (.DictComp elt eltv [⟨tg, iter, ifs, 0⟩] scope pos) scope X.env pos' newDict false (eval iter X.env) use) Qf X.xe s := by
  have captured : ∀ y ∈ scope.names, y.2 = .free → ∃ c, X.env.cells.lookup y.1 = some c := fun y hy e => by
    rcases ok.free y hy e with k | k
    · exact I.ok.has _ (.inl k)
    · exact I.ok.has _ (.inr k)
  refine wpAny_comprehension_free (use := use) rfl plainA (closure_ok captured) ok.kind (fun y hy e => by rw [ok.uniq y hy, e])
    (thn (sourceA.run pins s σ H _ I h) fun srcV sA gotX => thn gotX fun itV sB hB2 => ?_)
  obtain ⟨kB, h2⟩ := hB2
  obtain ⟨it, fp, tn, J, HB, e, I2, T, st2, f2, q⟩ := h2
  subst e
  refine wpAny_newObj_type (newEnv_comp ?_)
  generalize atD : sB.heap.objs.size = D
  have freshD : HB D = none := I2.hok.fresh (Nat.le_of_eq atD)
  obtain ⟨W, ⟨mes0, inv0⟩, walk0⟩ := q D freshD
  -- the new dict
  generalize laid3 : ({ sB with heap := sB.heap.push { cls := .type "dict", data := .dict #[] } } : Shared) = sC
  have J3 : Inv X pins σ (upd HB D (.dK [])) sC := by
    rw [← laid3]
    refine I2.laid (t' := sB.toks) (fun b o e => Heap.get?_push_of_some _ e) (Nat.le_of_eq atD) ?_
    rw [← atD]
    exact dk_empty sB.heap I2.big
  have heap3 : sC.heap = sB.heap.push { cls := .type "dict", data := .dict #[] } := by rw [← laid3]
  have below : ∀ b ∈ fp, b < sB.heap.objs.size := fun b hb => by
    obtain ⟨o, e, _⟩ := T.obj _ _ st2 b hb
    exact Heap.lt_size e
  have roam3 : ∀ b ∈ fp, FpOk X pins (upd HB D (.dK [])) b ∧ b < sC.heap.objs.size := fun b hb => by
    have hlt := below b hb
    refine ⟨⟨?_, (f2 b hb).2⟩, by rw [heap3, Heap.size_push]; exact Nat.lt_succ_of_lt hlt⟩
    rw [upd_ne (by rw [← atD]; exact Nat.ne_of_lt hlt)]
    exact (f2 b hb).1
  have turn3 : tn 0 sC.heap := T.keep _ _ _ st2 fun b _ o e => by rw [heap3]; exact Heap.get?_push_of_some _ e
  have J4 := block_start J3 ok nodupN roam3
  have tgt := targetA sC (upd HB D (.dK [])) sC.heap.objs.size (cellsFrom (sC.heap.objs.size + 1) scope.names (cloFrom X.env.cells scope.names [])) fp
  have elv := valA sC (upd HB D (.dK [])) sC.heap.objs.size (cellsFrom (sC.heap.objs.size + 1) scope.names (cloFrom X.env.cells scope.names [])) fp
  have tst := testsA sC (upd HB D (.dK [])) sC.heap.objs.size (cellsFrom (sC.heap.objs.size + 1) scope.names (cloFrom X.env.cells scope.names [])) fp
  have elm := elemA sC (upd HB D (.dK [])) sC.heap.objs.size (cellsFrom (sC.heap.objs.size + 1) scope.names (cloFrom X.env.cells scope.names [])) fp
  show codeAny _ _ (.compStart (.DictComp elt eltv [⟨tg, iter, ifs, 0⟩] scope pos) 0 (.ref it) (.ref D) (compEnvC scope (cellsFrom (sC.heap.objs.size + 1) scope.names (cloFrom X.env.cells scope.names [])) sC.heap.objs.size X.env)) (compPost (model X.prog X.w) X.A X.xe use Qf (.ref D) sC.heap.objs.size) { sC with heap := pushCells (sC.heap.push { cls := .type "dict", data := .dict #[] }) scope.names }
  have untr : ∀ b ∈ fp, (upd HB D (.dK [])) b = none := fun b hb => (roam3 b hb).1.1
  generalize blkE : compEnvC scope (cellsFrom (sC.heap.objs.size + 1) scope.names (cloFrom X.env.cells scope.names [])) sC.heap.objs.size X.env = ce at J4 tgt tst elm elv ⊢
  have locE : ce.locals = sC.heap.objs.size := by subst blkE; rfl
  generalize heapE : upd HB D (.dK []) = HC at J3 J4 tgt tst elm elv inv0 untr roam3
  generalize laid4 : ({ sC with heap := pushCells (sC.heap.push { cls := .type "dict", data := .dict #[] }) scope.names } : Shared) = sD at J4 ⊢
  have turn4 : tn 0 sD.heap := T.keep _ _ _ turn3 fun b _ o e => by rw [← laid4]; exact pushCells_keeps _ _ _ _ (Heap.get?_push_of_some _ e)
  have roams : ∀ {σ' : L2.St} {H' : Hp} {s' : Shared}, Inv (X.blk sC HC scope ce fp) [] σ' H' s' → (∀ b ∈ fp, H' b = none) → ∀ b ∈ fp, FpOk (X.blk sC HC scope ce fp) [] H' b := fun {σ' H' s'} I' nsC b hb =>
    ⟨nsC b hb, (I'.ok.exf b hb).1, I'.ok.exfs b hb, .inl hb, fun x c e => (I'.ok.exf b hb).2 x c e, fun p hp => absurd (show p ∈ ([] : List (Addr × Obj)) ++ [] from hp) (by simp)⟩
  have outer0 : codeAny (model X.prog X.w) X.A (.compLoop (.DictComp elt eltv [⟨tg, iter, ifs, 0⟩] scope pos) 0 (.ref it) (.ref D) ce) (compPost (model X.prog X.w) X.A X.xe use Qf (.ref D) sC.heap.objs.size) sD := by
    refine compLoop_anyD (fun n s' => ∃ i H', Inv (X.blk sC HC scope ce fp) [] (wipe σ (own.map (·.2))) H' s' ∧ tn i s'.heap ∧ (∀ b ∈ fp, H' b = none) ∧ W i n H') ?_ mes0 ⟨0, HC, J4, turn4, untr, inv0⟩
    rintro n sE ⟨i, HE, J5, turn5, un5, inv5⟩
    rcases walk0 i n HE inv5 with ⟨atEnd, done0⟩ | ⟨more, NxA, reach, body0⟩
    · have ended := T.done (X.blk sC HC scope ce fp) rfl rfl rfl mood i [] sE _ HE (fun _ _ => False) J5 (roams J5 un5) turn5 atEnd
      refine thnF ended fun r sF ⟨hr, J6⟩ => ?_
      subst hr
      have J7 : Inv X pins σ HE sF := J3.call' (ch := fp) J6.os J6.base J6.hok J6.bare fun b hb => ⟨(roam3 b hb).1.2.2.2.1, (roam3 b hb).1.2.1, (roam3 b hb).1.2.2.2.2.1, (roam3 b hb).1.2.2.2.2.2⟩
      have freeC : HE sC.heap.objs.size = none := by
        have z : HE ce.locals = none := J6.free
        rw [locE] at z
        exact z
      obtain ⟨m, nsC, _⟩ := J6.loc
      have nsC : sF.heap.Ns ce.locals m := nsC
      rw [locE] at nsC
      have kAll : Kc c0 s sF := fun o eo => by
        have e3 : sC.heap.get? c0 = some o := by
          rw [heap3]
          exact Heap.get?_push_of_some _ (kB o eo)
        refine J6.base.keep c0 o e3 (Ce.free J3) (Ce.nostk J3) fun hb => ?_
        exact (roam3 c0 hb).1.2.2.2.2.1 _ _ Ce.is rfl
      exact back D sC.heap.objs.size sF m HE kAll J7 done0 nsC (J3.fpOk (Nat.le_refl _) freeC)
    · have given := T.item (X.blk sC HC scope ce fp) rfl rfl rfl mood i [] sE _ HE (fun _ _ => False) J5 (roams J5 un5) turn5 more
      refine thnF given fun r sF ⟨u, hr, got6⟩ => ?_
      subst hr
      refine thnF got6 fun _ sG ⟨x, HG, J7, rel7, yld7, turn7, un7⟩ => ?_
      have J7p := J7.pinned (roams J7 un7) (T.obj _ _ turn7)
      refine thnF (tgt.run _ sG _ HG x u _ J7p rel7 (body0 x HG yld7)) fun _ sH ⟨τ, HH, J8, wip8, go8⟩ => ?_
      refine thnF (tst.run _ sH τ HH _ J8 go8) fun b sI ⟨HI, J9, go9⟩ => ?_
      have close : ∀ {s' : Shared} {H' : Hp}, Inv (X.blk sC HC scope ce fp) ([] ++ pinsAt fp sG.heap) τ H' s' → NxA H' →
          ∃ m, m < n ∧ ∃ i H', Inv (X.blk sC HC scope ce fp) [] (wipe σ (own.map (·.2))) H' s' ∧ tn i s'.heap ∧ (∀ b ∈ fp, H' b = none) ∧ W i m H' := fun {s' H'} I' nextW => by
        obtain ⟨m', lessM, invM⟩ := reach H' nextW
        have kept : ∀ b ∈ fp, ∀ o, sG.heap.get? b = some o → s'.heap.get? b = some o ∧ H' b = none := fun b hb o e =>
          let z := I'.pin (b, o) (List.mem_append_right _ (List.mem_append_right _ (mem_pinsAt hb e)))
          ⟨z.1, z.2.1⟩
        refine ⟨m', lessM, i + 1, H', (I'.unpinned (pins := [])).weak (by rw [← wip8, wipe_length]) (fun j v e => by rw [← wip8] at e; exact (wipe_some e).1), T.keep _ _ _ turn7 fun b hb o e => (kept b hb o e).1, fun b hb => ?_, invM⟩
        obtain ⟨o, e, _⟩ := T.obj _ _ turn7 b hb
        exact (kept b hb o e).2
      cases b with
      | false =>
        simp only [Bool.false_eq_true, if_false] at go9 ⊢
        exact close J9 go9
      | true =>
        simp only [if_true] at go9 ⊢
        refine thnF (elm.run _ sI τ HI _ J9 go9) fun z sQ ⟨yv, HQ, J17, rel17, go17⟩ => ?_
        refine thnF (elv.run _ sQ τ HQ _ J17 go17) fun z2 sR ⟨yw, HR, J18, rel18, kvs, kk, ey, acc18, room18, nextW⟩ => ?_
        subst ey
        exact d_dictSet (X := X.blk sC HC scope ce fp) J18 acc18 room18 rel17 rel18 fun sS J19 => close J19 nextW
  exact codeAny_compStart_dict outer0 (T.self X.A 0 _ _ _ turn4 outer0)
/-- as a value -/
theorem je_dc {y0 : Str} {c0 : Addr} (Ce : Cel X y0 c0) {elt eltv tg iter : Expr} {ifs : List Expr} {scope : Scope} {own : List (Str × Nat)} {pos : Pos} {wi : TI} {g : TG} {tt : TT} {te tf : TE} (mood : X.calm = true) (nodupN : X.N.Nodup) (sourceA : JI X c0 tg iter wi) (ok : BlkOk X.N X.env.scope scope own)
    (targetA : ∀ (s : Shared) (H : Hp) (C : Addr) (cl : List (Str × Addr)) (fp : List Addr), PG (X.blk s H scope (compEnvC scope cl C X.env) fp) tg g) (testsA : ∀ (s : Shared) (H : Hp) (C : Addr) (cl : List (Str × Addr)) (fp : List Addr), PTs (X.blk s H scope (compEnvC scope cl C X.env) fp) ifs tt)
    (elemA : ∀ (s : Shared) (H : Hp) (C : Addr) (cl : List (Str × Addr)) (fp : List Addr), PE (X.blk s H scope (compEnvC scope cl C X.env) fp) elt te)
    (valA : ∀ (s : Shared) (H : Hp) (C : Addr) (cl : List (Str × Addr)) (fp : List Addr), PE (X.blk s H scope (compEnvC scope cl C X.env) fp) eltv tf) (plainA : ∀ x, foldedSetIterable iter X.env x = pure x := by intro _; rfl) :
    JE X c0 (.DictComp elt eltv [⟨tg, iter, ifs, 0⟩] scope pos) (tDc wi g tt te tf (own.map (·.2))) := by
  refine ⟨fun pins s σ H Q I h => ?_⟩
  rw [arm_eval_DictComp]
  refine dcJ_core Ce mood nodupN I sourceA ok targetA testsA elemA valA plainA h fun D C s' m H' kAll I' q nsC f => ⟨m, nsC, fun h'' sb => ?_⟩
  obtain ⟨f0, f1, f2, roam3, f4, f5⟩ := f
  have away : c0 ≠ C := f4 _ _ Ce.is
  exact ⟨kAll.trans fun o e => (sb.2 c0 away).trans e, .ref D, H', I'.turned (t' := s'.toks) (fun b o hb e => (sb.2 b hb).trans e) f0 f1 roam3 f4 f5, rfl, q⟩
theorem je_callTy {c : Addr} {T : String} {r : List V → Hp → VK → Prop} {x : Str} {p pos : Pos} {e : Expr} {es : List Expr} {t : TA} (hc : CallJ X c (.type T) r) (hg : Gl X x) (hm : X.mg x = none) (hv : bootBuiltins x = some (.type T)) (ha : JA X c (e :: es) t) (hn : x ≠ "__name__" := by decide) (hdb : (x == ("__debug__" : Str)) = false := by decide)
    (he : starEach (e :: es) X.env = (false, eval e X.env) :: starEach es X.env := by rfl) (hpl : (backTo pos (starEach es X.env)).any (·.1) = false := by rfl) : JE X c (.Call (.Name x p) (e :: es) [] pos) (tCB r t) := by
  refine ⟨fun pins s σ H Q I h => ?_⟩
  refine wpAny_Call_Name_kw (ld_blt I hg hm hv ?_ hn hdb)
  refine PyProof.Rows.callWith_type1 (thn (ha.run pos pins s σ H _ I h) fun us s1 hh => ?_) he hpl
  obtain ⟨g1, vs, H1, I1, r1, q1⟩ := hh
  exact thn (hc pins s1 σ H1 vs us Q I1 r1 q1) fun u s2 ⟨g2, q2⟩ => ⟨g1.trans g2, q2⟩
theorem cj_setL {c : Addr} (hc : X.calm = true) : CallJ X c (.type "set") (rSetL X.K X.w) := by
  intro pins s σ H vs us Q I r h
  obtain ⟨l, zs, rfl, hs, few, q⟩ := h
  rw [Vals.ref1 r]
  obtain ⟨its, rv, pl, _⟩ := I.list hs
  refine set_of_list (I.ok.hd hc) pl.isList (by simpa using ints_of_vals rv) (by unfold scanBound; omega) fun g tk m R lm kept => ?_
  have free : H s.heap.objs.size = none := I.hok.fresh (Nat.le_refl _)
  exact ⟨fun o e => kept _ _ e, .ref s.heap.objs.size, upd H s.heap.objs.size (SetO X.w s.heap.objs.size (fun j => decide (j ∈ zs)) m), I.laid kept (Nat.le_refl _) (setO_new R), rfl, q _ m free lm (setR_count R)⟩
end
end Sq
set_option Elab.async false
set_option linter.all false
set_option maxRecDepth 100000
set_option maxHeartbeats 4000000
/-! Code that knows what stands in one cell, to the token: text.replace(character, ''). -/
namespace Sq
open PySem PySem.Spec PyProof.Rows L2 GenW
theorem Kc.cell {c : Addr} {s s' : Shared} {v : Option Value} (k : Kc c s s') (h : s.heap.IsCell c v) : s'.heap.IsCell c v := by
  obtain ⟨o, e, d⟩ := h
  exact ⟨o, k o e, d⟩
structure JR (X : Cx) (c : Addr) (u0 : Value) (n : Nat) (e : Expr) (t : TE) : Prop where
  run : ∀ (pins : List (Addr × Obj)) (s : Shared) (σ : L2.St) (H : Hp) (Q : VK), Inv X pins σ H s → n ≤ s.toks → s.heap.IsCell c (some u0) → t σ H Q → wpAny (model X.prog X.w) X.A (eval e X.env) (EP X pins σ Q) X.xe s
structure JRs (X : Cx) (c : Addr) (u0 : Value) (n : Nat) (sts : List Stmt) (t : TS) : Prop where
  run : ∀ (pins : List (Addr × Obj)) (s : Shared) (σ : L2.St) (H : Hp) (D : Ends), Inv X pins σ H s → n ≤ s.toks → s.heap.IsCell c (some u0) → t D σ H → wpAny (model X.prog X.w) X.A (execs sts X.env) (SP X pins D) X.xe s
section
variable {X : Cx} {c : Addr} {u0 : Value} {n : Nat} {x y : Str} {p pos : Pos} {e e2 : Expr} {es : List Expr} {te tf : TE} {t : TA} {st : Stmt} {rest : List Stmt} {ts tr : TS}
theorem jrs_cons (h1 : JSt X c st ts) (h2 : JRs X c u0 n rest tr) : JRs X c u0 n (st :: rest) (tSeq ts tr) := by
  refine ⟨fun pins s σ H D I hn hc h => ?_⟩
  refine wpAny_execs_cons (wpAny_mono (PySem.wpAny_toks (h1.run pins s σ H { D with nx := tr D } I h)) (fun f s1 hh => ?_) fun _ _ z => z.2)
  obtain ⟨hk, kc, q⟩ := hh
  match f, q with
  | .next, ⟨σ', H', I', q⟩ => exact h2.run pins s1 σ' H' D I' (Nat.le_trans hn hk) (kc.cell hc) q
  | .ret v, q => exact q
  | .brk, q => exact q
  | .cont, q => exact q
/-- the last one that knows it: x = e, then what doesn't -/
theorem jrs_set {i : Nat} {pos' : Pos} (hN : X.N.Nodup) (hi : X.N[i]? = some x) (hx : Loc X.env.scope x) (he : JR X c u0 n e te) (h2 : PSs X rest tr) (hs : swapsWith e (some (.Name x pos')) pos.line X.env = pure false := by rfl) (hf : X.fn x = true ∨ X.env.scope.names.lookup x = some .local := by first | exact .inl rfl | exact .inr rfl | assumption) :
    JRs X c u0 n (.Assign [.Name x pos'] e pos :: rest) (tSeq (tAsg te (gName i)) tr) := by
  refine ⟨fun pins s σ H D I hn hc h => ?_⟩
  refine wpAny_execs_cons (wpAny_Assign_Name (thn (he.run pins s σ H _ I hn hc h) fun v s1 hh => ?_) hs)
  obtain ⟨z, H1, I1, r1, q1⟩ := hh
  exact store_ok I1 hN hi hx r1 (fun s2 I2 => h2.run pins s2 _ H1 D I2 q1) hf
theorem jr_op {op : Operator} {r : R2} (ho : OpR X (binaryOp op) r) (ha : JR X c u0 n e te) (hb : PE X e2 tf) : JR X c u0 n (.BinOp e op e2 pos) (tOp r te tf) := by
  refine ⟨fun pins s σ H Q I hn hc h => ?_⟩
  refine wpAny_BinOp (thn (ha.run pins s σ H _ I hn hc h) fun v s1 hh => ?_)
  obtain ⟨a, H1, I1, r1, q1⟩ := hh
  exact thn (hb.run pins s1 σ H1 _ I1 q1) fun u s2 ⟨b, H2, I2, r2, q2⟩ => ho pins s2 σ H2 a b v u Q I2 r1 r2 q2
/-- T(e) -/
theorem jr_callTy {T : String} {r : List V → Hp → VK → Prop} (hc : CallR X (.type T) r) (hg : Gl X x) (hm : X.mg x = none) (hv : bootBuiltins x = some (.type T)) (ha : JR X c u0 n e te) (hn : x ≠ "__name__" := by decide) (hdb : (x == ("__debug__" : Str)) = false := by decide)
    (he : starEach [e] X.env = (false, eval e X.env) :: starEach [] X.env := by rfl) (hpl : (backTo pos (starEach [] X.env)).any (·.1) = false := by rfl) : JR X c u0 n (.Call (.Name x p) [e] [] pos) (tCB r (tCons te tNil)) := by
  refine ⟨fun pins s σ H Q I hn' hcell h => ?_⟩
  refine wpAny_Call_Name_kw (ld_blt I hg hm hv ?_ hn hdb)
  refine PyProof.Rows.callWith_type1 ?_ he hpl
  rw [he]
  show wpAny _ _ (spliced ((false, eval e X.env) :: backTo pos (starEach [] X.env))) _ _ s
  refine Calls.spliced_cons (thn (ha.run pins s σ H _ I hn' hcell h) fun u s1 hh => ?_)
  obtain ⟨v, H1, I1, r1, q1⟩ := hh
  exact Calls.spliced_nil (hc pins s1 σ H1 [v] [u] Q I1 (.cons r1 .nil) q1)
/-- the name's own value, to the token -/
theorem raw_cell {pins : List (Addr × Obj)} {σ : L2.St} {H : Hp} {s : Shared} {Q E : Value → Shared → Prop} (I : Inv X pins σ H s) (hk : X.env.kindOf y = some .cell) (hc : X.env.cells.lookup y = some c) (hcell : s.heap.IsCell c (some u0)) (fin : Q u0 s)
    (hd : (y == ("__debug__" : Str)) = false := by decide) : wpAny (model X.prog X.w) X.A (eval (.Name y pos) X.env) Q E s :=
  wpAny_Name (wpAny_loadName_cell I.ok.kind hk hc hcell fin) hd
/-- text.replace(character, z): the text in a slot, the character in the cell, z written -/
def tRepJ (i : Nat) (b z : Str) : TE := fun σ H Q => ∃ a : Str, σ[i]? = some (some (.str a)) ∧ a.length + (a.length + 1) * z.length ≤ 16777216 ∧ Q (.str (Txt.replace a b z)) H
theorem jr_rep {i : Nat} {kx : Str} {b z : Str} {tb : Tok} {j : Nat} {p1 p2 c1 apos : Pos} (hN : X.N[i]? = some kx) (hv : Vis X.env.scope kx) (hk : X.env.kindOf y = some .cell) (hc : X.env.cells.lookup y = some c) (good : tb ≠ 0 ∧ tb < n) (hbz : (b == z) = false)
    (hd : (kx == ("__debug__" : Str)) = false := by decide) (hcd : (kx == ("__classdict__" : Str)) = false := by decide) (hdy : (y == ("__debug__" : Str)) = false := by decide)
    (hst : starEach [.Name y p2, .Constant (.str z) j c1] X.env = [(false, eval (.Name y p2) X.env), (false, eval (.Constant (.str z) j c1) X.env)] := by rfl)
    (hbase : attributeBase (.Name kx p1) "replace" X.env (eval (.Name kx p1) X.env) = eval (.Name kx p1) X.env := by rfl) (hline : (apos.endLine == pos.line) = true := by rfl) :
    JR X c (.str b tb) n (.Call (.Attribute (.Name kx p1) "replace" apos) [.Name y p2, .Constant (.str z) j c1] [] pos) (tRepJ i b z) := by
  refine ⟨fun pins s σ H Q I hn hcell h => ?_⟩
  obtain ⟨a, ha, few, q⟩ := h
  refine PySem.Call_method2 hbase hst hline (raw_name hN hv I ha (fun v r => ?_) hd hcd)
  obtain ⟨ta, e1⟩ := r
  subst e1
  refine ⟨"str", _, PySem.F.plainAttrs_str, PySem.F.slot_str_replace, PySem.F.type_str_replace, typeIs_str _ _ _, (fun _ e => nomatch e), Calls.callWith_builtin rfl (Calls.evalArgs_plain (Calls.spliced_cons (raw_cell I hk hc hcell ?_ hdy)))⟩
  refine Calls.spliced_cons (Calls.Constant_str (Calls.spliced_nil ?_))
  have g1 : tb ≠ 0 := good.1
  have g2 : tb < n := good.2
  exact PySem.SC.replace g1 (Nat.ne_of_gt (Nat.lt_of_lt_of_le (Nat.lt_of_le_of_lt (Nat.zero_le tb) g2) hn)) (Nat.ne_of_lt (Nat.lt_of_lt_of_le g2 hn)) hbz few fun t' k => ⟨.str (Txt.replace a b z), H, I.tok k, ⟨t', rfl⟩, q⟩
end
/-- a def whose promise needs one argument's token: it isn't 0 and was given out before -/
def Tkn (j : Nat) (us : List Value) (n : Nat) : Prop := ∀ b t, us[j]? = some (.str b t) → b.length = 1 → t ≠ 0 ∧ t < n
structure FnT (P : Program) (w : World) (K : PySem.W.Frag) (mg : Str → Option Value) (base : Heap) (k : Nat) (f : Addr) (fd : FuncData) (ps : List Str) (j : Nat) (sp : Sp) : Prop where
  len : ∀ vs H Q E, sp vs H Q E → vs.length = ps.length
  run : ∀ (A : Around) (outer : List Env) (s : Shared) (H : Hp) (args : Args) (us : List Value) (vs : List V) (Q : VK), Room k A → Env0 P w K mg base A outer s H → BindsTo s fd args (ps.zip us) → Vals vs us → Tkn j us s.toks → sp vs H Q E0 →
    codeAny (model P w) A (.call (.ref f) args) (fun r s' => match r with | .ok (.ret u) => CE outer P w H s Q u s' | _ => False) s
theorem fnt_of {P : Program} {w : World} {K : PySem.W.Frag} {mg : Str → Option Value} {base : Heap} {x qual y : Str} {st : Stmt} {f : Addr} {fd : FuncData} {N ps : List Str} {k j : Nat} {sp : Sp} (F : Fun K x qual st f fd) (S : FnScope N ps (defScope st)) (len : ∀ vs H Q E, sp vs H Q E → vs.length = ps.length)
    (hy : ps[j]? = some y) (hk : (defScope st).names.lookup y = some .cell)
    (walk : ∀ (cdv : Value) (A : Around) (outer : List Env) (s : Shared) (H : Hp) (us : List Value) (vs : List V) (Q : VK) (c : Addr) (u0 : Value), Room k (A.deeper (envOfC qual (defScope st) s.heap.objs.size f cdv)) → sp vs H Q E0 → Vals vs us → Tkn j us s.toks → us[j]? = some u0 → Cel (cxOf CX0 P w K mg base N qual (defScope st) f cdv A outer s H E0).nox y c →
      ∃ t, JRs (cxOf CX0 P w K mg base N qual (defScope st) f cdv A outer s H E0).nox c u0 s.toks (defBody st) t ∧ t { nx := fun _ H' => Q .non H', rt := Q } (L2.start N vs) H) : FnT P w K mg base (k + 1) f fd ps j sp := by
  obtain ⟨oc, od, kV, doc, pm, an, cdv, ct, osl, rfl, lk, hcd⟩ := F.ex
  refine ⟨len, fun A outer s H args us vs Q hr e0 hb r tkn hsp => ?_⟩
  have hl := len _ _ _ _ hsp
  have KX : K.In s.heap := e0.mod.kin.keeps fun b o e => (e0.bs b o e).1
  have lim : s.heap.NoLimit := e0.mod.nolimit.keeps fun b o e => (e0.bs b o e).1
  have hkind : ∀ y ∈ ps.zip us, (defScope st).names.lookup y.1 = some .local ∨ ((defScope st).names.lookup y.1 = some .cell ∧ ((cellsFrom (s.heap.objs.size + 1) (defScope st).names []).lookup y.1).isSome = true) := fun ⟨n, v⟩ hy =>
    (S.par n (List.of_mem_zip hy).1).elim .inl fun z => .inr ⟨z, PySem.W.cellsFrom_some _ _ _ (.inl z)⟩
  refine codeAny_call_function hr.depth (KX _ _ lk) rfl S.co S.gen rfl (PySem.W.codeRec_of KX hcd) (hb _ _ _ _ ?_)
  refine PySem.wpAny_with_toks (Nat.le_refl s.toks) (wpAny_newFunctionEnv_cells S.kind hkind fun env he s1 made toks1 => ?_)
  subst he
  refine ⟨lim.keeps made.toInCall.keep, codeAny_func ?_⟩
  obtain ⟨c, hc⟩ := cell_has (n := s.heap.objs.size + 1) hk
  have jl : j < ps.length := (List.getElem?_eq_some_iff.mp hy).1
  obtain ⟨u0, hu⟩ : ∃ u0, us[j]? = some u0 := ⟨us[j]'(by rw [← r.length, hl]; exact jl), List.getElem?_eq_getElem _⟩
  have ndP : ps.Nodup := by rw [← S.pre]; exact S.nd.sublist (List.take_sublist _ _)
  have at1 := made.cell y c hc
  rw [bindC_get ndP hy hu (by show (defScope st).names.lookup y ≠ _; rw [hk]; decide)] at at1
  obtain ⟨t, ht, hq⟩ := walk cdv A outer s H us vs Q c u0 (hr.deeper _) hsp r tkn hu ⟨hc, rfl⟩
  have I : Inv (cxOf CX0 P w K mg base N qual (defScope st) f cdv A outer s H E0).nox [] (start N vs) H s1 := (inv_start S hr.hd e0 hl r made).wish _
  refine wpAny_mono (ht.run [] s1 (start N vs) H _ I toks1 at1 hq) (fun fl s' hs => ?_) fun e s' hs => False.elim hs
  match fl, hs with
  | .ret u, ⟨v, σ', H', J, rv, q⟩ => exact ⟨v, H', J.os, J.bare, J.base, J.hok, rv, q⟩
  | .next, ⟨σ', H', J, q⟩ => exact ⟨V.non, H', J.os, J.bare, J.base, J.hok, rfl, q⟩
  | .brk, ⟨_, _, _, q⟩ => exact False.elim q
  | .cont, ⟨_, _, _, q⟩ => exact False.elim q
end Sq
set_option Elab.async false
set_option linter.all false
set_option maxRecDepth 100000
set_option maxHeartbeats 4000000
/-! for i, c in enumerate(text). -/
namespace Sq
open PySem PySem.Spec PyProof.Rows L2
/-- the signs of a text with their places, in new pairs -/
def IteS (x : Str) : It :=
  ⟨fun i _ => i < x.cps.size, fun i H v H' => ∃ (T : Addr) (c : Nat), v = .ref T ∧ H T = none ∧ H' = upd H T (.tup [.int (i : Nat), .str ⟨#[c]⟩]) ∧ x.cps[i]? = some c, fun i _ => i = x.cps.size⟩
theorem turn_enumS {P : Program} {w : World} {K : PySem.W.Frag} {elts : List Expr} {kk : Nat} {tpos : Pos} (en it : Addr) (x : Str) (t : Tok) :
    Turn P w K (.Tuple elts kk tpos) (IteS x) [en, it] en (fun i h => (∃ old, IsEnum h en it ((i : Nat) : Int) old) ∧ h.IsStrIter it (strIterType x) x t i ∧ en ≠ it) where
  mem := List.mem_cons_self
  obj := fun i h st b hb => by
    obtain ⟨⟨old, isE⟩, ⟨o, ho, cls, dat⟩, _⟩ := st
    rcases List.mem_cons.mp hb with z | z
    · rw [z]
      exact ⟨_, isE, fun v q => nomatch q⟩
    · rw [List.mem_singleton.mp z]
      exact ⟨o, ho, fun v q => by rw [dat] at q; cases q⟩
  keep := fun i h h' st k => by
    obtain ⟨⟨old, isE⟩, ⟨o, ho, r⟩, ne⟩ := st
    exact ⟨⟨old, k en (by simp) _ isE⟩, ⟨o, k it (by simp) o ho, r⟩, ne⟩
  item := by
    intro X hP hw hK hc i pins s σ H E I hf st hg
    subst hP hw hK
    obtain ⟨⟨old, isE⟩, isI, ne⟩ := st
    have quiet : X.A.in1.handled = none := by simp [I.ok.hd hc]
    have lowE : en < s.heap.objs.size := Heap.lt_size isE
    have lowI : it < s.heap.objs.size := by
      obtain ⟨_, q, _⟩ := isI
      exact Heap.lt_size q
    refine wpAny_pyNext_enum_itemD (Draws.text quiet it x t) isE isI hg ne (fun z => ne (List.mem_singleton.mp z)) fun v h' tk pv out isI' hT hsz hk => ?_
    obtain ⟨c, u, hx, rfl⟩ := pv
    refine ⟨_, rfl, wpAny_letOwnedTupleGo_enum (s := { s with heap := h', toks := tk + 1 }) out fun h2 isE2 sb => ?_⟩
    have fresh : H s.heap.objs.size = none := I.hok.fresh (Nat.le_refl _)
    have hT2 : h2.get? s.heap.objs.size = some { cls := .type "tuple", data := .seq #[.int i tk, .str ⟨#[c]⟩ u] } := (sb.2 _ (Nat.ne_of_gt lowE)).trans hT
    have made : ObjOk X.prog X.w (upd H s.heap.objs.size (.tup [.int (i : Nat), .str ⟨#[c]⟩])) h2 s.heap.objs.size (.tup [.int (i : Nat), .str ⟨#[c]⟩]) :=
      ⟨by show 2 ≤ sizeLine; rw [sizeLine_eq]; decide, [.int i tk, .str ⟨#[c]⟩ u], .cons ⟨_, rfl⟩ (.cons ⟨_, rfl⟩ .nil), ⟨_, hT2, rfl, _, rfl⟩⟩
    have I1 : Inv X pins σ (upd H s.heap.objs.size (.tup [.int (i : Nat), .str ⟨#[c]⟩])) { s with heap := h2, toks := tk + 1 } :=
      I.turnedNew (ch := [en, it]) (fun b ob hb q => (sb.2 b (fun z => hb (by simp [z]))).trans (hk b ob (fun z => hb (by simp [z])) (fun z => hb (by simp [z])) q)) hf (Nat.le_refl _) made
    obtain ⟨oi, eoi, ri⟩ := isI'
    refine ⟨.ref s.heap.objs.size, _, I1, rfl, ⟨_, c, rfl, fresh, rfl, hx⟩, ⟨⟨.str ⟨#[c]⟩ u, ?_⟩, ⟨oi, (sb.2 it (Ne.symm ne)).trans eoi, ri⟩, ne⟩, fun b hb => ?_⟩
    · rw [show ((i + 1 : Nat) : Int) = (i : Int) + 1 by omega]
      exact isE2
    · have lowB : b < s.heap.objs.size := by
        rcases List.mem_cons.mp hb with z | z
        · rw [z]
          exact lowE
        · rw [List.mem_singleton.mp z]
          exact lowI
      rw [upd_ne (Nat.ne_of_lt lowB)]
      exact (hf b hb).1
  done := by
    intro X hP hw hK hc i pins s σ H E I hf st hg
    subst hP hw hK
    obtain ⟨⟨old, isE⟩, isI, ne⟩ := st
    have quiet : X.A.in1.handled = none := by simp [I.ok.hd hc]
    obtain ⟨f0, f1, f2, f3, f4, f5⟩ := hf it (by simp)
    have last : i = x.cps.size := hg
    subst last
    exact wpAny_pyNext_enum_endD (Draws.text quiet it x t) isE isI fun h2 eb => ⟨rfl, I.turned (t' := s.toks) (fun b o hb q => eb b o hb q) f0 f1 f3 f4 f5⟩
  self := fun A i s Q E st h => by
    obtain ⟨⟨_, isE⟩, _⟩ := st
    exact wpAny_pyIter_enum isE h
def iEnumS (ta : TA) : TI := fun σ H R => ta σ H fun vs H1 => ∃ x, vs = [.str x] ∧ R (IteS x) H1
theorem pi_enumS {X : Cx} {e : Expr} {ta : TA} {p pos tpos : Pos} {elts : List Expr} {kk : Nat} (hg : Gl X "enumerate") (hm : X.mg "enumerate" = none) (ha : PA X [e] ta) (hs : starEach [e] X.env = [(false, eval e X.env)] := by rfl) :
    PI X (.Tuple elts kk tpos) (.Call (.Name "enumerate" p) [e] [] pos) (iEnumS ta) := by
  refine ⟨fun pins s σ H R I h => ?_⟩
  refine Call_ (ld_blt I hg hm boot_enumerate (PyProof.Rows.callWith_type1 (thn (ha.run pos pins s σ H _ I h) fun us s1 hh => ?_) hs rfl))
  obtain ⟨vs, H1, I1, r1, x, ex, q⟩ := hh
  subst ex
  obtain ⟨u, rfl, t, rfl⟩ := vals1 r1
  refine call_enumerate_str fun h' isE isI hsz hk => wpAny_pyIter_enum isE ?_
  obtain ⟨n, en⟩ : ∃ n, n = s1.heap.objs.size := ⟨_, rfl⟩
  refine ⟨s1.heap.objs.size + 1, [s1.heap.objs.size + 1, s1.heap.objs.size], _, _, H1, rfl, I1.kept (t' := s1.toks) hk, turn_enumS (s1.heap.objs.size + 1) s1.heap.objs.size x t, ⟨⟨.none, isE⟩, isI, Nat.succ_ne_self _⟩, fun b hb => ?_, q⟩
  have up : s1.heap.objs.size ≤ b := by
    rcases List.mem_cons.mp hb with z | z
    · rw [z]
      exact Nat.le_add_right _ _
    · rw [List.mem_singleton.mp z]
      exact Nat.le_refl _
  exact I1.fpOk up (I1.hok.fresh up)
theorem walk_enumS {x : Str} : Walk (IteS x) x.cps.size (fun _ => True) (fun i H v H' => ∃ (T : Addr) (c : Nat), v = .ref T ∧ H T = none ∧ H' = upd H T (.tup [.int (i : Nat), .str ⟨#[c]⟩]) ∧ x.cps[i]? = some c) :=
  ⟨fun i H hi _ => hi, fun H _ => rfl, fun i H v H' _ _ h => h⟩
end Sq
set_option Elab.async false
set_option linter.all false
set_option maxRecDepth 100000
set_option maxHeartbeats 4000000
/-! Code that keeps one cell and may use what stands in it: expressions, tests, statements. -/
namespace Sq
open PySem PySem.Spec PyProof.Rows L2 GenW
/-- the cell is kept, and n tokens were given out -/
def Kn2 (c : Addr) (n : Nat) (s s' : Shared) : Prop := Kc c s s' ∧ n ≤ s'.toks
theorem Kn2.trans {c : Addr} {n : Nat} {s s1 s2 : Shared} (a : Kn2 c n s s1) (b : Kn2 c n s1 s2) : Kn2 c n s s2 := ⟨a.1.trans b.1, b.2⟩
structure JK (X : Cx) (c : Addr) (u0 : Value) (n : Nat) (e : Expr) (t : TE) : Prop where
  run : ∀ (pins : List (Addr × Obj)) (s : Shared) (σ : L2.St) (H : Hp) (Q : VK), Inv X pins σ H s → n ≤ s.toks → s.heap.IsCell c (some u0) → t σ H Q → wpAny (model X.prog X.w) X.A (eval e X.env) (fun u s' => Kn2 c n s s' ∧ EP X pins σ Q u s') X.xe s
structure JKA (X : Cx) (c : Addr) (u0 : Value) (n : Nat) (es : List Expr) (t : TA) : Prop where
  run : ∀ (pos : Pos) (pins : List (Addr × Obj)) (s : Shared) (σ : L2.St) (H : Hp) (Q : List V → Hp → Prop), Inv X pins σ H s → n ≤ s.toks → s.heap.IsCell c (some u0) → t σ H Q → wpAny (model X.prog X.w) X.A (spliced (backTo pos (starEach es X.env))) (fun us s' => Kn2 c n s s' ∧ AP X pins σ Q us s') X.xe s
structure JKT (X : Cx) (c : Addr) (u0 : Value) (n : Nat) (e : Expr) (t : TT) : Prop where
  run : ∀ (pins : List (Addr × Obj)) (s : Shared) (σ : L2.St) (H : Hp) (Q : Bool → Hp → Prop), Inv X pins σ H s → n ≤ s.toks → s.heap.IsCell c (some u0) → t σ H Q → wpAny (model X.prog X.w) X.A (isTrue e X.env (eval e X.env)) (fun b s' => Kn2 c n s s' ∧ TP X pins σ Q b s') X.xe s
structure JKS (X : Cx) (c : Addr) (u0 : Value) (n : Nat) (st : Stmt) (t : TS) : Prop where
  run : ∀ (pins : List (Addr × Obj)) (s : Shared) (σ : L2.St) (H : Hp) (D : Ends), Inv X pins σ H s → n ≤ s.toks → s.heap.IsCell c (some u0) → t D σ H → wpAny (model X.prog X.w) X.A (exec st X.env) (fun f s' => Kn2 c n s s' ∧ SP X pins D f s') X.xe s
structure JKs (X : Cx) (c : Addr) (u0 : Value) (n : Nat) (sts : List Stmt) (t : TS) : Prop where
  run : ∀ (pins : List (Addr × Obj)) (s : Shared) (σ : L2.St) (H : Hp) (D : Ends), Inv X pins σ H s → n ≤ s.toks → s.heap.IsCell c (some u0) → t D σ H → wpAny (model X.prog X.w) X.A (execs sts X.env) (fun f s' => Kn2 c n s s' ∧ SP X pins D f s') X.xe s
section
variable {X : Cx} {c : Addr} {u0 : Value} {n : Nat} {x y : Str} {p pos : Pos} {e e2 : Expr} {es : List Expr} {te tf : TE} {t : TA} {st : Stmt} {rest a b : List Stmt} {ts tr : TS} {tt : TT}
theorem jk_of (h : JE X c e te) : JK X c u0 n e te :=
  ⟨fun pins s σ H Q I hn _ q => wpAny_mono (PySem.wpAny_toks_of hn (h.run pins s σ H Q I q)) (fun _ _ z => ⟨⟨z.2.1, z.1⟩, z.2.2⟩) fun _ _ z => z.2⟩
theorem jks_of (h : JSt X c st ts) : JKS X c u0 n st ts :=
  ⟨fun pins s σ H D I hn _ q => wpAny_mono (PySem.wpAny_toks_of hn (h.run pins s σ H D I q)) (fun _ _ z => ⟨⟨z.2.1, z.1⟩, z.2.2⟩) fun _ _ z => z.2⟩
theorem jka_nil : JKA X c u0 n [] tNil := ⟨fun pos pins s σ H Q I hn _ h => Calls.spliced_nil ⟨⟨Kc.refl, hn⟩, [], H, I, .nil, h⟩⟩
theorem jka_cons (ha : JK X c u0 n e te) (hr : JKA X c u0 n es t) (hs : starEach (e :: es) X.env = (false, eval e X.env) :: starEach es X.env := by rfl) : JKA X c u0 n (e :: es) (tCons te t) := by
  refine ⟨fun pos pins s σ H Q I hn hc h => ?_⟩
  rw [hs]
  show wpAny _ _ (spliced ((false, eval e X.env) :: backTo pos (starEach es X.env))) _ _ s
  refine Calls.spliced_cons (thn (ha.run pins s σ H _ I hn hc h) fun u s1 hh => ?_)
  obtain ⟨g1, x, H1, I1, r1, q1⟩ := hh
  exact thn (hr.run pos pins s1 σ H1 _ I1 g1.2 (g1.1.cell hc) q1) fun us s2 ⟨g2, xs, H2, I2, r2, q2⟩ => ⟨g1.trans g2, x :: xs, H2, I2, .cons r1 r2, q2⟩
/-- [e, ..] -/
theorem jk_lst {ta : TA} (h : JKA X c u0 n es ta) : JK X c u0 n (.List es pos) (tLst ta) := by
  refine ⟨fun pins s σ H Q I hn hc hq => ?_⟩
  refine wpAny_List_spliced (thn (h.run pos pins s σ H _ I hn hc hq) fun us s1 hh => ?_)
  obtain ⟨g1, xs, H1, I1, r, z, q⟩ := hh
  refine ⟨by rw [← r.length]; exact z, g1.trans ⟨fun o e => Heap.get?_push_of_some _ e, g1.2⟩, .ref s1.heap.objs.size, upd H1 s1.heap.objs.size (.lst xs), I1.laid (t' := s1.toks) (fun b u e => Heap.get?_push_of_some _ e) (Nat.le_refl _) ?_, rfl, q _ (I1.hok.fresh (Nat.le_refl _))⟩
  exact ⟨z, us, 0, r, Heap.get?_push_size _ rfl⟩
/-- an operator of which only the kept cell is to be told -/
def OpJ (X : Cx) (c : Addr) (op : Value → Value → Sem Value) (r : R2) : Prop :=
  ∀ (pins : List (Addr × Obj)) (s : Shared) (σ : L2.St) (H : Hp) (x y : V) (v u : Value) (Q : VK), Inv X pins σ H s → RelV x v → RelV y u → r x y H Q → wpAny (model X.prog X.w) X.A (op v u) (fun w s' => Kc c s s' ∧ EP X pins σ Q w s') X.xe s
theorem jk_op {op : Operator} {r : R2} (ho : OpJ X c (binaryOp op) r) (ha : JK X c u0 n e te) (hb : JK X c u0 n e2 tf) : JK X c u0 n (.BinOp e op e2 pos) (tOp r te tf) := by
  refine ⟨fun pins s σ H Q I hn hc h => ?_⟩
  refine wpAny_BinOp (thn (ha.run pins s σ H _ I hn hc h) fun v s1 hh => ?_)
  obtain ⟨g1, a, H1, I1, r1, q1⟩ := hh
  refine thn (hb.run pins s1 σ H1 _ I1 g1.2 (g1.1.cell hc) q1) fun u s2 hh => ?_
  obtain ⟨g2, b, H2, I2, r2, q2⟩ := hh
  refine wpAny_mono (PySem.wpAny_toks_of g2.2 (ho pins s2 σ H2 a b v u Q I2 r1 r2 q2)) (fun _ _ z => ?_) fun _ _ z => z.2
  exact ⟨(g1.trans g2).trans ⟨z.2.1, z.1⟩, z.2.2⟩
theorem oj_add : OpJ X c (binaryOp .Add) (rI0 fun i j => .int (i + j)) := by
  intro pins s σ H x y v u Q I rx ry h
  obtain ⟨i, j, rfl, rfl, q⟩ := h
  obtain ⟨t1, rfl⟩ := rx
  obtain ⟨t2, rfl⟩ := ry
  exact add_int ⟨Kc.refl, .int (i + j), H, I.tok _, ⟨_, rfl⟩, q⟩
/-! ### statements -/
theorem jks_nil : JKs X c u0 n [] tNext := ⟨fun _ _ σ H _ I hn _ h => wpAny_execs_nil ⟨⟨Kc.refl, hn⟩, σ, H, I, h⟩⟩
theorem jks_cons (h1 : JKS X c u0 n st ts) (h2 : JKs X c u0 n rest tr) : JKs X c u0 n (st :: rest) (tSeq ts tr) := by
  refine ⟨fun pins s σ H D I hn hc h => ?_⟩
  refine wpAny_execs_cons (thn (h1.run pins s σ H { D with nx := tr D } I hn hc h) fun f s1 hh => ?_)
  obtain ⟨g1, q⟩ := hh
  match f, q with
  | .next, ⟨σ', H', I', q⟩ => exact thn (h2.run pins s1 σ' H' D I' g1.2 (g1.1.cell hc) q) fun f2 s2 ⟨g2, q2⟩ => ⟨g1.trans g2, q2⟩
  | .ret v, q => exact ⟨g1, q⟩
  | .brk, q => exact ⟨g1, q⟩
  | .cont, q => exact ⟨g1, q⟩
theorem jks_one (h1 : JKS X c u0 n st ts) : JKs X c u0 n [st] ts := by
  refine ⟨fun pins s σ H D I hn hc h => ?_⟩
  refine wpAny_execs_cons (thn (h1.run pins s σ H D I hn hc h) fun f s1 hh => ?_)
  obtain ⟨g1, q⟩ := hh
  match f, q with
  | .next, q => exact wpAny_execs_nil ⟨g1, q⟩
  | .ret v, q => exact ⟨g1, q⟩
  | .brk, q => exact ⟨g1, q⟩
  | .cont, q => exact ⟨g1, q⟩
theorem jks_if {ce : Expr} (hc0 : JKT X c u0 n ce tt) (ha : JKs X c u0 n a ts) (hb : JKs X c u0 n b tr) : JKS X c u0 n (.If ce a b pos) (tIfS tt ts tr) := by
  refine ⟨fun pins s σ H D I hn hc h => ?_⟩
  refine wpAny_If (thn (hc0.run pins s σ H _ I hn hc h) fun d s1 hh => ?_)
  obtain ⟨g1, H1, I1, q1⟩ := hh
  cases d with
  | true => exact thn (ha.run pins s1 σ H1 D I1 g1.2 (g1.1.cell hc) q1) fun f2 s2 ⟨g2, q2⟩ => ⟨g1.trans g2, q2⟩
  | false => exact thn (hb.run pins s1 σ H1 D I1 g1.2 (g1.1.cell hc) q1) fun f2 s2 ⟨g2, q2⟩ => ⟨g1.trans g2, q2⟩
theorem jks_set {i : Nat} {pos' : Pos} (C : Cel X y c) (ne : x ≠ y) (hN : X.N.Nodup) (hi : X.N[i]? = some x) (hx : Loc X.env.scope x) (he : JK X c u0 n e te) (hs : swapsWith e (some (.Name x pos')) pos.line X.env = pure false := by rfl) (hf : X.fn x = true ∨ X.env.scope.names.lookup x = some .local := by first | exact .inl rfl | exact .inr rfl | assumption) :
    JKS X c u0 n (.Assign [.Name x pos'] e pos) (tAsg te (gName i)) := by
  refine ⟨fun pins s σ H D I hn hc h => ?_⟩
  refine wpAny_Assign_Name (thn (he.run pins s σ H _ I hn hc h) fun v s1 hh => ?_) hs
  obtain ⟨g1, z, H1, I1, r1, q1⟩ := hh
  refine wpAny_mono (PySem.wpAny_toks_of g1.2 (store_ok2 (E := X.xe) (Q := fun _ s2 => Kc c s1 s2 ∧ ∃ σ' H', Inv X pins σ' H' s2 ∧ D.nx σ' H') I1 hN hi hx r1 (fun s2 I2 hh => ?_) hf)) (fun _ _ z => ⟨g1.trans ⟨z.2.1, z.1⟩, z.2.2⟩) fun _ _ z => z.2
  obtain ⟨a, sb, ha⟩ := hh
  have ca : c ≠ a := fun z => by
    rcases ha with ha | ha
    · exact I1.cne _ _ C.is (z.trans ha)
    · rw [← z] at ha
      exact ne (I1.ok.inj _ _ _ ha C.is)
  exact ⟨fun o e => (sb.2 c ca).trans e, _, H1, I2, q1⟩
end
end Sq
set_option Elab.async false
set_option linter.all false
set_option maxRecDepth 100000
set_option maxHeartbeats 4000000
/-! Calls of a def whose promise needs one argument's token. -/
namespace Sq
open PySem PySem.Spec PyProof.Rows L2 GenW
/-- arguments of which the j-th, if it is a text of one sign, has a token that was given out -/
structure JKX (X : Cx) (c : Addr) (u0 : Value) (n j : Nat) (es : List Expr) (t : TA) : Prop where
  run : ∀ (pos : Pos) (pins : List (Addr × Obj)) (s : Shared) (σ : L2.St) (H : Hp) (Q : List V → Hp → Prop), Inv X pins σ H s → n ≤ s.toks → s.heap.IsCell c (some u0) → t σ H Q → wpAny (model X.prog X.w) X.A (spliced (backTo pos (starEach es X.env))) (fun us s' => (Kn2 c n s s' ∧ Tkn j us s'.toks) ∧ AP X pins σ Q us s') X.xe s
structure DfT (P : Program) (w : World) (K : PySem.W.Frag) (mg : Str → Option Value) (base : Heap) (k : Nat) (x : Str) (ps : List Str) (j : Nat) (sp : Sp) : Prop where
  ex : ∃ f fd, FnT P w K mg base k f fd ps j sp ∧ mg x = some (.ref f) ∧ PySem.W.keepIn K (.ref f) = true ∧ Binds K fd ps []
section
variable {X : Cx} {c : Addr} {u0 : Value} {n j : Nat} {x y : Str} {p pos : Pos} {e : Expr} {es : List Expr} {te : TE} {t : TA} {pins : List (Addr × Obj)} {σ : L2.St} {H : Hp} {s : Shared}
/-- the cell's own name -/
theorem jkx_name {i : Nat} (hN : X.N[i]? = some y) (hv : Vis X.env.scope y) (hk : X.env.kindOf y = some .cell) (C : Cel X y c) (good : Tkn 0 [u0] n) (hr : JKA X c u0 n es t) (hs : starEach (.Name y p :: es) X.env = (false, eval (.Name y p) X.env) :: starEach es X.env := by rfl) (hd : (y == ("__debug__" : Str)) = false := by decide) :
    JKX X c u0 n 0 (.Name y p :: es) (tCons (tVar i) t) := by
  refine ⟨fun pos pins s σ H Q I hn hc h => ?_⟩
  rw [hs]
  show wpAny _ _ (spliced ((false, eval (.Name y p) X.env) :: backTo pos (starEach es X.env))) _ _ s
  refine Calls.spliced_cons (raw_cell I hk C.is hc ?_ hd)
  obtain ⟨v, e, q⟩ := h
  -- what the slot holds is what stands in the cell
  obtain ⟨m, hns, look⟩ := I.loc
  obtain ⟨u, r, l⟩ := look i y v hN e hv
  have eu : u = u0 := by
    rcases l with ⟨k1, _⟩ | ⟨_, c1, e1, cell1⟩
    · rw [hk] at k1
      cases k1
    · rw [C.is] at e1
      obtain rfl : c = c1 := Option.some.inj e1
      obtain ⟨o1, g1, d1⟩ := hc
      obtain ⟨o2, g2, d2⟩ := cell1
      rw [g1] at g2
      obtain rfl : o1 = o2 := Option.some.inj g2
      rw [d1] at d2
      injection d2 with d2
      exact (Option.some.inj d2).symm
  rw [eu] at r
  refine thn (hr.run pos pins s σ H _ I hn hc q) fun us s2 hh => ?_
  obtain ⟨g2, xs, H2, I2, r2, q2⟩ := hh
  refine ⟨⟨g2, fun b tk eb one => ?_⟩, v :: xs, H2, I2, .cons r r2, q2⟩
  have g := good b tk eb one
  exact ⟨g.1, Nat.lt_of_lt_of_le g.2 g2.2⟩
/-- a written text -/
theorem jkx_str {z : Str} {k : Nat} (h1 : 1 ≤ n) (hr : JKA X c u0 n es t) (hs : starEach (.Constant (.str z) k p :: es) X.env = (false, eval (.Constant (.str z) k p) X.env) :: starEach es X.env := by rfl) : JKX X c u0 n 0 (.Constant (.str z) k p :: es) (tCons (tC (.str z)) t) := by
  refine ⟨fun pos pins s σ H Q I hn hc h => ?_⟩
  rw [hs]
  show wpAny _ _ (spliced ((false, eval (.Constant (.str z) k p) X.env) :: backTo pos (starEach es X.env))) _ _ s
  refine Calls.spliced_cons (Calls.Constant_str ?_)
  have up : n ≤ s.toks + 1 := Nat.le_trans hn (Nat.le_add_right _ _)
  refine wpAny_mono (PySem.wpAny_toks (hr.run pos pins { s with toks := s.toks + 1 } σ H _ (I.tok _) up hc h)) (fun us s2 hh => ?_) fun _ _ z => z.2
  obtain ⟨hk, g2, xs, H2, I2, r2, q2⟩ := hh
  refine ⟨⟨⟨g2.1, g2.2⟩, fun b tk eb one => ?_⟩, .str z :: xs, H2, I2, .cons ⟨_, rfl⟩ r2, q2⟩
  have e2 : Value.str z s.toks = .str b tk := Option.some.inj eb
  injection e2 with _ e3
  subst e3
  exact ⟨Nat.ne_of_gt (Nat.lt_of_lt_of_le (Nat.lt_of_lt_of_le Nat.zero_lt_one h1) hn), hk⟩
theorem jkx_skip (ha : JK X c u0 n e te) (hr : JKX X c u0 n j es t) (hs : starEach (e :: es) X.env = (false, eval e X.env) :: starEach es X.env := by rfl) : JKX X c u0 n (j + 1) (e :: es) (tCons te t) := by
  refine ⟨fun pos pins s σ H Q I hn hc h => ?_⟩
  rw [hs]
  show wpAny _ _ (spliced ((false, eval e X.env) :: backTo pos (starEach es X.env))) _ _ s
  refine Calls.spliced_cons (thn (ha.run pins s σ H _ I hn hc h) fun u s1 hh => ?_)
  obtain ⟨g1, v, H1, I1, r1, q1⟩ := hh
  exact thn (hr.run pos pins s1 σ H1 _ I1 g1.2 (g1.1.cell hc) q1) fun us s2 ⟨⟨g2, tk⟩, xs, H2, I2, r2, q2⟩ => ⟨⟨g1.trans g2, tk⟩, v :: xs, H2, I2, .cons r1 r2, q2⟩
/-- f(..) -/
theorem jk_callT {k : Nat} {ps : List Str} {sp : Sp} (C : Cel X y c) (D : DfT X.prog X.w X.K X.mg X.base k x ps j sp) (hr : Room k X.A) (hg : Gl X x) (ha : JKX X c u0 n j (e :: es) t) (hdb : (x == ("__debug__" : Str)) = false := by decide)
    (he : starEach (e :: es) X.env = (false, eval e X.env) :: starEach es X.env := by rfl) (hpl : (backTo pos (starEach es X.env)).any (·.1) = false := by rfl) : JK X c u0 n (.Call (.Name x p) (e :: es) [] pos) (tCall sp [] E0 t) := by
  obtain ⟨f, fd, F, g, kp, b⟩ := D.ex
  refine ⟨fun pins s σ H Q I hn hc h => ?_⟩
  refine wpAny_Call_Name_kw (ld_glob I hg g ?_ hdb)
  refine PySem.W.callWith_K (h₀ := X.base) I.ok.mod.kin kp (thn (ha.run pos pins s σ H _ I hn hc h) fun us s1 hh => ?_) he hpl
  obtain ⟨⟨g1, tk⟩, vs, H1, I1, r, q⟩ := hh
  refine ⟨I1.kIn, ?_⟩
  rw [List.append_nil] at q
  have hl : us.length = ps.length := by rw [← r.length]; exact F.len _ _ _ _ q
  have bind := b s1 us I1.kIn (by rw [List.append_nil]; exact hl)
  rw [List.append_nil] at bind
  have called : wpAny (model X.prog X.w) X.A (call (.ref f) us) (fun u s' => Kc c s1 s' ∧ EP X pins σ Q u s') X.xe s1 := by
    refine wpAny_call (codeAny_mono (F.run X.A X.stack s1 H1 ⟨us, []⟩ us vs Q hr I1.env0 bind r tk q) fun r s' hq => ?_)
    match r, hq with
    | .ok (.ret u), hq =>
      have ce : CE X.stack X.prog X.w H1 s1 Q u s' := hq
      obtain ⟨_, _, _, _, un, _⟩ := id ce
      exact ⟨C.un I1 un, I1.after ce⟩
  exact wpAny_mono (PySem.wpAny_toks_of g1.2 called) (fun u s' z => ⟨g1.trans ⟨z.2.1, z.1⟩, z.2.2⟩) fun _ _ z => z.2
end
end Sq
set_option Elab.async false
set_option linter.all false
set_option maxRecDepth 100000
set_option maxHeartbeats 4000000
/-! More code that keeps one cell: lists compared, repr, an item of a list, tests. -/
namespace Sq
open PySem PySem.Spec PyProof.Rows L2 GenW
section
variable {X : Cx} {c : Addr} {u0 : Value} {n : Nat} {x y : Str} {p pos : Pos} {e e2 : Expr} {es : List Expr} {te tf : TE} {t : TA}
theorem oj_neD (hu : X.A.units + 64 < cLine) : OpJ X c (compareOp .NotEq) (rNeD X.K) := by
  intro pins s σ H x y v u Q I rx ry h
  obtain ⟨d, e, hd, he, sd, se, q⟩ := h
  obtain ⟨as, r1⟩ := Dp.reads I d x v hd rx
  obtain ⟨bs, r2⟩ := Dp.reads I e y u he ry
  exact SeqAt.compareNe_shaped r1 r2 sd se hu ⟨Kc.refl, .bl _, H, I, rfl, q⟩
/-- two texts -/
def rNeT : R2 := fun x y H Q => ∃ a b : Str, x = .str a ∧ y = .str b ∧ Q (.bl (!decide (V.str a = V.str b))) H
theorem cj_reprD (hg : X.A.guards = some []) (hu : X.A.units + 64 < cLine) : CallJ X c (.builtin "repr") (rReprD X.K) := by
  intro pins s σ H xs us Q I r h
  obtain ⟨a, d, rfl, hd, sh, nd, dep, sz, q⟩ := h
  obtain ⟨u, rfl, rv⟩ := vals1 r
  obtain rfl : u = Value.ref a := rv
  obtain ⟨as, rd⟩ := Dp.reads I d _ _ hd (show RelV (.ref a) (.ref a) from rfl)
  refine repr_of_reads' rd sh (by rw [nd]; exact fun z => nomatch z) hg (by omega) (fun b o e => e) (fun h' u tk keep => ?_) sz
  exact ⟨fun o e => keep _ _ e, .str _, H, I.kept keep, ⟨_, rfl⟩, q⟩
theorem cj_lenK : CallJ X c (.builtin "len") (rLenK X.K) := by
  intro pins s σ H xs us Q I r h
  obtain ⟨p, ys, rfl, hq, q⟩ := h
  obtain ⟨u, rfl, rx⟩ := vals1 r
  cases rx
  have hn := line63
  rcases hq with hq | hq
  · obtain ⟨its, r', pl, hz⟩ := I.list hq
    have hlen := r'.length
    exact Calls.call_len_list pl.isList (by simp only [List.size_toArray] <;> omega) ⟨Kc.refl, .int ys.length, H, I.tok _, ⟨s.toks + 1, by rw [List.size_toArray, hlen]⟩, q⟩
  · obtain ⟨its, r', pl, hz⟩ := I.tuple hq
    have hlen := r'.length
    exact len_tuple pl (by simp only [List.size_toArray] <;> omega) ⟨Kc.refl, .int ys.length, H, I.tok _, ⟨s.toks + 1, by rw [List.size_toArray, hlen]⟩, q⟩
theorem jk_callB {id : String} {r : List V → Hp → VK → Prop} (hj : CallJ X c (.builtin id) r) (hg : Gl X x) (hm : X.mg x = none) (hv : bootBuiltins x = some (.builtin id)) (ha : JKA X c u0 n (e :: es) t) (hn : x ≠ "__name__" := by decide) (hdb : (x == ("__debug__" : Str)) = false := by decide)
    (he : starEach (e :: es) X.env = (false, eval e X.env) :: starEach es X.env := by rfl) (hpl : (backTo pos (starEach es X.env)).any (·.1) = false := by rfl) : JK X c u0 n (.Call (.Name x p) (e :: es) [] pos) (tCB r t) := by
  refine ⟨fun pins s σ H Q I hk hc h => ?_⟩
  refine wpAny_Call_Name_kw (ld_blt I hg hm hv ?_ hn hdb)
  refine PyProof.Rows.callWith_builtin1 (thn (ha.run pos pins s σ H _ I hk hc h) fun us s1 hh => ?_) he hpl
  obtain ⟨g1, vs, H1, I1, r1, q1⟩ := hh
  exact wpAny_mono (PySem.wpAny_toks_of g1.2 (hj pins s1 σ H1 vs us Q I1 r1 q1)) (fun u s' z => ⟨g1.trans ⟨z.2.1, z.1⟩, z.2.2⟩) fun _ _ z => z.2
theorem jk_callD {k : Nat} {ps : List Str} {sp : Sp} (C : Cel X y c) (D : Df X.prog X.w X.K X.mg X.base k x ps sp) (hr : Room k X.A) (hg : Gl X x) (ha : JKA X c u0 n (e :: es) t) (hdb : (x == ("__debug__" : Str)) = false := by decide)
    (he : starEach (e :: es) X.env = (false, eval e X.env) :: starEach es X.env := by rfl) (hpl : (backTo pos (starEach es X.env)).any (·.1) = false := by rfl) : JK X c u0 n (.Call (.Name x p) (e :: es) [] pos) (tCall sp [] E0 t) := by
  obtain ⟨f, fd, F, g, kp, b⟩ := D.ex
  refine ⟨fun pins s σ H Q I hk hc h => ?_⟩
  refine wpAny_Call_Name_kw (ld_glob I hg g ?_ hdb)
  refine PySem.W.callWith_K (h₀ := X.base) I.ok.mod.kin kp (thn (ha.run pos pins s σ H _ I hk hc h) fun us s1 hh => ?_) he hpl
  obtain ⟨g1, vs, H1, I1, r, q⟩ := hh
  refine ⟨I1.kIn, ?_⟩
  have called := run_fnJ (dvs := []) (ds := []) C F hr b .nil pass0 I1 r q
  exact wpAny_mono (PySem.wpAny_toks_of g1.2 called) (fun u s' z => ⟨g1.trans ⟨z.2.1, z.1⟩, z.2.2⟩) fun _ _ z => z.2
/-- l[i], i not negative -/
def rIxP (K : PySem.W.Frag) : R2 := fun x y H Q => ∃ (p : Addr) (xs : List V) (i : Nat) (v : V), x = .ref p ∧ y = .int (i : Int) ∧ SqL K H p xs ∧ xs[i]? = some v ∧ Q v H
theorem jk_ixP (ha : JK X c u0 n e te) (hb : JK X c u0 n e2 tf) (hs : PlainIx e2) : JK X c u0 n (.Subscript e e2 pos) (tOp (rIxP X.K) te tf) := by
  refine ⟨fun pins s σ H Q I hn hc h => ?_⟩
  refine Subscript_ (thn (ha.run pins s σ H _ I hn hc h) fun v s1 hh => ?_)
  obtain ⟨g1, a, H1, I1, r1, q1⟩ := hh
  refine thn (hb.run pins s1 σ H1 _ I1 g1.2 (g1.1.cell hc) q1) fun u s2 hh => ?_
  obtain ⟨g2, b, H2, I2, r2, l, xs, i, z, rfl, rfl, hq, hz, q⟩ := hh
  cases r1
  obtain ⟨tk, rfl⟩ := r2
  obtain ⟨its, r, pl, few⟩ := I2.list hq
  obtain ⟨w, ew, rw'⟩ := r.get hz
  have il : i < xs.length := (List.getElem?_eq_some_iff.mp hz).1
  have hl := r.length
  have line := line63
  refine item_listR pl.isList (Int.natCast_nonneg i) (by omega) (x := w) (by simpa using ew) ⟨g1.trans g2, z, H2, I2, rw', q⟩ (hs _ _)
/-! ### tests -/
theorem jkt_cmp {op : CmpOp} {r : R2} (ho : OpJ X c (compareOp op) r) (ha : JK X c u0 n e te) (hb : JK X c u0 n e2 tf) (hm : behindInMarks op e2 = false) : JKT X c u0 n (.Compare e [op] [e2] pos) (tTest (tOp r te tf)) := by
  refine ⟨fun pins s σ H Q I hn hc h => ?_⟩
  refine wpAny_isTrue_Compare1 (thn (ha.run pins s σ H _ I hn hc h) fun v s1 hh => ?_) hm
  obtain ⟨g1, a, H1, I1, r1, q1⟩ := hh
  refine thn (hb.run pins s1 σ H1 _ I1 g1.2 (g1.1.cell hc) q1) fun u s2 hh => ?_
  obtain ⟨g2, b, H2, I2, r2, q2⟩ := hh
  refine wpAny_mono (PySem.wpAny_toks_of g2.2 (ho pins s2 σ H2 a b v u _ I2 r1 r2 q2)) (fun w s3 z => ?_) fun _ _ z => z.2
  obtain ⟨t3, k3, b3, H3, I3, r3, k, e3, q3⟩ := z
  subst e3
  cases r3
  exact wpAny_truthy_bool ⟨(g1.trans g2).trans ⟨k3, t3⟩, H3, I3, q3⟩
end
end Sq
set_option Elab.async false
set_option linter.all false
set_option maxRecDepth 100000
set_option maxHeartbeats 4000000
/-! A name that is a cell is stored: what stands in the cell is known from then on. -/
namespace Sq
open PySem PySem.Spec PyProof.Rows L2 GenW
section
variable {X : Cx} {c : Addr} {n : Nat} {x : Str} {p pos : Pos} {e : Expr} {te : TE} {pins : List (Addr × Obj)} {σ : L2.St} {H : Hp} {s : Shared} {rest : List Stmt} {tr : TS}
theorem store_cellJ {M : Model} {A : Around} {E : Value → Shared → Prop} {i : Nat} {v : V} {u : Value} {Q : Unit → Shared → Prop} (I : Inv X pins σ H s) (hN : X.N.Nodup) (hi : X.N[i]? = some x) (hk : X.env.kindOf x = some .cell) (C : Cel X x c) (r : RelV v u)
    (h : ∀ h', Inv X pins (σ.set i (some v)) H { s with heap := h' } → h'.IsCell c (some u) → Q () { s with heap := h' }) : wpAny M A (storeName X.env x u) Q E s := by
  obtain ⟨m, hn, hl⟩ := id I.loc
  have hiσ : i < σ.length := by rw [I.len]; exact (List.getElem?_eq_some_iff.mp hi).1
  obtain ⟨w0, old⟩ := I.cell x c C.is
  refine wpAny_storeName_cell I.ok.kind hk C.is old fun h' new sb => h h' ?_ new
  obtain ⟨oc, hoc, hod⟩ := id old
  have above : ∀ b o, X.s_0.heap.get? b = some o → b ≠ c := fun b o e => Nat.ne_of_lt (Nat.lt_of_lt_of_le (Heap.lt_size e) (I.ok.cab x c C.own C.is))
  have freeC := I.freeC x c C.is
  have loc2 : ∀ (j : Nat) (z : Str) (v' : V), X.N[j]? = some z → (σ.set i (some v))[j]? = some (some v') → Vis X.env.scope z → ∃ u', RelV v' u' ∧ Look X.env h' m z u' := fun j z v' e1 e2 e3 => by
    by_cases hj : j = i
    · subst hj
      rw [hi] at e1
      cases e1
      rw [List.getElem?_set_self hiσ] at e2
      cases e2
      exact ⟨u, r, .inr ⟨.inl hk, c, C.is, new⟩⟩
    · rw [List.getElem?_set_ne (Ne.symm hj)] at e2
      obtain ⟨u', r', q⟩ := hl j z v' e1 e2 e3
      rcases q with q | ⟨k, c2, e4, z4⟩
      · exact ⟨u', r', .inl q⟩
      · have away : c2 ≠ c := fun y => by
          rw [y] at e4
          exact hj (nodup_ix hN e1 (I.ok.inj _ _ _ e4 C.is ▸ hi))
        exact ⟨u', r', .inr ⟨k, c2, e4, z4.sameBut sb away⟩⟩
  refine ⟨I.ok, I.os, I.bare, ⟨fun b o e n hb hx => (sb.2 b (above b o e)).trans (I.base.keep b o e n hb hx), fun b o e n hb hx => ?_, I.base.free, fun b o e hx => ?_, I.base.tups, I.base.frzs, I.base.tbls⟩, ⟨m, hn.sameBut sb (Ne.symm (I.cne x c C.is)), loc2⟩, fun z c2 e => ?_, I.free, I.freeC, fun p hp => ?_, fun b ob e => ?_, by simpa using I.len⟩
  · obtain ⟨sl, e1⟩ := I.base.slot b o e n hb hx
    exact ⟨sl, (sb.2 b (above b o e)).trans e1⟩
  · obtain ⟨o2, e1⟩ := I.base.there b o e hx
    exact ⟨o2, (sb.2 b (above b o e)).trans e1⟩
  · by_cases y : c2 = c
    · rw [y]
      exact ⟨_, new⟩
    · obtain ⟨w2, z2⟩ := I.cell z c2 e
      exact ⟨w2, z2.sameBut sb y⟩
  · obtain ⟨e1, n1, ne1, nf1, d1⟩ := I.pin p hp
    have away : p.1 ≠ c := fun y => by
      rw [y, hoc] at e1
      exact d1 w0 (by rw [← Option.some.inj e1]; exact hod)
    exact ⟨(sb.2 p.1 away).trans e1, n1, ne1, nf1, d1⟩
  · refine (I.hok b ob e).stay (fun b2 w2 hb2 q => (sb.2 b2 fun y => ?_).trans q) (fun _ q => q) fun _ _ q => q
    rw [y, freeC] at hb2
    rcases hb2 with z | z
    · rw [← z, freeC] at e
      cases e
    · cases z
/-- name = 'text'[e]: the sign has a new token, and the rest knows it -/
def tIxC (z : Str) (te : TE) : TE := fun σ H Q => te σ H fun y H1 => ∃ (i : Nat) (ch : Nat), y = .int (i : Int) ∧ z.length ≤ sizeLine ∧ z.cps.toList[i]? = some ch ∧ Q (.str ⟨#[ch]⟩) H1
theorem pss_sign {i k : Nat} {z : Str} {p1 p2 p' : Pos} (hN : X.N.Nodup) (hi : X.N[i]? = some x) (hk : X.env.kindOf x = some .cell) (C : Cel X x c) (he : PE X e te) (hix : PlainIx e)
    (hrest : ∀ (ch tb n : Nat), tb ≠ 0 → tb < n → JKs X c (.str ⟨#[ch]⟩ tb) n rest tr) (hs : swapsWith (.Subscript (.Constant (.str z) k p1) e p2) (some (.Name x p')) pos.line X.env = pure false := by rfl) :
    PSs X (.Assign [.Name x p'] (.Subscript (.Constant (.str z) k p1) e p2) pos :: rest) (tSeq (tAsg (tIxC z te) (gName i)) tr) := by
  refine ⟨fun pins s σ H D I h => ?_⟩
  refine wpAny_execs_cons (wpAny_Assign_Name (Subscript_ (Calls.Constant_str ?_)) hs)
  refine wpAny_mono (PySem.wpAny_toks (he.run pins _ σ H _ (I.tok (s.toks + 1)) h)) (fun v s1 hh => ?_) fun _ _ z => z.2
  obtain ⟨up, y, H1, I1, r1, j, ch, rfl, few, at1, q⟩ := hh
  obtain ⟨tk, rfl⟩ := r1
  have jl : j < z.length := (List.getElem?_eq_some_iff.mp at1).1
  have szl : sizeLine = 16777216 := sizeLine_eq
  refine tail_any (typeIs_str s1 z s.toks) slot_str_getitem.lookup (getItem_str (c := ch) (by
    have e1 : decide ((j : Int) < -(2 ^ 63 : Int)) = false := decide_eq_false (by omega)
    have e2 : decide ((j : Int) ≥ 2 ^ 63) = false := decide_eq_false (by omega)
    rw [e1, e2, Bool.or_false]) (by rw [seqIndex_of (Int.natCast_nonneg j) (by omega)]; simpa using at1) ?_) (hix _ _)
  refine store_cellJ (v := .str ⟨#[ch]⟩) (I1.tok _) hN hi hk C ⟨s1.toks, rfl⟩ fun h' I2 cell => ?_
  have t0 : s1.toks ≠ 0 := Nat.ne_of_gt (Nat.lt_of_lt_of_le (Nat.succ_pos s.toks) up)
  exact thn ((hrest ch s1.toks (s1.toks + 1) t0 (Nat.lt_succ_self _)).run pins _ _ H1 D I2 (Nat.le_refl _) cell q) fun f s3 z => z.2
end
end Sq
set_option Elab.async false
set_option linter.all false
set_option maxRecDepth 100000
set_option maxHeartbeats 4000000
/-! for over a list, one cell kept. -/
namespace Sq
open PySem PySem.Spec PyProof.Rows L2 GenW
section
variable {X : Cx} {c : Addr} {u0 : Value} {n : Nat} {x y : Str} {p pos : Pos} {e : Expr} {te : TE} {tb : TS} {body : List Stmt}
/-- a name is stored, the cell is kept -/
structure JG (X : Cx) (c : Addr) (tg : Expr) (t : TG) : Prop where
  run : ∀ (pins : List (Addr × Obj)) (s : Shared) (σ : L2.St) (H : Hp) (v : V) (u : Value) (Q : L2.St → Hp → Prop), Inv X pins σ H s → RelV v u → t v σ H Q → wpAny (model X.prog X.w) X.A (assign tg X.env u) (fun _ s' => Kc c s s' ∧ ∃ σ' H', Inv X pins σ' H' s' ∧ Q σ' H') X.xe s
theorem jg_name {i : Nat} (C : Cel X y c) (ne : x ≠ y) (hN : X.N.Nodup) (hi : X.N[i]? = some x) (hx : Loc X.env.scope x) (hf : X.fn x = true ∨ X.env.scope.names.lookup x = some .local := by first | exact .inl rfl | exact .inr rfl | assumption) : JG X c (.Name x pos) (gName i) := by
  refine ⟨fun pins s σ H v u Q I r h => wpAny_assign_Name (store_ok2 I hN hi hx r (fun s2 I2 hh => ?_) hf)⟩
  obtain ⟨a, sb, ha⟩ := hh
  have ca : c ≠ a := fun z => by
    rcases ha with ha | ha
    · exact I.cne _ _ C.is (z.trans ha)
    · rw [← z] at ha
      exact ne (I.ok.inj _ _ _ ha C.is)
  exact ⟨fun o e => (sb.2 c ca).trans e, _, H, I2, h⟩
def tForJ (K : PySem.W.Frag) (te : TE) (g : TG) (tb : TS) : TS := fun D σ H => te σ H fun v H1 => ∃ (a : Addr) (xs : List V), v = .ref a ∧ SqL K H1 a xs ∧ ∃ Pv : Nat → L2.St → Hp → Prop, Pv 0 σ H1 ∧ (∀ i σ H, Pv i σ H → SqL K H a xs) ∧
  (∀ (i : Nat) (z : V) (σ : L2.St) (H : Hp), xs[i]? = some z → Pv i σ H → g z σ H fun σ2 H2 => tb { nx := Pv (i + 1), ct := Pv (i + 1), bk := D.nx, rt := D.rt } σ2 H2) ∧ ∀ σ H, Pv xs.length σ H → D.nx σ H
theorem jks_for {op : Pos} {g : TG} (hcalm : X.calm = true) (own : PassesOwn (model X.prog X.w) X.A X.env X.xe) (C : Cel X y c) (he : JE X c e te) (hg : JG X c (.Name x op) g) (hb : JKs X c u0 n body tb)
    (hfs : ∀ z, foldedSetIterable e X.env z = pure z := by intro _; rfl) : JKS X c u0 n (.For (.Name x op) e body [] pos) (tForJ X.K te g tb) := by
  refine ⟨fun pins s σ H D I hn hc h => ?_⟩
  refine wpAny_mono (wpAny_For (Q := fun f s' => (Kc c s s' ∧ n ≤ s'.toks) ∧ SP X pins D f s') (wpAny_mono (PySem.wpAny_toks_of hn (he.run pins s σ H _ I h)) (fun v s1 hh => ?_) fun _ _ z => z.2) hfs) (fun _ _ z => z) fun _ _ z => z
  obtain ⟨n1, g1, w, H1, I1, r1, a, xs, ew, hq, Pv, p0, hl, turn, fin⟩ := hh
  subst ew
  obtain rfl : v = Value.ref a := r1
  obtain ⟨its, rv, pl, hz⟩ := I1.list hq
  refine wpAny_pyIter_list pl.isList ?_
  obtain ⟨it, eit⟩ : ∃ it, it = s1.heap.objs.size := ⟨_, rfl⟩
  rw [← eit]
  have kept : ∀ b o, s1.heap.get? b = some o → (s1.heap.push { cls := .type "list_iterator", data := .fields #[.ref a, .int 0 0] }).get? b = some o := fun b o e => Heap.get?_push_of_some _ e
  have fpk : FpOk X pins H1 it := I1.fpOk (Nat.le_of_eq eit.symm) (by rw [eit]; exact I1.hok.fresh (Nat.le_refl _))
  have cit : c ≠ it := fun z => fpk.2.2.2.2.1 _ _ C.is z
  refine codeAny_forLoop_any (fun m s' => ∃ i σ' H', m = xs.length - i ∧ i ≤ xs.length ∧ Kc c s s' ∧ n ≤ s'.toks ∧ Inv X pins σ' H' s' ∧ s'.heap.IsListIter it a i ∧ H' it = none ∧ Pv i σ' H') (fun m s' hs' => ?_) xs.length
    ⟨0, σ, H1, rfl, Nat.zero_le _, g1.trans fun o e => kept _ _ e, n1, I1.kept (t' := s1.toks) kept, by rw [eit]; exact ⟨_, Heap.get?_push_size _ rfl, rfl, rfl⟩, fpk.1, p0⟩
  obtain ⟨i, σ', H', rfl, hi, k2, n2, I2, st, free, pv⟩ := hs'
  obtain ⟨its2, rv2, pl2, hz2⟩ := I2.list (hl i σ' H' pv)
  have hlen := rv2.length
  have fpk2 : FpOk X pins H' it := ⟨free, fpk.2⟩
  by_cases lt : i < xs.length
  · obtain ⟨z, hz3⟩ : ∃ z, xs[i]? = some z := ⟨_, List.getElem?_eq_getElem lt⟩
    obtain ⟨u, hu, ru⟩ := rv2.get hz3
    refine wpAny_pyNext_list_item st pl2.isList (x := u) (by simpa using hu) fun h' st' sb => ?_
    obtain ⟨f0, f1, f2, f3, f4, f5⟩ := fpk2
    have I3 : Inv X pins σ' H' { s' with heap := h' } := I2.turned (t' := s'.toks) (fun b o hb e => (sb.2 b hb).trans e) f0 f1 f3 f4 f5
    obtain ⟨oi, eoi, ci, di⟩ := id st'
    have I4 := I3.pinned (fp := [it]) (fun b hb => by rw [List.mem_singleton.mp hb]; exact ⟨free, fpk.2⟩) (fun b hb => by
      rw [List.mem_singleton.mp hb]
      exact ⟨oi, eoi, fun v q => by rw [di] at q; cases q⟩)
    have k3 : Kc c s { s' with heap := h' } := k2.trans fun o e => (sb.2 c cit).trans e
    refine go_of (s := { s' with heap := h' }) eoi ci di (by decide) ?_
    refine wpAny_passesOwn own (wpAny_mono (PySem.wpAny_toks_of n2 (hg.run _ { s' with heap := h' } σ' H' z u _ I4 ru (turn i z σ' H' hz3 pv))) (fun _ s4 h4 => ?_) fun _ _ z => z.2)
    obtain ⟨n4, k4, σ4, H4, I5, q4⟩ := h4
    refine wpAny_passesOwn own (thn (hb.run _ s4 σ4 H4 _ I5 n4 ((k3.trans k4).cell hc) q4) fun fl s5 h5 => ?_)
    obtain ⟨g5, q5⟩ := h5
    have k5 : Kc c s s5 := (k3.trans k4).trans g5.1
    have again : ∀ σ5 H5, Inv X (pins ++ pinsAt [it] h') σ5 H5 s5 → Pv (i + 1) σ5 H5 → ∃ m, m < xs.length - i ∧ ∃ i' σ' H', m = xs.length - i' ∧ i' ≤ xs.length ∧ Kc c s s5 ∧ n ≤ s5.toks ∧ Inv X pins σ' H' s5 ∧ s5.heap.IsListIter it a i' ∧ H' it = none ∧ Pv i' σ' H' := fun σ5 H5 I6 pv5 => by
      have pi := I6.pin (it, oi) (List.mem_append_right _ (List.mem_append_right _ (mem_pinsAt (by simp) eoi)))
      exact ⟨xs.length - (i + 1), by omega, i + 1, σ5, H5, rfl, lt, k5, g5.2, I6.unpinned, ⟨oi, pi.1, ci, di⟩, pi.2.1, pv5⟩
    match fl, q5 with
    | .next, ⟨σ5, H5, I6, pv5⟩ => exact again σ5 H5 I6 pv5
    | .cont, ⟨σ5, H5, I6, pv5⟩ => exact again σ5 H5 I6 pv5
    | .brk, ⟨σ5, H5, I6, qd⟩ => exact ⟨⟨k5, g5.2⟩, σ5, H5, I6.unpinned, qd⟩
    | .ret v, ⟨x5, σ5, H5, I6, rv5, qd⟩ => exact ⟨⟨k5, g5.2⟩, x5, σ5, H5, I6.unpinned, rv5, qd⟩
  · obtain rfl : i = xs.length := by omega
    refine wpAny_pyNext_list_end (I2.ok.hd hcalm) st pl2.isList (by simp; omega) fun h2 eb => ?_
    obtain ⟨f0, f1, f2, f3, f4, f5⟩ := fpk2
    have I3 : Inv X pins σ' H' { s' with heap := h2 } := I2.turned (t' := s'.toks) (fun b o hb q => eb b o hb q) f0 f1 f3 f4 f5
    refine wpAny_execs_nil ⟨⟨fun o e => eb c o cit (k2 o e), n2⟩, σ', H', I3, fin σ' H' pv⟩
end
end Sq
set_option Elab.async false
set_option linter.all false
set_option maxRecDepth 100000
set_option maxHeartbeats 4000000
/-! A list comprehension with one for, one cell kept. -/
namespace Sq
open PySem PySem.Spec PyProof.Rows L2 GenW
section
variable {X : Cx}
theorem lcJ_core {y0 : Str} {c0 : Addr} (Ce : Cel X y0 c0) {pins : List (Addr × Obj)} {s : Shared} {σ : L2.St} {H : Hp} {Q : VK} {elt tg iter : Expr} {ifs : List Expr} {scope : Scope} {own : List (Str × Nat)} {pos pos' : Pos} {wi : TI} {g : TG} {tt : TT} {te : TE} {use : Option (Value → Sem Unit)} {Qf : Value → Shared → Prop}
    (mood : X.calm = true) (nodupN : X.N.Nodup) (I : Inv X pins σ H s) (sourceA : JI X c0 tg iter wi) (ok : BlkOk X.N X.env.scope scope own)
    (targetA : ∀ (s : Shared) (H : Hp) (C : Addr) (cl : List (Str × Addr)) (fp : List Addr), PG (X.blk s H scope (compEnvC scope cl C X.env) fp) tg g) (testsA : ∀ (s : Shared) (H : Hp) (C : Addr) (cl : List (Str × Addr)) (fp : List Addr), PTs (X.blk s H scope (compEnvC scope cl C X.env) fp) ifs tt)
    (elemA : ∀ (s : Shared) (H : Hp) (C : Addr) (cl : List (Str × Addr)) (fp : List Addr), PE (X.blk s H scope (compEnvC scope cl C X.env) fp) elt te) (plainA : ∀ x, foldedSetIterable iter X.env x = pure x)
    (h : tLc wi g tt te (own.map (·.2)) σ H Q)
    (back : ∀ D C s' m H', Kc c0 s s' → Inv X pins σ H' s' → Q (.ref D) H' → s'.heap.Ns C m → FpOk X pins H' C → compPost (model X.prog X.w) X.A X.xe use Qf (.ref D) C (.ok .next) s') :
    wpAny (model X.prog X.w) X.A (comprehension (.ListComp elt [⟨tg, iter, ifs, 0⟩] scope pos) scope X.env pos' (newList []) false (eval iter X.env) use) Qf X.xe s := by
  have captured : ∀ y ∈ scope.names, y.2 = .free → ∃ c, X.env.cells.lookup y.1 = some c := fun y hy e => by
    rcases ok.free y hy e with k | k
    · exact I.ok.has _ (.inl k)
    · exact I.ok.has _ (.inr k)
  refine wpAny_comprehension_free (use := use) rfl plainA (closure_ok captured) ok.kind (fun y hy e => by rw [ok.uniq y hy, e])
    (thn (sourceA.run pins s σ H _ I h) fun srcV sA gotX => thn gotX fun itV sB hB2 => ?_)
  obtain ⟨kB, h2⟩ := hB2
  obtain ⟨it, fp, tn, J, HB, e, I2, T, st2, f2, q⟩ := h2
  subst e
  refine wpAny_newObj_type (newEnv_comp ?_) (Nat.zero_le _)
  generalize atD : sB.heap.objs.size = D
  have freshD : HB D = none := I2.hok.fresh (Nat.le_of_eq atD)
  obtain ⟨W, ⟨mes0, inv0⟩, walk0⟩ := q D freshD
  -- the new list
  generalize laid3 : ({ sB with heap := sB.heap.push { cls := .type "list", data := .seq ([] : List Value).toArray } } : Shared) = sC
  have J3 : Inv X pins σ (upd HB D (.lst [])) sC := by
    rw [← laid3]
    refine I2.laid (t' := sB.toks) (fun b o e => Heap.get?_push_of_some _ e) (Nat.le_of_eq atD) ⟨Nat.zero_le _, [], 0, .nil, ?_⟩
    rw [← atD]
    exact Heap.get?_push_size _ rfl
  have heap3 : sC.heap = sB.heap.push { cls := .type "list", data := .seq ([] : List Value).toArray } := by rw [← laid3]
  have below : ∀ b ∈ fp, b < sB.heap.objs.size := fun b hb => by
    obtain ⟨o, e, _⟩ := T.obj _ _ st2 b hb
    exact Heap.lt_size e
  have roam3 : ∀ b ∈ fp, FpOk X pins (upd HB D (.lst [])) b ∧ b < sC.heap.objs.size := fun b hb => by
    have hlt := below b hb
    refine ⟨⟨?_, (f2 b hb).2⟩, by rw [heap3, Heap.size_push]; exact Nat.lt_succ_of_lt hlt⟩
    rw [upd_ne (by rw [← atD]; exact Nat.ne_of_lt hlt)]
    exact (f2 b hb).1
  have turn3 : tn 0 sC.heap := T.keep _ _ _ st2 fun b _ o e => by rw [heap3]; exact Heap.get?_push_of_some _ e
  have J4 := block_start J3 ok nodupN roam3
  have tgt := targetA sC (upd HB D (.lst [])) sC.heap.objs.size (cellsFrom (sC.heap.objs.size + 1) scope.names (cloFrom X.env.cells scope.names [])) fp
  have tst := testsA sC (upd HB D (.lst [])) sC.heap.objs.size (cellsFrom (sC.heap.objs.size + 1) scope.names (cloFrom X.env.cells scope.names [])) fp
  have elm := elemA sC (upd HB D (.lst [])) sC.heap.objs.size (cellsFrom (sC.heap.objs.size + 1) scope.names (cloFrom X.env.cells scope.names [])) fp
  show codeAny _ _ (.compStart (.ListComp elt [⟨tg, iter, ifs, 0⟩] scope pos) 0 (.ref it) (.ref D) (compEnvC scope (cellsFrom (sC.heap.objs.size + 1) scope.names (cloFrom X.env.cells scope.names [])) sC.heap.objs.size X.env)) (compPost (model X.prog X.w) X.A X.xe use Qf (.ref D) sC.heap.objs.size) { sC with heap := pushCells (sC.heap.push { cls := .type "dict", data := .dict #[] }) scope.names }
  have untr : ∀ b ∈ fp, (upd HB D (.lst [])) b = none := fun b hb => (roam3 b hb).1.1
  generalize blkE : compEnvC scope (cellsFrom (sC.heap.objs.size + 1) scope.names (cloFrom X.env.cells scope.names [])) sC.heap.objs.size X.env = ce at J4 tgt tst elm ⊢
  have locE : ce.locals = sC.heap.objs.size := by subst blkE; rfl
  generalize heapE : upd HB D (.lst []) = HC at J3 J4 tgt tst elm inv0 untr roam3
  generalize laid4 : ({ sC with heap := pushCells (sC.heap.push { cls := .type "dict", data := .dict #[] }) scope.names } : Shared) = sD at J4 ⊢
  have turn4 : tn 0 sD.heap := T.keep _ _ _ turn3 fun b _ o e => by rw [← laid4]; exact pushCells_keeps _ _ _ _ (Heap.get?_push_of_some _ e)
  have roams : ∀ {σ' : L2.St} {H' : Hp} {s' : Shared}, Inv (X.blk sC HC scope ce fp) [] σ' H' s' → (∀ b ∈ fp, H' b = none) → ∀ b ∈ fp, FpOk (X.blk sC HC scope ce fp) [] H' b := fun {σ' H' s'} I' nsC b hb =>
    ⟨nsC b hb, (I'.ok.exf b hb).1, I'.ok.exfs b hb, .inl hb, fun x c e => (I'.ok.exf b hb).2 x c e, fun p hp => absurd (show p ∈ ([] : List (Addr × Obj)) ++ [] from hp) (by simp)⟩
  have outer0 : codeAny (model X.prog X.w) X.A (.compLoop (.ListComp elt [⟨tg, iter, ifs, 0⟩] scope pos) 0 (.ref it) (.ref D) ce) (compPost (model X.prog X.w) X.A X.xe use Qf (.ref D) sC.heap.objs.size) sD := by
    refine compLoop_any (fun n s' => ∃ i H', Inv (X.blk sC HC scope ce fp) [] (wipe σ (own.map (·.2))) H' s' ∧ tn i s'.heap ∧ (∀ b ∈ fp, H' b = none) ∧ W i n H') ?_ mes0 ⟨0, HC, J4, turn4, untr, inv0⟩
    rintro n sE ⟨i, HE, J5, turn5, un5, inv5⟩
    rcases walk0 i n HE inv5 with ⟨atEnd, done0⟩ | ⟨more, NxA, reach, body0⟩
    · have ended := T.done (X.blk sC HC scope ce fp) rfl rfl rfl mood i [] sE _ HE (fun _ _ => False) J5 (roams J5 un5) turn5 atEnd
      refine thnF ended fun r sF ⟨hr, J6⟩ => ?_
      subst hr
      have J7 : Inv X pins σ HE sF := J3.call' (ch := fp) J6.os J6.base J6.hok J6.bare fun b hb => ⟨(roam3 b hb).1.2.2.2.1, (roam3 b hb).1.2.1, (roam3 b hb).1.2.2.2.2.1, (roam3 b hb).1.2.2.2.2.2⟩
      have freeC : HE sC.heap.objs.size = none := by
        have z : HE ce.locals = none := J6.free
        rw [locE] at z
        exact z
      obtain ⟨m, nsC, _⟩ := J6.loc
      have nsC : sF.heap.Ns ce.locals m := nsC
      rw [locE] at nsC
      have kAll : Kc c0 s sF := fun o eo => by
        have e3 : sC.heap.get? c0 = some o := by
          rw [heap3]
          exact Heap.get?_push_of_some _ (kB o eo)
        refine J6.base.keep c0 o e3 (Ce.free J3) (Ce.nostk J3) fun hb => ?_
        exact (roam3 c0 hb).1.2.2.2.2.1 _ _ Ce.is rfl
      exact back D sC.heap.objs.size sF m HE kAll J7 done0 nsC (J3.fpOk (Nat.le_refl _) freeC)
    · have given := T.item (X.blk sC HC scope ce fp) rfl rfl rfl mood i [] sE _ HE (fun _ _ => False) J5 (roams J5 un5) turn5 more
      refine thnF given fun r sF ⟨u, hr, got6⟩ => ?_
      subst hr
      refine thnF got6 fun _ sG ⟨x, HG, J7, rel7, yld7, turn7, un7⟩ => ?_
      have J7p := J7.pinned (roams J7 un7) (T.obj _ _ turn7)
      refine thnF (tgt.run _ sG _ HG x u _ J7p rel7 (body0 x HG yld7)) fun _ sH ⟨τ, HH, J8, wip8, go8⟩ => ?_
      refine thnF (tst.run _ sH τ HH _ J8 go8) fun b sI ⟨HI, J9, go9⟩ => ?_
      have close : ∀ {s' : Shared} {H' : Hp}, Inv (X.blk sC HC scope ce fp) ([] ++ pinsAt fp sG.heap) τ H' s' → NxA H' →
          ∃ m, m < n ∧ ∃ i H', Inv (X.blk sC HC scope ce fp) [] (wipe σ (own.map (·.2))) H' s' ∧ tn i s'.heap ∧ (∀ b ∈ fp, H' b = none) ∧ W i m H' := fun {s' H'} I' nextW => by
        obtain ⟨m', lessM, invM⟩ := reach H' nextW
        have kept : ∀ b ∈ fp, ∀ o, sG.heap.get? b = some o → s'.heap.get? b = some o ∧ H' b = none := fun b hb o e =>
          let z := I'.pin (b, o) (List.mem_append_right _ (List.mem_append_right _ (mem_pinsAt hb e)))
          ⟨z.1, z.2.1⟩
        refine ⟨m', lessM, i + 1, H', (I'.unpinned (pins := [])).weak (by rw [← wip8, wipe_length]) (fun j v e => by rw [← wip8] at e; exact (wipe_some e).1), T.keep _ _ _ turn7 fun b hb o e => (kept b hb o e).1, fun b hb => ?_, invM⟩
        obtain ⟨o, e, _⟩ := T.obj _ _ turn7 b hb
        exact (kept b hb o e).2
      cases b with
      | false =>
        simp only [Bool.false_eq_true, if_false] at go9 ⊢
        exact close J9 go9
      | true =>
        simp only [if_true] at go9 ⊢
        refine thnF (elm.run _ sI τ HI _ J9 go9) fun z sQ ⟨yv, HQ, J17, rel17, acc, acc17, room17, nextW⟩ => ?_
        exact app_ok (X := X.blk sC HC scope ce fp) J17 acc17 room17 rel17 fun sR J18 => close J18 nextW
  exact codeAny_compStart_list outer0 (T.self X.A 0 _ _ _ turn4 outer0)
/-- as a value -/
theorem je_lc {y0 : Str} {c0 : Addr} (Ce : Cel X y0 c0) {elt tg iter : Expr} {ifs : List Expr} {scope : Scope} {own : List (Str × Nat)} {pos : Pos} {wi : TI} {g : TG} {tt : TT} {te : TE} (mood : X.calm = true) (nodupN : X.N.Nodup) (sourceA : JI X c0 tg iter wi) (ok : BlkOk X.N X.env.scope scope own)
    (targetA : ∀ (s : Shared) (H : Hp) (C : Addr) (cl : List (Str × Addr)) (fp : List Addr), PG (X.blk s H scope (compEnvC scope cl C X.env) fp) tg g) (testsA : ∀ (s : Shared) (H : Hp) (C : Addr) (cl : List (Str × Addr)) (fp : List Addr), PTs (X.blk s H scope (compEnvC scope cl C X.env) fp) ifs tt)
    (elemA : ∀ (s : Shared) (H : Hp) (C : Addr) (cl : List (Str × Addr)) (fp : List Addr), PE (X.blk s H scope (compEnvC scope cl C X.env) fp) elt te) (plainA : ∀ x, foldedSetIterable iter X.env x = pure x := by intro _; rfl) :
    JE X c0 (.ListComp elt [⟨tg, iter, ifs, 0⟩] scope pos) (tLc wi g tt te (own.map (·.2))) := by
  refine ⟨fun pins s σ H Q I h => ?_⟩
  rw [arm_eval_ListComp]
  refine lcJ_core Ce mood nodupN I sourceA ok targetA testsA elemA plainA h fun D C s' m H' kAll I' q nsC f => ⟨m, nsC, fun h'' sb => ?_⟩
  obtain ⟨f0, f1, f2, roam3, f4, f5⟩ := f
  have away : c0 ≠ C := f4 _ _ Ce.is
  exact ⟨kAll.trans fun o e => (sb.2 c0 away).trans e, .ref D, H', I'.turned (t' := s'.toks) (fun b o hb e => (sb.2 b hb).trans e) f0 f1 roam3 f4 f5, rfl, q⟩
/-- name = [..] on one line, the name a local -/
theorem jst_setLc {y0 : Str} {c0 : Addr} (Ce : Cel X y0 c0) {i : Nat} {z : Str} {pz : Pos} {elt tg iter : Expr} {ifs : List Expr} {scope : Scope} {own : List (Str × Nat)} {pos spos : Pos} {wi : TI} {g : TG} {tt : TT} {te : TE} (mood : X.calm = true) (nodupN : X.N.Nodup) (hz : X.N[i]? = some z) (hzl : X.env.scope.names.lookup z = some .local) (ne : z ≠ y0)
    (hsw : swapsWith (.ListComp elt [⟨tg, iter, ifs, 0⟩] scope pos) (some (.Name z pz)) spos.line X.env = pure true) (sourceA : JI X c0 tg iter wi) (ok : BlkOk X.N X.env.scope scope own)
    (targetA : ∀ (s : Shared) (H : Hp) (C : Addr) (cl : List (Str × Addr)) (fp : List Addr), PG (X.blk s H scope (compEnvC scope cl C X.env) fp) tg g) (testsA : ∀ (s : Shared) (H : Hp) (C : Addr) (cl : List (Str × Addr)) (fp : List Addr), PTs (X.blk s H scope (compEnvC scope cl C X.env) fp) ifs tt)
    (elemA : ∀ (s : Shared) (H : Hp) (C : Addr) (cl : List (Str × Addr)) (fp : List Addr), PE (X.blk s H scope (compEnvC scope cl C X.env) fp) elt te) (plainA : ∀ x, foldedSetIterable iter X.env x = pure x := by intro _; rfl) :
    JSt X c0 (.Assign [.Name z pz] (.ListComp elt [⟨tg, iter, ifs, 0⟩] scope pos) spos) (tAsg (tLc wi g tt te (own.map (·.2))) (gName i)) := by
  refine ⟨fun pins s σ H D I h => ?_⟩
  rw [exec_Assign_Name_used _ _ _ _ hsw]
  refine wpAny_bind (wpAny_standAt (wpAny_bind ?_))
  show wpAny _ X.A (do let _ ← comprehension (.ListComp elt [⟨tg, iter, ifs, 0⟩] scope pos) scope X.env (firstIterPos [⟨tg, iter, ifs, 0⟩] pos) (newList []) false (eval iter X.env) (some (assign (.Name z pz) X.env))) _ _ s
  have h2 : tLc wi g tt te (own.map (·.2)) σ H (fun x H1 => gName i x σ H1 D.nx) := h
  refine wpAny_bind (thn (lcJ_core (Qf := fun _ s' => Kc c0 s s' ∧ SP X pins D .next s') Ce mood nodupN I sourceA ok targetA testsA elemA plainA h2 fun L C s' m H' kAll I' q nsC f => ?_) fun _ s' hq => wpAny_pure (wpAny_pure hq))
  show wpAny _ _ (assign (.Name z pz) X.env (.ref L)) _ _ _
  refine wpAny_assign_Name (store_ok2 (v := V.ref L) I' nodupN hz (.inl hzl) rfl (fun s2 I2 hh => ?_) (.inr hzl))
  obtain ⟨a, sb, ha⟩ := hh
  obtain ⟨f0, f1, f2, f3, f4, f5⟩ := f
  have awayC : C ≠ a := fun w => by
    rcases ha with ha | ha
    · exact f1 (w.trans ha)
    · exact f4 z a ha w.symm
  have awayc : c0 ≠ a := fun w => by
    rcases ha with ha | ha
    · exact I'.cne _ _ Ce.is (w.trans ha)
    · rw [← w] at ha
      exact ne (I'.ok.inj _ _ _ ha Ce.is)
  have cC : c0 ≠ C := f4 _ _ Ce.is
  exact ⟨m, nsC.sameBut sb awayC, fun h3 sb3 => ⟨kAll.trans fun o e => (sb3.2 c0 cC).trans ((sb.2 c0 awayc).trans e), _, H', I2.turned (t' := s2.toks) (fun b o hb e => (sb3.2 b hb).trans e) f0 f1 f3 f4 f5, q⟩⟩
end
end Sq
set_option Elab.async false
set_option linter.all false
set_option maxRecDepth 100000
set_option maxHeartbeats 4000000
/-! Slices of lists, texts compared, `or` of tests, the signs of a text: one cell kept. -/
namespace Sq
open PySem PySem.Spec PyProof.Rows L2 GenW
section
variable {X : Cx} {c : Addr} {u0 : Value} {n : Nat} {x y : Str} {p pos p2 : Pos} {e e2 : Expr} {es : List Expr} {te tf : TE} {t tA tB' : TT} {lo hi : Option Expr} {tl th : TO}
theorem oj_neT : OpJ X c (compareOp .NotEq) rNeT := by
  intro pins s σ H x y v u Q I rx ry h
  obtain ⟨a, b, rfl, rfl, q⟩ := h
  obtain ⟨t1, rfl⟩ := rx
  obtain ⟨t2, rfl⟩ := ry
  refine ne_str ?_
  have e : (a != b) = !decide (V.str a = V.str b) := by
    show (!(a == b)) = _
    rw [dec_str]
  rw [e]
  exact ⟨Kc.refl, .bl _, H, I, rfl, q⟩
/-! ### slices -/
structure JO (X : Cx) (c : Addr) (u0 : Value) (n : Nat) (e : Option Expr) (t : TO) : Prop where
  run : ∀ (pins : List (Addr × Obj)) (s : Shared) (σ : L2.St) (H : Hp) (Q : Option Int → Hp → Prop), Inv X pins σ H s → n ≤ s.toks → s.heap.IsCell c (some u0) → t σ H Q →
    wpAny (model X.prog X.w) X.A (evalPart e X.env) (fun u s' => Kn2 c n s s' ∧ ∃ o H', Inv X pins σ H' s' ∧ IsPart u o ∧ Q o H') X.xe s
theorem jo_none : JO X c u0 n none tNoPart := by
  refine ⟨fun pins s σ H Q I hn hc h => ?_⟩
  rw [evalPart_none]
  exact wpAny_pure ⟨⟨Kc.refl, hn⟩, none, H, I, .none, h⟩
theorem jo_some (h : JK X c u0 n e te) : JO X c u0 n (some e) (tPart te) := by
  refine ⟨fun pins s σ H Q I hn hc hw => ?_⟩
  rw [evalPart_some]
  refine thn (h.run pins s σ H _ I hn hc hw) fun u s1 hh => ?_
  obtain ⟨g1, x, H1, I1, r1, i, rfl, q⟩ := hh
  obtain ⟨tk, rfl⟩ := r1
  exact ⟨g1, some i, H1, I1, .int i tk, q⟩
/-- l[lo:hi] -/
theorem jk_slL (he : JK X c u0 n e te) (hl : JO X c u0 n lo tl) (hu : JO X c u0 n hi th) : JK X c u0 n (.Subscript e (.Slice lo hi none p2) pos) (tSl (rSlL X.K) te tl th) := by
  refine ⟨fun pins s σ H Q I hn hc h => ?_⟩
  refine Subscript_ (thn (he.run pins s σ H _ I hn hc h) fun v s1 hh => ?_)
  obtain ⟨g1, x, H1, I1, r1, q1⟩ := hh
  refine wpAny_Slice (thn (hl.run pins s1 σ H1 _ I1 g1.2 (g1.1.cell hc) q1) fun vl s2 hh => ?_)
  obtain ⟨g2, l, H2, I2, pl, q2⟩ := hh
  refine thn (hu.run pins s2 σ H2 _ I2 g2.2 (g2.1.cell (g1.1.cell hc)) q2) fun vu s3 hh => ?_
  obtain ⟨g3, u, H3, I3, pu, a, xs, ex, hx, q⟩ := hh
  subst ex
  rw [evalPart_none]
  refine wpAny_pure ?_
  have keep : ∀ b ob, s3.heap.get? b = some ob → (s3.heap.push { cls := .type "slice", data := .fields #[vl, vu, .none] }).get? b = some ob := fun b ob z => Heap.get?_push_of_some _ z
  have I4 : Inv X pins σ H3 { s3 with heap := s3.heap.push { cls := .type "slice", data := .fields #[vl, vu, .none] } } := I3.kept (t' := s3.toks) keep
  obtain rfl : v = Value.ref a := r1
  obtain ⟨its, r, ht, hz⟩ := I4.list hx
  have hlen := r.length
  have kn : Kn2 c n s { s3 with heap := s3.heap.push { cls := .type "slice", data := .fields #[vl, vu, .none] } } := ((g1.trans g2).trans g3).trans ⟨fun o z => keep _ _ z, g3.2⟩
  generalize eS : ({ s3 with heap := s3.heap.push { cls := .type "slice", data := .fields #[vl, vu, .none] } } : Shared) = s4 at I4 ht kn
  have isS : s4.heap.IsSliceOf s3.heap.objs.size vl vu .none := by
    rw [← eS]
    exact Heap.IsSliceOf.new ..
  show wpAny (model X.prog X.w) X.A (subscriptTail e (.Slice lo hi none p2) (.ref a) (.ref s3.heap.objs.size)) _ X.xe _
  refine tail_any (ops := [.ref s3.heap.objs.size, .ref a]) ht.isList.typeIs slot_list_getitem.lookup ?_ (by with_unfolding_all rfl)
  refine wpAny_getItem_list_slice ht.isList isS pl pu .none (by simp) ?_ (by rw [List.size_toArray] <;> omega)
  rw [slicePick_cut, ← hlen]
  refine ⟨kn.trans ⟨fun o z => Heap.get?_push_of_some _ z, kn.2⟩, .ref s4.heap.objs.size, _, I4.laid (t' := s4.toks) (o := .lst (cutV xs l u)) (fun b ob q => Heap.get?_push_of_some _ q) (Nat.le_refl _) ?_, rfl, q _ (I4.hok.fresh (Nat.le_refl _))⟩
  exact ⟨Nat.le_trans (cutV_length xs l u) hz, _, 0, (r.drop (HT.sIx xs.length 0 l)).take (HT.sIx xs.length xs.length u - HT.sIx xs.length 0 l), Heap.get?_push_size _ rfl⟩
/-! ### or -/
structure JW (X : Cx) (c : Addr) (u0 : Value) (n : Nat) (e : Expr) (t : TT) : Prop where
  run : ∀ (whole : Sem Value) (pins : List (Addr × Obj)) (s : Shared) (σ : L2.St) (H : Hp) (Q : Bool → Hp → Prop), Inv X pins σ H s → n ≤ s.toks → s.heap.IsCell c (some u0) → t σ H Q → wpAny (model X.prog X.w) X.A (isTrue e X.env whole) (fun b s' => Kn2 c n s s' ∧ TP X pins σ Q b s') X.xe s
theorem JW.pt (h : JW X c u0 n e t) : JKT X c u0 n e t := ⟨h.run _⟩
theorem jw_or1 (ha : JKT X c u0 n e tA) : JW X c u0 n (.BoolOp .Or [e] pos) tA := by
  refine ⟨fun wh pins s σ H Q I hn hc h => ?_⟩
  refine isTrue_or (thn (ha.run pins s σ H Q I hn hc h) fun d s1 hh => ?_)
  cases d with
  | false => exact isTrue_or_nil hh
  | true => exact hh
theorem jw_or (ha : JKT X c u0 n e tA) (hb : JW X c u0 n (.BoolOp .Or (e2 :: es) pos) tB') : JW X c u0 n (.BoolOp .Or (e :: e2 :: es) pos) (tOr tA tB') := by
  refine ⟨fun wh pins s σ H Q I hn hc h => ?_⟩
  refine isTrue_or (thn (ha.run pins s σ H _ I hn hc h) fun d s1 hh => ?_)
  obtain ⟨g1, H1, I1, q1⟩ := hh
  cases d with
  | true => exact ⟨g1, H1, I1, q1⟩
  | false => exact thn (hb.run wh pins s1 σ H1 Q I1 g1.2 (g1.1.cell hc) q1) fun b s2 ⟨g2, q2⟩ => ⟨g1.trans g2, q2⟩
/-! ### the signs of a text, as a comprehension's source -/
theorem ji_str {tg : Expr} (he : JE X c e te) : JI X c tg e (iStr te) := by
  refine ⟨fun pins s σ H R I h => ?_⟩
  refine thn (he.run pins s σ H _ I h) fun v s1 hh => ?_
  obtain ⟨g1, w, H1, I1, r1, z, ez, q⟩ := hh
  subst ez
  obtain ⟨tk, rfl⟩ := r1
  have kc : ∀ o : Obj, Kc c s { s1 with heap := s1.heap.push o } := fun o => g1.trans fun o e => Heap.get?_push_of_some _ e
  cases low : z.cps.all (· < 128)
  · exact wpAny_pyIter_wide low ⟨kc _, pi_one (tk := s1.toks) I1 _ (turn_str _ z tk "str_iterator" (.inr rfl)) ⟨_, Heap.get?_push_size _ rfl, rfl, rfl⟩ q⟩
  · exact wpAny_pyIter_ascii low ⟨kc _, pi_one (tk := s1.toks) I1 _ (turn_str _ z tk "str_ascii_iterator" (.inl rfl)) ⟨_, Heap.get?_push_size _ rfl, rfl, rfl⟩ q⟩
end
end Sq
set_option Elab.async false
set_option linter.all false
set_option maxRecDepth 100000
set_option maxHeartbeats 4000000
/-! a, b = e, f: one cell kept. -/
namespace Sq
open PySem PySem.Spec PyProof.Rows L2 GenW
section
variable {X : Cx} {c : Addr} {y : Str}
theorem store_keep {M : Model} {A : Around} {E : Value → Shared → Prop} {pins : List (Addr × Obj)} {σ : L2.St} {H : Hp} {s : Shared} {i : Nat} {x : Str} {v : V} {u : Value} {Q : Unit → Shared → Prop} (C : Cel X y c) (ne : x ≠ y) (I : Inv X pins σ H s) (hN : X.N.Nodup) (hi : X.N[i]? = some x) (hx : Loc X.env.scope x) (r : RelV v u)
    (h : ∀ s', Inv X pins (σ.set i (some v)) H s' → Kc c s s' → Q () s') (hf : X.fn x = true ∨ X.env.scope.names.lookup x = some .local) : wpAny M A (storeName X.env x u) Q E s := by
  refine store_ok2 I hN hi hx r (fun s2 I2 hh => ?_) hf
  obtain ⟨a, sb, ha⟩ := hh
  have ca : c ≠ a := fun z => by
    rcases ha with ha | ha
    · exact I.cne _ _ C.is (z.trans ha)
    · rw [← z] at ha
      exact ne (I.ok.inj _ _ _ ha C.is)
  exact h s2 I2 fun o e => (sb.2 c ca).trans e
theorem jst_par {i j : Nat} {x z : Str} {a b : Expr} {ta : TA} {px pz pt spos : Pos} {kt k2 pt2} (C : Cel X y c) (nx : x ≠ y) (nz : z ≠ y) (mood : X.calm = true) (hN : X.N.Nodup) (hi : X.N[i]? = some x) (hj : X.N[j]? = some z) (hij : i ≠ j)
    (hx : X.env.scope.names.lookup x = some .local) (hz : X.env.scope.names.lookup z = some .local) (ha : JA X c [a, b] ta)
    (hw : swappedStores [.Tuple [.Name x px, .Name z pz] kt pt] (.Tuple [a, b] k2 pt2) X.env = pure (some [x, z]))
    (hs : swapsWithSole [.Tuple [.Name x px, .Name z pz] kt pt] (.Tuple [a, b] k2 pt2) spos.line X.env = pure false := by rfl) :
    JSt X c (.Assign [.Tuple [.Name x px, .Name z pz] kt pt] (.Tuple [a, b] k2 pt2) spos) (tPar i j ta) := by
  refine ⟨fun pins s σ H D I h => ?_⟩
  rw [exec_Assign_arm]
  refine wpAny_bind (wpAny_standAt ?_)
  rw [hs]
  refine wpAny_bind (wpAny_pure ?_)
  rw [if_neg (by decide)]
  refine wpAny_bind (Tuple_ (thn (ha.run _ pins s σ H _ I h) fun us s1 hh => ?_))
  obtain ⟨g1, vs, H1, I1, r1, v, w, e1, q1⟩ := hh
  subst e1
  obtain ⟨u1, u2, rfl, rv, rw'⟩ := vals2 r1
  refine wpAny_newObj_type ?_ (by show 2 ≤ sizeLine; decide)
  have g2 : Kc c s { s1 with heap := s1.heap.push { cls := .type "tuple", data := .seq [u1, u2].toArray } } := g1.trans fun o e => Heap.get?_push_of_some _ e
  have I2 : Inv X pins σ H1 { s1 with heap := s1.heap.push { cls := .type "tuple", data := .seq [u1, u2].toArray } } := I1.kept (t' := s1.toks) fun b o e => Heap.get?_push_of_some _ e
  rw [hw]
  refine wpAny_bind (wpAny_pure ?_)
  show wpAny (model X.prog X.w) X.A (do rule "assign.swapped-stores"; let items ← unpackItems (.ref s1.heap.objs.size) 2 none; assignInOrder [fun v => bindName X.env z v, fun v => bindName X.env x v] items.reverse; pure Flow.next) _ _ _
  refine wpAny_bind (wpAny_rule (wpAny_bind (unpackItems_tuple (items := #[u1, u2]) (I.ok.hd mood) (IsTup.new s1.heap _) fun h' hx' => ?_)))
  have stay := fun (b : Addr) (o : Obj) (e : (s1.heap.push { cls := .type "tuple", data := .seq [u1, u2].toArray }).get? b = some o) => hx' b o (Nat.ne_of_lt (Heap.lt_size e)) e
  have I3 := I2.kept (h' := h') (t' := s1.toks) stay
  have g3 : Kc c s { s1 with heap := h' } := g2.trans fun o e => stay _ _ e
  show wpAny _ _ (assignInOrder [fun v => bindName X.env z v, fun v => bindName X.env x v] [u2, u1] >>= fun _ => pure Flow.next) _ _ _
  refine wpAny_bind (assignInOrder_cons (wpAny_bindName (store_keep C nz I3 hN hj (.inl hz) rw' (fun s2 I4 g4 => ?_) (.inr hz))))
  refine assignInOrder_cons (wpAny_bindName (store_keep C nx I4 hN hi (.inl hx) rv (fun s3 I5 g5 => assignInOrder_nil (wpAny_pure ?_)) (.inr hx)))
  rw [List.set_comm _ _ (Ne.symm hij)] at I5
  exact ⟨(g3.trans g4).trans g5, _, H1, I5, q1⟩
end
end Sq
set_option Elab.async false
set_option linter.all false
set_option maxRecDepth 100000
set_option maxHeartbeats 4000000
/-! A def whose promise needs one argument's token, called by keywords. -/
namespace Sq
open PySem PySem.Spec PyProof.Rows L2 GenW
/-- keywords' values -/
structure JKK (X : Cx) (c : Addr) (u0 : Value) (n : Nat) (kws : List Keyword) (t : TA) : Prop where
  run : ∀ (pos : Pos) (pins : List (Addr × Obj)) (s : Shared) (σ : L2.St) (H : Hp) (Q : List V → Hp → Prop), Inv X pins σ H s → n ≤ s.toks → s.heap.IsCell c (some u0) → t σ H Q → wpAny (model X.prog X.w) X.A (evalAll ((backToKw pos (keywordEach kws X.env)).map (·.2))) (fun us s' => Kn2 c n s s' ∧ AP X pins σ Q us s') X.xe s
/-- .. the j-th with a token that was given out -/
structure JKY (X : Cx) (c : Addr) (u0 : Value) (n j : Nat) (kws : List Keyword) (t : TA) : Prop where
  run : ∀ (pos : Pos) (pins : List (Addr × Obj)) (s : Shared) (σ : L2.St) (H : Hp) (Q : List V → Hp → Prop), Inv X pins σ H s → n ≤ s.toks → s.heap.IsCell c (some u0) → t σ H Q → wpAny (model X.prog X.w) X.A (evalAll ((backToKw pos (keywordEach kws X.env)).map (·.2))) (fun us s' => (Kn2 c n s s' ∧ Tkn j us s'.toks) ∧ AP X pins σ Q us s') X.xe s
section
variable {X : Cx} {c : Addr} {u0 : Value} {n j : Nat} {x y : Str} {p pos kpos : Pos} {e : Expr} {te : TE} {t tk : TA} {kws : List Keyword} {nm : Option Str}
theorem jkk_nil : JKK X c u0 n [] tNil := ⟨fun _ _ _ _ H Q I hn hc h => wpAny_evalAll_nil ⟨⟨Kc.refl, hn⟩, [], H, I, .nil, h⟩⟩
theorem jkk_cons (ha : JK X c u0 n e te) (hr : JKK X c u0 n kws t) : JKK X c u0 n (⟨nm, e, kpos⟩ :: kws) (tCons te t) := by
  refine ⟨fun pos pins s σ H Q I hn hc h => ?_⟩
  show wpAny _ _ (evalAll ((do let v ← eval e X.env; standAt pos; pure v) :: (backToKw pos (keywordEach kws X.env)).map (·.2))) _ _ s
  refine wpAny_evalAll_cons (wpAny_bind (thn (ha.run pins s σ H _ I hn hc h) fun u s1 hh => wpAny_bind (wpAny_standAt (wpAny_pure ?_))))
  obtain ⟨g1, v, H1, I1, r1, q1⟩ := hh
  exact thn (hr.run pos pins s1 σ H1 _ I1 g1.2 (g1.1.cell hc) q1) fun us s2 ⟨g2, xs, H2, I2, r2, q2⟩ => ⟨g1.trans g2, v :: xs, H2, I2, .cons r1 r2, q2⟩
theorem jky_skip (ha : JK X c u0 n e te) (hr : JKY X c u0 n j kws t) : JKY X c u0 n (j + 1) (⟨nm, e, kpos⟩ :: kws) (tCons te t) := by
  refine ⟨fun pos pins s σ H Q I hn hc h => ?_⟩
  show wpAny _ _ (evalAll ((do let v ← eval e X.env; standAt pos; pure v) :: (backToKw pos (keywordEach kws X.env)).map (·.2))) _ _ s
  refine wpAny_evalAll_cons (wpAny_bind (thn (ha.run pins s σ H _ I hn hc h) fun u s1 hh => wpAny_bind (wpAny_standAt (wpAny_pure ?_))))
  obtain ⟨g1, v, H1, I1, r1, q1⟩ := hh
  exact thn (hr.run pos pins s1 σ H1 _ I1 g1.2 (g1.1.cell hc) q1) fun us s2 ⟨⟨g2, tkn⟩, xs, H2, I2, r2, q2⟩ => ⟨⟨g1.trans g2, tkn⟩, v :: xs, H2, I2, .cons r1 r2, q2⟩
theorem cell_value {pins : List (Addr × Obj)} {σ : L2.St} {H : Hp} {s : Shared} {i : Nat} {v : V} (I : Inv X pins σ H s) (hN : X.N[i]? = some y) (hv : Vis X.env.scope y) (hk : X.env.kindOf y = some .cell) (C : Cel X y c) (hc : s.heap.IsCell c (some u0)) (e : σ[i]? = some (some v)) : RelV v u0 := by
  obtain ⟨m, hns, look⟩ := I.loc
  obtain ⟨u, r, l⟩ := look i y v hN e hv
  have eu : u = u0 := by
    rcases l with ⟨k1, _⟩ | ⟨_, c1, e1, cell1⟩
    · rw [hk] at k1
      cases k1
    · rw [C.is] at e1
      obtain rfl : c = c1 := Option.some.inj e1
      obtain ⟨o1, g1, d1⟩ := hc
      obtain ⟨o2, g2, d2⟩ := cell1
      rw [g1] at g2
      obtain rfl : o1 = o2 := Option.some.inj g2
      rw [d1] at d2
      injection d2 with d2
      exact (Option.some.inj d2).symm
  rw [← eu]
  exact r
theorem jky_name {i : Nat} (hN : X.N[i]? = some y) (hv : Vis X.env.scope y) (hk : X.env.kindOf y = some .cell) (C : Cel X y c) (good : Tkn 0 [u0] n) (hr : JKK X c u0 n kws t) (hd : (y == ("__debug__" : Str)) = false := by decide) :
    JKY X c u0 n 0 (⟨nm, .Name y p, kpos⟩ :: kws) (tCons (tVar i) t) := by
  refine ⟨fun pos pins s σ H Q I hn hc h => ?_⟩
  show wpAny _ _ (evalAll ((do let v ← eval (.Name y p) X.env; standAt pos; pure v) :: (backToKw pos (keywordEach kws X.env)).map (·.2))) _ _ s
  obtain ⟨v, e, q⟩ := h
  have r := cell_value I hN hv hk C hc e
  refine wpAny_evalAll_cons (wpAny_bind (raw_cell I hk C.is hc (wpAny_bind (wpAny_standAt (wpAny_pure ?_))) hd))
  refine thn (hr.run pos pins s σ H _ I hn hc q) fun us s2 hh => ?_
  obtain ⟨g2, xs, H2, I2, r2, q2⟩ := hh
  refine ⟨⟨g2, fun b tb eb one => ?_⟩, v :: xs, H2, I2, .cons r r2, q2⟩
  have g := good b tb eb one
  exact ⟨g.1, Nat.lt_of_lt_of_le g.2 g2.2⟩
/-- the same as DfT by keywords -/
structure DkT (P : Program) (w : World) (K : PySem.W.Frag) (mg : Str → Option Value) (base : Heap) (k : Nat) (x : Str) (ps ks : List Str) (gV : List V → List V → List V) (j j' : Nat) (sp : Sp) : Prop where
  ex : ∃ f fd g, FnT P w K mg base k f fd ps j' sp ∧ mg x = some (.ref f) ∧ PySem.W.keepIn K (.ref f) = true ∧ KBn K fd ps 0 ks g gV ∧ ∀ ws m, ws.length = ks.length → Tkn j ws m → Tkn j' (g [] ws) m
/-- f(k = v, ..) -/
theorem jk_callTK {k : Nat} {ps ks : List Str} {gV : List V → List V → List V} {j' : Nat} {sp : Sp} (C : Cel X y c) (D : DkT X.prog X.w X.K X.mg X.base k x ps ks gV j j' sp) (hr : Room k X.A) (hg : Gl X x) (hkw : JKY X c u0 n j kws tk) (hall : (backToKw pos (keywordEach kws X.env)).all (·.1.isSome) = true := by rfl)
    (hks : (backToKw pos (keywordEach kws X.env)).filterMap (·.1) = ks := by rfl) (hdb : (x == ("__debug__" : Str)) = false := by decide)
    (hpl : ((backTo pos (starEach [] X.env)).any (·.1) || (backToKw pos (keywordEach kws X.env)).any (·.1.isNone)) = false := by rfl) :
    JK X c u0 n (.Call (.Name x p) [] kws pos) (fun σ H Q => tk σ H fun zs H1 => zs.length = ks.length ∧ sp (gV [] zs) H1 Q E0) := by
  obtain ⟨f, fd, g, F, hm, kp, hb, hj⟩ := D.ex
  refine ⟨fun pins s σ H Q I hn hc h => ?_⟩
  refine wpAny_Call_Name_kw (ld_glob I hg hm ?_ hdb)
  refine PySem.W.callWith_KW0 (h₀ := X.base) I.ok.mod.kin kp hall (thn (hkw.run pos pins s σ H _ I hn hc h) fun ws s1 hh => ?_) hpl
  obtain ⟨⟨g1, tkn⟩, zs, H1, I1, rz, l2, q⟩ := hh
  refine ⟨I1.kIn, ?_⟩
  rw [hks]
  have lw : ws.length = ks.length := rz.length.symm.trans l2
  have r2 := hb.rel .nil rz
  have called : wpAny (model X.prog X.w) X.A (call (.ref f) ([] ++ []) (ks.zip ws)) (fun u s' => Kc c s1 s' ∧ EP X pins σ Q u s') X.xe s1 := by
    refine wpAny_call (codeAny_mono (F.run X.A X.stack s1 H1 ⟨[], ks.zip ws⟩ (g [] ws) (gV [] zs) Q hr I1.env0 (hb.to s1 [] ws I1.kIn rfl lw) r2 (hj ws _ lw tkn) q) fun r s' hq => ?_)
    match r, hq with
    | .ok (.ret u), hq =>
      have ce : CE X.stack X.prog X.w H1 s1 Q u s' := hq
      obtain ⟨_, _, _, _, un, _⟩ := id ce
      exact ⟨C.un I1 un, I1.after ce⟩
  exact wpAny_mono (PySem.wpAny_toks_of g1.2 called) (fun u s' z => ⟨g1.trans ⟨z.2.1, z.1⟩, z.2.2⟩) fun _ _ z => z.2
end
end Sq
set_option Elab.async false
set_option linter.all false
set_option maxRecDepth 100000
set_option maxHeartbeats 4000000
/-! Written texts and truth values, return: one cell kept. -/
namespace Sq
open PySem PySem.Spec PyProof.Rows L2 GenW
section
variable {X : Cx} {c : Addr} {u0 : Value} {n : Nat} {pos : Pos} {e : Expr} {te : TE}
theorem je_str {z : Str} {k : Nat} : JE X c (.Constant (.str z) k pos) (tC (.str z)) :=
  ⟨fun pins s σ H Q I h => Calls.Constant_str ⟨Kc.refl, .str z, H, I.tok _, ⟨_, rfl⟩, h⟩⟩
theorem je_bl {b : Bool} {k : Nat} : JE X c (.Constant (.bool b) k pos) (tC (.bl b)) :=
  ⟨fun pins s σ H Q I h => Constant_bool ⟨Kc.refl, .bl b, H, I, rfl, h⟩⟩
theorem jks_ret (he : JK X c u0 n e te) : JKS X c u0 n (.Return (some e) pos) (tRet te) := by
  refine ⟨fun pins s σ H D I hn hc h => ?_⟩
  refine wpAny_Return_some (thn (he.run pins s σ H _ I hn hc h) fun v s1 hh => ?_)
  obtain ⟨g1, x, H1, I1, r1, q1⟩ := hh
  exact ⟨g1, x, σ, H1, I1, r1, q1⟩
end
end Sq
set_option Elab.async false
set_option linter.all false
set_option maxRecDepth 100000
set_option maxHeartbeats 1000000
/-! range(lo, hi) of ints of any size; order of lists; list(g(..)). -/
namespace L2
open PySem PySem.Spec PyProof.Rows
end L2
set_option Elab.async false
set_option linter.all false
set_option maxRecDepth 100000
set_option maxHeartbeats 4000000
set_option exponentiation.threshold 2000
namespace Sq
open PySem PySem.Spec PyProof.Rows L2
def topS (i : Nat) : Stmt := PySem.Challenge.pw_squeezelists_k03_whole_texts_squeezed.main.body.getD i (.Pass ⟨0, 0, 0, 0⟩)
abbrev s_checklist : Stmt := topS 7
theorem sc_checklist : FnScope ["replacements", "index", "number"] ["replacements"] (defScope s_checklist) := ⟨rfl, rfl, rfl, by decide +kernel, rfl, by decide +kernel, by decide +kernel⟩
abbrev s_checknumber : Stmt := topS 8
theorem sc_checknumber : FnScope ["number", "least"] ["number", "least"] (defScope s_checknumber) := ⟨rfl, rfl, rfl, by decide +kernel, rfl, by decide +kernel, by decide +kernel⟩
abbrev s_checkcharacter : Stmt := topS 9
theorem sc_checkcharacter : FnScope ["character"] ["character"] (defScope s_checkcharacter) := ⟨rfl, rfl, rfl, by decide +kernel, rfl, by decide +kernel, by decide +kernel⟩
abbrev s_squeezed : Stmt := topS 11
theorem sc_squeezed : FnScope ["length", "replacements"] ["length", "replacements"] (defScope s_squeezed) := ⟨rfl, rfl, rfl, by decide +kernel, rfl, by decide +kernel, by decide +kernel⟩
abbrev s_squeezetext : Stmt := topS 12
theorem sc_squeezetext : FnScope ["text", "character", "replacements", "lengths", "after", "others", "length", "other"] ["text", "character", "replacements"] (defScope s_squeezetext) := ⟨rfl, rfl, rfl, by decide +kernel, rfl, by decide +kernel, by decide +kernel⟩
abbrev s_lengthsbetween : Stmt := topS 15
theorem sc_lengthsbetween : FnScope ["text", "character", "lengths", "run", "sign"] ["text", "character"] (defScope s_lengthsbetween) := ⟨rfl, rfl, rfl, by decide +kernel, rfl, by decide +kernel, by decide +kernel⟩
abbrev s_lengthafter : Stmt := topS 13
theorem sc_lengthafter : FnScope ["length", "replacements", "present", "number"] ["length", "replacements"] (defScope s_lengthafter) := ⟨rfl, rfl, rfl, by decide +kernel, rfl, by decide +kernel, by decide +kernel⟩
abbrev s_lengthafterone : Stmt := topS 14
theorem sc_lengthafterone : FnScope ["length", "number", "groups", "left"] ["length", "number"] (defScope s_lengthafterone) := ⟨rfl, rfl, rfl, by decide +kernel, rfl, by decide +kernel, by decide +kernel⟩
abbrev s_readlist : Stmt := topS 18
theorem sc_readlist : FnScope ["text", "found", "part", "digits", "mark", "many", "number"] ["text"] (defScope s_readlist) := ⟨rfl, rfl, rfl, by decide +kernel, rfl, by decide +kernel, by decide +kernel⟩
abbrev s_isnumber : Stmt := topS 19
theorem sc_isnumber : FnScope ["digits"] ["digits"] (defScope s_isnumber) := ⟨rfl, rfl, rfl, by decide +kernel, rfl, by decide +kernel, by decide +kernel⟩
abbrev s_lawrng : Stmt := topS 21
theorem sc_lawrng : FnScope ["script", "digits", "seed", "cell", "far"] ["script"] (defScope s_lawrng) := ⟨rfl, rfl, rfl, by decide +kernel, rfl, by decide +kernel, by decide +kernel⟩
abbrev s_lawdraw : Stmt := topS 22
theorem sc_lawdraw : FnScope ["rng", "limit", "found", "mixed"] ["rng", "limit"] (defScope s_lawdraw) := ⟨rfl, rfl, rfl, by decide +kernel, rfl, by decide +kernel, by decide +kernel⟩
abbrev s_lawlist : Stmt := topS 23
theorem sc_lawlist : FnScope ["rng", "most", "greatest", "found", "kind", "turn", "some"] ["rng", "most", "greatest"] (defScope s_lawlist) := ⟨rfl, rfl, rfl, by decide +kernel, rfl, by decide +kernel, by decide +kernel⟩
abbrev s_lawpiece : Stmt := topS 24
theorem sc_lawpiece : FnScope ["rng", "sign", "most"] ["rng", "sign", "most"] (defScope s_lawpiece) := ⟨rfl, rfl, rfl, by decide +kernel, rfl, by decide +kernel, by decide +kernel⟩
abbrev s_lawwritten : Stmt := topS 25
theorem sc_lawwritten : FnScope ["rng", "sign", "most", "others", "found", "twin", "turn", "way"] ["rng", "sign", "most"] (defScope s_lawwritten) := ⟨rfl, rfl, rfl, by decide +kernel, rfl, by decide +kernel, by decide +kernel⟩
abbrev s_lawreplaced : Stmt := topS 26
theorem sc_lawreplaced : FnScope ["written", "sign", "number", "found", "group", "one"] ["written", "sign", "number"] (defScope s_lawreplaced) := ⟨rfl, rfl, rfl, by decide +kernel, rfl, by decide +kernel, by decide +kernel⟩
abbrev s_lawruns : Stmt := topS 27
theorem sc_lawruns : FnScope ["written", "sign", "found", "place", "one"] ["written", "sign"] (defScope s_lawruns) := ⟨rfl, rfl, rfl, by decide +kernel, rfl, by decide +kernel, by decide +kernel⟩
abbrev s_law : Stmt := topS 28
theorem sc_law : FnScope ["script", "rng", "lap", "sign", "line", "some", "kept", "due", "number", "named", "runs_here", "many", "rest", "one", "cut", "long"] ["script"] (defScope s_law) := ⟨rfl, rfl, rfl, by decide +kernel, rfl, by decide +kernel, by decide +kernel⟩
/-! ### the draws -/
structure Rng (H : Hp) (l : Addr) (seed cnt : Int) : Prop where
  ob : ∃ dg, H l = some (.lst [.int dg, .int seed, .int cnt])
  s0 : 0 ≤ seed
  s1 : seed < 2305843009213693951
  c0 : 0 ≤ cnt
theorem Rng.same {H H' : Hp} {l : Addr} {seed cnt : Int} (S : Rng H l seed cnt) (s : Same H H') : Rng H' l seed cnt :=
  let ⟨dg, h⟩ := S.ob
  ⟨⟨dg, s _ _ h⟩, S.s0, S.s1, S.c0⟩
/-- all but the object at l is as it was -/
def Keep1 (H H' : Hp) (l : Addr) : Prop := ∀ b o, H b = some o → b ≠ l → H' b = some o
theorem Keep1.trans {H H1 H2 : Hp} {l : Addr} (a : Keep1 H H1 l) (b : Keep1 H1 H2 l) : Keep1 H H2 l := fun c o h n => b c o (a c o h n) n
theorem Keep1.of {H H' : Hp} {l : Addr} (s : Same H H') : Keep1 H H' l := fun b o h _ => s b o h
theorem Keep1.set {H : Hp} {l : Addr} {o : HO} : Keep1 H (upd H l o) l := fun c x h n => by
  rw [upd_ne n]
  exact h
theorem growD {D r T : Int} {a : Nat} (h0 : 0 ≤ D) (h1 : D.natAbs < 2 ^ a) (r0 : 0 ≤ r) (r1 : r < T) (hT : T.natAbs ≤ 2 ^ 200) : 0 ≤ D * T + r ∧ (D * T + r).natAbs < 2 ^ (a + 200) := by
  have t0 : 0 ≤ T := by omega
  have p := Int.mul_nonneg h0 t0
  obtain ⟨d, rfl⟩ := Int.eq_ofNat_of_zero_le h0
  obtain ⟨t, rfl⟩ := Int.eq_ofNat_of_zero_le t0
  refine ⟨by omega, ?_⟩
  have h1' : d < 2 ^ a := by simpa using h1
  have hT' : t ≤ 2 ^ 200 := by simpa using hT
  have m : (d + 1) * t ≤ 2 ^ a * 2 ^ 200 := Nat.mul_le_mul h1' hT'
  rw [Nat.pow_add]
  have e : ((d : Int) * (t : Int)) = ((d * t : Nat) : Int) := by simp
  have e2 : (d + 1) * t = d * t + t := by rw [Nat.add_mul, Nat.one_mul]
  rw [e]
  omega
theorem p10_60 : ((10 : Int) ^ (60 : Int).toNat).natAbs ≤ 2 ^ 200 := by decide
theorem cut63 {xs : List V} (h : xs.length ≤ 63) : cutV xs none (some 63) = xs := by
  unfold cutV
  rw [HT.sIx_none, show HT.sIx xs.length xs.length (some 63) = min 63 xs.length from HT.sIx_nat xs.length xs.length 63, Nat.min_eq_right h]
  show List.take (xs.length - 0) (List.drop 0 xs) = xs
  rw [List.drop_zero, Nat.sub_zero, List.take_length]
section
variable {P : Program} {w : World} {K : PySem.W.Frag} {mg : Str → Option Value} {base : Heap}
def spRng (K : PySem.W.Frag) : Sp := fun vs H Q _ => ∃ (a : Addr) (ns : List Int), vs = [.ref a] ∧ SqL K H a (ns.map V.int) ∧ ns.length ≤ 63 ∧ ∀ l seed H', H l = none → Same H H' → Rng H' l seed 0 → Q (.ref l) H'
theorem ok_lawrng {f : Addr} {fd : FuncData} (F : Fun K "_law_rng" "_law_rng" s_lawrng f fd) (B : Bi mg) : FnOk P w K mg base CX0 1 f fd ["script"] (spRng K) := by
  refine F.ok sc_lawrng (fun vs H Q E h => ?_) (fun cdv A outer s H vs Q E hr h => ?_)
  · obtain ⟨a, ns, rfl, _⟩ := h
    rfl
  · obtain ⟨a, ns, rfl, hS, hn, q⟩ := h
    refine ⟨_, (pss_cons (ps_asg (pe_tup (pa_cons pe_int (pa_cons pe_int pa_nil))) (pg_tup rfl (pgs_cons (pg_name (i := 1) sc_lawrng.nd rfl (Or.inl rfl)) (pgs_cons (pg_name (i := 2) sc_lawrng.nd rfl (Or.inl rfl)) pgs_nil))))
 (pss_cons (ps_for PassesOwn.never rfl (pi_list (pe_slice sl_list (pv 0) po_none (po_some pe_int))) (pg_name (i := 3) sc_lawrng.nd rfl (Or.inl rfl))
 (pss_cons (ps_set (i := 4) sc_lawrng.nd rfl (Or.inl rfl) (pe_callB (id := "abs") call_abs (by rfl) B.n_abs (by decide +kernel) (pa_cons (pv 3) pa_nil)))
 (pss_cons (ps_if (pt_cmpR op_ge (pv 4) (pe_op op_pow pe_int pe_int) (nomark _))
 (pss_one (ps_set (i := 1) sc_lawrng.nd rfl (Or.inl rfl) (pe_op op_add (pe_op op_mulW (pv 1) (pe_op op_pow pe_int pe_int)) (pe_op op_mod (pv 4) (pe_op op_pow pe_int pe_int)))))
 pss_nil)
 (pss_one (ps_set (i := 2) sc_lawrng.nd rfl (Or.inl rfl) (pe_op op_mod (pe_op op_add (pe_op op_add (pe_op op_mul (pv 2) pe_int) (pe_op op_mod (pv 3) pe_int)) pe_int) pe_int))))))
 (pss_one (ps_ret (pe_lst (pa_cons (pv 1) (pa_cons (pv 2) (pa_cons pe_int pa_nil)))))))), ?_⟩
    refine ⟨(by show 2 ≤ sizeLine; exact Nat.le_of_lt (small1000 (by decide))), fun t0 ht0 => ⟨t0, [.int 0, .int 88675123], rfl, .inl (.inl upd_same), rfl, _, _, rfl, _, _, rfl, rfl, ?_⟩⟩
    have sm0 := same_new (o := .tup [.int 0, .int 88675123]) ht0
    refine ⟨_, rfl, 63, rfl, a, _, rfl, sm0.seq hS, fun p hp => ?_⟩
    rw [cut63 (by rw [List.length_map]; exact hn)]
    refine ⟨p, rfl, ⟨_, SqL.of upd_same⟩, for_list (K := K) (a := p) (xs := ns.map V.int) (fun i σ H' => Same (upd (upd H t0 (.tup [.int 0, .int 88675123])) p (.lst (ns.map V.int))) H' ∧ i ≤ 63 ∧ ∃ dg seed y3 y4, σ = [some (.ref a), some (.int dg), some (.int seed), y3, y4] ∧ 0 ≤ dg ∧ dg.natAbs < 2 ^ (200 * i + 1) ∧ 0 ≤ seed ∧ seed < 2305843009213693951)
      ⟨Same.refl _, by decide, 0, 88675123, none, none, rfl, by decide, by decide, by decide, by decide⟩ (fun i σ H' _ h => SqL.of (h.1 _ _ upd_same)) ?_ ?_⟩
    · rintro i x σ H' hi ⟨sm, h63, dg, seed, y3, y4, rfl, d0, d1, s0, s1⟩
      have hil : i < ns.length := by
        have := (List.getElem?_eq_some_iff.mp hi).1
        rwa [List.length_map] at this
      obtain ⟨c, hc, rfl⟩ := map_at hi
      refine ⟨_, rfl, c, rfl, ?_⟩
      generalize (if c < 0 then -c else c) = far
      have t0 : 0 ≤ (seed * 1000003 + c % 2305843009213693921 + 7) % 2305843009213693951 := Int.emod_nonneg _ (by decide)
      have t1 : (seed * 1000003 + c % 2305843009213693921 + 7) % 2305843009213693951 < 2305843009213693951 := Int.emod_lt_of_pos _ (by decide)
      have r0 : 0 ≤ far % 10 ^ (60 : Int).toNat := Int.emod_nonneg _ (by decide)
      have r1 : far % 10 ^ (60 : Int).toNat < 10 ^ (60 : Int).toNat := Int.emod_lt_of_pos _ (by decide)
      obtain ⟨g0, g1⟩ := growD d0 d1 r0 r1 p10_60
      refine ⟨_, rfl, 10, 18, rfl, rfl, ⟨by decide, by decide, by decide⟩, _, _, rfl, rfl, _, rfl, ite2 (fun _ => ?_) (fun _ => ?_)⟩
      · refine ⟨_, rfl, 10, 60, rfl, rfl, ⟨by decide, by decide, by decide⟩, dg, _, rfl, rfl, wide_mul d1 (show ((10 : Int) ^ (60 : Int).toNat).natAbs < 2 ^ 200 by decide) (by omega) (by decide) (by omega), _, rfl, 10, 60, rfl, rfl, ⟨by decide, by decide, by decide⟩, far, _, rfl, rfl, (by decide : (0 : Int) < 10 ^ (60 : Int).toNat), _, _, rfl, rfl, ?_⟩
        refine ⟨_, rfl, seed, 1000003, rfl, rfl, .inr ⟨by decide, by decide⟩, _, rfl, c, _, rfl, rfl, (by decide : (0 : Int) < 2305843009213693921), _, _, rfl, rfl, _, 7, rfl, rfl, _, _, rfl, rfl, (by decide : (0 : Int) < 2305843009213693951), ?_⟩
        exact ⟨sm, by omega, _, _, _, _, rfl, g0, g1, t0, t1⟩
      · refine ⟨_, rfl, seed, 1000003, rfl, rfl, .inr ⟨by decide, by decide⟩, _, rfl, c, _, rfl, rfl, (by decide : (0 : Int) < 2305843009213693921), _, _, rfl, rfl, _, 7, rfl, rfl, _, _, rfl, rfl, (by decide : (0 : Int) < 2305843009213693951), ?_⟩
        exact ⟨sm, by omega, _, _, _, _, rfl, d0, Nat.lt_of_lt_of_le d1 (Nat.pow_le_pow_right (by decide) (by omega)), t0, t1⟩
    · rintro σ H' ⟨sm, h63, dg, seed, y3, y4, rfl, d0, d1, s0, s1⟩
      refine ⟨_, rfl, _, rfl, (by show 3 ≤ sizeLine; exact Nat.le_of_lt (small1000 (by decide))), fun l hl => ?_⟩
      have s2 := (sm0.trans (same_new (o := .lst (ns.map V.int)) hp)).trans sm
      exact q l seed _ (s2.free hl) (s2.trans (same_new hl)) ⟨⟨dg, upd_same⟩, s0, s1, Int.le_refl 0⟩
end
section
variable {P : Program} {w : World} {K : PySem.W.Frag} {mg : Str → Option Value} {base : Heap}
def spDraw : Sp := fun vs H Q _ => ∃ (l : Addr) (seed cnt limit : Int), vs = [.ref l, .int limit] ∧ Rng H l seed cnt ∧ cnt < 1000000 ∧ 0 < limit ∧ limit.natAbs < 2 ^ 700 ∧
  ∀ z cnt' H', 0 ≤ z → z < limit → Rng H' l seed cnt' → cnt' ≤ cnt + 1 → Keep1 H H' l → Q (.int z) H'
theorem ok_lawdraw {f : Addr} {fd : FuncData} (F : Fun K "_law_draw" "_law_draw" s_lawdraw f fd) : FnOk P w K mg base CX0 1 f fd ["rng", "limit"] spDraw := by
  refine F.ok sc_lawdraw (fun vs H Q E h => ?_) (fun cdv A outer s H vs Q E hr h => ?_)
  · obtain ⟨l, seed, cnt, limit, rfl, _⟩ := h
    rfl
  · obtain ⟨l, seed, cnt, limit, rfl, S, hc, hm, hw, q⟩ := h
    refine ⟨_, (pss_cons (ps_if (pt_cmpR op_gt (pe_ix (r := rIxL K) ix_list (pv 0) pe_int (fun _ _ => rfl)) pe_int (nomark _))
 (pss_cons (ps_set (i := 2) sc_lawdraw.nd rfl (Or.inl rfl) (pe_op op_mod (pe_ix (r := rIxL K) ix_list (pv 0) pe_int (fun _ _ => rfl)) (pv 1)))
 (pss_cons (ps_asg (pe_op op_fdivW (pe_ix (r := rIxL K) ix_list (pv 0) pe_int (fun _ _ => rfl)) (pv 1)) (pg_sub (pv 0) pe_int set_list))
 (pss_one (ps_ret (pv 2)))))
 pss_nil)
 (pss_cons (ps_asg (pe_op op_add (pe_ix (r := rIxL K) ix_list (pv 0) pe_int (fun _ _ => rfl)) pe_int) (pg_sub (pv 0) pe_int set_list))
 (pss_cons (ps_set (i := 3) sc_lawdraw.nd rfl (Or.inl rfl) (pe_op op_mod (pe_op op_powW (pe_op op_add (pe_ix (r := rIxL K) ix_list (pv 0) pe_int (fun _ _ => rfl)) (pe_op op_mul pe_int (pe_ix (r := rIxL K) ix_list (pv 0) pe_int (fun _ _ => rfl)))) pe_int) pe_int))
 (pss_cons (ps_set (i := 3) sc_lawdraw.nd rfl (Or.inl rfl) (pe_op op_mod (pe_op op_powW (pe_op op_add (pv 3) (pe_op op_mul pe_int (pe_ix (r := rIxL K) ix_list (pv 0) pe_int (fun _ _ => rfl)))) pe_int) pe_int))
 (pss_one (ps_ret (pe_op op_mod (pe_op op_fdiv (pv 3) pe_int) (pv 1)))))))), ?_⟩
    have s0 := S.s0
    have s1 := S.s1
    have c0 := S.c0
    obtain ⟨dg, hl⟩ := S.ob
    refine ⟨_, rfl, l, _, 0, _, rfl, rfl, SqL.of hl, rfl, dg, 0, rfl, rfl, _, rfl, ite2 (fun c1 => ?_) (fun c1 => ?_)⟩
    · refine ⟨_, rfl, l, _, 0, _, rfl, rfl, SqL.of hl, rfl, _, rfl, dg, limit, rfl, rfl, hm, ?_⟩
      refine ⟨_, rfl, l, _, 0, _, rfl, rfl, SqL.of hl, rfl, _, rfl, dg, limit, rfl, rfl, wide_div hm hw (by decide) (by decide), ?_⟩
      refine ⟨_, rfl, l, _, 0, 0, rfl, rfl, hl, rfl, _, rfl, ?_⟩
      exact q _ cnt _ (Int.emod_nonneg _ (by omega)) (Int.emod_lt_of_pos _ hm) ⟨⟨dg / limit, upd_same⟩, s0, s1, c0⟩ (by omega) Keep1.set
    · refine ⟨_, rfl, l, _, 2, _, rfl, rfl, SqL.of hl, rfl, cnt, 1, rfl, rfl, _, rfl, l, _, 2, 2, rfl, rfl, hl, rfl, ?_⟩
      have hl3 : (upd H l (.lst [.int dg, .int seed, .int (cnt + 1)])) l = some (.lst [.int dg, .int seed, .int (cnt + 1)]) := upd_same
      have b1 : (seed + 998244353 * (cnt + 1)).natAbs < 2 ^ 63 := by omega
      refine ⟨_, rfl, l, _, 1, _, rfl, rfl, SqL.of hl3, rfl, _, rfl, l, _, 2, _, rfl, rfl, SqL.of hl3, rfl, 998244353, cnt + 1, rfl, rfl, .inl ⟨by decide, by decide⟩, seed, _, rfl, rfl, _, 3, rfl, rfl, powW_of (by decide) b1 (by decide) (by decide), _, _, rfl, rfl, (by decide : (0 : Int) < 162259276829213363391578010288127), ?_⟩
      have p0 : 0 ≤ (seed + 998244353 * (cnt + 1)) ^ (3 : Int).toNat % 162259276829213363391578010288127 := Int.emod_nonneg _ (by decide)
      have p1 : (seed + 998244353 * (cnt + 1)) ^ (3 : Int).toNat % 162259276829213363391578010288127 < 162259276829213363391578010288127 := Int.emod_lt_of_pos _ (by decide)
      have b2 : ((seed + 998244353 * (cnt + 1)) ^ (3 : Int).toNat % 162259276829213363391578010288127 + 32452843 * (cnt + 1)).natAbs < 2 ^ 110 := by
        generalize (seed + 998244353 * (cnt + 1)) ^ (3 : Int).toNat % 162259276829213363391578010288127 = y at p0 p1
        omega
      refine ⟨_, rfl, _, rfl, l, _, 2, _, rfl, rfl, SqL.of hl3, rfl, 32452843, cnt + 1, rfl, rfl, .inl ⟨by decide, by decide⟩, _, _, rfl, rfl, _, 3, rfl, rfl, powW_of (by decide) b2 (by decide) (by decide), _, _, rfl, rfl, (by decide : (0 : Int) < 170141183460469231731687303715884105727), ?_⟩
      refine ⟨_, rfl, _, 1048576, rfl, rfl, ⟨by decide, by decide⟩, _, rfl, _, limit, rfl, rfl, hm, ?_⟩
      exact q _ (cnt + 1) _ (Int.emod_nonneg _ (by omega)) (Int.emod_lt_of_pos _ hm) ⟨⟨dg, hl3⟩, s0, s1, by omega⟩ (by omega) Keep1.set
end
theorem Rng.free {H H' : Hp} {l p : Addr} {seed cnt : Int} (k : Keep1 H H' l) (S : Rng H' l seed cnt) (h : H' p = none) : H p = none := by
  obtain ⟨dg, hl⟩ := S.ob
  cases e : H p with
  | none => rfl
  | some o =>
    have := k p o e (fun z => by rw [z, hl] at h; cases h)
    rw [h] at this
    cases this
theorem Rng.ne {H : Hp} {l p : Addr} {seed cnt : Int} (S : Rng H l seed cnt) (h : H p = none) : p ≠ l := fun z => by
  obtain ⟨dg, hl⟩ := S.ob
  rw [z, hl] at h
  cases h
theorem Rng.upd {H : Hp} {l p : Addr} {seed cnt : Int} {o : HO} (S : Rng H l seed cnt) (h : p ≠ l) : Rng (upd H p o) l seed cnt :=
  let ⟨dg, hl⟩ := S.ob
  ⟨⟨dg, by rw [upd_ne h.symm]; exact hl⟩, S.s0, S.s1, S.c0⟩
theorem nth_of {xs : List Int} {z : Int} (h0 : 0 ≤ z) (h : z < xs.length) : ∃ k, k ∈ xs ∧ atI (xs.map V.int) z = some (.int k) := by
  have lt : z.toNat < xs.length := by omega
  refine ⟨xs[z.toNat], List.getElem_mem lt, at_of (j := z.toNat) (by omega) ?_⟩
  rw [List.getElem?_map, List.getElem?_eq_getElem lt]
  rfl
theorem lim10 {i : Int} (h : i.natAbs ≤ 10 ^ 31) : i.natAbs < 2 ^ 700 := Nat.lt_of_le_of_lt h (by decide)
section
variable {P : Program} {w : World} {K : PySem.W.Frag} {mg : Str → Option Value} {base : Heap} {c fI : Nat → Addr} {qn : Nat → Str} {cB : Addr}
def spList : Sp := fun vs H Q _ => ∃ (l : Addr) (seed cnt M g : Int), vs = [.ref l, .int M, .int g] ∧ 0 ≤ M ∧ M ≤ 12 ∧ 3 ≤ g ∧ g ≤ 1000000 ∧ Rng H l seed cnt ∧ cnt < 500000 ∧
  ∀ p ks cnt' H', H p = none → Rng H' l seed cnt' → cnt' ≤ cnt + 80 → Keep1 H H' l → H' p = some (.lst (List.map V.int ks)) → ks.length ≤ 12 → (∀ k ∈ ks, 2 ≤ k ∧ k ≤ 1000000) → Q (.ref p) H'
theorem ok_lawlist {f : Addr} {fd : FuncData} (F : Fun K "_law_list" "_law_list" s_lawlist f fd) (B : Bi mg) (D_lawdraw : Df P w K mg base 1 "_law_draw" ["rng", "limit"] spDraw) : FnOk P w K mg base CX0 2 f fd ["rng", "most", "greatest"] spList := by
  refine F.ok sc_lawlist (fun vs H Q E h => ?_) (fun cdv A outer s H vs Q E hr h => ?_)
  · obtain ⟨l, seed, cnt, M, g, rfl, _⟩ := h
    rfl
  · obtain ⟨l, seed, cnt, M, g, rfl, M0, M1, g0, g1, S, hc, q⟩ := h
    refine ⟨_, (pss_cons (ps_par (i := 3) (j := 4) (by rfl) sc_lawlist.nd rfl rfl (by decide) rfl rfl (pa_cons (pe_lst pa_nil) (pa_cons (pe_callD D_lawdraw (hr.mono (by omega)) (by rfl) (pa_cons (pv 0) (pa_cons pe_int pa_nil))) pa_nil)) (by rfl))
 (pss_cons (ps_for PassesOwn.never rfl (pi_range1 (by rfl) B.n_range (pa_cons (pe_callD D_lawdraw (hr.mono (by omega)) (by rfl) (pa_cons (pv 0) (pa_cons (pe_op op_add (pv 1) pe_int) pa_nil))) pa_nil)) (pg_name (i := 5) sc_lawlist.nd rfl (Or.inl rfl))
 (pss_cons (ps_set (i := 6) sc_lawlist.nd rfl (Or.inl rfl) (pe_lst (pa_cons (pe_op op_add pe_int (pe_callD D_lawdraw (hr.mono (by omega)) (by rfl) (pa_cons (pv 0) (pa_cons pe_int pa_nil)))) (pa_cons (pe_ix (r := rIxL K) ix_list (pe_op op_cat (pv 3) (pe_lst (pa_cons pe_int pa_nil))) pe_int (fun _ _ => rfl)) (pa_cons (pe_callB (id := "max") (call_max2 rfl) (by rfl) B.n_max (by decide +kernel) (pa_cons pe_int (pa_cons (pe_op op_sub (pv 2) (pe_callD D_lawdraw (hr.mono (by omega)) (by rfl) (pa_cons (pv 0) (pa_cons pe_int pa_nil)))) pa_nil))) pa_nil)))))
 (pss_cons (ps_expr (pe_bm PySem.F.plainAttrs_list PySem.F.slot_list_append PySem.F.type_list_append mt_append (pv 6) (pa_cons (pe_op op_add pe_int (pe_callD D_lawdraw (hr.mono (by omega)) (by rfl) (pa_cons (pv 0) (pa_cons (pe_op op_sub (pv 2) pe_int) pa_nil)))) pa_nil)))
 (pss_one (ps_expr (pe_bm PySem.F.plainAttrs_list PySem.F.slot_list_insert PySem.F.type_list_insert mt_insert (pv 3) (pa_cons pe_int (pa_cons (pe_ix (r := rIxL K) ix_list (pv 6) (pe_ix (r := rIxL K) ix_list (pe_lst (pa_cons (pv 4) (pa_cons (pe_callD D_lawdraw (hr.mono (by omega)) (by rfl) (pa_cons (pv 0) (pa_cons pe_int pa_nil))) pa_nil))) (pe_callD D_lawdraw (hr.mono (by omega)) (by rfl) (pa_cons (pv 0) (pa_cons pe_int pa_nil))) (fun _ _ => rfl)) (fun _ _ => rfl)) pa_nil))))))))
 (pss_one (ps_ret (pv 3))))), ?_⟩
    refine ⟨Nat.zero_le _, fun p hp => ⟨_, rfl, l, seed, cnt, 4, rfl, S.same (same_new hp), by omega, by decide, by decide, fun kind cnt1 H1 d0 d1 S1 hc1 k1 => ⟨_, _, rfl, ?_⟩⟩⟩
    have npl := S.ne hp
    have gp1 := k1 _ _ upd_same npl
    have k01 : Keep1 H H1 l := (Keep1.of (same_new hp)).trans k1
    refine ⟨_, rfl, _, rfl, M, 1, rfl, rfl, l, seed, cnt1, M + 1, rfl, S1, by omega, by omega, lim10 (by omega), fun m cnt2 H2 m0 m1 S2 hc2 k2 => ?_⟩
    refine ⟨m, rfl, by omega, by omega, for_range (lo := 0) (n := m.toNat) (fun i σ H' => ∃ ks cnt' y5 y6, σ = [some (.ref l), some (.int M), some (.int g), some (.ref p), some (.int kind), y5, y6] ∧ Rng H' l seed cnt' ∧ cnt' ≤ cnt + 2 + 6 * i ∧ Keep1 H H' l ∧ H' p = some (.lst (List.map V.int ks)) ∧ ks.length = i ∧ ∀ k ∈ ks, 2 ≤ k ∧ k ≤ 1000000)
      ⟨[], cnt2, none, none, rfl, S2, by omega, k01.trans k2, k2 _ _ gp1 npl, rfl, fun k z => nomatch z⟩ ?_ ?_⟩
    · rintro i σ H3 hi ⟨ks, cnt3, y5, y6, rfl, S3, hc3, k3, gp3, lk, hk⟩
      -- some
      refine ⟨_, rfl, l, seed, cnt3, 4, rfl, S3, by omega, by decide, by decide, fun z4 cnt4 H4 z40 z41 S4 hc4 k4 => ⟨2, z4, rfl, rfl, ?_⟩⟩
      have gp4 := k4 _ _ gp3 npl
      refine ⟨_, rfl, Nat.le_of_lt (small1000 (show 1 ≤ 1000 by decide)), fun t5 ht5 => ?_⟩
      have gp5 := same_new (o := .lst [.int 2]) ht5 _ _ gp4
      obtain ⟨fst, fm, fa⟩ := nth_of (xs := ks ++ [2]) (z := 0) (Int.le_refl 0) (by rw [List.length_append]; show (0 : Int) < ((ks.length + 1 : Nat) : Int); omega)
      rw [List.map_append] at fa
      have fb : 2 ≤ fst ∧ fst ≤ 1000000 := by
        rcases List.mem_append.mp fm with z | z
        · exact hk fst z
        · rw [List.mem_singleton.mp z]
          decide
      refine ⟨p, t5, _, _, rfl, rfl, gp5, upd_same, Nat.le_of_lt (small1000 (by rw [List.length_map]; show ks.length + 1 ≤ 1000; omega)), fun t6 ht6 => ⟨t6, _, 0, .int fst, rfl, rfl, SqL.of upd_same, fa, ?_⟩⟩
      have s46 := (same_new (o := .lst [.int 2]) ht5).trans (same_new (o := .lst (ks.map V.int ++ [.int 2])) ht6)
      generalize (upd (upd H4 t5 (.lst [.int 2])) t6 (.lst (ks.map V.int ++ [.int 2]))) = H6 at s46 ⊢
      have S6 := S4.same s46
      refine ⟨_, rfl, _, rfl, l, seed, cnt4, 3, rfl, S6, by omega, by decide, by decide, fun z7 cnt7 H7 z70 z71 S7 hc7 k7 => ⟨g, z7, rfl, rfl, 2, g - z7, rfl, ?_⟩⟩
      obtain ⟨mx, emx⟩ : ∃ mx, mx = (if g - z7 > 2 then g - z7 else 2) := ⟨_, rfl⟩
      have mb : 2 ≤ mx ∧ mx ≤ 1000000 := by
        subst emx
        split <;> omega
      rw [← emx]
      refine ⟨Nat.le_of_lt (small1000 (show 3 ≤ 1000 by decide)), fun t8 ht8 => ?_⟩
      have n8l := S7.ne ht8
      have S8 := S7.same (same_new (o := .lst [.int (2 + z4), .int fst, .int mx]) ht8)
      refine ⟨_, rfl, .inl ⟨rfl, _, SqL.of upd_same⟩, _, rfl, _, rfl, g, 1, rfl, rfl, l, seed, cnt7, g - 1, rfl, S8, by omega, by omega, lim10 (by omega), fun z9 cnt9 H9 z90 z91 S9 hc9 k9 => ?_⟩
      have g89 := k9 _ _ upd_same n8l
      refine ⟨2, z9, rfl, rfl, t8, _, _, rfl, rfl, g89, small1000 (show 3 ≤ 1000 by decide), ?_⟩
      have np8 : p ≠ t8 := ne_of_none (k7 _ _ (s46 _ _ gp4) npl) ht8
      have gp9 := k9 _ _ (same_new ht8 _ _ (k7 _ _ (s46 _ _ gp4) npl)) npl
      have gp10 : (upd H9 t8 (.lst ([.int (2 + z4), .int fst, .int mx] ++ [.int (2 + z9)]))) p = some (.lst (ks.map V.int)) := by rw [upd_ne np8]; exact gp9
      have g810 : (upd H9 t8 (.lst ([.int (2 + z4), .int fst, .int mx] ++ [.int (2 + z9)]))) t8 = some (.lst ([2 + z4, fst, mx, 2 + z9].map V.int)) := upd_same
      have S10 := S9.upd (o := .lst ([.int (2 + z4), .int fst, .int mx] ++ [.int (2 + z9)])) n8l
      have hp8 : H t8 = none := Rng.free ((k3.trans k4).trans ((Keep1.of s46).trans k7)) S7 ht8
      have k10 : Keep1 H (upd H9 t8 (.lst ([.int (2 + z4), .int fst, .int mx] ++ [.int (2 + z9)]))) l := fun b o e nb => by
        rw [upd_ne (ne_of_none e hp8)]
        exact k9 _ _ (same_new ht8 _ _ (k7 _ _ (s46 _ _ (k4 _ _ (k3 _ _ e nb) nb)) nb)) nb
      generalize (upd H9 t8 (.lst ([.int (2 + z4), .int fst, .int mx] ++ [.int (2 + z9)]))) = H10 at gp10 g810 S10 k10 ⊢
      -- found.insert(0, ..)
      refine ⟨_, rfl, .inl ⟨rfl, _, SqL.of gp10⟩, _, rfl, _, rfl, _, rfl, l, seed, cnt9, 4, rfl, S10, by omega, by decide, by decide, fun z11 cnt11 H11 z110 z111 S11 hc11 k11 => ?_⟩
      refine ⟨Nat.le_of_lt (small1000 (show 2 ≤ 1000 by decide)), fun t12 ht12 => ?_⟩
      have n12 := S11.ne ht12
      refine ⟨_, rfl, l, seed, cnt11, 2, rfl, S11.same (same_new ht12), by omega, by decide, by decide, fun z13 cnt13 H13 z130 z131 S13 hc13 k13 => ?_⟩
      obtain ⟨j, jm, ja⟩ := nth_of (xs := [kind, z11]) (z := z13) z130 z131
      have jb : 0 ≤ j ∧ j < 4 := by
        rcases List.mem_cons.mp jm with z | z
        · omega
        · have := List.mem_singleton.mp z
          omega
      obtain ⟨k, km, ka⟩ := nth_of (xs := [2 + z4, fst, mx, 2 + z9]) (z := j) jb.1 jb.2
      have kb : 2 ≤ k ∧ k ≤ 1000000 := by
        simp at km
        omega
      have k1013 := (k11.trans (Keep1.of (same_new (o := .lst [.int kind, .int z11]) ht12))).trans k13
      have gp13 := k1013 _ _ gp10 npl
      refine ⟨t12, _, z13, .int j, rfl, rfl, SqL.of (k13 _ _ upd_same n12), ja, t8, _, j, .int k, rfl, rfl, SqL.of (k1013 _ _ g810 n8l), ka, p, _, 0, .int k, rfl, rfl, gp13, (by rw [List.length_map]; exact small1000 (by omega)), Int.le_refl 0, by decide, ?_⟩
      refine ⟨k :: ks, cnt13, _, _, rfl, S13.upd npl, by omega, fun b o e nb => ?_, ?_, by rw [List.length_cons, lk], fun x hx => ?_⟩
      · rw [upd_ne (ne_of_none e hp)]
        exact k1013 _ _ (k10 _ _ e nb) nb
      · rw [upd_same]
        rfl
      · rcases List.mem_cons.mp hx with z | z
        · rw [z]
          exact kb
        · exact hk x z
    · rintro σ H3 ⟨ks, cnt3, y5, y6, rfl, S3, hc3, k3, gp3, lk, hk⟩
      exact ⟨_, rfl, q p ks cnt3 H3 hp S3 (by omega) k3 gp3 (by omega) hk⟩
end
end Sq
set_option Elab.async false
set_option linter.all false
set_option maxRecDepth 100000
set_option maxHeartbeats 4000000
set_option exponentiation.threshold 2000
namespace Sq
open PySem PySem.Spec PyProof.Rows L2
section
variable {P : Program} {w : World} {K : PySem.W.Frag} {mg : Str → Option Value} {base : Heap}
def spIsNum : Sp := fun vs H Q _ => ∃ x : Str, vs = [.str x] ∧ x.length ≤ sizeLine ∧ Q (.bl (numOk (TL.tl x))) H
theorem ok_isnumber {f : Addr} {fd : FuncData} {tm : Tok} (F : Fun K "is_number" "is_number" s_isnumber f fd) (B : Bi mg) (g_MOSTDIGITS : mg "MOST_DIGITS" = some (.int 200 tm)) : FnOk P w K mg base CX0 1 f fd ["digits"] spIsNum := by
  refine F.ok sc_isnumber (fun vs H Q E h => ?_) (fun cdv A outer s H vs Q E hr h => ?_)
  · obtain ⟨x, rfl, _⟩ := h
    rfl
  · obtain ⟨x, rfl, hl, q⟩ := h
    refine ⟨_, (pss_cons (ps_if (PW.pt (pw_or (pt_not (pt_val (pe_m0 PySem.F.slot_str_isascii PySem.F.type_str_isascii mt_isascii (pv 0)))) (pw_or (pt_not (pt_val (pe_m0 PySem.F.slot_str_isdigit PySem.F.type_str_isdigit mt_isdigit (pv 0)))) (pw_or1 (pt_cmpR op_gt (pe_callB (id := "len") call_len_str (by rfl) B.n_len (by decide +kernel) (pa_cons (pv 0) pa_nil)) (pe_glob (v := .int 200) (by rfl) g_MOSTDIGITS ⟨_, rfl⟩) (nomark _))))))
 (pss_one (ps_ret pe_bl))
 pss_nil)
 (pss_one (ps_ret (pe_and (pe_cmpR op_ne (pe_ix ix_str (pv 0) pe_int (fun _ _ => rfl)) pe_str (nomark _)) (pe_one (pe_cmpR op_ne (pv 0) pe_str (nomark _))))))), ?_⟩
    have ad := asc_dig x
    have hlen : x.length = (TL.tl x).length := TL.len_tl x
    refine ⟨_, rfl, ⟨_, rfl⟩, x, rfl, rfl, trivial, _, rfl, ?_⟩
    cases e1 : Txt.isascii x with
    | false =>
      rw [e1] at ad
      have e : numOk (TL.tl x) = false := by
        cases z : numOk (TL.tl x) with
        | false => rfl
        | true =>
          obtain ⟨a, b, _⟩ := numOk_iff.mp z
          rw [digB_all.mpr a, List.isEmpty_eq_false_iff.mpr b] at ad
          cases ad
      rw [e] at q
      exact iteT q
    | true =>
      refine iteF ⟨_, rfl, ⟨_, rfl⟩, x, rfl, rfl, trivial, _, rfl, ?_⟩
      cases e2 : Txt.isdigit x with
      | false =>
        rw [e1, e2] at ad
        have e : numOk (TL.tl x) = false := by
          cases z : numOk (TL.tl x) with
          | false => rfl
          | true =>
            obtain ⟨a, b, _⟩ := numOk_iff.mp z
            rw [digB_all.mpr a, List.isEmpty_eq_false_iff.mpr b] at ad
            cases ad
        rw [e] at q
        exact iteT q
      | true =>
        rw [e1, e2] at ad
        have a1 : digB (TL.tl x) = true := by cases z : digB (TL.tl x) with
          | true => rfl
          | false => rw [z] at ad; cases ad
        have a2 : (TL.tl x).isEmpty = false := by cases z : (TL.tl x).isEmpty with
          | false => rfl
          | true => rw [a1, z] at ad; cases ad
        refine iteF ⟨_, rfl, _, rfl, hl, _, _, rfl, rfl, _, rfl, ?_⟩
        by_cases c : (x.length : Int) > 200
        · rw [decide_eq_true c]
          have e : numOk (TL.tl x) = false := by
            cases z : numOk (TL.tl x) with
            | false => rfl
            | true => have := (numOk_iff.mp z).2.2.1; omega
          rw [e] at q
          exact iteT q
        · rw [decide_eq_false c]
          refine iteF ?_
          cases et : TL.tl x with
          | nil => rw [et] at a2; cases a2
          | cons c0 r =>
            have at0 : atI (TL.tl x) 0 = some c0 := atI_nat (j := 0) (show (TL.tl x)[0]? = some c0 by rw [et]; rfl)
            refine ⟨_, rfl, x, 0, c0, rfl, rfl, hl, at0, rfl, _, rfl, ?_⟩
            have e48 : (V.str ⟨#[c0]⟩ = V.str ("0" : Str)) ↔ c0 = 48 := by
              constructor
              · intro z
                have z1 : (⟨#[c0]⟩ : Str) = "0" := by injection z
                have z2 := congrArg TL.tl z1
                have z3 : TL.tl ("0" : Str) = [48] := by decide +kernel
                rw [z3] at z2
                exact (List.cons.inj (show [c0] = [48] from z2)).1
              · rintro rfl
                exact congrArg V.str (TL.ext_tl (show TL.tl (⟨#[48]⟩ : Str) = TL.tl ("0" : Str) by decide +kernel))
            have e49 : (V.str x = V.str ("1" : Str)) ↔ TL.tl x = [49] := by
              have z3 : TL.tl ("1" : Str) = [49] := by decide +kernel
              constructor
              · intro z
                have z1 : x = "1" := by injection z
                rw [z1]
                exact z3
              · intro z
                exact congrArg V.str (TL.ext_tl (z.trans z3.symm))
            have l200 : (TL.tl x).length ≤ 200 := by omega
            by_cases c1 : c0 = 48
            · rw [decide_eq_true (e48.mpr c1)]
              have e : numOk (TL.tl x) = false := by
                cases z : numOk (TL.tl x) with
                | false => rfl
                | true => exact absurd (by rw [et, c1]; rfl) (numOk_iff.mp z).2.2.2.1
              rw [e] at q
              exact iteF q
            · rw [decide_eq_false fun z => c1 (e48.mp z)]
              refine iteT ⟨_, rfl, rfl, ?_⟩
              have e : numOk (TL.tl x) = !decide (V.str x = V.str ("1" : Str)) := by
                by_cases c2 : TL.tl x = [49]
                · rw [decide_eq_true (e49.mpr c2), c2]
                  rfl
                · rw [decide_eq_false fun z => c2 (e49.mp z)]
                  exact numOk_iff.mpr ⟨digB_all.mp a1, List.isEmpty_eq_false_iff.mp a2, l200, by rw [et]; exact fun z => c1 (Option.some.inj z), c2⟩
              rw [e] at q
              exact q
end
section
variable {P : Program} {w : World} {K : PySem.W.Frag} {mg : Str → Option Value} {base : Heap}
open NumText (digitsVal AllDigits)
def spReadT : Sp := fun vs H Q _ => ∃ (x : Str) (ks : List Int), vs = [.str x] ∧ x.length ≤ 10000 ∧ Small (TL.tl x) ∧ rText (TL.tl x) = some ks ∧ ∀ p H', H p = none → Same H H' → H' p = some (.lst (ks.map V.int)) → Q (.ref p) H'
theorem ok_readlist {f : Addr} {fd : FuncData} (F : Fun K "read_list" "read_list" s_readlist f fd) (B : Bi mg) (D_isnumber : Df P w K mg base 1 "is_number" ["digits"] spIsNum) : FnOk P w K mg base CX0 2 f fd ["text"] spReadT := by
  refine F.ok sc_readlist (fun vs H Q E h => ?_) (fun cdv A outer s H vs Q E hr h => ?_)
  · obtain ⟨x, ks, rfl, _⟩ := h
    rfl
  · obtain ⟨x, ks, rfl, hx, sm, hr0, q⟩ := h
    refine ⟨_, (pss_cons (ps_if (pt_cmpR op_eq (pv 0) pe_str (nomark _))
 (pss_one (ps_ret (pe_lst pa_nil)))
 pss_nil)
 (pss_cons (ps_set (i := 1) sc_readlist.nd rfl (Or.inl rfl) (pe_lst pa_nil))
 (pss_cons (ps_for PassesOwn.never rfl (pi_list (pe_split (pv 0) pe_str)) (pg_name (i := 2) sc_readlist.nd rfl (Or.inl rfl))
 (pss_cons (ps_asg (pe_partition (pv 2) pe_str) (pg_tup rfl (pgs_cons (pg_name (i := 3) sc_readlist.nd rfl (Or.inl rfl)) (pgs_cons (pg_name (i := 4) sc_readlist.nd rfl (Or.inl rfl)) (pgs_cons (pg_name (i := 5) sc_readlist.nd rfl (Or.inl rfl)) pgs_nil)))))
 (pss_cons (ps_if (PW.pt (pw_or (pt_not (pt_val (pe_callD D_isnumber (hr.mono (by omega)) (by rfl) (pa_cons (pv 3) pa_nil)))) (pw_or1 (PW.pt (pw_and (pt_truth (pv 4) (by intro _; rfl)) (pw_and1 (pt_not (pt_val (pe_callD D_isnumber (hr.mono (by omega)) (by rfl) (pa_cons (pv 5) pa_nil))))))))))
 (pss_one ps_never)
 pss_nil)
 (pss_cons (ps_set (i := 6) sc_readlist.nd rfl (Or.inl rfl) (pe_callTy (T := "int") call_int_str (by rfl) B.n_int (by decide +kernel) (pa_cons (pv 3) pa_nil)))
 (pss_cons (ps_if (PW.pt (pw_and (pt_truth (pv 1) (by intro _; rfl)) (pw_and1 (pt_cmpR op_eq (pe_ix (r := rIxL K) ix_list (pv 1) (pe_un un_neg pe_int) (fun _ _ => rfl)) (pv 6) (nomark _)))))
 (pss_one ps_never)
 pss_nil)
 (pss_one (ps_expr (pe_bm PySem.F.plainAttrs_list PySem.F.slot_list_extend PySem.F.type_list_extend mt_extend (pv 1) (pa_cons (pe_op op_rep (pe_lst (pa_cons (pv 6) pa_nil)) (pe_ifExp (pt_truth (pv 4) (by intro _; rfl)) (pe_callTy (T := "int") call_int_str (by rfl) B.n_int (by decide +kernel) (pa_cons (pv 5) pa_nil)) pe_int)) pa_nil)))))))))
 (pss_one (ps_ret (pv 1)))))), ?_⟩
    have lim : sizeLine = 16777216 := sizeLine_eq
    have zn : TL.tl ("none" : Str) = [110, 111, 110, 101] := by decide +kernel
    refine ⟨_, rfl, rfl, _, rfl, ite2 (fun c => ?_) (fun c => ?_)⟩
    · have e : x = "none" := by have := of_decide_eq_true c; injection this
      rw [e, zn] at hr0
      unfold rText at hr0
      rw [if_pos rfl] at hr0
      cases hr0
      exact ⟨z0L, fun p hp => q p _ hp (same_new hp) upd_same⟩
    · have ne : TL.tl x ≠ [110, 111, 110, 101] := fun z => c (decide_eq_true (congrArg V.str (TL.ext_tl (z.trans zn.symm))))
      unfold rText at hr0
      rw [if_neg ne] at hr0
      obtain ⟨ps, eps⟩ : ∃ ps, ps = Txt.split x ", " := ⟨_, rfl⟩
      have tps : ps.map TL.tl = TL.spl [44, 32] 0 [] (TL.tl x) := by rw [eps]; exact split_sep x
      have lps : ps.length ≤ 10001 := by
        have a := spl_len [44, 32] 0 [] (TL.tl x)
        rw [← tps, List.length_map, ← TL.len_tl] at a
        omega
      unfold Small at sm
      rw [← tps] at sm hr0
      refine ⟨z0L, fun d hd => ?_⟩
      refine ⟨_, rfl, ⟨_, rfl⟩, x, ", ", rfl, rfl, by decide +kernel, by omega, fun p hp => ?_⟩
      rw [← eps]
      have ned : p ≠ d := fun z => by rw [z, upd_same] at hp; cases hp
      have nd0 : H p = none := (same_new hd).free hp
      refine ⟨p, rfl, ⟨_, SqL.of upd_same⟩, for_list (K := K) (a := p) (xs := ps.map V.str) (fun i σ H' => ∃ F y2 y3 y4 y5 y6, σ = [some (.str x), some (.ref d), y2, y3, y4, y5, y6] ∧ Same H H' ∧ H' p = some (.lst (ps.map V.str)) ∧ H' d = some (.lst (F.map V.int)) ∧ F.length ≤ 1000 * i ∧ rAll F ((ps.map TL.tl).drop i) = some ks)
        ⟨[], none, none, none, none, none, rfl, (same_new hd).trans (same_new hp), upd_same, by rw [upd_ne ned.symm]; exact upd_same, Nat.zero_le _, hr0⟩ (fun i σ H' _ h => by obtain ⟨_, _, _, _, _, _, _, _, g, _⟩ := h; exact SqL.of g) ?_ ?_⟩
      · rintro i v σ H1 hi ⟨F, y2, y3, y4, y5, y6, rfl, s1, gp, gd, lF, eF⟩
        obtain ⟨y, hy, rfl⟩ := str_at hi
        have il : i < ps.length := (List.getElem?_eq_some_iff.mp hy).1
        have dr : (ps.map TL.tl).drop i = TL.tl y :: (ps.map TL.tl).drop (i + 1) := by
          have lt : i < (ps.map TL.tl).length := by rw [List.length_map]; exact il
          rw [List.drop_eq_getElem_cons lt, List.getElem_map]
          obtain ⟨_, e⟩ := List.getElem?_eq_some_iff.mp hy
          rw [e]
        rw [dr] at eF
        obtain ⟨F', st, eF'⟩ := rAll_cons eF
        obtain ⟨n, k, rp, last, rfl⟩ := rStep_some st
        obtain ⟨D, M, N, ep, okD, en, mk⟩ := part_cut rp
        have ly : y.length ≤ x.length := by
          have a := spl_mem [44, 32] 0 [] (TL.tl x) (TL.tl y) (by rw [← tps]; exact List.mem_map.mpr ⟨y, List.mem_of_getElem? hy, rfl⟩)
          rw [TL.len_tl, TL.len_tl]
          simpa using a
        have k1000 : k ≤ 1000 := sm (TL.tl y) (List.mem_map.mpr ⟨y, List.mem_of_getElem? hy, rfl⟩) n k rp
        have lD : D.length ≤ sizeLine := by have a := (numOk_iff.mp okD).2.2.1; rw [← TL.len_tl] at a; omega
        refine ⟨_, rfl, ⟨_, rfl⟩, y, "^", rfl, rfl, by decide +kernel, by omega, fun t ht => ?_⟩
        rw [ep]
        refine ⟨t, _, rfl, .inl (.inl upd_same), rfl, _, _, rfl, _, _, rfl, _, _, rfl, rfl, ?_⟩
        have s2 : Same H1 (upd H1 t (.tup [.str D, .str M, .str N])) := same_new ht
        refine ⟨_, rfl, D, rfl, lD, _, rfl, ?_⟩
        rw [okD]
        refine iteF ?_
        have io := int_ok okD
        have lastF : F ≠ [] → ∃ z, F.getLast? = some z ∧ (F.map V.int).getLast? = some (.int z) ∧ z ≠ (n : Int) := fun h => by
          obtain ⟨z, ez⟩ : ∃ z, F.getLast? = some z := ⟨F.getLast h, List.getLast?_eq_some_getLast h⟩
          refine ⟨z, ez, ?_, fun e => last (by rw [ez, e])⟩
          rw [List.getLast?_map, ez]
          rfl
        have gd2 : ∀ {t' : Addr} {o : HO}, H1 t' = none → (upd H1 t' o) d = some (.lst (F.map V.int)) := fun h => same_new h _ _ gd
        have gdt := gd2 (o := .tup [.str D, .str M, .str N]) ht
        have fin : ∀ (kk : Nat) (H2 H3 : Hp) (l r : Addr) (σ' : L2.St) (v3 v4 v5 v6 : Option V), kk = k → Same H1 H2 → H2 d = some (.lst (F.map V.int)) → H2 l = none → (upd H2 l (.lst [V.int (n : Int)])) r = none → H3 = upd (upd H2 l (.lst [V.int (n : Int)])) r (.lst (List.replicate kk [V.int (n : Int)]).flatten) →
            ∃ l b xs zs, V.ref d = .ref l ∧ [V.ref r] = [V.ref b] ∧ H3 l = some (.lst xs) ∧ H3 b = some (.lst zs) ∧ xs.length + zs.length ≤ sizeLine ∧ ∃ F' y2 y3 y4 y5 y6, [some (.str x), some (.ref d), some (.str y), v3, v4, v5, v6] = [some (V.str x), some (V.ref d), y2, y3, y4, y5, y6] ∧ Same H (upd H3 l (.lst (xs ++ zs))) ∧ (upd H3 l (.lst (xs ++ zs))) p = some (.lst (ps.map V.str)) ∧ (upd H3 l (.lst (xs ++ zs))) d = some (.lst (F'.map V.int)) ∧ F'.length ≤ 1000 * (i + 1) ∧ rAll F' ((ps.map TL.tl).drop (i + 1)) = some ks := fun kk H2 H3 l r σ' v3 v4 v5 v6 ek s12 g2 hl hr' e3 => by
          subst ek
          have gd3 : H3 d = some (.lst (F.map V.int)) := by rw [e3]; exact same_new hr' _ _ (same_new hl _ _ g2)
          have gp3 : H3 p = some (.lst (ps.map V.str)) := by rw [e3]; exact same_new hr' _ _ (same_new hl _ _ (s12 _ _ gp))
          have s3 : Same H H3 := by rw [e3]; exact ((s1.trans s12).trans (same_new hl)).trans (same_new hr')
          have gr : H3 r = some (.lst ((List.replicate kk (n : Int)).map V.int)) := by rw [e3, upd_same, rep_one, List.map_replicate]
          refine ⟨d, r, _, _, rfl, rfl, gd3, gr, ?_, F ++ List.replicate kk (n : Int), _, _, _, _, _, rfl, fun b o e => ?_, ?_, ?_, ?_, eF'⟩
          · rw [List.length_map, List.length_map, List.length_replicate]
            omega
          · rw [upd_ne (ne_of_none e hd)]
            exact s3 _ _ e
          · rw [upd_ne ned]
            exact gp3
          · rw [upd_same, List.map_append]
          · rw [List.length_append, List.length_replicate]
            omega
        have w1 : 1 ≤ sizeLine := by omega
        rcases mk with ⟨lM, ek⟩ | ⟨lM, okN', ek⟩
        · have tr : M.length ≤ sizeLine ∧ false = ((M.length : Int) != 0) := ⟨by omega, by rw [lM]; rfl⟩
          refine ⟨_, rfl, false, tr, iteF (iteF ?_)⟩
          refine ⟨_, rfl, D, _, rfl, io.1, io.2, ?_⟩
          rw [← en]
          refine ⟨_, rfl, !(F.map V.int).isEmpty, .inl ⟨_, SqL.of gdt, rfl⟩, ?_⟩
          by_cases cF : F = []
          · have e0 : (!(F.map V.int).isEmpty) = false := by rw [cF]; rfl
            rw [e0]
            refine iteF (iteF ?_)
            refine ⟨_, rfl, .inl ⟨rfl, _, SqL.of gdt⟩, _, rfl, w1, fun l hl => ?_⟩
            refine ⟨_, rfl, false, tr, iteF ⟨_, 1, _, rfl, rfl, upd_same, by decide, by decide, Nat.le_of_lt (small1000 (show 1 * 1 ≤ 1000 by decide)), fun r hr' => ?_⟩⟩
            exact fin 1 _ _ l r [] _ _ _ _ ek.symm s2 gdt hl hr' rfl
          · have e1 : (!(F.map V.int).isEmpty) = true := by
              cases F with
              | nil => exact absurd rfl cF
              | cons _ _ => rfl
            rw [e1]
            obtain ⟨z, ez, ez2, nz⟩ := lastF cF
            refine iteT ⟨_, rfl, 1, rfl, d, _, -1, .int z, rfl, rfl, SqL.of gdt, atI_lst _ _ ez2, _, rfl, rfl, _, rfl, ?_⟩
            rw [decide_eq_false (fun e => nz (by injection e))]
            refine iteF ?_
            refine ⟨_, rfl, .inl ⟨rfl, _, SqL.of gdt⟩, _, rfl, w1, fun l hl => ?_⟩
            refine ⟨_, rfl, false, tr, iteF ⟨_, 1, _, rfl, rfl, upd_same, by decide, by decide, Nat.le_of_lt (small1000 (show 1 * 1 ≤ 1000 by decide)), fun r hr' => ?_⟩⟩
            exact fin 1 _ _ l r [] _ _ _ _ ek.symm s2 gdt hl hr' rfl
        · have tr : M.length ≤ sizeLine ∧ true = ((M.length : Int) != 0) := ⟨by omega, by rw [lM]; rfl⟩
          have iN := int_ok okN'
          have lN : N.length ≤ sizeLine := by have a := (numOk_iff.mp okN').2.2.1; rw [← TL.len_tl] at a; omega
          refine ⟨_, rfl, true, tr, iteT ?_⟩
          refine ⟨_, rfl, N, rfl, lN, _, rfl, ?_⟩
          rw [okN']
          refine iteF ?_
          refine ⟨_, rfl, D, _, rfl, io.1, io.2, ?_⟩
          rw [← en]
          refine ⟨_, rfl, !(F.map V.int).isEmpty, .inl ⟨_, SqL.of gdt, rfl⟩, ?_⟩
          by_cases cF : F = []
          · have e0 : (!(F.map V.int).isEmpty) = false := by rw [cF]; rfl
            rw [e0]
            refine iteF (iteF ?_)
            refine ⟨_, rfl, .inl ⟨rfl, _, SqL.of gdt⟩, _, rfl, w1, fun l hl => ?_⟩
            refine ⟨_, rfl, true, tr, iteT ⟨_, rfl, N, _, rfl, iN.1, iN.2, ?_⟩⟩
            rw [← ek]
            refine ⟨_, (k : Int), _, rfl, rfl, upd_same, by omega, by omega, ?_, fun r hr' => ?_⟩
            · show 1 * ((k : Int)).toNat ≤ sizeLine
              omega
            · exact fin k _ _ l r [] _ _ _ _ rfl s2 gdt hl hr' rfl
          · have e1 : (!(F.map V.int).isEmpty) = true := by
              cases F with
              | nil => exact absurd rfl cF
              | cons _ _ => rfl
            rw [e1]
            obtain ⟨z, ez, ez2, nz⟩ := lastF cF
            refine iteT ⟨_, rfl, 1, rfl, d, _, -1, .int z, rfl, rfl, SqL.of gdt, atI_lst _ _ ez2, _, rfl, rfl, _, rfl, ?_⟩
            rw [decide_eq_false (fun e => nz (by injection e))]
            refine iteF ?_
            refine ⟨_, rfl, .inl ⟨rfl, _, SqL.of gdt⟩, _, rfl, w1, fun l hl => ?_⟩
            refine ⟨_, rfl, true, tr, iteT ⟨_, rfl, N, _, rfl, iN.1, iN.2, ?_⟩⟩
            rw [← ek]
            refine ⟨_, (k : Int), _, rfl, rfl, upd_same, by omega, by omega, ?_, fun r hr' => ?_⟩
            · show 1 * ((k : Int)).toNat ≤ sizeLine
              omega
            · exact fin k _ _ l r [] _ _ _ _ rfl s2 gdt hl hr' rfl
      · rintro σ H1 ⟨F, y2, y3, y4, y5, y6, rfl, s1, gp, gd, lF, eF⟩
        rw [List.length_map] at eF
        rw [List.drop_of_length_le (by rw [List.length_map]; exact Nat.le_refl _)] at eF
        cases eF
        exact ⟨_, rfl, q d _ hd s1 gd⟩
end
section
variable {P : Program} {w : World} {K : PySem.W.Frag} {mg : Str → Option Value} {base : Heap}
/-! ### the checks -/
def spCheckList (K : PySem.W.Frag) : Sp := fun vs H Q _ => ∃ (a : Addr) (ks : List Int), vs = [.ref a] ∧ SqL K H a (ks.map V.int) ∧ (∀ k ∈ ks, 2 ≤ k) ∧ ∀ H', Same H H' → Q .non H'
theorem ok_checklist {f : Addr} {fd : FuncData} (F : Fun K "check_list" "check_list" s_checklist f fd) (B : Bi mg) : FnOk P w K mg base CX0 1 f fd ["replacements"] (spCheckList K) := by
  refine F.ok sc_checklist (fun vs H Q E h => ?_) (fun cdv A outer s H vs Q E hr h => ?_)
  · obtain ⟨a, ks, rfl, _⟩ := h
    rfl
  · obtain ⟨a, ks, rfl, hS, hk, q⟩ := h
    refine ⟨_, (pss_one (ps_for PassesOwn.never rfl (pi_enum (by rfl) B.n_enumerate (pa_cons (pv 0) pa_nil)) (pg_tup rfl (pgs_cons (pg_name (i := 1) sc_checklist.nd rfl (Or.inl rfl)) (pgs_cons (pg_name (i := 2) sc_checklist.nd rfl (Or.inl rfl)) pgs_nil)))
 (pss_one (ps_if (pt_cmpR op_lt (pv 2) pe_int (nomark _))
 (pss_one ps_never)
 pss_nil)))), ?_⟩
    refine ⟨_, rfl, a, ks.map V.int, rfl, hS, for_it walk_enum (fun i σ H' => Same H H' ∧ ∃ y z, σ = [some (.ref a), y, z]) ⟨Same.refl H, none, none, rfl⟩ (fun i σ H' _ h => h.1.seq hS) ?_ ?_⟩
    · rintro i σ H' v H2 hi ⟨sm, y, z, rfl⟩ ⟨T, x1, x2, rfl, nT, rfl, e1, e2⟩
      obtain ⟨k, hk', rfl⟩ := map_at e2
      cases e1
      refine ⟨T, _, rfl, .inl (.inl upd_same), rfl, _, _, rfl, _, _, rfl, rfl, ?_⟩
      refine ⟨_, rfl, _, _, rfl, rfl, _, rfl, ite2 (fun c => ?_) (fun c => ?_)⟩
      · have := hk k (List.mem_of_getElem? hk')
        have c' : k < 2 := of_decide_eq_true c
        omega
      · exact ⟨sm.trans (same_new nT), _, _, rfl⟩
    · rintro σ H' ⟨sm, y, z, rfl⟩
      exact q H' sm
def spCheckNumber : Sp := fun vs H Q _ => ∃ (n l : Int), vs = [.int n, .int l] ∧ l ≤ n ∧ Q .non H
theorem ok_checknumber {f : Addr} {fd : FuncData} (F : Fun K "check_number" "check_number" s_checknumber f fd) : FnOk P w K mg base CX0 1 f fd ["number", "least"] spCheckNumber := by
  refine F.ok sc_checknumber (fun vs H Q E h => ?_) (fun cdv A outer s H vs Q E hr h => ?_)
  · obtain ⟨n, l, rfl, _⟩ := h
    rfl
  · obtain ⟨n, l, rfl, hl, q⟩ := h
    refine ⟨_, (pss_one (ps_if (pt_cmpR op_lt (pv 0) (pv 1) (nomark _))
 (pss_one ps_never)
 pss_nil)), ?_⟩
    refine ⟨_, rfl, _, rfl, _, _, rfl, rfl, _, rfl, ite2 (fun c => ?_) (fun c => q)⟩
    have c' : n < l := of_decide_eq_true c
    omega
end
section
variable {P : Program} {w : World} {K : PySem.W.Frag} {mg : Str → Option Value} {base : Heap} {c fI : Nat → Addr} {qn : Nat → Str} {cB : Addr}
def spOnceS : Sp := fun vs H Q _ => ∃ (n k : Int), vs = [.int n, .int k] ∧ 2 ≤ k ∧ k < 1073741824 ∧ ∀ H', Same H H' → Q (.int (once n k)) H'
theorem ok_lengthafterone {f : Addr} {fd : FuncData} (F : Fun K "length_after_one" "length_after_one" s_lengthafterone f fd) (B : Bi mg) : FnOk P w K mg base CX0 1 f fd ["length", "number"] spOnceS := by
  refine F.ok sc_lengthafterone (fun vs H Q E h => ?_) (fun cdv A outer s H vs Q E hr h => ?_)
  · obtain ⟨n, k, rfl, _⟩ := h
    rfl
  · obtain ⟨n, k, rfl, k1, k2, q⟩ := h
    refine ⟨_, (pss_cons (ps_asg (pe_callB (id := "divmod") call_divmod (by rfl) B.n_divmod (by decide +kernel) (pa_cons (pv 0) (pa_cons (pv 1) pa_nil))) (pg_tup rfl (pgs_cons (pg_name (i := 2) sc_lengthafterone.nd rfl (Or.inl rfl)) (pgs_cons (pg_name (i := 3) sc_lengthafterone.nd rfl (Or.inl rfl)) pgs_nil))))
 (pss_one (ps_ret (pe_op op_add (pv 2) (pv 3))))), ?_⟩
    refine ⟨_, rfl, _, rfl, n, k, rfl, ⟨by omega, k2⟩, fun p hp => ?_⟩
    exact ⟨p, _, rfl, .inl (.inl upd_same), rfl, _, _, rfl, _, _, rfl, rfl, _, rfl, _, rfl, _, _, rfl, rfl, q _ (same_new hp)⟩
def spSqzS (K : PySem.W.Frag) : Sp := fun vs H Q _ => ∃ (n : Int) (a : Addr) (ks : List Int), vs = [.int n, .ref a] ∧ SqL K H a (ks.map V.int) ∧ Rpl ks ∧ ∀ H', Same H H' → Q (.int (sq n ks)) H'
theorem ok_lengthafter {f : Addr} {fd : FuncData} (F : Fun K "length_after" "length_after" s_lengthafter f fd) (D_lengthafterone : Df P w K mg base 1 "length_after_one" ["length", "number"] spOnceS) : FnOk P w K mg base CX0 2 f fd ["length", "replacements"] (spSqzS K) := by
  refine F.ok sc_lengthafter (fun vs H Q E h => ?_) (fun cdv A outer s H vs Q E hr h => ?_)
  · obtain ⟨n, a, ks, rfl, _⟩ := h
    rfl
  · obtain ⟨n, a, ks, rfl, hS, hk, q⟩ := h
    refine ⟨_, (pss_cons (ps_set (i := 2) sc_lengthafter.nd rfl (Or.inl rfl) (pv 0))
 (pss_cons (ps_for PassesOwn.never rfl (pi_list (pv 1)) (pg_name (i := 3) sc_lengthafter.nd rfl (Or.inl rfl))
 (pss_one (ps_set (i := 2) sc_lengthafter.nd rfl (Or.inl rfl) (pe_callD D_lengthafterone (hr.mono (by omega)) (by rfl) (pa_cons (pv 2) (pa_cons (pv 3) pa_nil))))))
 (pss_one (ps_ret (pv 2))))), ?_⟩
    refine ⟨_, rfl, _, rfl, a, rfl, ⟨_, hS⟩, for_list (K := K) (a := a) (xs := ks.map V.int) (fun i σ H' => Same H H' ∧ ∃ y, σ = [some (.int n), some (.ref a), some (.int (sq n (ks.take i))), y]) ⟨Same.refl H, none, rfl⟩ (fun i σ H' _ h => h.1.seq hS) ?_ ?_⟩
    · rintro i x σ H' hi ⟨sm, y, rfl⟩
      obtain ⟨k, e, rfl⟩ := map_at hi
      have hm := hk k (List.mem_of_getElem? e)
      refine ⟨_, rfl, _, rfl, _, k, rfl, hm.1, hm.2, fun H'' s2 => ⟨sm.trans s2, some (.int k), ?_⟩⟩
      rw [List.take_add_one, e]
      show _ = [_, _, some (V.int (sq n (ks.take i ++ [k]))), _]
      rw [sq_concat]
      rfl
    · rintro σ H' ⟨sm, y, rfl⟩
      rw [List.length_map, List.take_length]
      exact ⟨_, rfl, q _ sm⟩
end
section
variable {P : Program} {w : World} {K : PySem.W.Frag} {mg : Str → Option Value} {base : Heap}
def spSqueezed (K : PySem.W.Frag) : Sp := fun vs H Q _ => ∃ (n : Int) (a : Addr) (ks : List Int), vs = [.int n, .ref a] ∧ SqL K H a (ks.map V.int) ∧ 0 ≤ n ∧ Rpl ks ∧ ∀ H', Same H H' → Q (.int (sq n ks)) H'
theorem ok_squeezed {f : Addr} {fd : FuncData} (F : Fun K "squeezed" "squeezed" s_squeezed f fd) (D_checknumber : Df P w K mg base 1 "check_number" ["number", "least"] spCheckNumber) (D_checklist : Df P w K mg base 1 "check_list" ["replacements"] (spCheckList K))
    (D_lengthafter : Df P w K mg base 2 "length_after" ["length", "replacements"] (spSqzS K)) : FnOk P w K mg base CX0 3 f fd ["length", "replacements"] (spSqueezed K) := by
  refine F.ok sc_squeezed (fun vs H Q E h => ?_) (fun cdv A outer s H vs Q E hr h => ?_)
  · obtain ⟨n, a, ks, rfl, _⟩ := h
    rfl
  · obtain ⟨n, a, ks, rfl, hS, h0, hk, q⟩ := h
    refine ⟨_, (pss_cons (ps_expr (pe_callD D_checknumber (hr.mono (by omega)) (by rfl) (pa_cons (pv 0) (pa_cons pe_int pa_nil))))
 (pss_cons (ps_expr (pe_callD D_checklist (hr.mono (by omega)) (by rfl) (pa_cons (pv 1) pa_nil)))
 (pss_one (ps_ret (pe_callD D_lengthafter (hr.mono (by omega)) (by rfl) (pa_cons (pv 0) (pa_cons (pv 1) pa_nil))))))), ?_⟩
    refine ⟨_, rfl, n, 0, rfl, h0, ?_⟩
    refine ⟨_, rfl, a, ks, rfl, hS, hk.two, fun H1 s1 => ?_⟩
    exact ⟨_, rfl, _, rfl, n, a, ks, rfl, s1.seq hS, hk, fun H2 s2 => q _ (s1.trans s2)⟩
end
theorem z1 : 1 ≤ sizeLine := Nat.le_of_lt (small1000 (by decide))
section
variable {P : Program} {w : World} {K : PySem.W.Frag} {mg : Str → Option Value} {base : Heap}
def spCheckChr : Sp := fun vs H Q _ => ∃ b : Str, vs = [.str b] ∧ b.length = 1 ∧ Q .non H
theorem ok_checkcharacter {f : Addr} {fd : FuncData} (F : Fun K "check_character" "check_character" s_checkcharacter f fd) (B : Bi mg) : FnOk P w K mg base CX0 1 f fd ["character"] spCheckChr := by
  refine F.ok sc_checkcharacter (fun vs H Q E h => ?_) (fun cdv A outer s H vs Q E hr h => ?_)
  · obtain ⟨b, rfl, _⟩ := h
    rfl
  · obtain ⟨b, rfl, hb, q⟩ := h
    refine ⟨_, (pss_one (ps_if (PW.pt (pw_or (pt_not (pt_val (pe_callB (id := "isinstance") call_isi (by rfl) B.n_isinstance (by decide +kernel) (pa_cons (pv 0) (pa_cons (pe_bltn (v := .ty "str") (by rfl) B.n_str (by decide +kernel) rfl) pa_nil))))) (pw_or1 (pt_cmpR op_ne (pe_callB (id := "len") call_len_str (by rfl) B.n_len (by decide +kernel) (pa_cons (pv 0) pa_nil)) pe_int (nomark _)))))
 (pss_one ps_never)
 pss_nil)), ?_⟩
    have h1 : (b.length : Int) = 1 := by omega
    refine ⟨_, rfl, _, _, _, _, true, rfl, .ty _, (.base (.str b)), kit_ty (by decide +kernel), _, rfl, iteF ?_⟩
    refine ⟨_, rfl, b, rfl, by rw [hb]; exact z1, rfl, _, rfl, ?_⟩
    rw [h1, show (!decide (V.int 1 = V.int 1)) = false by rw [decide_eq_true rfl]; rfl]
    exact iteF q
/-- how often a character stands before each other one, and at the end -/
def lbw (b : Nat) : List Nat → Int → List Int
  | [], r => [r]
  | x :: xs, r => if x = b then lbw b xs (r + 1) else r :: lbw b xs 0
theorem lbw_cons (b x : Nat) (xs : List Nat) (r : Int) : lbw b (x :: xs) r = if x = b then lbw b xs (r + 1) else r :: lbw b xs 0 := rfl
theorem lbw_len (b : Nat) : ∀ (xs : List Nat) (r : Int), (lbw b xs r).length = (xs.filter fun x => decide (x ≠ b)).length + 1
  | [], _ => rfl
  | x :: xs, r => by
    unfold lbw
    by_cases c : x = b
    · rw [if_pos c, lbw_len b xs, List.filter_cons, if_neg (by rw [decide_eq_false (fun z => z c)]; exact Bool.false_ne_true)]
    · rw [if_neg c, List.length_cons, lbw_len b xs, List.filter_cons, if_pos (decide_eq_true c)]
      rfl
theorem lbw_mem (b : Nat) : ∀ (xs : List Nat) (r : Int), 0 ≤ r → ∀ k ∈ lbw b xs r, 0 ≤ k ∧ k ≤ r + xs.length
  | [], r, h, k, hk => by
    rw [List.mem_singleton.mp hk]
    exact ⟨h, by simp⟩
  | x :: xs, r, h, k, hk => by
    unfold lbw at hk
    rw [List.length_cons]
    by_cases c : x = b
    · rw [if_pos c] at hk
      have := lbw_mem b xs (r + 1) (by omega) k hk
      omega
    · rw [if_neg c] at hk
      rcases List.mem_cons.mp hk with e | hk
      · omega
      · have := lbw_mem b xs 0 (by decide) k hk
        omega
def spBetween : Sp := fun vs H Q _ => ∃ (x : Str) (b : Nat), vs = [.str x, .str ⟨#[b]⟩] ∧ x.length ≤ 4000 ∧ ∀ p H', H p = none → Same H H' → H' p = some (.lst ((lbw b x.cps.toList 0).map V.int)) → Q (.ref p) H'
theorem ok_between {f : Addr} {fd : FuncData} (F : Fun K "lengths_between" "lengths_between" s_lengthsbetween f fd) (B : Bi mg) : FnOk P w K mg base CX0 1 f fd ["text", "character"] spBetween := by
  refine F.ok sc_lengthsbetween (fun vs H Q E h => ?_) (fun cdv A outer s H vs Q E hr h => ?_)
  · obtain ⟨x, b, rfl, _⟩ := h
    rfl
  · obtain ⟨x, b, rfl, hx, q⟩ := h
    refine ⟨_, (pss_cons (ps_set (i := 2) sc_lengthsbetween.nd rfl (Or.inl rfl) (pe_lst pa_nil))
 (pss_cons (ps_set (i := 3) sc_lengthsbetween.nd rfl (Or.inl rfl) pe_int)
 (pss_cons (ps_for PassesOwn.never rfl (pi_str (pv 0)) (pg_name (i := 4) sc_lengthsbetween.nd rfl (Or.inl rfl))
 (pss_one (ps_if (pt_cmpR op_eq (pv 4) (pv 1) (nomark _))
 (pss_one (ps_aug (i := 3) sc_lengthsbetween.nd rfl (Or.inl rfl) pe_int ip_add))
 (pss_cons (ps_expr (pe_bm PySem.F.plainAttrs_list PySem.F.slot_list_append PySem.F.type_list_append mt_append (pv 2) (pa_cons (pv 3) pa_nil)))
 (pss_one (ps_set (i := 3) sc_lengthsbetween.nd rfl (Or.inl rfl) pe_int))))))
 (pss_cons (ps_expr (pe_bm PySem.F.plainAttrs_list PySem.F.slot_list_append PySem.F.type_list_append mt_append (pv 2) (pa_cons (pv 3) pa_nil)))
 (pss_one (ps_ret (pv 2))))))), ?_⟩
    have szl : sizeLine = 16777216 := sizeLine_eq
    refine ⟨Nat.zero_le _, fun p hp => ?_⟩
    have tl : x.cps.toList.length = x.length := rfl
    have fin : ∀ (H' : Hp) (acc : List Int) (r : Int) (rest : List Nat), Same H (wo H' p) → H' p = some (.lst (acc.map V.int)) → acc ++ lbw b rest r = lbw b x.cps.toList 0 → rest = [] → acc.length < sizeLine ∧ Q (.ref p) (upd H' p (.lst (acc.map V.int ++ [.int r]))) := fun H' acc r rest s1 g e er => by
      subst er
      have e' : acc ++ [r] = lbw b x.cps.toList 0 := e
      have l1 := congrArg List.length e'
      have l2 := lbw_len b x.cps.toList 0
      have l3 := List.length_filter_le (fun x => decide (x ≠ b)) x.cps.toList
      rw [List.length_append, List.length_singleton] at l1
      refine ⟨by omega, q p _ hp (fun a o e => ?_) ?_⟩
      · have ne : a ≠ p := fun z => by rw [z, hp] at e; cases e
        rw [upd_ne ne]
        exact wo_same _ _ (s1 _ _ e)
      · rw [upd_same, ← e', List.map_append]
        rfl
    refine ⟨_, rfl, x, rfl, for_it walk_str (fun i σ H' => ∃ acc r y, σ = [some (.str x), some (.str ⟨#[b]⟩), some (.ref p), some (.int r), y] ∧ Same H (wo H' p) ∧ H' p = some (.lst (acc.map V.int)) ∧ acc ++ lbw b (x.cps.toList.drop i) r = lbw b x.cps.toList 0)
      ⟨[], 0, none, rfl, by rw [wo_upd]; exact same_wo (Same.refl _) hp, upd_same, rfl⟩ (fun _ _ _ _ _ => trivial) ?_ ?_⟩
    · rintro i v σ H1 H2 hi ⟨acc, r, y, rfl, s1, g, e⟩ ⟨rfl, ch, ec, rfl⟩
      have ec' : x.cps.toList[i]? = some ch := by rw [Array.getElem?_toList]; exact ec
      have ed : x.cps.toList.drop i = ch :: x.cps.toList.drop (i + 1) := by
        obtain ⟨_, ee⟩ := List.getElem?_eq_some_iff.mp ec'
        rw [List.drop_eq_getElem_cons (by exact hi), ee]
      rw [ed] at e
      refine ⟨_, rfl, _, rfl, rfl, _, rfl, ite2 (fun c1 => ?_) (fun c1 => ?_)⟩
      · have cb : ch = b := by
          have h := of_decide_eq_true c1
          injection h with h
          injection h with h
          injection h with h
          injection h
        rw [lbw_cons, if_pos cb] at e
        exact ⟨_, rfl, _, _, rfl, rfl, acc, r + 1, _, rfl, s1, g, e⟩
      · have cb : ch ≠ b := fun z => c1 (by rw [z]; exact decide_eq_true rfl)
        rw [lbw_cons, if_neg cb] at e
        have l1 := congrArg List.length e
        rw [List.length_append, List.length_cons, lbw_len, lbw_len] at l1
        have l3 := List.length_filter_le (fun x => decide (x ≠ b)) x.cps.toList
        refine ⟨_, rfl, .inl ⟨rfl, _, SqL.of g⟩, _, rfl, p, _, _, rfl, rfl, g, by rw [List.length_map]; omega, acc ++ [r], 0, _, rfl, ?_, ?_, ?_⟩
        · rw [wo_upd]
          exact s1
        · rw [upd_same, List.map_append]
          rfl
        · rw [List.append_assoc]
          exact e
    · rintro σ H' ⟨acc, r, y, rfl, s1, g, e⟩
      obtain ⟨l, q1⟩ := fin H' acc r _ s1 g e (by simp)
      exact ⟨_, rfl, .inl ⟨rfl, _, SqL.of g⟩, _, rfl, p, _, _, rfl, rfl, g, by rw [List.length_map]; exact l, _, rfl, q1⟩
end
end Sq
set_option Elab.async false
set_option linter.all false
set_option maxRecDepth 100000
set_option maxHeartbeats 4000000
set_option exponentiation.threshold 2000
namespace Sq
open PySem PySem.Spec PyProof.Rows L2
open StrLaws (replL replL_nil replL_hit replL_miss replace_list)
def kvF (xs : List Int) (f : Int → Int) : List (Key × V) := xs.map fun x => (.inl x, .int (f x))
theorem valV_kvF (f : Int → Int) (k : Int) : ∀ xs : List Int, valV (kvF xs f) (.inl k) = if k ∈ xs then some (.int (f k)) else none
  | [] => rfl
  | x :: xs => by
    show valV ((.inl x, .int (f x)) :: kvF xs f) (.inl k) = _
    by_cases c : x = k
    · subst c
      rw [valV_pos rfl, if_pos (List.mem_cons_self ..)]
    · rw [valV_neg (by intro z; cases z; exact c rfl), valV_kvF f k xs]
      by_cases m : k ∈ xs
      · rw [if_pos m, if_pos (List.mem_cons_of_mem _ m)]
      · rw [if_neg m, if_neg (by
          intro z
          rcases List.mem_cons.mp z with z | z
          · exact c z.symm
          · exact m z)]
theorem kvF_put (f : Int → Int) {xs : List Int} {y : Int} (h : y ∉ xs) : putK (kvF xs f) (.inl y) (.int (f y)) = kvF (xs ++ [y]) f := by
  rw [putK_new _ (by rw [valV_kvF, if_neg h])]
  unfold kvF
  rw [List.map_append]
  rfl
theorem nodup_take {xs : List Int} (h : xs.Nodup) {i : Nat} {y : Int} (e : xs[i]? = some y) : y ∉ xs.take i := fun z => by
  have h2 : (xs.take i ++ xs.drop i).Nodup := by rw [List.take_append_drop]; exact h
  have m : y ∈ xs.drop i := by
    obtain ⟨hi, ei⟩ := List.getElem?_eq_some_iff.mp e
    rw [List.drop_eq_getElem_cons hi, ei]
    exact List.mem_cons_self ..
  exact (List.nodup_append.mp h2).2.2 y z y m rfl
theorem once_le_self {k n : Int} (hk : 2 ≤ k) (h0 : 0 ≤ n) : once n k ≤ n := by
  unfold once
  have a := Int.mul_ediv_add_emod n k
  have b : 0 ≤ n / k := Int.ediv_nonneg h0 (by omega)
  have d : n / k ≤ k * (n / k) := by
    have := Int.mul_le_mul_of_nonneg_right (show (1 : Int) ≤ k by omega) b
    omega
  omega
theorem sq_le_self : ∀ (ks : List Int) (n : Int), (∀ k ∈ ks, 2 ≤ k) → 0 ≤ n → sq n ks ≤ n
  | [], n, _, _ => Int.le_refl n
  | k :: r, n, h, h0 => by
    have h2 := h k List.mem_cons_self
    have i := sq_le_self r (once n k) (fun x hx => h x (List.mem_cons_of_mem _ hx)) (once_nonneg h2 h0)
    have j := once_le_self h2 h0
    show sq (once n k) r ≤ n
    omega
/-- a text with all runs of b squeezed; r: how many of b stand before -/
def sqT (b : Nat) (ks : List Int) : List Nat → Int → List Nat
  | [], r => List.replicate (sq r ks).toNat b
  | x :: xs, r => if x = b then sqT b ks xs (r + 1) else List.replicate (sq r ks).toNat b ++ x :: sqT b ks xs 0
theorem sqT_cons (b : Nat) (ks : List Int) (x : Nat) (xs : List Nat) (r : Int) : sqT b ks (x :: xs) r = if x = b then sqT b ks xs (r + 1) else List.replicate (sq r ks).toNat b ++ x :: sqT b ks xs 0 := rfl
/-- the others, each as a text, and an empty one -/
def oth (b : Nat) (xs : List Nat) : List (List Nat) := (xs.filter fun x => decide (x ≠ b)).map (fun c => [c]) ++ [[]]
theorem oth_len (b : Nat) (xs : List Nat) : (oth b xs).length = (xs.filter fun x => decide (x ≠ b)).length + 1 := by
  unfold oth
  rw [List.length_append, List.length_map]
  rfl
theorem sqT_zip (b : Nat) (ks : List Int) : ∀ (xs : List Nat) (r : Int), (((lbw b xs r).zip (oth b xs)).map fun p => List.replicate (sq p.1 ks).toNat b ++ p.2).flatten = sqT b ks xs r
  | [], r => by
    show (List.replicate (sq r ks).toNat b ++ []) ++ [] = List.replicate (sq r ks).toNat b
    rw [List.append_nil, List.append_nil]
  | x :: xs, r => by
    rw [lbw_cons, sqT_cons]
    by_cases c : x = b
    · rw [if_pos c, if_pos c]
      have e : oth b (x :: xs) = oth b xs := by
        unfold oth
        rw [List.filter_cons, if_neg (by rw [decide_eq_false (fun z => z c)]; exact Bool.false_ne_true)]
      rw [e]
      exact sqT_zip b ks xs (r + 1)
    · rw [if_neg c, if_neg c]
      have e : oth b (x :: xs) = [x] :: oth b xs := by
        unfold oth
        rw [List.filter_cons, if_pos (decide_eq_true c)]
        rfl
      rw [e, List.zip_cons_cons, List.map_cons, List.flatten_cons, sqT_zip b ks xs 0, List.append_assoc]
      rfl
theorem repl_one (b : Nat) : ∀ l : List Nat, replL [b] [] l = l.filter fun x => decide (x ≠ b)
  | [] => replL_nil
  | x :: l => by
    by_cases c : x = b
    · rw [replL_hit (List.cons_ne_nil b []) (by rw [c]; rfl), List.filter_cons, if_neg (by rw [decide_eq_false (fun z => z c)]; exact Bool.false_ne_true)]
      exact repl_one b l
    · rw [replL_miss (y := [b]) (z := []) (c := x) (r := l) (fun z => c (Option.some.inj (congrArg List.head? z))), List.filter_cons, if_pos (decide_eq_true c), repl_one b l]
theorem repl_chr (x : Str) (b : Nat) : (Txt.replace x ⟨#[b]⟩ "").cps.toList = x.cps.toList.filter fun y => decide (y ≠ b) := by
  rw [replace_list (by exact Nat.le_refl 1)]
  exact repl_one b _
theorem oth_short {b : Nat} {xs o : List Nat} (h : o ∈ oth b xs) : o.length ≤ 1 := by
  unfold oth at h
  rcases List.mem_append.mp h with z | z
  · obtain ⟨c, _, rfl⟩ := List.mem_map.mp z
    exact Nat.le_refl _
  · rw [List.mem_singleton.mp z]
    exact Nat.zero_le _
theorem joinL_flat : ∀ ps : List (List Nat), TL.joinL [] ps = ps.flatten
  | [] => rfl
  | [p] => (List.append_nil p).symm
  | p :: q :: r => by
    show p ++ ([] ++ TL.joinL [] (q :: r)) = p ++ (q :: r).flatten
    rw [joinL_flat (q :: r), List.nil_append]
theorem mul_fold (b : Nat) : ∀ (k : Nat) (acc : Array Nat), ((List.replicate k #[b]).foldl (· ++ ·) acc).toList = acc.toList ++ List.replicate k b
  | 0, acc => (List.append_nil _).symm
  | k + 1, acc => by
    rw [List.replicate_succ, List.foldl_cons, mul_fold b k, Array.toList_append, List.append_assoc]
    rfl
theorem mul_chr (b : Nat) {n : Int} (h0 : 0 ≤ n) : _root_.PySem.Txt.mul ⟨#[b]⟩ n = SX.S (List.replicate n.toNat b) := by
  unfold _root_.PySem.Txt.mul
  split
  · rw [show n.toNat = 0 by omega]
    rfl
  · split
    · rename_i h1 h2
      have e : n = 1 := by
        rcases Bool.or_eq_true_iff.mp h2 with z | z
        · exact eq_of_beq z
        · cases z
      rw [e]
      rfl
    · refine TL.ext_tl ?_
      show ((List.replicate n.toNat #[b]).foldl (· ++ ·) #[]).toList = _
      rw [mul_fold]
      rfl
theorem mul_chr_ok (b : Nat) {n : Int} (h0 : 0 ≤ n) (h1 : n ≤ 4000) : _root_.PySem.MulOk ⟨#[b]⟩ n := by
  have l1 : (⟨#[b]⟩ : Str).length = 1 := rfl
  unfold _root_.PySem.MulOk
  rw [l1]
  refine ⟨?_, fun c _ => ?_, fun c _ => ?_⟩
  · rw [decide_eq_false (by omega), decide_eq_false (by omega)]
    rfl
  · have : (1 : Int) ≤ (2 ^ 63 - 1) / n := Int.le_ediv_of_mul_le (by omega) (by omega)
    show ¬ ((1 : Int) > (2 ^ 63 - 1) / n)
    omega
  · have szl : sizeLine = 16777216 := sizeLine_eq
    exact decide_eq_false (by omega)
theorem sqT_len {b : Nat} {ks : List Int} (h : ∀ k ∈ ks, 2 ≤ k) : ∀ (xs : List Nat) (r : Int), 0 ≤ r → ((sqT b ks xs r).length : Int) ≤ r + xs.length
  | [], r, h0 => by
    show ((List.replicate (sq r ks).toNat b).length : Int) ≤ r + 0
    rw [List.length_replicate]
    have := sq_le_self ks r h h0
    omega
  | x :: xs, r, h0 => by
    rw [sqT_cons, List.length_cons]
    by_cases c : x = b
    · rw [if_pos c]
      have := sqT_len (b := b) h xs (r + 1) (by omega)
      omega
    · rw [if_neg c, List.length_append, List.length_replicate, List.length_cons]
      have a := sq_le_self ks r h h0
      have b := sqT_len (b := b) h xs 0 (by decide)
      omega
theorem sq_low : ∀ {ks : List Int} (n : Int), (∀ k ∈ ks, 2 ≤ k) → 0 ≤ n → 0 ≤ sq n ks
  | [], n, _, h0 => h0
  | k :: r, n, h, h0 => sq_low (ks := r) (once n k) (fun x hx => h x (List.mem_cons_of_mem _ hx)) (once_nonneg (h k List.mem_cons_self) h0)
section
variable {P : Program} {w : World} {K : PySem.W.Frag} {mg : Str → Option Value} {base : Heap}
def spSqT (K : PySem.W.Frag) : Sp := fun vs H Q _ => ∃ (x : Str) (b : Nat) (a : Addr) (ks : List Int), vs = [.str x, .str ⟨#[b]⟩, .ref a] ∧ SqL K H a (ks.map V.int) ∧ Rpl ks ∧ x.length ≤ 3000 ∧ ∀ H', Same H H' → Q (.str ⟨(sqT b ks x.cps.toList 0).toArray⟩) H'
theorem ok_squeezetext {f : Addr} {fd : FuncData} (F : Fun K "squeeze_text" "squeeze_text" s_squeezetext f fd) (B : Bi mg) (D_checkcharacter : Df P w K mg base 1 "check_character" ["character"] spCheckChr) (D_checklist : Df P w K mg base 1 "check_list" ["replacements"] (spCheckList K))
    (D_lengthsbetween : Df P w K mg base 1 "lengths_between" ["text", "character"] spBetween) (D_lengthafter : Df P w K mg base 2 "length_after" ["length", "replacements"] (spSqzS K)) : FnT P w K mg base 4 f fd ["text", "character", "replacements"] 1 (spSqT K) := by
  refine fnt_of F sc_squeezetext (fun vs H Q E h => ?_) (y := "character") rfl rfl (fun cdv A outer s H us vs Q c u0 hr h rv tkn hu Ce => ?_)
  · obtain ⟨x, b, a, ks, rfl, _⟩ := h
    rfl
  · obtain ⟨x, b, a, ks, rfl, hS, hk, hx, q⟩ := h
    obtain ⟨tb, rfl⟩ : ∃ tb, u0 = .str ⟨#[b]⟩ tb := by
      obtain ⟨u, e, t, et⟩ := rv.get (i := 1) rfl
      rw [e] at hu
      exact ⟨t, (Option.some.inj hu).symm.trans et⟩
    have good := tkn _ _ hu rfl
    refine ⟨_, jrs_cons (jst_expr (je_callD Ce D_checkcharacter (hr.mono (by omega)) (by rfl) (ja_cons (jv 1) ja_nil)))
      (jrs_cons (jst_expr (je_callD Ce D_checklist (hr.mono (by omega)) (by rfl) (ja_cons (jv 2) ja_nil)))
      (jrs_cons (jst_set (i := 3) Ce (by decide) sc_squeezetext.nd rfl (Or.inl rfl) (je_callD Ce D_lengthsbetween (hr.mono (by omega)) (by rfl) (ja_cons (jv 0) (ja_cons (jv 1) ja_nil))))
      (jrs_cons (jst_set (i := 4) Ce (by decide) sc_squeezetext.nd rfl (Or.inr rfl) (je_dc Ce (own := [("length", 6)]) (g := gName 6) rfl sc_squeezetext.nd (ji_list (je_callB (id := "sorted") (r := rSortedSetI w) (cj_sortedSetI rfl) (by rfl) B.n_sorted (by decide +kernel) (ja_cons (je_callTy (T := "set") (r := rSetL K w) (cj_setL rfl) (by rfl) B.n_set (by decide +kernel) (ja_cons (jv 3) ja_nil)) ja_nil)))
        (blkOk_by (own := [("length", 6)]) (N := ["text", "character", "replacements", "lengths", "after", "others", "length", "other"]) (sc := defScope s_squeezetext) (by decide +kernel)) (fun _ _ _ _ _ => (pg_name (i := 6) sc_squeezetext.nd rfl (Or.inl rfl))) (fun _ _ _ _ _ => pts_nil) (fun _ _ _ _ _ => (pv 6)) (fun _ _ _ _ _ => (pe_callD D_lengthafter (hr.mono (by omega)) (by rfl) (pa_cons (pv 6) (pa_cons (pv 2) pa_nil))))))
      (jrs_set (i := 5) sc_squeezetext.nd rfl (Or.inl rfl) (jr_op op_cat (jr_callTy (T := "list") (call_listStr rfl) (by rfl) B.n_list (by decide +kernel) (jr_rep (i := 0) rfl (Or.inl rfl) rfl Ce.is good rfl)) (pe_lst (pa_cons pe_str pa_nil)))
      (pss_one (ps_ret (pe_join pe_str (pe_lc (own := [("length", 6), ("other", 7)]) (g := gTup K 2 (gCons (gName 6) (gCons (gName 7) gNil))) rfl sc_squeezetext.nd (pi_zip (by rfl) B.n_zip (pa_cons (pv 3) (pa_cons (pv 5) pa_nil))) (blkOk_by (own := [("length", 6), ("other", 7)]) (N := ["text", "character", "replacements", "lengths", "after", "others", "length", "other"]) (sc := defScope s_squeezetext) (by decide +kernel)) (fun _ _ _ _ _ => (pg_tup rfl (pgs_cons (pg_name (i := 6) sc_squeezetext.nd rfl (Or.inl rfl)) (pgs_cons (pg_name (i := 7) sc_squeezetext.nd rfl (Or.inl rfl)) pgs_nil)))) (fun _ _ _ _ _ => pts_nil) (fun _ _ _ _ _ => (pe_op op_add_str (pe_op op_mulS (pv 1) (pe_dget (hu_of hr) (pv 4) (pv 6) (fun _ _ => rfl))) (pv 7))))))))))), ?_⟩
    have szl : sizeLine = 16777216 := sizeLine_eq
    have xl : x.cps.toList.length = x.length := rfl
    obtain ⟨ls, els⟩ : ∃ ls, ls = lbw b x.cps.toList 0 := ⟨_, rfl⟩
    have lsl : ls.length = (x.cps.toList.filter fun x => decide (x ≠ b)).length + 1 := by rw [els, lbw_len]
    have fl := List.length_filter_le (fun x => decide (x ≠ b)) x.cps.toList
    have lsm : ∀ k ∈ ls, 0 ≤ k ∧ k ≤ x.length := fun k hk => by
      rw [els] at hk
      have := lbw_mem b _ 0 (by decide) k hk
      omega
    refine ⟨_, rfl, ⟨#[b]⟩, rfl, rfl, ?_⟩
    refine ⟨_, rfl, a, ks, rfl, hS, hk.two, fun H1 s1 => ?_⟩
    refine ⟨_, rfl, _, rfl, x, b, rfl, by omega, fun p H2 hp s2 gp => ?_⟩
    rw [← els] at gp
    refine ⟨_, rfl, p, ls, rfl, SqL.of gp, by omega, fun ps m hps lm im => ?_⟩
    refine ⟨ps, _, m, rfl, upd_same, by omega, fun ns pl asc mem len hpl => ?_⟩
    have s3 := (same_new (o := SetO w ps (fun j => decide (j ∈ ls)) m) hps).trans (same_new (o := .lst (ns.map V.int)) hpl)
    have hS3 := s3.seq (s2.seq (s1.seq hS))
    have gpl := upd_same (H := upd H2 ps (SetO w ps (fun j => decide (j ∈ ls)) m)) (a := pl) (o := .lst (ns.map V.int))
    have gp3 := s3 _ _ gp
    generalize upd (upd H2 ps (SetO w ps (fun j => decide (j ∈ ls)) m)) pl (.lst (ns.map V.int)) = H3 at s3 hS3 gpl gp3
    refine ⟨pl, rfl, ⟨_, SqL.of gpl⟩, fun D hD => walkL (K := K) (a := pl) (xs := ns.map V.int) (fun i H' => Same H3 H' ∧ H' D = some (.dK (kvF (ns.take i) fun l => sq l ks))) ⟨same_new hD, upd_same⟩ (fun i H' _ h => SqL.of (h.1 _ _ gpl)) ?_ ?_⟩
    · rintro i v H4 hi ⟨s4, gD⟩
      obtain ⟨y, hy, rfl⟩ := map_at hi
      have il := (List.getElem?_eq_some_iff.mp hy).1
      refine ⟨rfl, _, rfl, _, rfl, _, rfl, y, a, ks, rfl, s4.seq hS3, hk, fun H5 s5 => ⟨_, .inl y, rfl, s5 _ _ gD, ?_, fun c o e => ?_, ?_⟩⟩
      · unfold kvF
        rw [List.length_map, List.length_take]
        omega
      · rw [upd_ne (ne_of_none e hD)]
        exact s5 _ _ (s4 _ _ e)
      · rw [upd_same, kvF_put (fun l => sq l ks) (nodup_take (asc_nodup asc) hy), List.take_add_one, hy]
        rfl
    · rintro H4 ⟨s4, gD⟩
      rw [List.length_map, List.take_length] at gD
      have gp4 := s4 _ _ gp3
      have look : ∀ l ∈ ls, valV (kvF ns fun l => sq l ks) (.inl l) = some (.int (sq l ks)) := fun l hl => by
        rw [valV_kvF, if_pos ((mem l).mpr (decide_eq_true hl))]
      obtain ⟨os, eos⟩ : ∃ os, os = oth b x.cps.toList := ⟨_, rfl⟩
      have osl : os.length = ls.length := by rw [eos, oth_len, lsl]
      refine ⟨x, rfl, by show x.length + (x.length + 1) * 0 ≤ 16777216; omega, ?_⟩
      have er := repl_chr x b
      refine ⟨_, rfl, ?_, fun q1 hq1 => ?_⟩
      · show (Txt.replace x ⟨#[b]⟩ "").cps.toList.length ≤ sizeLine
        exact Nat.le_trans (Nat.le_of_eq (congrArg List.length er)) (Nat.le_trans fl (by omega))
      have sg : signsV (Txt.replace x ⟨#[b]⟩ "") = (x.cps.toList.filter fun y => decide (y ≠ b)).map fun c => V.str ⟨#[c]⟩ := by
        unfold signsV
        rw [← er]
      have sl : (x.cps.toList.filter fun y => decide (y ≠ b)).length + 1 ≤ sizeLine := by
        have := fl
        omega
      have eo : ((x.cps.toList.filter fun y => decide (y ≠ b)).map fun c => V.str ⟨#[c]⟩) ++ [V.str ""] = (os.map SX.S).map V.str := by
        rw [eos]
        unfold oth
        rw [List.map_append, List.map_append, List.map_map, List.map_map]
        rfl
      refine ⟨z1, fun q2 hq2 => ⟨q1, q2, (x.cps.toList.filter fun y => decide (y ≠ b)).map fun c => V.str ⟨#[c]⟩, [V.str ""], rfl, rfl, ?_, upd_same, by rw [List.length_map]; exact sl, fun r hr => ?_⟩⟩
      · refine same_new hq2 _ _ ?_
        rw [upd_same, sg]
      have s5 := ((same_new (o := .lst (signsV (Txt.replace x ⟨#[b]⟩ ""))) hq1).trans (same_new (o := .lst [V.str ""]) hq2)).trans (same_new (o := .lst (((x.cps.toList.filter fun y => decide (y ≠ b)).map fun c => V.str ⟨#[c]⟩) ++ [V.str ""])) hr)
      have gr := upd_same (H := upd (upd H4 q1 (.lst (signsV (Txt.replace x ⟨#[b]⟩ "")))) q2 (.lst [V.str ""])) (a := r) (o := .lst (((x.cps.toList.filter fun y => decide (y ≠ b)).map fun c => V.str ⟨#[c]⟩) ++ [V.str ""]))
      generalize upd (upd (upd H4 q1 (.lst (signsV (Txt.replace x ⟨#[b]⟩ "")))) q2 (.lst [V.str ""])) r (.lst (((x.cps.toList.filter fun y => decide (y ≠ b)).map fun c => V.str ⟨#[c]⟩) ++ [V.str ""])) = H5 at s5 gr
      rw [eo] at gr
      have gp5 := s5 _ _ gp4
      have gD5 := s5 _ _ gD
      obtain ⟨f, ef⟩ : ∃ f : Int × List Nat → List Nat, f = fun p => List.replicate (sq p.1 ks).toNat b ++ p.2 := ⟨_, rfl⟩
      have zl : (ls.zip os).length = ls.length := by rw [List.length_zip, osl, Nat.min_self]
      refine ⟨⟨_, rfl⟩, _, rfl, _, rfl, p, r, ls.map V.int, (os.map SX.S).map V.str, rfl, SqL.of gp5, SqL.of gr, fun E hE => lc_it (walk_zip (K := K) (a := p) (b := r) (xs := ls.map V.int) (ys := (os.map SX.S).map V.str) (n := ls.length) (by rw [List.length_map, List.length_map, List.length_map, osl, Nat.min_self]))
        (fun i H' => Same H5 (wo H' E) ∧ H' E = some (.lst (((((ls.zip os).take i).map f).map SX.S).map V.str)))
        ⟨by rw [wo_upd]; exact same_wo (Same.refl _) hE, upd_same⟩ (fun i H' _ h => ⟨SqL.of (wo_same _ _ (h.1 _ _ gp5)), SqL.of (wo_same _ _ (h.1 _ _ gr))⟩) ?_ ?_⟩
      · rintro i v H6 H7 hi ⟨s6, gE⟩ ⟨T, x1, x2, rfl, nT, rfl, e1, e2⟩
        have e1' : (ls.map V.int)[i]? = some x1 := e1
        have e2' : ((os.map SX.S).map V.str)[i]? = some x2 := e2
        obtain ⟨l, hl, rfl⟩ := map_at e1'
        obtain ⟨o, ho, rfl⟩ : ∃ o, os[i]? = some o ∧ x2 = .str (SX.S o) := by
          rw [List.getElem?_map, List.getElem?_map] at e2'
          cases z : os[i]? with
          | none => rw [z] at e2'; cases e2'
          | some o => rw [z] at e2'; exact ⟨o, rfl, (Option.some.inj e2').symm⟩
        have lm := lsm l (List.mem_of_getElem? hl)
        have sl0 := sq_low l hk.two lm.1
        have sl1 := sq_le_self ks l hk.two lm.1
        have ol : o.length ≤ 1 := oth_short (by rw [← eos]; exact List.mem_of_getElem? ho)
        have s6' : Same H5 H6 := s6.trans wo_same
        have gD7 := same_new (o := .tup [V.int l, .str (SX.S o)]) nT _ _ (s6' _ _ gD5)
        have gE7 := same_new (o := .tup [V.int l, .str (SX.S o)]) nT _ _ gE
        have nTE : E ≠ T := ne_of_none gE nT
        have dg := DGet.k (k := .inl l) gD7
        rw [look l (List.mem_of_getElem? hl)] at dg
        have mc := mul_chr b sl0
        refine ⟨T, _, rfl, .inl (.inl upd_same), rfl, _, _, rfl, _, _, rfl, rfl, rfl, _, rfl, _, rfl, _, rfl, D, _, rfl, dg, ⟨#[b]⟩, sq l ks, rfl, rfl, mul_chr_ok b sl0 (by omega), _, rfl, _, _, rfl, rfl, ?_, _, gE7, ?_, ?_, ?_⟩
        · rw [mc, SX.S_len, SX.S_len, List.length_replicate]
          omega
        · rw [List.length_map, List.length_map, List.length_map, List.length_take]
          omega
        · rw [wo_upd]
          intro z o' e
          have g := s6 z o' e
          have nz : z ≠ E := fun y => by rw [y, wo_self] at g; cases g
          rw [wo_ne nz] at g ⊢
          exact same_new nT _ _ g
        · rw [upd_same, mc, SX.S_cat, List.take_add_one]
          have ez : (ls.zip os)[i]? = some (l, o) := List.getElem?_zip_eq_some.mpr ⟨hl, ho⟩
          rw [ez, List.map_append, List.map_append, List.map_append, ef]
          rfl
      · rintro H6 ⟨s6, gE⟩
        rw [show (ls.zip os).take ls.length = ls.zip os from List.take_of_length_le (by rw [zl]; exact Nat.le_refl _)] at gE
        have fz : ((ls.zip os).map f).flatten = sqT b ks x.cps.toList 0 := by rw [ef, els, eos]; exact sqT_zip b ks _ 0
        have tl := sqT_len (b := b) hk.two x.cps.toList 0 (by decide)
        refine ⟨"", E, ((ls.zip os).map f).map SX.S, rfl, rfl, .inl (SqL.of gE), ?_, ?_⟩
        · have e : ((((ls.zip os).map f).map SX.S).map fun y => y.length) = ((ls.zip os).map f).map List.length := by
            rw [List.map_map]
            exact List.map_congr_left fun y _ => SX.S_len y
          show _ + _ * 0 ≤ 16777216
          rw [e, ← List.length_flatten, fz]
          omega
        · have ej : Txt.join "" (((ls.zip os).map f).map SX.S) = ⟨(sqT b ks x.cps.toList 0).toArray⟩ := by
            have j := SX.join_S [] ((ls.zip os).map f)
            rw [joinL_flat, fz] at j
            exact j
          rw [ej]
          exact q _ ((((s1.trans s2).trans s3).trans s4).trans (s5.trans (s6.trans wo_same)))
end
end Sq
set_option Elab.async false
set_option linter.all false
set_option maxRecDepth 100000
set_option maxHeartbeats 4000000
set_option exponentiation.threshold 2000
namespace Sq
open PySem PySem.Spec PyProof.Rows L2
/-! ### squeezed texts: what the law asks -/
theorem sq_app3 (n : Int) (ks ls : List Int) : sq n (ks ++ ls) = sq (sq n ks) ls := List.foldl_append
theorem sqT_rep (b : Nat) (ks : List Int) (ys : List Nat) : ∀ (m : Nat) (r : Int), sqT b ks (List.replicate m b ++ ys) r = sqT b ks ys (r + m)
  | 0, r => by
    show sqT b ks ys r = _
    rw [show r + ((0 : Nat) : Int) = r by omega]
  | m + 1, r => by
    rw [List.replicate_succ, List.cons_append, sqT_cons, if_pos rfl, sqT_rep b ks ys m, show r + 1 + (m : Int) = r + ((m + 1 : Nat) : Int) by omega]
theorem sqT_comp {b : Nat} {ks ls : List Int} (h : ∀ k ∈ ks, 2 ≤ k) : ∀ (xs : List Nat) (r : Int), 0 ≤ r → sqT b (ks ++ ls) xs r = sqT b ls (sqT b ks xs r) 0
  | [], r, h0 => by
    have p := sq_low r h h0
    show List.replicate (sq r (ks ++ ls)).toNat b = sqT b ls (List.replicate (sq r ks).toNat b) 0
    have e := sqT_rep b ls [] (sq r ks).toNat 0
    rw [List.append_nil] at e
    rw [e, sq_app3, show (0 : Int) + ((sq r ks).toNat : Int) = sq r ks by omega]
    rfl
  | x :: xs, r, h0 => by
    rw [sqT_cons, sqT_cons]
    by_cases c : x = b
    · rw [if_pos c, if_pos c]
      exact sqT_comp h xs (r + 1) (by omega)
    · have p := sq_low r h h0
      rw [if_neg c, if_neg c, sqT_rep, sqT_cons, if_neg c, sqT_comp h xs 0 (by decide), sq_app3, show (0 : Int) + ((sq r ks).toNat : Int) = sq r ks by omega]
theorem sqT_nil (b : Nat) : ∀ (xs : List Nat) (r : Int), 0 ≤ r → sqT b [] xs r = List.replicate r.toNat b ++ xs
  | [], r, _ => (List.append_nil _).symm
  | x :: xs, r, h0 => by
    rw [sqT_cons]
    by_cases c : x = b
    · rw [if_pos c, sqT_nil b xs (r + 1) (by omega), show (r + 1).toNat = r.toNat + 1 by omega, List.replicate_succ', List.append_assoc, c]
      rfl
    · rw [if_neg c, sqT_nil b xs 0 (by decide)]
      rfl
theorem sqT_others (b : Nat) (ks : List Int) : ∀ (xs : List Nat) (r : Int), (sqT b ks xs r).filter (fun y => decide (y ≠ b)) = xs.filter fun y => decide (y ≠ b) := by
  have rep : ∀ m : Nat, (List.replicate m b).filter (fun y => decide (y ≠ b)) = [] := fun m => by
    rw [List.filter_eq_nil_iff]
    intro y hy
    rw [(List.mem_replicate.mp hy).2, decide_eq_false (fun z => z rfl)]
    exact Bool.false_ne_true
  intro xs
  induction xs with
  | nil => exact fun r => rep _
  | cons x xs ih =>
    intro r
    rw [sqT_cons, List.filter_cons]
    by_cases c : x = b
    · rw [if_pos c, if_neg (by rw [decide_eq_false (fun z => z c)]; exact Bool.false_ne_true), ih]
    · rw [if_neg c, if_pos (decide_eq_true c), List.filter_append, rep, List.filter_cons, if_pos (decide_eq_true c), ih]
      rfl
theorem sq_zero : ∀ {ks : List Int}, sq 0 ks = 0
  | [] => rfl
  | k :: r => by
    have e : once 0 k = 0 := by
      unfold once
      rw [Int.zero_ediv, Int.zero_emod]
      rfl
    show sq (once 0 k) r = 0
    rw [e]
    exact sq_zero
theorem sqT_free {b : Nat} {ks : List Int} : ∀ {xs : List Nat}, b ∉ xs → sqT b ks xs 0 = xs
  | [], _ => by
    show List.replicate (sq 0 ks).toNat b = []
    rw [sq_zero]
    rfl
  | x :: xs, h => by
    have c : x ≠ b := fun z => h (by rw [z]; exact List.mem_cons_self)
    rw [sqT_cons, if_neg c, sq_zero, sqT_free fun z => h (List.mem_cons_of_mem _ z)]
    rfl
/-- the lengths of the runs of b; r: how many of b stand before -/
def runs (b : Nat) : List Nat → Nat → List Int
  | [], r => if r = 0 then [] else [(r : Int)]
  | x :: xs, r => if x = b then runs b xs (r + 1) else (if r = 0 then [] else [(r : Int)]) ++ runs b xs 0
theorem runs_cons (b x : Nat) (xs : List Nat) (r : Nat) : runs b (x :: xs) r = if x = b then runs b xs (r + 1) else (if r = 0 then [] else [(r : Int)]) ++ runs b xs 0 := rfl
theorem runs_rep (b : Nat) (ys : List Nat) : ∀ (m r : Nat), runs b (List.replicate m b ++ ys) r = runs b ys (r + m)
  | 0, r => rfl
  | m + 1, r => by
    rw [List.replicate_succ, List.cons_append, runs_cons, if_pos rfl, runs_rep b ys m, show r + 1 + m = r + (m + 1) by omega]
theorem once_low {n k : Int} (hk : 2 ≤ k) (h : 1 ≤ n) : 1 ≤ once n k := by
  unfold once
  have a := Int.mul_ediv_add_emod n k
  have b : 0 ≤ n / k := Int.ediv_nonneg (by omega) (by omega)
  have c : 0 ≤ n % k := Int.emod_nonneg n (by omega)
  by_cases z : n / k = 0
  · rw [z] at a
    omega
  · omega
theorem sq_one_low : ∀ {ks : List Int} (n : Int), (∀ k ∈ ks, 2 ≤ k) → 1 ≤ n → 1 ≤ sq n ks
  | [], n, _, h0 => h0
  | k :: r, n, h, h0 => sq_one_low (ks := r) (once n k) (fun x hx => h x (List.mem_cons_of_mem _ hx)) (once_low (h k List.mem_cons_self) h0)
theorem runs_one {ks : List Int} (h : ∀ k ∈ ks, 2 ≤ k) (r : Nat) : (if (sq r ks).toNat = 0 then [] else [((sq r ks).toNat : Int)]) = (if r = 0 then [] else [(r : Int)]).map fun n => sq n ks := by
  by_cases c : r = 0
  · subst c
    rw [if_pos rfl, if_pos (show (sq ((0 : Nat) : Int) ks).toNat = 0 by rw [show ((0 : Nat) : Int) = 0 from rfl, sq_zero]; rfl)]
    rfl
  · have p := sq_one_low (r : Int) h (by omega)
    rw [if_neg c, if_neg (by omega), List.map_singleton, show ((sq (r : Int) ks).toNat : Int) = sq r ks by omega]
theorem runs_sqT {b : Nat} {ks : List Int} (h : ∀ k ∈ ks, 2 ≤ k) : ∀ (xs : List Nat) (r : Nat), runs b (sqT b ks xs r) 0 = (runs b xs r).map fun n => sq n ks
  | [], r => by
    show runs b (List.replicate (sq r ks).toNat b) 0 = _
    have e := runs_rep b [] (sq r ks).toNat 0
    rw [List.append_nil] at e
    rw [e, Nat.zero_add]
    exact runs_one h r
  | x :: xs, r => by
    rw [sqT_cons, runs_cons]
    by_cases c : x = b
    · rw [if_pos c, if_pos c]
      exact runs_sqT h xs (r + 1)
    · rw [if_neg c, if_neg c, runs_rep, runs_cons, if_neg c, Nat.zero_add, runs_one h r, List.map_append]
      congr 1
      exact runs_sqT h xs 0
end Sq
set_option Elab.async false
set_option linter.all false
set_option maxRecDepth 100000
set_option maxHeartbeats 4000000
set_option exponentiation.threshold 2000
namespace Sq
open PySem PySem.Spec PyProof.Rows L2
theorem once_sum {n g : Nat} {k : Int} (hk : 2 ≤ k) (hg : (g : Int) < k) : sq ((n : Int) * k + g) [k] = n + g := by
  show once ((n : Int) * k + g) k = n + g
  unfold once
  rw [Int.add_comm ((n : Int) * k) (g : Int), Int.add_mul_ediv_right _ _ (by omega), Int.add_mul_emod_self_right, Int.ediv_eq_zero_of_lt (by omega) hg, Int.emod_eq_of_lt (by omega) hg]
  omega
section
variable {P : Program} {w : World} {K : PySem.W.Frag} {mg : Str → Option Value} {base : Heap}
def spReplaced : Sp := fun vs H Q _ => ∃ (x : Str) (b : Nat) (k : Int), vs = [.str x, .str ⟨#[b]⟩, .int k] ∧ 2 ≤ k ∧ x.length ≤ 3000 ∧ ∀ H', Same H H' → Q (.str (SX.S (sqT b [k] x.cps.toList 0))) H'
theorem ok_lawreplaced {f : Addr} {fd : FuncData} (F : Fun K "_law_replaced" "_law_replaced" s_lawreplaced f fd) (B : Bi mg) : FnOk P w K mg base CX0 1 f fd ["written", "sign", "number"] spReplaced := by
  refine F.ok sc_lawreplaced (fun vs H Q E h => ?_) (fun cdv A outer s H vs Q E hr h => ?_)
  · obtain ⟨x, b, k, rfl, _⟩ := h
    rfl
  · obtain ⟨x, b, k, rfl, k2, hx, q⟩ := h
    refine ⟨_, (pss_cons (ps_asg (pe_tup (pa_cons pe_str (pa_cons pe_str pa_nil))) (pg_tup rfl (pgs_cons (pg_name (i := 3) sc_lawreplaced.nd rfl (Or.inl rfl)) (pgs_cons (pg_name (i := 4) sc_lawreplaced.nd rfl (Or.inl rfl)) pgs_nil))))
 (pss_cons (ps_for PassesOwn.never rfl (pi_str (pv 0)) (pg_name (i := 5) sc_lawreplaced.nd rfl (Or.inl rfl))
 (pss_cons (ps_set (i := 4) sc_lawreplaced.nd rfl (Or.inl rfl) (pe_ifExp (pt_cmpR op_eq (pv 5) (pv 1) (nomark _)) (pe_op op_add_str (pv 4) (pv 5)) pe_str))
 (pss_cons (ps_set (i := 3) sc_lawreplaced.nd rfl (Or.inl rfl) (pe_op op_add_str (pv 3) (pv 5)))
 (pss_one (ps_if (pt_cmpR op_eq (pe_callB (id := "len") call_len_str (by rfl) B.n_len (by decide +kernel) (pa_cons (pv 4) pa_nil)) (pv 2) (nomark _))
 (pss_one (ps_par (i := 3) (j := 4) (by rfl) sc_lawreplaced.nd rfl rfl (by decide) rfl rfl (pa_cons (pe_op op_add_str (pe_slice sl_str (pv 3) po_none (po_some (pe_op op_sub (pe_callB (id := "len") call_len_str (by rfl) B.n_len (by decide +kernel) (pa_cons (pv 3) pa_nil)) (pv 2)))) (pv 1)) (pa_cons pe_str pa_nil)) (by rfl)))
 pss_nil)))))
 (pss_one (ps_ret (pv 3))))), ?_⟩
    have szl : sizeLine = 16777216 := sizeLine_eq
    have z2 : 2 ≤ sizeLine := by omega
    refine ⟨z2, fun pt hpt => ?_⟩
    refine ⟨pt, _, rfl, .inl (.inl upd_same), rfl, _, _, rfl, _, _, rfl, rfl, ?_⟩
    have s1 := same_new (o := .tup [V.str "", .str ""]) hpt
    refine ⟨_, rfl, x, rfl, for_it walk_str (fun i σ H' => Same H H' ∧ i ≤ x.length ∧ ∃ (F0 : List Nat) (n g : Nat) (y : Option V), σ = [some (.str x), some (.str ⟨#[b]⟩), some (.int k), some (.str (SX.S (F0 ++ List.replicate n b ++ List.replicate g b))), some (.str (SX.S (List.replicate g b))), y] ∧ (g : Int) < k ∧ F0.length + n + g ≤ i ∧ F0 ++ sqT b [k] (x.cps.toList.drop i) ((n : Int) * k + g) = sqT b [k] x.cps.toList 0)
      ⟨s1, Nat.zero_le _, [], 0, 0, none, rfl, by omega, Nat.le_refl _, by rw [List.drop_zero]; rw [show ((0 : Nat) : Int) * k + ((0 : Nat) : Int) = 0 by rw [Int.natCast_zero, Int.zero_mul]; rfl]; rfl⟩ (fun _ _ _ _ _ => trivial) ?_ ?_⟩
    · rintro i v σ H1 H2 hi ⟨sm, il, F0, n, g, y, rfl, gk, fl, e⟩ ⟨rfl, ch, ec, rfl⟩
      have hi' : i < x.length := hi
      have ec' : x.cps.toList[i]? = some ch := by rw [Array.getElem?_toList]; exact ec
      have ed : x.cps.toList.drop i = ch :: x.cps.toList.drop (i + 1) := by
        obtain ⟨_, ee⟩ := List.getElem?_eq_some_iff.mp ec'
        rw [List.drop_eq_getElem_cons (by exact hi), ee]
      rw [ed, sqT_cons] at e
      have chS : (⟨#[ch]⟩ : Str) = SX.S [ch] := rfl
      have lF : (F0 ++ List.replicate n b ++ List.replicate g b).length = F0.length + n + g := by rw [List.length_append, List.length_append, List.length_replicate, List.length_replicate]
      refine ⟨_, rfl, _, rfl, rfl, _, rfl, ite2 (fun c1 => ?_) (fun c1 => ?_)⟩
      · have cb : ch = b := by
          have h := of_decide_eq_true c1
          injection h with h
          injection h with h
          injection h with h
          injection h
        subst cb
        rw [if_pos rfl] at e
        refine ⟨_, rfl, _, rfl, _, _, rfl, rfl, by rw [chS, SX.S_len, SX.S_len, List.length_replicate]; show g + 1 ≤ _; omega, ?_⟩
        refine ⟨_, rfl, _, rfl, _, _, rfl, rfl, by rw [chS, SX.S_len, SX.S_len, lF]; show _ + 1 ≤ _; omega, ?_⟩
        rw [chS, SX.S_cat, SX.S_cat, ← List.replicate_succ']
        refine ⟨_, rfl, _, rfl, by rw [SX.S_len, List.length_replicate]; omega, _, rfl, rfl, _, rfl, ite2 (fun c2 => ?_) (fun c2 => ?_)⟩
        · have gk1 : (g : Int) + 1 = k := by
            have h := of_decide_eq_true c2
            injection h with h
            rw [SX.S_len, List.length_replicate] at h
            omega
          have lZ : (SX.S (F0 ++ List.replicate n ch ++ List.replicate g ch ++ [ch])).length = F0.length + n + g + 1 := by rw [SX.S_len, List.length_append, lF]; rfl
          have lz : (SX.S (F0 ++ List.replicate n ch ++ List.replicate g ch ++ [ch])).length ≤ sizeLine := by rw [lZ]; omega
          have ev : cutS (SX.S (F0 ++ List.replicate n ch ++ List.replicate g ch ++ [ch])) none (some (((SX.S (F0 ++ List.replicate n ch ++ List.replicate g ch ++ [ch])).length : Int) - k)) = SX.S (F0 ++ List.replicate n ch) := by
            rw [show ((SX.S (F0 ++ List.replicate n ch ++ List.replicate g ch ++ [ch])).length : Int) - k = ((F0.length + n : Nat) : Int) by rw [lZ]; omega]
            refine TL.ext_tl ?_
            rw [cutS_take _ _ (by rw [lZ]; omega)]
            show (F0 ++ List.replicate n ch ++ List.replicate g ch ++ [ch]).take (F0.length + n) = F0 ++ List.replicate n ch
            rw [List.append_assoc, List.take_append_of_le_length (by rw [List.length_append, List.length_replicate]; exact Nat.le_refl _), List.take_of_length_le (by rw [List.length_append, List.length_replicate]; exact Nat.le_refl _)]
          refine ⟨_, rfl, _, rfl, _, rfl, lz, _, rfl, _, _, rfl, rfl, _, rfl, _, rfl, lz, _, rfl, ?_⟩
          rw [ev]
          refine ⟨_, _, rfl, rfl, by rw [SX.S_len, SX.S_len, List.length_append, List.length_replicate]; show _ + 1 ≤ _; omega, _, _, rfl, ?_⟩
          have e5 : F0 ++ List.replicate n ch ++ [ch] = F0 ++ List.replicate (n + 1) ch ++ List.replicate 0 ch := by rw [List.replicate_succ', show List.replicate 0 ch = [] from rfl, List.append_nil, List.append_assoc]
          rw [SX.S_cat, e5]
          refine ⟨sm, by omega, F0, n + 1, 0, some (.str (SX.S [ch])), ?_, by omega, by omega, ?_⟩
          · rfl
          · rw [← e, show ((n + 1 : Nat) : Int) * k + ((0 : Nat) : Int) = (n : Int) * k + g + 1 by rw [Int.natCast_add, Int.add_mul]; omega]
        · have gk1 : ¬ (g : Int) + 1 = k := fun z => c2 (decide_eq_true (congrArg V.int (by rw [SX.S_len, List.length_replicate]; omega)))
          refine ⟨sm, by omega, F0, n, g + 1, some (.str (SX.S [ch])), ?_, by omega, by omega, ?_⟩
          · show _ = [_, _, _, some (V.str (SX.S (F0 ++ List.replicate n ch ++ List.replicate (g + 1) ch))), _, _]
            rw [List.replicate_succ', List.append_assoc (F0 ++ List.replicate n ch)]
            rfl
          · rw [← e, show (n : Int) * k + ((g + 1 : Nat) : Int) = (n : Int) * k + g + 1 by omega]
      · have cb : ch ≠ b := fun z => c1 (by rw [z]; exact decide_eq_true rfl)
        rw [if_neg cb] at e
        refine ⟨_, rfl, _, rfl, _, _, rfl, rfl, by rw [chS, SX.S_len, SX.S_len, lF]; show _ + 1 ≤ _; omega, ?_⟩
        rw [chS, SX.S_cat]
        refine ⟨_, rfl, _, rfl, Nat.zero_le _, _, rfl, rfl, _, rfl, ite2 (fun c2 => ?_) (fun c2 => ?_)⟩
        · have h := of_decide_eq_true c2
          injection h with h
          have l0 : ("" : Str).length = 0 := rfl
          rw [l0] at h
          omega
        · have on : sq ((n : Int) * k + g) [k] = n + g := once_sum k2 gk
          refine ⟨sm, by omega, F0 ++ List.replicate n b ++ List.replicate g b ++ [ch], 0, 0, some (.str (SX.S [ch])), ?_, by omega, by rw [List.length_append, lF]; show _ + 1 + 0 + 0 ≤ _; omega, ?_⟩
          · show _ = [_, _, _, some (V.str (SX.S (F0 ++ List.replicate n b ++ List.replicate g b ++ [ch] ++ [] ++ []))), _, _]
            rw [List.append_nil, List.append_nil]
            rfl
          · rw [← e, on, show ((n : Int) + (g : Int)).toNat = n + g by omega, ← List.replicate_append_replicate, show ((0 : Nat) : Int) * k + ((0 : Nat) : Int) = 0 by rw [Int.natCast_zero, Int.zero_mul]; rfl]
            simp [List.append_assoc]
    · rintro σ H1 ⟨sm, il, F0, n, g, y, rfl, gk, fl, e⟩
      have ex : x.cps.toList.drop x.cps.size = [] := by rw [List.drop_eq_nil_iff]; exact Nat.le_refl _
      rw [ex] at e
      have on : sq ((n : Int) * k + g) [k] = n + g := once_sum k2 gk
      have e' : F0 ++ List.replicate (sq ((n : Int) * k + g) [k]).toNat b = sqT b [k] x.cps.toList 0 := e
      rw [on, show ((n : Int) + (g : Int)).toNat = n + g by omega, ← List.replicate_append_replicate, ← List.append_assoc] at e'
      refine ⟨_, rfl, ?_⟩
      rw [e']
      exact q _ sm
end
end Sq
set_option Elab.async false
set_option linter.all false
set_option maxRecDepth 100000
set_option maxHeartbeats 4000000
set_option exponentiation.threshold 2000
namespace Sq
open PySem PySem.Spec PyProof.Rows L2
theorem cutS_zero (z : Str) (lo : Int) : cutS z (some lo) (some (((0 : Nat) : Int))) = SX.S [] := by
  refine TL.ext_tl ?_
  show ((z.cps.toList.drop (HT.sIx z.length 0 (some lo))).take (HT.sIx z.length z.length (some ((0 : Nat) : Int)) - HT.sIx z.length 0 (some lo))) = []
  rw [HT.sIx_nat, Nat.zero_min, Nat.zero_sub, List.take_zero]
theorem cutS_one (z : Str) (i c : Nat) (h : z.cps.toList[i]? = some c) : cutS z (some ((i : Nat) : Int)) (some ((i + 1 : Nat) : Int)) = SX.S [c] := by
  obtain ⟨hi, e⟩ := List.getElem?_eq_some_iff.mp h
  have hl : i < z.length := hi
  refine TL.ext_tl ?_
  show ((z.cps.toList.drop (HT.sIx z.length 0 (some ((i : Nat) : Int)))).take (HT.sIx z.length z.length (some ((i + 1 : Nat) : Int)) - HT.sIx z.length 0 (some ((i : Nat) : Int)))) = [c]
  rw [HT.sIx_nat, HT.sIx_nat, Nat.min_eq_left (by omega), Nat.min_eq_left (by omega), show i + 1 - i = 1 by omega, List.drop_eq_getElem_cons hi, e]
  rfl
section
variable {P : Program} {w : World} {K : PySem.W.Frag} {mg : Str → Option Value} {base : Heap}
def spRuns : Sp := fun vs H Q _ => ∃ (x : Str) (b : Nat), vs = [.str x, .str ⟨#[b]⟩] ∧ x.length ≤ 3000 ∧ ∀ p H', H p = none → Same H H' → H' p = some (.lst ((runs b x.cps.toList 0).map V.int)) → Q (.ref p) H'
theorem ok_lawruns {f : Addr} {fd : FuncData} (F : Fun K "_law_runs" "_law_runs" s_lawruns f fd) (B : Bi mg) : FnOk P w K mg base CX0 1 f fd ["written", "sign"] spRuns := by
  refine F.ok sc_lawruns (fun vs H Q E h => ?_) (fun cdv A outer s H vs Q E hr h => ?_)
  · obtain ⟨x, b, rfl, _⟩ := h
    rfl
  · obtain ⟨x, b, rfl, hx, q⟩ := h
    refine ⟨_, (pss_cons (ps_set (i := 2) sc_lawruns.nd rfl (Or.inl rfl) (pe_lst pa_nil))
 (pss_cons (ps_for PassesOwn.never rfl (pi_enumS (by rfl) B.n_enumerate (pa_cons (pv 0) pa_nil)) (pg_tup rfl (pgs_cons (pg_name (i := 3) sc_lawruns.nd rfl (Or.inl rfl)) (pgs_cons (pg_name (i := 4) sc_lawruns.nd rfl (Or.inl rfl)) pgs_nil)))
 (pss_one (ps_if (PW.pt (pw_and (pt_cmpR op_eq (pv 4) (pv 1) (nomark _)) (pw_and1 (pt_cmpR op_eq (pe_slice sl_str (pv 0) (po_some (pe_op op_sub (pv 3) pe_int)) (po_some (pv 3))) (pv 1) (nomark _)))))
 (pss_one (ps_asg (pe_op op_add (pe_ix (r := rIxL K) ix_list (pv 2) (pe_un un_neg pe_int) (fun _ _ => rfl)) pe_int) (pg_sub (pv 2) (pe_un un_neg pe_int) set_list)))
 (pss_one (ps_if (pt_cmpR op_eq (pv 4) (pv 1) (nomark _))
 (pss_one (ps_expr (pe_bm PySem.F.plainAttrs_list PySem.F.slot_list_append PySem.F.type_list_append mt_append (pv 2) (pa_cons pe_int pa_nil))))
 pss_nil)))))
 (pss_one (ps_ret (pv 2))))), ?_⟩
    have szl : sizeLine = 16777216 := sizeLine_eq
    have lx : x.length ≤ sizeLine := by omega
    refine ⟨Nat.zero_le _, fun p hp => ?_⟩
    refine ⟨_, rfl, x, rfl, for_it walk_enumS (fun i σ H' => Same H (wo H' p) ∧ ∃ (base : List Int) (g : Nat) (y3 y4 : Option V), σ = [some (.str x), some (.str ⟨#[b]⟩), some (.ref p), y3, y4] ∧ H' p = some (.lst ((base ++ if g = 0 then [] else [(g : Int)]).map V.int)) ∧ base ++ runs b (x.cps.toList.drop i) g = runs b x.cps.toList 0 ∧ base.length + g ≤ i ∧ (g = 0 → ∀ j, i = j + 1 → x.cps.toList[j]? ≠ some b) ∧ (g ≠ 0 → ∃ j, i = j + 1 ∧ x.cps.toList[j]? = some b))
      ⟨by rw [wo_upd]; exact same_wo (Same.refl _) hp, [], 0, none, none, rfl, upd_same, rfl, Nat.le_refl _, fun _ j z => absurd z (by omega), fun z => absurd rfl z⟩ (fun _ _ _ _ _ => trivial) ?_ ?_⟩
    · rintro i v σ H1 H2 hi ⟨sm, base, g, y3, y4, rfl, gp, e, le, ga, gb⟩ ⟨T, ch, rfl, nT, rfl, ec⟩
      have hi' : i < x.length := hi
      have ec' : x.cps.toList[i]? = some ch := by rw [Array.getElem?_toList]; exact ec
      have ed : x.cps.toList.drop i = ch :: x.cps.toList.drop (i + 1) := by
        obtain ⟨_, ee⟩ := List.getElem?_eq_some_iff.mp ec'
        rw [List.drop_eq_getElem_cons (by exact hi), ee]
      rw [ed, runs_cons] at e
      have pT : p ≠ T := ne_of_none gp nT
      have gp1 := same_new (o := .tup [V.int (i : Int), .str ⟨#[ch]⟩]) nT _ _ gp
      have sm1 : Same H (wo (upd H1 T (.tup [V.int (i : Int), .str ⟨#[ch]⟩])) p) := fun z o' eo => by
        have q1 := sm z o' eo
        have nz : z ≠ p := fun y => by rw [y, wo_self] at q1; cases q1
        rw [wo_ne nz] at q1 ⊢
        exact same_new nT _ _ q1
      have chS : (⟨#[ch]⟩ : Str) = SX.S [ch] := rfl
      refine ⟨T, _, rfl, .inl (.inl upd_same), rfl, _, _, rfl, _, _, rfl, rfl, ?_⟩
      refine ⟨_, rfl, _, rfl, rfl, _, rfl, ite2 (fun c1 => ?_) (fun c1 => iteF ⟨_, rfl, _, rfl, rfl, _, rfl, ite2 (fun c2 => absurd c2 c1) (fun _ => ?_)⟩)⟩
      · have cb : ch = b := by
          have h := of_decide_eq_true c1
          injection h with h
          injection h with h
          injection h with h
          injection h
        subst cb
        rw [if_pos rfl] at e
        refine ⟨_, rfl, _, rfl, _, 1, rfl, rfl, _, rfl, _, rfl, _, rfl, x, rfl, lx, _, rfl, rfl, _, rfl, ?_⟩
        by_cases cg : g = 0
        · have ne : V.str (cutS x (some ((i : Int) - 1)) (some ((i : Nat) : Int))) ≠ V.str ⟨#[ch]⟩ := fun z => by
            injection z with z
            rw [chS] at z
            by_cases c0 : i = 0
            · subst c0
              rw [cutS_zero] at z
              exact absurd (SX.S_inj z) (by simp)
            · obtain ⟨j, rfl⟩ : ∃ j, i = j + 1 := ⟨i - 1, by omega⟩
              have jl : j < x.cps.toList.length := by
                have : x.cps.toList.length = x.length := rfl
                omega
              have hj := List.getElem?_eq_getElem jl
              rw [show ((j + 1 : Nat) : Int) - 1 = ((j : Nat) : Int) by omega, cutS_one x j _ hj] at z
              have zz := SX.S_inj z
              refine ga cg j rfl ?_
              rw [hj]
              exact congrArg some (List.head_eq_of_cons_eq zz)
          rw [decide_eq_false ne]
          refine iteF ⟨_, rfl, _, rfl, rfl, _, rfl, ite2 (fun _ => ?_) (fun c2 => absurd c1 c2)⟩
          rw [cg, if_pos rfl, List.append_nil] at gp1
          refine ⟨_, rfl, .inl ⟨rfl, _, SqL.of gp1⟩, p, _, _, rfl, rfl, gp1, by rw [List.length_map]; omega, ?_⟩
          refine ⟨by rw [wo_upd]; exact sm1, base, 1, _, _, rfl, ?_, ?_, by omega, fun z => absurd z (by decide), fun _ => ⟨i, rfl, ec'⟩⟩
          · rw [upd_same, if_neg (by decide), List.map_append]
            rfl
          · rw [← e, cg]
        · obtain ⟨j, rfl, hj⟩ := gb cg
          have eq : cutS x (some (((j + 1 : Nat) : Int) - 1)) (some (((j + 1 : Nat) : Nat) : Int)) = ⟨#[ch]⟩ := by
            rw [show ((j + 1 : Nat) : Int) - 1 = ((j : Nat) : Int) by omega, cutS_one x j _ hj]
          rw [eq, decide_eq_true rfl]
          refine iteT ?_
          rw [if_neg cg, List.map_append] at gp1
          have ll : (base.map V.int ++ List.map V.int [(g : Int)]).length = base.length + 1 := by rw [List.length_append, List.length_map]; rfl
          refine ⟨_, rfl, 1, rfl, p, _, -1, .int g, rfl, rfl, SqL.of gp1, atI_last _ _, _, 1, rfl, rfl, _, rfl, 1, rfl, p, _, -1, base.length, rfl, rfl, gp1, ?_, ?_⟩
          · rw [ll]
            unfold ixN
            rw [if_neg (by decide), if_pos (by omega)]
            congr 1
            omega
          · refine ⟨by rw [wo_upd]; exact sm1, base, g + 1, _, _, rfl, ?_, e, by omega, fun z => absurd z (by omega), fun _ => ⟨j + 1, rfl, ec'⟩⟩
            rw [upd_same, if_neg (by omega), List.map_append, List.set_append_right _ _ (by rw [List.length_map]; exact Nat.le_refl _), List.length_map, Nat.sub_self]
            rfl
      · have cb : ch ≠ b := fun z => c1 (by rw [z]; exact decide_eq_true rfl)
        rw [if_neg cb] at e
        refine ⟨sm1, base ++ (if g = 0 then [] else [(g : Int)]), 0, _, _, rfl, ?_, ?_, ?_, ?_, fun z => absurd rfl z⟩
        · rw [if_pos rfl, List.append_nil]
          exact gp1
        · rw [List.append_assoc]
          exact e
        · rw [List.length_append]
          split
          · show _ + 0 + 0 ≤ _
            omega
          · show _ + 1 + 0 ≤ _
            omega
        · intro _ j ej z
          have : i = j := by omega
          subst this
          rw [ec'] at z
          exact cb (Option.some.inj z)
    · rintro σ H1 ⟨sm, base, g, y3, y4, rfl, gp, e, le, ga, gb⟩
      have ex : x.cps.toList.drop x.cps.size = [] := by rw [List.drop_eq_nil_iff]; exact Nat.le_refl _
      rw [ex] at e
      have e' : base ++ (if g = 0 then [] else [(g : Int)]) = runs b x.cps.toList 0 := e
      rw [e'] at gp
      exact ⟨_, rfl, q p H1 hp (sm.trans wo_same) gp⟩
end
end Sq
set_option Elab.async false
set_option linter.all false
set_option maxRecDepth 100000
set_option maxHeartbeats 4000000
set_option exponentiation.threshold 2000
namespace Sq
open PySem PySem.Spec PyProof.Rows L2
theorem nth_at {xs : List Int} {z : Int} (h0 : 0 ≤ z) (h : z < xs.length) : ∃ k, k ∈ xs ∧ xs[z.toNat]? = some k ∧ atI (xs.map V.int) z = some (.int k) := by
  have lt : z.toNat < xs.length := by omega
  refine ⟨xs[z.toNat], List.getElem_mem lt, List.getElem?_eq_getElem lt, at_of (j := z.toNat) (by omega) ?_⟩
  rw [List.getElem?_map, List.getElem?_eq_getElem lt]
  rfl
theorem valV_in {k : Key} {v : V} {kvs : List (Key × V)} (h : valV kvs k = some v) : v ∈ kvs.map (·.2) := by
  unfold valV at h
  cases e : kvs.find? fun kv => decide (kv.1 = k) with
  | none => rw [e] at h; cases h
  | some kv =>
    rw [e] at h
    have m := List.mem_of_find?_eq_some e
    have : kv.2 = v := Option.some.inj h
    rw [← this]
    exact List.mem_map_of_mem m
theorem cutS_upto (z : Str) (n : Nat) : cutS z none (some (n : Int)) = SX.S (z.cps.toList.take n) := by
  refine TL.ext_tl ?_
  by_cases c : n ≤ z.length
  · exact cutS_take z n c
  · show ((z.cps.toList.drop (HT.sIx z.length 0 none)).take (HT.sIx z.length z.length (some (n : Int)) - HT.sIx z.length 0 none)) = z.cps.toList.take n
    have l : z.cps.toList.length = z.length := rfl
    rw [HT.sIx_nat, HT.sIx_none, List.drop_zero, Nat.min_eq_right (by omega), Nat.sub_zero, List.take_of_length_le (by omega), List.take_of_length_le (by omega)]
/-- a sign that is no grave accent, and ASCII -/
def Lo (c : Nat) : Prop := c ≠ 96 ∧ c < 128
instance (c : Nat) : Decidable (Lo c) := inferInstanceAs (Decidable (_ ∧ _))
def twins : List (Key × V) := [(.inr "a", .str "A"), (.inr "A", .str "a"), (.inr "x", .str "X"), (.inr "Z", .str "z"), (.inr ".", .str ","), (.inr "-", .str "~")]
theorem twin_one (k : Key) : ∃ c : Nat, Lo c ∧ (valV (mergeK [] twins) k).getD (.str ".") = .str ⟨#[c]⟩ := by
  have all : ∀ v ∈ (mergeK [] twins).map (·.2), ∃ c : Nat, Lo c ∧ v = .str ⟨#[c]⟩ := by
    have e : (mergeK [] twins).map (·.2) = [.str ⟨#[65]⟩, .str ⟨#[97]⟩, .str ⟨#[88]⟩, .str ⟨#[122]⟩, .str ⟨#[44]⟩, .str ⟨#[126]⟩] := by decide +kernel
    rw [e]
    intro v hv
    simp only [List.mem_cons, List.not_mem_nil, or_false] at hv
    rcases hv with h | h | h | h | h | h
    · exact ⟨65, by decide, h⟩
    · exact ⟨97, by decide, h⟩
    · exact ⟨88, by decide, h⟩
    · exact ⟨122, by decide, h⟩
    · exact ⟨44, by decide, h⟩
    · exact ⟨126, by decide, h⟩
  cases e : valV (mergeK [] twins) k with
  | none => exact ⟨46, by decide, rfl⟩
  | some v => exact all v (valV_in e)
section
variable {P : Program} {w : World} {K : PySem.W.Frag} {mg : Str → Option Value} {base : Heap}
def spPiece : Sp := fun vs H Q _ => ∃ (l : Addr) (seed cnt M : Int) (b : Nat), vs = [.ref l, .str ⟨#[b]⟩, .int M] ∧ 3 ≤ M ∧ M ≤ 2000 ∧ Rng H l seed cnt ∧ cnt < 500000 ∧
  ∀ n cnt' H', n ≤ 2000 → Rng H' l seed cnt' → cnt' ≤ cnt + 2 → Keep1 H H' l → Q (.str (SX.S (List.replicate n b))) H'
theorem ok_lawpiece {f : Addr} {fd : FuncData} (F : Fun K "_law_piece" "_law_piece" s_lawpiece f fd) (D_lawdraw : Df P w K mg base 1 "_law_draw" ["rng", "limit"] spDraw) : FnOk P w K mg base CX0 2 f fd ["rng", "sign", "most"] spPiece := by
  refine F.ok sc_lawpiece (fun vs H Q E h => ?_) (fun cdv A outer s H vs Q E hr h => ?_)
  · obtain ⟨l, seed, cnt, M, b, rfl, _⟩ := h
    rfl
  · obtain ⟨l, seed, cnt, M, b, rfl, M0, M1, S, hc, q⟩ := h
    refine ⟨_, (pss_one (ps_ret (pe_op op_mulS (pv 1) (pe_op op_add pe_int (pe_callD D_lawdraw (hr.mono (by omega)) (by rfl) (pa_cons (pv 0) (pa_cons (pe_ix (r := rIxL K) ix_list (pe_lst (pa_cons pe_int (pa_cons pe_int (pa_cons pe_int (pa_cons (pv 2) pa_nil))))) (pe_callD D_lawdraw (hr.mono (by omega)) (by rfl) (pa_cons (pv 0) (pa_cons pe_int pa_nil))) (fun _ _ => rfl)) pa_nil))))))), ?_⟩
    have szl : sizeLine = 16777216 := sizeLine_eq
    refine ⟨_, rfl, _, rfl, _, rfl, by show 4 ≤ sizeLine; omega, fun p hp => ?_⟩
    refine ⟨_, rfl, l, seed, cnt, 4, rfl, S.same (same_new hp), by omega, by decide, by decide, fun z c1 H1 z0 z1 S1 hc1 k1 => ?_⟩
    obtain ⟨L, Lm, _, La⟩ := nth_at (xs := [3, 12, 60, M]) z0 z1
    have Lb : 3 ≤ L ∧ L ≤ 2000 := by
      simp only [List.mem_cons, List.not_mem_nil, or_false] at Lm
      omega
    refine ⟨p, _, z, .int L, rfl, rfl, SqL.of (k1 _ _ upd_same (S.ne hp)), La, l, seed, c1, L, rfl, S1, by omega, by omega, Nat.lt_of_le_of_lt (m := 2000) (by omega) (by decide), fun z2 c2 H2 z20 z21 S2 hc2 k2 => ?_⟩
    refine ⟨1, z2, rfl, rfl, ⟨#[b]⟩, 1 + z2, rfl, rfl, mul_chr_ok b (by omega) (by omega), ?_⟩
    rw [mul_chr b (by omega)]
    exact q _ c2 H2 (by omega) S2 (by omega) (((Keep1.of (same_new hp)).trans k1).trans k2)
def spWritten : Sp := fun vs H Q _ => ∃ (l : Addr) (seed cnt M : Int) (b : Nat), vs = [.ref l, .str ⟨#[b]⟩, .int M] ∧ 40 ≤ M ∧ M ≤ 2000 ∧ Lo b ∧ Rng H l seed cnt ∧ cnt < 400000 ∧
  ∀ xs cnt' H', (xs.length : Int) ≤ M → (∀ c ∈ xs, Lo c) → Rng H' l seed cnt' → cnt' ≤ cnt + 300 → Keep1 H H' l → Q (.str (SX.S xs)) H'
theorem ok_lawwritten {f : Addr} {fd : FuncData} (F : Fun K "_law_written" "_law_written" s_lawwritten f fd) (B : Bi mg) (D_lawdraw : Df P w K mg base 1 "_law_draw" ["rng", "limit"] spDraw) (D_lawpiece : Df P w K mg base 2 "_law_piece" ["rng", "sign", "most"] spPiece) : FnOk P w K mg base CX0 3 f fd ["rng", "sign", "most"] spWritten := by
  refine F.ok sc_lawwritten (fun vs H Q E h => ?_) (fun cdv A outer s H vs Q E hr h => ?_)
  · obtain ⟨l, seed, cnt, M, b, rfl, _⟩ := h
    rfl
  · obtain ⟨l, seed, cnt, M, b, rfl, M0, M1, hb, S, hc, q⟩ := h
    refine ⟨_, (pss_cons (ps_asg (pe_tup (pa_cons pe_str (pa_cons pe_str pa_nil))) (pg_tup rfl (pgs_cons (pg_name (i := 3) sc_lawwritten.nd rfl (Or.inl rfl)) (pgs_cons (pg_name (i := 4) sc_lawwritten.nd rfl (Or.inl rfl)) pgs_nil))))
 (pss_cons (ps_set (i := 5) sc_lawwritten.nd rfl (Or.inl rfl) (pe_dget2 (hu_of hr) (pe_disp (pps_cons pe_str pe_str (pps_cons pe_str pe_str (pps_cons pe_str pe_str (pps_cons pe_str pe_str (pps_cons pe_str pe_str (pps_cons pe_str pe_str pps_nil)))))) rfl rfl (by simp) (by decide)) (pv 1) pe_str ⟨by rfl, by rfl, by rfl, by rfl⟩))
 (pss_cons (ps_for PassesOwn.never rfl (pi_range1 (by rfl) B.n_range (pa_cons (pe_callD D_lawdraw (hr.mono (by omega)) (by rfl) (pa_cons (pv 0) (pa_cons (pe_ix (r := rIxL K) ix_list (pe_lst (pa_cons pe_int (pa_cons pe_int (pa_cons pe_int pa_nil)))) (pe_callD D_lawdraw (hr.mono (by omega)) (by rfl) (pa_cons (pv 0) (pa_cons pe_int pa_nil))) (fun _ _ => rfl)) pa_nil))) pa_nil)) (pg_name (i := 6) sc_lawwritten.nd rfl (Or.inl rfl))
 (pss_cons (ps_set (i := 7) sc_lawwritten.nd rfl (Or.inl rfl) (pe_callD D_lawdraw (hr.mono (by omega)) (by rfl) (pa_cons (pv 0) (pa_cons pe_int pa_nil))))
 (pss_one (ps_if (pt_cmpR op_lt (pv 7) pe_int (nomark _))
 (pss_one (ps_set (i := 4) sc_lawwritten.nd rfl (Or.inl rfl) (pe_op op_add_str (pv 4) (pe_callD D_lawpiece (hr.mono (by omega)) (by rfl) (pa_cons (pv 0) (pa_cons (pv 1) (pa_cons (pv 2) pa_nil)))))))
 (pss_one (ps_set (i := 4) sc_lawwritten.nd rfl (Or.inl rfl) (pe_op op_add_str (pv 4) (pe_callD D_lawpiece (hr.mono (by omega)) (by rfl) (pa_cons (pv 0) (pa_cons (pe_ix (r := rIxL K) ix_list (pe_lst (pa_cons (pv 5) (pa_cons (pe_ix ix_str (pv 3) (pe_callD D_lawdraw (hr.mono (by omega)) (by rfl) (pa_cons (pv 0) (pa_cons (pe_callB (id := "len") call_len_str (by rfl) B.n_len (by decide +kernel) (pa_cons (pv 3) pa_nil)) pa_nil))) (fun _ _ => rfl)) pa_nil))) (pe_op op_sub (pv 7) pe_int) (fun _ _ => rfl)) (pa_cons pe_int pa_nil)))))))))))
 (pss_one (ps_ret (pe_slice sl_str (pv 4) po_none (po_some (pv 2)))))))), ?_⟩
    have szl : sizeLine = 16777216 := sizeLine_eq
    obtain ⟨others, eo⟩ : ∃ others : Str, others = "abcAX .,-~!0Zz*^$\\[](){}?+|/\"'" := ⟨_, rfl⟩
    have olen : others.length = 30 := by rw [eo]; rfl
    have omem : ∀ c ∈ others.cps.toList, Lo c := by rw [eo]; decide +kernel
    refine ⟨by show 2 ≤ sizeLine; omega, fun pt hpt => ?_⟩
    refine ⟨pt, _, rfl, .inl (.inl upd_same), rfl, _, _, rfl, _, _, rfl, rfl, ?_⟩
    have s0 := same_new (o := .tup [V.str others, .str ""]) hpt
    rw [eo] at s0
    refine fun pd hpd => ⟨upd_same, twins, rfl, by decide, pd, rfl, .inl ⟨_, .inl upd_same⟩, _, rfl, _, DGet.k (k := .inr ⟨#[b]⟩) upd_same, ?_⟩
    obtain ⟨tw, tw96, etw⟩ := twin_one (.inr ⟨#[b]⟩)
    rw [etw]
    have sG : Same H (upd (upd (upd H pt (.tup [V.str "abcAX .,-~!0Zz*^$\\[](){}?+|/\"'", .str ""])) pd (.dK [])) pd (.dK (mergeK [] twins))) := fun z o e => by
      have e1 := s0 z o e
      have nz := ne_of_none e1 hpd
      rw [upd_ne nz, upd_ne nz]
      exact e1
    generalize upd (upd (upd H pt (.tup [V.str "abcAX .,-~!0Zz*^$\\[](){}?+|/\"'", .str ""])) pd (.dK [])) pd (.dK (mergeK [] twins)) = G at sG
    rw [← eo]
    have SG := S.same sG
    refine ⟨_, rfl, by show 3 ≤ sizeLine; omega, fun q1 hq1 => ?_⟩
    refine ⟨_, rfl, l, seed, cnt, 3, rfl, SG.same (same_new hq1), by omega, by decide, by decide, fun z c1 H1 z0 z1 S1 hc1 k1 => ?_⟩
    obtain ⟨N, Nm, _, Na⟩ := nth_at (xs := [4, 20, 60]) z0 z1
    have Nb : 0 < N ∧ N ≤ 60 := by
      simp only [List.mem_cons, List.not_mem_nil, or_false] at Nm
      omega
    refine ⟨q1, _, z, .int N, rfl, rfl, SqL.of (k1 _ _ upd_same (SG.ne hq1)), Na, l, seed, c1, N, rfl, S1, by omega, Nb.1, Nat.lt_of_le_of_lt (m := 60) (by omega) (by decide), fun n c2 H2 n0 n1 S2 hc2 k2 => ?_⟩
    have kG : Keep1 H H2 l := (((Keep1.of sG).trans (Keep1.of (same_new hq1))).trans k1).trans k2
    refine ⟨n, rfl, by omega, by omega, for_range (lo := 0) (n := n.toNat) (fun i σ H' => ∃ (cn : Int) (F : List Nat) (y6 y7 : Option V), σ = [some (.ref l), some (.str ⟨#[b]⟩), some (.int M), some (.str others), some (.str (SX.S F)), some (.str ⟨#[tw]⟩), y6, y7] ∧ Rng H' l seed cn ∧ cn ≤ cnt + 2 + 4 * i ∧ Keep1 H H' l ∧ F.length ≤ 2000 * i ∧ ∀ c ∈ F, Lo c)
      ⟨c2, [], none, none, rfl, S2, by omega, kG, Nat.le_refl _, fun c z => nomatch z⟩ ?_ ?_⟩
    · rintro i σ H3 hi ⟨cn, F, y6, y7, rfl, S3, hc3, k3, fl, f96⟩
      have next : ∀ (c : Nat) (m : Nat), Lo c → m ≤ 2000 → (SX.S F).length + (SX.S (List.replicate m c)).length ≤ sizeLine ∧ SX.S F ++ SX.S (List.replicate m c) = SX.S (F ++ List.replicate m c) ∧ (F ++ List.replicate m c).length ≤ 2000 * (i + 1) ∧ ∀ x ∈ F ++ List.replicate m c, Lo x := fun c m hc hm => by
        refine ⟨?_, SX.S_cat _ _, ?_, fun x z => ?_⟩
        · rw [SX.S_len, SX.S_len, List.length_replicate]
          omega
        · rw [List.length_append, List.length_replicate]
          omega
        · rcases List.mem_append.mp z with z | z
          · exact f96 x z
          · rw [(List.mem_replicate.mp z).2]
            exact hc
      refine ⟨_, rfl, l, seed, cn, 4, rfl, S3, by omega, by decide, by decide, fun way c4 H4 w0 w1 S4 hc4 k4 => ?_⟩
      refine ⟨_, rfl, way, 2, rfl, rfl, _, rfl, ite2 (fun c => ?_) (fun c => ?_)⟩
      · refine ⟨_, rfl, _, rfl, _, rfl, _, rfl, l, seed, c4, M, b, rfl, by omega, M1, S4, by omega, fun m c5 H5 hm S5 hc5 k5 => ?_⟩
        obtain ⟨a1, a2, a3, a4⟩ := next b m hb hm
        refine ⟨_, _, rfl, rfl, a1, ?_⟩
        rw [a2]
        exact ⟨c5, _, _, _, rfl, S5, by omega, (k3.trans k4).trans k5, a3, a4⟩
      · have wy : 2 ≤ way := by
          have : ¬ way < 2 := fun z => c (decide_eq_true z)
          omega
        have ol : others.length ≤ sizeLine := by omega
        refine ⟨_, rfl, _, rfl, _, rfl, _, rfl, _, rfl, _, rfl, others, rfl, ol, l, seed, c4, _, rfl, S4, by omega, by rw [olen]; decide, by rw [olen]; decide, fun z2 c5 H5 z20 z21 S5 hc5 k5 => ?_⟩
        rw [olen] at z21
        have zl : z2.toNat < others.cps.toList.length := by
          have : others.cps.toList.length = others.length := rfl
          omega
        obtain ⟨ch, ec⟩ : ∃ ch, others.cps.toList[z2.toNat]? = some ch := ⟨_, List.getElem?_eq_getElem zl⟩
        have c96 := omem ch (List.mem_of_getElem? ec)
        have at1 : atI others.cps.toList z2 = some ch := by
          unfold atI ixN
          have l1 : others.cps.toList.length = 30 := olen
          rw [if_pos z20, l1, if_pos (by omega)]
          exact ec
        refine ⟨others, z2, ch, rfl, rfl, ol, at1, by show 2 ≤ sizeLine; omega, fun q2 hq2 => ?_⟩
        obtain ⟨d, d96, ed⟩ : ∃ d : Nat, Lo d ∧ atI [V.str ⟨#[tw]⟩, V.str ⟨#[ch]⟩] (way - 2) = some (.str ⟨#[d]⟩) := by
          by_cases e : way = 2
          · exact ⟨tw, tw96, at_of (j := 0) (by omega) rfl⟩
          · exact ⟨ch, c96, at_of (j := 1) (by omega) rfl⟩
        refine ⟨_, rfl, way, 2, rfl, rfl, q2, _, way - 2, .str ⟨#[d]⟩, rfl, rfl, SqL.of upd_same, ed, l, seed, c5, 5, d, rfl, by decide, by decide, S5.same (same_new hq2), by omega, fun m c6 H6 hm S6 hc6 k6 => ?_⟩
        obtain ⟨a1, a2, a3, a4⟩ := next d m d96 hm
        refine ⟨_, _, rfl, rfl, a1, ?_⟩
        rw [a2]
        exact ⟨c6, _, _, _, rfl, S6, by omega, (((k3.trans k4).trans k5).trans (Keep1.of (same_new hq2))).trans k6, a3, a4⟩
    · rintro σ H3 ⟨cn, F, y6, y7, rfl, S3, hc3, k3, fl, f96⟩
      obtain ⟨mm, rfl⟩ := Int.eq_ofNat_of_zero_le (show 0 ≤ M by omega)
      refine ⟨_, rfl, _, rfl, _, rfl, SX.S F, rfl, by rw [SX.S_len]; omega, ?_⟩
      rw [cutS_upto]
      refine q _ cn H3 ?_ (fun c z => f96 c (List.mem_of_mem_take z)) S3 (by omega) k3
      have := List.length_take_le mm F
      show ((F.take mm).length : Int) ≤ _
      omega
end
end Sq
set_option Elab.async false
set_option linter.all false
set_option maxRecDepth 100000
set_option maxHeartbeats 4000000
/-! A call with a written sign, outside of any cell: something before it has given a token out. -/
namespace Sq
open PySem PySem.Spec PyProof.Rows L2 GenW
/-- e gives a token out -/
structure PEg (X : Cx) (e : Expr) (t : TE) : Prop where
  run : ∀ (pins : List (Addr × Obj)) (s : Shared) (σ : L2.St) (H : Hp) (Q : VK), Inv X pins σ H s → t σ H Q → wpAny (model X.prog X.w) X.A (eval e X.env) (fun u s' => 1 ≤ s'.toks ∧ EP X pins σ Q u s') X.xe s
section
variable {X : Cx} {x : Str} {p pos p2 pc : Pos} {e e1 e3 : Expr} {te t1 t3 : TE}
theorem peg_str {z : Str} {k : Nat} : PEg X (.Constant (.str z) k pos) (tC (.str z)) :=
  ⟨fun pins s σ H Q I h => Calls.Constant_str ⟨Nat.le_add_left 1 _, .str z, H, I.tok _, ⟨_, rfl⟩, h⟩⟩
/-- z[:i] -/
theorem peg_upto {i : Int} {k : Nat} (he : PE X e te) : PEg X (.Subscript e (.Slice none (some (.Constant (.int i) k pc)) none p2) pos) (tSl rSlS te tNoPart (tPart (tC (.int i)))) := by
  refine ⟨fun pins s σ H Q I h => ?_⟩
  refine Subscript_ (thn (he.run pins s σ H _ I h) fun v s1 hh => ?_)
  obtain ⟨z, H1, I1, r1, q1⟩ := hh
  refine wpAny_Slice ?_
  rw [evalPart_none]
  refine wpAny_pure ?_
  rw [evalPart_some]
  refine wpAny_Constant_int ?_
  obtain ⟨i', ei, q⟩ := q1
  cases ei
  refine wpAny_pure ?_
  have I3 : Inv X pins σ H1 { s1 with toks := s1.toks + 1 } := I1.tok _
  have I4 : Inv X pins σ H1 { s1 with heap := s1.heap.push { cls := .type "slice", data := .fields #[.none, .int i s1.toks, .none] }, toks := s1.toks + 1 } := I3.kept (t' := s1.toks + 1) fun b ob q => Heap.get?_push_of_some _ q
  obtain ⟨T, id, hT, ht, hg⟩ := sl_str pins { s1 with heap := s1.heap.push { cls := .type "slice", data := .fields #[.none, .int i s1.toks, .none] }, toks := s1.toks + 1 } σ H1 z v .none (.int i s1.toks) none (some i) s1.heap.objs.size Q I4 r1 (Heap.IsSliceOf.new ..) .none (.int i _) q
  show wpAny (model X.prog X.w) X.A (subscriptTail e (.Slice none (some (.Constant (.int i) k pc)) none p2) v (.ref s1.heap.objs.size)) (fun u s' => 1 ≤ s'.toks ∧ EP X pins σ Q u s') X.xe _
  exact tail_any (ops := [.ref s1.heap.objs.size, v]) ht hT (wpAny_mono (PySem.wpAny_toks_of (n := 1) (Nat.le_add_left 1 _) hg) (fun _ _ z => z) fun _ _ z => z.2) (by with_unfolding_all rfl)
theorem pe_callTg {k kz : Nat} {z : Str} {pz : Pos} {ps : List Str} {sp : Sp} (D : DfT X.prog X.w X.K X.mg X.base k x ps 1 sp) (hr : Room k X.A) (hg : Gl X x) (h1 : PEg X e1 t1) (h3 : PE X e3 t3) (hdb : (x == ("__debug__" : Str)) = false := by decide)
    (he : starEach [e1, .Constant (.str z) kz pz, e3] X.env = [(false, eval e1 X.env), (false, eval (.Constant (.str z) kz pz) X.env), (false, eval e3 X.env)] := by rfl) (hpl : (backTo pos (starEach [.Constant (.str z) kz pz, e3] X.env)).any (·.1) = false := by rfl)
    (hh : starEach [e1, .Constant (.str z) kz pz, e3] X.env = (false, eval e1 X.env) :: starEach [.Constant (.str z) kz pz, e3] X.env := by rfl) :
    PE X (.Call (.Name x p) [e1, .Constant (.str z) kz pz, e3] [] pos) (tCall sp [] E0 (tCons t1 (tCons (tC (.str z)) (tCons t3 tNil)))) := by
  obtain ⟨f, fd, F, g, kp, b⟩ := D.ex
  refine ⟨fun pins s σ H Q I h => ?_⟩
  refine wpAny_Call_Name_kw (ld_glob I hg g ?_ hdb)
  refine PySem.W.callWith_K (h₀ := X.base) I.ok.mod.kin kp ?_ hh hpl
  rw [he]
  refine Calls.spliced_cons (thn (h1.run pins s σ H _ I h) fun u1 s1 hh => ?_)
  obtain ⟨g1, v1, H1, I1, r1, q1⟩ := hh
  show wpAny _ _ (spliced ((false, eval (.Constant (.str z) kz pz) X.env) :: (false, eval e3 X.env) :: [])) _ _ _
  refine Calls.spliced_cons (Calls.Constant_str (Calls.spliced_cons (wpAny_mono (PySem.wpAny_toks (h3.run pins _ σ H1 _ (I1.tok (s1.toks + 1)) q1)) (fun u3 s3 hh => ?_) fun _ _ z => z.2)))
  obtain ⟨g3, v3, H3, I3, r3, q⟩ := hh
  refine Calls.spliced_nil ?_
  have r : Vals [v1, .str z, v3] [u1, .str z s1.toks, u3] := .cons r1 (.cons ⟨_, rfl⟩ (.cons r3 .nil))
  refine ⟨I3.kIn, ?_⟩
  replace q : sp [v1, .str z, v3] H3 Q E0 := q
  have hl : [u1, Value.str z s1.toks, u3].length = ps.length := by rw [← r.length]; exact F.len _ _ _ _ q
  have bind := b s3 [u1, .str z s1.toks, u3] I3.kIn (by rw [List.append_nil]; exact hl)
  rw [List.append_nil] at bind
  have tk : Tkn 1 [u1, Value.str z s1.toks, u3] s3.toks := fun b t eb one => by
    have e2 : Value.str z s1.toks = .str b t := Option.some.inj eb
    injection e2 with _ e3
    subst e3
    exact ⟨Nat.ne_of_gt (Nat.lt_of_lt_of_le Nat.zero_lt_one g1), g3⟩
  refine wpAny_call (codeAny_mono (F.run X.A X.stack s3 H3 ⟨[u1, .str z s1.toks, u3], []⟩ _ _ Q hr I3.env0 bind r tk q) fun r s' hq => ?_)
  match r, hq with
  | .ok (.ret u), hq => exact I3.after hq
end
end Sq
set_option Elab.async false
set_option linter.all false
set_option maxHeartbeats 1000000
/-! The least run with more, from the last replacement to the first; reaches of parts; how great they grow. -/
namespace Sq
open L2
theorem cut_drop (xs : List V) (n : Nat) (h : n ≤ xs.length) : cutV xs (some (n : Int)) none = xs.drop n := by
  unfold cutV
  rw [HT.sIx_nat, HT.sIx_none, Nat.min_eq_left h]
  exact List.take_of_length_le (by rw [List.length_drop]; exact Nat.le_refl _)
end Sq
set_option Elab.async false
set_option linter.all false
set_option maxRecDepth 100000
set_option maxHeartbeats 8000000
set_option exponentiation.threshold 2000
namespace Sq
open PySem PySem.Spec PyProof.Rows L2
theorem wo_mono {G H : Hp} {D : Addr} (s : Same G H) : Same (wo G D) (wo H D) := fun b o e => by
  by_cases h : b = D
  · rw [h, wo_self] at e
    cases e
  · rw [wo_ne h] at e ⊢
    exact s b o e
theorem nat_at {ls : List Int} {j : Nat} (h : (j : Int) < ls.length) : ∃ k, k ∈ ls ∧ (ls.map V.int)[j]? = some (.int k) := by
  have lt : j < ls.length := by omega
  refine ⟨ls[j], List.getElem_mem lt, ?_⟩
  rw [List.getElem?_map, List.getElem?_eq_getElem lt]
  rfl
theorem runs_low {b : Nat} : ∀ (xs : List Nat) (r : Nat), ∀ n ∈ runs b xs r, 0 ≤ n
  | [], r, n, h => by
    have h' : n ∈ if r = 0 then [] else [(r : Int)] := h
    split at h'
    · cases h'
    · rw [List.mem_singleton.mp h']
      omega
  | x :: xs, r, n, h => by
    rw [runs_cons] at h
    split at h
    · exact runs_low xs _ n h
    · rcases List.mem_append.mp h with z | z
      · split at z
        · cases z
        · rw [List.mem_singleton.mp z]
          omega
      · exact runs_low xs _ n z
theorem runs_len {b : Nat} : ∀ (xs : List Nat) (r : Nat), (runs b xs r).length ≤ xs.length + 1
  | [], r => by
    show (if r = 0 then [] else [(r : Int)]).length ≤ 0 + 1
    split
    · exact Nat.zero_le _
    · exact Nat.le_refl _
  | x :: xs, r => by
    rw [runs_cons, List.length_cons]
    split
    · exact Nat.le_trans (runs_len xs _) (by omega)
    · have := runs_len (b := b) xs 0
      rw [List.length_append]
      split
      · show 0 + _ ≤ _
        omega
      · show 1 + _ ≤ _
        omega
theorem cutV_to (ks : List Int) (n : Nat) (h : n ≤ ks.length) : cutV (ks.map V.int) none (some (n : Int)) = (ks.take n).map V.int := by
  rw [cut_take _ _ (by rw [List.length_map]; exact h), List.map_take]
theorem cutV_from (ks : List Int) (n : Nat) (h : n ≤ ks.length) : cutV (ks.map V.int) (some (n : Int)) none = (ks.drop n).map V.int := by
  rw [cut_drop _ _ (by rw [List.length_map]; exact h), List.map_drop]
/-- the signs that aren't b, as texts -/
def rst (b : Nat) (xs : List Nat) : List V := (xs.filter fun y => decide (y ≠ b)).map fun c => V.str ⟨#[c]⟩
theorem rst_snoc (b : Nat) (xs : List Nat) (c : Nat) : rst b (xs ++ [c]) = rst b xs ++ (if c = b then [] else [V.str ⟨#[c]⟩]) := by
  unfold rst
  rw [List.filter_append, List.map_append]
  congr 1
  by_cases e : c = b
  · rw [if_pos e, List.filter_cons, if_neg (by rw [decide_eq_false (fun z => z e)]; exact Bool.false_ne_true)]
    rfl
  · rw [if_neg e, List.filter_cons, if_pos (decide_eq_true e)]
    rfl
theorem rst_len (b : Nat) (xs : List Nat) : (rst b xs).length ≤ xs.length := by
  unfold rst
  rw [List.length_map]
  exact List.length_filter_le _ _
theorem dp_strs {K : PySem.W.Frag} {H : Hp} : ∀ (xs : List Nat), DpAll K H (xs.map fun c => V.str ⟨#[c]⟩) (xs.map fun c => PyData.str ⟨#[c]⟩)
  | [] => .nil
  | _ :: xs => .cons (.str _) (dp_strs xs)
theorem strOk_S {l : List Nat} (h : ∀ c ∈ l, c < 128) : PySem.PyData.strOk (SX.S l) = true := by
  unfold PySem.PyData.strOk
  show (l.toArray.all fun c => decide (c < 0x110000)) = true
  rw [List.all_toArray, List.all_eq_true]
  intro c hc
  have := h c hc
  exact decide_eq_true (by omega)
theorem lays_strs : ∀ {xs : List Nat}, (∀ c ∈ xs, c < 128) → PyData.canLayAll0 (xs.map fun c => PyData.str ⟨#[c]⟩) = true
  | [], _ => rfl
  | d :: ds, h => by
    show (PyData.canLay0 (.str (SX.S [d])) && PyData.canLayAll0 (ds.map fun c => PyData.str ⟨#[c]⟩)) = true
    rw [lays_strs fun c hc => h c (List.mem_cons_of_mem _ hc), show PyData.canLay0 (.str (SX.S [d])) = true from strOk_S fun c hc => by rw [List.mem_singleton.mp hc]; exact h d List.mem_cons_self]
    rfl
theorem deep_strs : ∀ (xs : List Nat), PyData.depthAll (xs.map fun c => PyData.str ⟨#[c]⟩) ≤ 1
  | [] => Nat.zero_le _
  | _ :: ds => Nat.max_le.mpr ⟨Nat.zero_le _, deep_strs ds⟩
theorem shaped_strs {xs : List Nat} (h : ∀ c ∈ xs, c < 128) : SeqAt.shaped (.list (xs.map fun c => PyData.str ⟨#[c]⟩)) = true :=
  Bool.and_eq_true_iff.mpr ⟨lays_strs h, decide_eq_true (Nat.le_trans (Nat.add_le_add_right (deep_strs xs) 1) (by decide))⟩
theorem eqv_strs {xs : List Nat} (h : ∀ c ∈ xs, c < 128) : PyData.eqv (.list (xs.map fun c => PyData.str ⟨#[c]⟩)) (.list (xs.map fun c => PyData.str ⟨#[c]⟩)) = true :=
  PySem.SeqAt.eqv_refl _ (lays_strs h)
theorem lay_two {l : List Nat} (h : ∀ c ∈ l, c < 128) : PyData.canLayAll0 [.str (SX.S l), .str (SX.S l)] = true := by
  have e : PyData.canLay0 (.str (SX.S l)) = true := strOk_S h
  show (PyData.canLay0 (.str (SX.S l)) && (PyData.canLay0 (.str (SX.S l)) && true)) = true
  rw [e]
  rfl
theorem shaped_two {l : List Nat} (h : ∀ c ∈ l, c < 128) : SeqAt.shaped (.list [.str (SX.S l), .str (SX.S l)]) = true :=
  Bool.and_eq_true_iff.mpr ⟨lay_two h, rfl⟩
theorem sqT_mem {b : Nat} {ks : List Int} : ∀ (xs : List Nat) (r : Int), ∀ c ∈ sqT b ks xs r, c = b ∨ c ∈ xs
  | [], r, c, h => .inl (List.mem_replicate.mp h).2
  | x :: xs, r, c, h => by
    rw [sqT_cons] at h
    split at h
    · exact (sqT_mem xs _ c h).imp id (List.mem_cons_of_mem _)
    · rcases List.mem_append.mp h with z | z
      · exact .inl (List.mem_replicate.mp z).2
      · rcases List.mem_cons.mp z with z | z
        · exact .inr (by rw [z]; exact List.mem_cons_self)
        · exact (sqT_mem xs _ c z).imp id (List.mem_cons_of_mem _)
theorem sqT_step {b : Nat} {ks : List Int} (h : ∀ k ∈ ks, 2 ≤ k) {i : Nat} {k : Int} (e : ks[i]? = some k) (xs : List Nat) : sqT b [k] (sqT b (ks.take i) xs 0) 0 = sqT b (ks.take (i + 1)) xs 0 := by
  rw [List.take_add_one, e, ← sqT_comp (fun x hx => h x (List.mem_of_mem_take hx)) xs 0 (by decide)]
  rfl
section
variable {P : Program} {w : World} {K : PySem.W.Frag} {mg : Str → Option Value} {base : Heap}
abbrev lawN : List Str := ["script", "rng", "lap", "sign", "line", "some", "kept", "due", "number", "named", "runs_here", "many", "rest", "one", "cut", "long"]
def spLaw (K : PySem.W.Frag) : Sp := fun vs H Q _ => ∃ (a : Addr) (ns : List Int), vs = [.ref a] ∧ SqL K H a (ns.map V.int) ∧ ns.length ≤ 63 ∧ ∀ H', Q (.bl true) H'
theorem ok_law {f : Addr} {fd : FuncData} (F : Fun K "law" "law" s_law f fd) (B : Bi mg) (D_lawrng : Df P w K mg base 1 "_law_rng" ["script"] (spRng K)) (D_lawdraw : Df P w K mg base 1 "_law_draw" ["rng", "limit"] spDraw)
    (D_lawwritten : Df P w K mg base 3 "_law_written" ["rng", "sign", "most"] spWritten) (D_lawlist : Df P w K mg base 2 "_law_list" ["rng", "most", "greatest"] spList) (D_lawreplaced : Df P w K mg base 1 "_law_replaced" ["written", "sign", "number"] spReplaced)
    (D_lawruns : Df P w K mg base 1 "_law_runs" ["written", "sign"] spRuns) (D_squeezed : Df P w K mg base 3 "squeezed" ["length", "replacements"] (spSqueezed K)) (D_readlist : Df P w K mg base 2 "read_list" ["text"] spReadT)
    (T_squeezetext : DfT P w K mg base 4 "squeeze_text" ["text", "character", "replacements"] 1 (spSqT K))
    (K_squeezetext : DkT P w K mg base 4 "squeeze_text" ["text", "character", "replacements"] ["replacements", "character", "text"] (perm3 2 1 0) 1 1 (spSqT K)) : Top P w K mg base 8 f fd "script" (spLaw K) := by
  refine atTop F sc_law ⟨rfl, by decide, by decide⟩ (fun vs H Q E h => ?_) (fun cdv outer s H vs Q E hr h => ?_)
  · obtain ⟨a, ns, rfl, _⟩ := h
    rfl
  · obtain ⟨a, ns, rfl, hS, hn, q⟩ := h
    obtain ⟨c, hc⟩ := cell_has (n := s.heap.objs.size + 1) (x := "sign") (show (defScope s_law).names.lookup ("sign" : Str) = some NameKind.cell from rfl)
    have Ce : Cel (cxOf CX0 P w K mg base lawN "law" (defScope s_law) f cdv callerA outer s H E).nox "sign" c := ⟨hc, rfl⟩
    have quiet : (cxOf CX0 P w K mg base lawN "law" (defScope s_law) f cdv callerA outer s H E).nox.A.guards = some [] := rfl
    refine ⟨_, (pss_cons (ps_set (i := 1) sc_law.nd rfl (Or.inl rfl) (pe_callD D_lawrng (hr.mono (by omega)) (by rfl) (pa_cons (pv 0) pa_nil)))
 (pss_cons (ps_for PassesOwn.never rfl (pi_range1 (by rfl) B.n_range (pa_cons (pe_op op_add pe_int (pe_callB (id := "min") (call_min2 rfl) (by rfl) B.n_min (by decide +kernel) (pa_cons pe_int (pa_cons (pe_callB (id := "len") (r := rLenK K) call_lenK (by rfl) B.n_len (by decide +kernel) (pa_cons (pv 0) pa_nil)) pa_nil)))) pa_nil)) (pg_name (i := 2) sc_law.nd rfl (Or.inl rfl))
 (pss_sign (i := 3) sc_law.nd rfl rfl Ce (pe_callD D_lawdraw (hr.mono (by omega)) (by rfl) (pa_cons (pv 1) (pa_cons pe_int pa_nil))) (fun _ _ => rfl) (fun ch tb n h0 hlt =>
  have good : Tkn 0 [Value.str ⟨#[ch]⟩ tb] n := fun b t eb one => by
    have e2 : Value.str ⟨#[ch]⟩ tb = .str b t := Option.some.inj eb
    injection e2 with _ e3
    subst e3
    exact ⟨h0, hlt⟩
  have n1 : 1 ≤ n := Nat.lt_of_le_of_lt (Nat.zero_le tb) hlt
  (jks_cons (jks_set (i := 4) Ce (by decide) sc_law.nd rfl (Or.inl rfl) (jk_callD Ce D_lawwritten (hr.mono (by omega)) (by rfl) (jka_cons (jk_of (jv 1)) (jka_cons (jk_of (jv 3)) (jka_cons (jk_ixP (jk_lst (jka_cons (jk_of je_int) (jka_cons (jk_of je_int) (jka_cons (jk_of je_int) jka_nil)))) (jk_callD Ce D_lawdraw (hr.mono (by omega)) (by rfl) (jka_cons (jk_of (jv 1)) (jka_cons (jk_of je_int) jka_nil))) (fun _ _ => rfl)) jka_nil)))))
    (jks_cons (jks_set (i := 5) Ce (by decide) sc_law.nd rfl (Or.inr rfl) (jk_callD Ce D_lawlist (hr.mono (by omega)) (by rfl) (jka_cons (jk_of (jv 1)) (jka_cons (jk_ixP (jk_lst (jka_cons (jk_of je_int) (jka_cons (jk_of je_int) jka_nil))) (jk_callD Ce D_lawdraw (hr.mono (by omega)) (by rfl) (jka_cons (jk_of (jv 1)) (jka_cons (jk_of je_int) jka_nil))) (fun _ _ => rfl)) (jka_cons (jk_ixP (jk_lst (jka_cons (jk_of je_int) (jka_cons (jk_of je_int) (jka_cons (jk_of je_int) jka_nil)))) (jk_callD Ce D_lawdraw (hr.mono (by omega)) (by rfl) (jka_cons (jk_of (jv 1)) (jka_cons (jk_of je_int) jka_nil))) (fun _ _ => rfl)) jka_nil)))))
    (jks_cons (jks_of (jst_par (i := 6) (j := 7) Ce (by decide) (by decide) rfl sc_law.nd rfl rfl (by decide) rfl rfl (ja_cons (je_callB (id := "repr") (cj_reprD quiet hr.units) (by rfl) B.n_repr (by decide +kernel) (ja_cons (jv 5) ja_nil)) (ja_cons (jv 4) ja_nil)) (by rfl)))
    (jks_cons (jks_for rfl PassesOwn.never Ce (jv 5) (jg_name (i := 8) Ce (by decide) sc_law.nd rfl (Or.inl rfl)) (jks_one (jks_set (i := 7) Ce (by decide) sc_law.nd rfl (Or.inl rfl) (jk_callD Ce D_lawreplaced (hr.mono (by omega)) (by rfl) (jka_cons (jk_of (jv 7)) (jka_cons (jk_of (jv 3)) (jka_cons (jk_of (jv 8)) jka_nil)))))))
    (jks_cons (jks_set (i := 9) Ce (by decide) sc_law.nd rfl (Or.inl rfl) (jk_callTK Ce K_squeezetext (hr.mono (by omega)) (by rfl) (jky_skip (jk_of (jv 5)) (jky_name (i := 3) rfl (Or.inr (Or.inl rfl)) rfl Ce good (jkk_cons (jk_of (jv 4)) jkk_nil)))))
    (jks_cons (jks_if (jkt_cmp (oj_neD hr.units) (jk_lst (jka_cons (jk_callT Ce T_squeezetext (hr.mono (by omega)) (by rfl) (jkx_skip (jk_of (jv 4)) (jkx_name (i := 3) rfl (Or.inr (Or.inl rfl)) rfl Ce good (jka_cons (jk_of (jv 5)) jka_nil)))) (jka_cons (jk_of (jv 9)) jka_nil))) (jk_lst (jka_cons (jk_of (jv 7)) (jka_cons (jk_of (jv 7)) jka_nil))) (by rfl)) (jks_one (jks_ret (jk_of je_bl))) jks_nil)
    (jks_cons (jks_of (jst_setLc Ce (i := 10) (own := [("many", 11)]) (g := gName 11) rfl sc_law.nd rfl rfl (by decide) (sw_true rfl rfl rfl (by decide +kernel)) (ji_list (je_callD Ce D_lawruns (hr.mono (by omega)) (by rfl) (ja_cons (jv 4) (ja_cons (jv 3) ja_nil)))) (blkOk_by (own := [("many", 11)]) (N := lawN) (sc := defScope s_law) (by decide +kernel)) (fun _ _ _ _ _ => (pg_name (i := 11) sc_law.nd rfl (Or.inl rfl))) (fun _ _ _ _ _ => pts_nil) (fun _ _ _ _ _ => (pe_callD D_squeezed (hr.mono (by omega)) (by rfl) (pa_cons (pv 11) (pa_cons (pv 5) pa_nil))))))
    (jks_cons (jks_if (JW.pt (jw_or (jkt_cmp (oj_neD hr.units) (jk_callD Ce D_lawruns (hr.mono (by omega)) (by rfl) (jka_cons (jk_of (jv 7)) (jka_cons (jk_of (jv 3)) jka_nil))) (jk_of (jv 10)) (by rfl)) (jw_or1 (jkt_cmp oj_neT (jk_callB (id := "repr") (cj_reprD quiet hr.units) (by rfl) B.n_repr (by decide +kernel) (jka_cons (jk_of (jv 5)) jka_nil)) (jk_of (jv 6)) (by rfl))))) (jks_one (jks_ret (jk_of je_bl))) jks_nil)
    (jks_cons (jks_of (jst_setLc Ce (i := 12) (own := [("one", 13)]) (g := gName 13) rfl sc_law.nd rfl rfl (by decide) (sw_true rfl rfl rfl (by decide +kernel)) (ji_str (jv 4)) (blkOk_by (own := [("one", 13)]) (N := lawN) (sc := defScope s_law) (by decide +kernel)) (fun _ _ _ _ _ => (pg_name (i := 13) sc_law.nd rfl (Or.inl rfl))) (fun _ _ _ _ _ => pts_one (pt_cmpR op_ne (pv 13) (pv 3) (nomark _))) (fun _ _ _ _ _ => (pv 13))))
    (jks_cons (jks_if (jkt_cmp (oj_neD hr.units) (jk_of (je_lc Ce (own := [("one", 13)]) (g := gName 13) rfl sc_law.nd (ji_str (jv 7)) (blkOk_by (own := [("one", 13)]) (N := lawN) (sc := defScope s_law) (by decide +kernel)) (fun _ _ _ _ _ => (pg_name (i := 13) sc_law.nd rfl (Or.inl rfl))) (fun _ _ _ _ _ => pts_one (pt_cmpR op_ne (pv 13) (pv 3) (nomark _))) (fun _ _ _ _ _ => (pv 13)))) (jk_of (jv 12)) (by rfl)) (jks_one (jks_ret (jk_of je_bl))) jks_nil)
    (jks_cons (jks_set (i := 14) Ce (by decide) sc_law.nd rfl (Or.inl rfl) (jk_callD Ce D_lawdraw (hr.mono (by omega)) (by rfl) (jka_cons (jk_of (jv 1)) (jka_cons (jk_op oj_add (jk_callB (id := "len") (r := rLenK K) cj_lenK (by rfl) B.n_len (by decide +kernel) (jka_cons (jk_of (jv 5)) jka_nil)) (jk_of je_int)) jka_nil))))
    (jks_cons (jks_if (jkt_cmp oj_neT (jk_callT Ce T_squeezetext (hr.mono (by omega)) (by rfl) (jkx_skip (jk_callT Ce T_squeezetext (hr.mono (by omega)) (by rfl) (jkx_skip (jk_of (jv 4)) (jkx_name (i := 3) rfl (Or.inr (Or.inl rfl)) rfl Ce good (jka_cons (jk_slL (jk_of (jv 5)) jo_none (jo_some (jk_of (jv 14)))) jka_nil)))) (jkx_name (i := 3) rfl (Or.inr (Or.inl rfl)) rfl Ce good (jka_cons (jk_slL (jk_of (jv 5)) (jo_some (jk_of (jv 14))) jo_none) jka_nil)))) (jk_of (jv 7)) (by rfl)) (jks_one (jks_ret (jk_of je_bl))) jks_nil)
    (jks_one (jks_if (JW.pt (jw_or (jkt_cmp oj_neT (jk_callT Ce T_squeezetext (hr.mono (by omega)) (by rfl) (jkx_skip (jk_of (jv 4)) (jkx_str n1 (jka_cons (jk_of (jv 5)) jka_nil)))) (jk_of (jv 4)) (by rfl)) (jw_or1 (jkt_cmp oj_neT (jk_callT Ce T_squeezetext (hr.mono (by omega)) (by rfl) (jkx_skip (jk_of je_str) (jkx_str n1 (jka_cons (jk_lst (jka_cons (jk_of je_int) jka_nil)) jka_nil)))) (jk_of je_str) (by rfl))))) (jks_one (jks_ret (jk_of je_bl))) jks_nil)))))))))))))))))
 (pss_cons (ps_par (i := 15) (j := 4) (by rfl) sc_law.nd rfl rfl (by decide) rfl rfl (pa_cons (pe_callD D_readlist (hr.mono (by omega)) (by rfl) (pa_cons pe_str pa_nil)) (pa_cons (pe_op op_add_str (pe_callD D_lawwritten (hr.mono (by omega)) (by rfl) (pa_cons (pv 1) (pa_cons pe_str (pa_cons pe_int pa_nil)))) (pe_op op_mulS pe_str pe_int)) pa_nil)) (by rfl))
 (pss_cons (ps_set (i := 7) sc_law.nd rfl (Or.inl rfl) (pe_slice sl_str (pv 4) po_none (po_some pe_int)))
 (pss_cons (ps_for PassesOwn.never rfl (pi_list (pv 15)) (pg_name (i := 8) sc_law.nd rfl (Or.inl rfl))
 (pss_one (ps_set (i := 7) sc_law.nd rfl (Or.inl rfl) (pe_callD D_lawreplaced (hr.mono (by omega)) (by rfl) (pa_cons (pv 7) (pa_cons pe_str (pa_cons (pv 8) pa_nil)))))))
 (pss_cons (ps_if (pt_cmpR op_ne (pe_callTg T_squeezetext (hr.mono (by omega)) (by rfl) (peg_upto (pv 4)) (pv 15)) (pv 7) (nomark _))
 (pss_one (ps_ret pe_bl))
 pss_nil)
 (pss_one (ps_ret (pe_and (pe_cmpR op_eq (pe_callTg T_squeezetext (hr.mono (by omega)) (by rfl) peg_str (pe_lst (pa_cons pe_int pa_nil))) pe_str (nomark _)) (pe_one (pe_cmpR op_eq (pe_callTg T_squeezetext (hr.mono (by omega)) (by rfl) peg_str (pe_lst (pa_cons pe_int (pa_cons pe_int pa_nil)))) pe_str (nomark _)))))))))))), ?_⟩
    have lim : sizeLine = 16777216 := sizeLine_eq
    have w1 : 1 ≤ sizeLine := by omega
    have w2 : 2 ≤ sizeLine := by omega
    have w3 : 3 ≤ sizeLine := by omega
    have eSX : ∀ l : List Nat, (⟨l.toArray⟩ : Str) = SX.S l := fun _ => rfl
    refine ⟨_, rfl, a, ns, rfl, hS, hn, fun l seed H1 hl s1 S1 => ?_⟩
    refine ⟨_, rfl, a, _, rfl, .inl (s1.seq hS), 8, _, rfl, 4, _, rfl, rfl, ?_⟩
    rw [List.length_map]
    obtain ⟨N, eN⟩ : ∃ N, N = 4 + (if (ns.length : Int) < 8 then (ns.length : Int) else 8) := ⟨_, rfl⟩
    have hN : 4 ≤ N ∧ N ≤ 12 := by
      rw [eN]
      split <;> omega
    refine ⟨N, by subst eN; rfl, by omega, by omega, for_range (lo := 0) (n := N.toNat) (fun i σ H' => ∃ cnt y2 y3 y4 y5 y6 y7 y8 y9 y10 y11 y12 y13 y14 y15, σ = [some (.ref a), some (.ref l), y2, y3, y4, y5, y6, y7, y8, y9, y10, y11, y12, y13, y14, y15] ∧ Rng H' l seed cnt ∧ cnt ≤ 400 * i)
      ⟨0, none, none, none, none, none, none, none, none, none, none, none, none, none, none, rfl, S1, by omega⟩ ?_ ?_⟩
    · rintro i σ H2 hi ⟨cnt, y2, y3, y4, y5, y6, y7, y8, y9, y10, y11, y12, y13, y14, y15, rfl, S2, hc2⟩
      refine ⟨_, rfl, l, seed, cnt, 25, rfl, S2, by omega, by decide, by decide, fun z1 c1 H3 z10 z11 S3 hc3 k3 => ?_⟩
      obtain ⟨j, rfl⟩ := Int.eq_ofNat_of_zero_le z10
      obtain ⟨signs, es⟩ : ∃ signs : Str, signs = " a-~x0AZ.*^$\\[]()+?|{}/\"'" := ⟨_, rfl⟩
      have slen : signs.cps.toList.length = 25 := by rw [es]; decide +kernel
      have smem : ∀ c ∈ signs.cps.toList, Lo c := by rw [es]; decide +kernel
      obtain ⟨ch, ech⟩ : ∃ ch, signs.cps.toList[j]? = some ch := ⟨_, List.getElem?_eq_getElem (by omega)⟩
      have c96 := smem ch (List.mem_of_getElem? ech)
      rw [es] at ech
      refine ⟨j, ch, rfl, by show 25 ≤ sizeLine; omega, ech, ?_⟩
      -- line
      refine ⟨_, rfl, _, rfl, w3, fun t0 ht0 => ?_⟩
      have nt0 := S3.ne ht0
      refine ⟨_, rfl, l, seed, c1, 3, rfl, S3.upd nt0, by omega, by decide, by decide, fun z2 c2 H4 z20 z21 S4 hc4 k4 => ?_⟩
      have gt0 := k4 _ _ (upd_same (H := H3) (a := t0)) nt0
      obtain ⟨j2, rfl⟩ := Int.eq_ofNat_of_zero_le z20
      obtain ⟨M, mM, eM⟩ := nat_at (ls := [40, 300, 2000]) (j := j2) (by simpa using z21)
      have hM : 40 ≤ M ∧ M ≤ 2000 := by
        simp only [List.mem_cons, List.not_mem_nil, or_false] at mM
        omega
      refine ⟨t0, _, j2, .int M, rfl, rfl, SqL.of gt0, eM, ?_⟩
      refine ⟨l, seed, c2, M, ch, rfl, hM.1, hM.2, c96, S4, by omega, fun xs c3 H5 lxs n96 S5 hc5 k5 => ?_⟩
      have lox : ∀ c ∈ xs, c < 128 := fun c h => (n96 c h).2
      have lx : xs.length ≤ 2000 := by omega
      -- some
      refine ⟨_, rfl, w2, fun t1 ht1 => ?_⟩
      have nt1 := S5.ne ht1
      refine ⟨_, rfl, l, seed, c3, 2, rfl, S5.upd nt1, by omega, by decide, by decide, fun z3 c4 H6 z30 z31 S6 hc6 k6 => ?_⟩
      have gt1 := k6 _ _ (upd_same (H := H5) (a := t1)) nt1
      obtain ⟨j3, rfl⟩ := Int.eq_ofNat_of_zero_le z30
      obtain ⟨L, mL, eL⟩ := nat_at (ls := [3, 12]) (j := j3) (by simpa using z31)
      have hL : 0 ≤ L ∧ L ≤ 12 := by
        simp only [List.mem_cons, List.not_mem_nil, or_false] at mL
        omega
      refine ⟨t1, _, j3, .int L, rfl, rfl, SqL.of gt1, eL, w3, fun t2 ht2 => ?_⟩
      have nt2 := S6.ne ht2
      refine ⟨_, rfl, l, seed, c4, 3, rfl, S6.upd nt2, by omega, by decide, by decide, fun z4 c5 H7 z40 z41 S7 hc7 k7 => ?_⟩
      have gt2 := k7 _ _ (upd_same (H := H6) (a := t2)) nt2
      obtain ⟨j4, rfl⟩ := Int.eq_ofNat_of_zero_le z40
      obtain ⟨g, mg', eg⟩ := nat_at (ls := [5, 40, 2000]) (j := j4) (by simpa using z41)
      have hg : 3 ≤ g ∧ g ≤ 1000000 := by
        simp only [List.mem_cons, List.not_mem_nil, or_false] at mg'
        omega
      refine ⟨t2, _, j4, .int g, rfl, rfl, SqL.of gt2, eg, ?_⟩
      refine ⟨l, seed, c5, L, g, rfl, hL.1, hL.2, hg.1, hg.2, S7, by omega, fun p ks c6 H8 np S8 hc8 k8 gp lk hk => ?_⟩
      have npl := S7.ne np
      have rpl : Rpl ks := fun k h => by have := hk k h; omega
      have two := rpl.two
      have hk12 : ∀ k ∈ ks, k.natAbs < 10 ^ 12 := fun k h => by have := hk k h; omega
      have xl : (SX.S xs).length = xs.length := SX.S_len xs
      have x3 : (SX.S xs).length ≤ 3000 := by omega
      -- kept, due
      refine ⟨_, rfl, p, _, rfl, .lst (SqL.of gp) (dp_ints ks), shows_ints ks hk12, nodict_ints ks, dep40 ks, short_ints hk12 (by omega), _, rfl, _, _, rfl, ?_⟩
      obtain ⟨KS, eKS⟩ : ∃ KS, KS = (PyData.list (ks.map PyData.int)).shown := ⟨_, rfl⟩
      rw [← eKS]
      refine ⟨_, rfl, p, _, rfl, SqL.of gp, (fun j σ H' => ∃ y8, σ = [some (.ref a), some (.ref l), some (.int (0 + (i : Int))), some (.str ⟨#[ch]⟩), some (.str (SX.S xs)), some (.ref p), some (.str KS), some (.str (SX.S (sqT ch (ks.take j) xs 0))), y8, y9, y10, y11, y12, y13, y14, y15] ∧ Same H8 H'),
        ⟨y8, ?_, Same.refl _⟩, fun j σ H' h => by obtain ⟨_, _, s9⟩ := h; exact SqL.of (s9 _ _ gp), ?_, ?_⟩
      · rw [List.take_zero, sqT_nil ch xs 0 (by decide)]
        rfl
      · rintro j z σ H9 hz ⟨y8, rfl, s9⟩
        obtain ⟨k, ek, rfl⟩ := map_at hz
        have hk2 := two k (List.mem_of_getElem? ek)
        have le := sqT_len (b := ch) (ks := ks.take j) (fun x hx => two x (List.mem_of_mem_take hx)) xs 0 (by decide)
        refine ⟨_, rfl, _, rfl, _, rfl, _, ch, k, rfl, hk2, by rw [SX.S_len]; omega, fun H' s' => ⟨some (.int k), ?_, s9.trans s'⟩⟩
        have e2 := sqT_step two ek (b := ch) xs
        rw [← e2]
        rfl
      · rintro σ H9 ⟨y8, rfl, s9⟩
        rw [List.length_map, List.take_length]
        obtain ⟨D, eD⟩ : ∃ D, D = sqT ch ks xs 0 := ⟨_, rfl⟩
        have lD : D.length ≤ 2000 := by
          have := sqT_len (b := ch) two xs 0 (by decide)
          rw [← eD] at this
          omega
        have loD : ∀ c ∈ D, c < 128 := fun c h => by
          rw [eD] at h
          rcases sqT_mem _ _ c h with z | z
          · rw [z]; exact c96.2
          · exact lox c z
        have eq1 : (SX.S xs).cps.toList = xs := rfl
        have eq2 : (SX.S D).cps.toList = D := rfl
        rw [← eD]
        have g9 := s9 _ _ gp
        -- named
        refine ⟨_, rfl, _, rfl, _, rfl, rfl, SX.S xs, ch, p, ks, rfl, SqL.of g9, rpl, x3, fun H10 s10 => ?_⟩
        rw [eSX, eq1, ← eD]
        have g10 := s10 _ _ g9
        refine ⟨_, rfl, _, rfl, _, rfl, SX.S xs, ch, p, ks, rfl, SqL.of g10, rpl, x3, fun H11 s11 => ?_⟩
        rw [eSX, eq1, ← eD]
        have g11 := s11 _ _ g10
        refine ⟨_, rfl, w2, fun t5 ht5 => ⟨_, rfl, _, rfl, w2, fun t6 ht6 => ?_⟩⟩
        refine ⟨.list [.str (SX.S D), .str (SX.S D)], .list [.str (SX.S D), .str (SX.S D)], .lst (SqL.of (same_new ht6 _ _ upd_same)) (.cons (.str _) (.cons (.str _) .nil)), .lst (SqL.of upd_same) (.cons (.str _) (.cons (.str _) .nil)), shaped_two loD, shaped_two loD, _, rfl, ?_⟩
        rw [PySem.SeqAt.eqv_refl (.list [.str (SX.S D), .str (SX.S D)]) (lay_two loD)]
        refine iteF ?_
        have s813 := ((s9.trans s10).trans s11).trans ((same_new (o := .lst [V.str (SX.S D), V.str (SX.S D)]) ht5).trans (same_new (o := .lst [V.str (SX.S D), V.str (SX.S D)]) ht6))
        generalize upd (upd H11 t5 (.lst [V.str (SX.S D), V.str (SX.S D)])) t6 (.lst [V.str (SX.S D), V.str (SX.S D)]) = H13 at s813 ⊢
        have g13 := s813 _ _ gp
        have S13 := S8.same s813
        -- runs_here
        refine ⟨_, rfl, _, rfl, SX.S xs, ch, rfl, x3, fun r H14 nr s14 gr => ⟨r, rfl, ⟨_, SqL.of gr⟩, fun E hE => lc_list (K := K) (a := r) (xs := (runs ch xs 0).map V.int) (fun j Hc => Same H14 (wo Hc E) ∧ Hc E = some (.lst ((((runs ch xs 0).take j).map fun n => sq n ks).map V.int)))
          ⟨by rw [wo_upd]; exact same_wo (Same.refl _) hE, upd_same⟩ (fun j Hc _ h => SqL.of ((h.1.trans wo_same) _ _ gr)) ?_ ?_⟩⟩
        · rintro j x Hc hx ⟨sc, gE⟩
          obtain ⟨n, en, rfl⟩ := map_at hx
          have sc2 := sc.trans wo_same
          refine ⟨rfl, _, rfl, _, rfl, n, p, ks, rfl, SqL.of (sc2 _ _ (s14 _ _ g13)), runs_low _ _ n (List.mem_of_getElem? en), rpl, fun H' s' => ⟨_, s' _ _ gE, ?_, ?_, ?_⟩⟩
          · have := runs_len (b := ch) xs 0
            rw [List.length_map, List.length_map, List.length_take]
            omega
          · rw [wo_upd]
            exact sc.trans (wo_mono s')
          · rw [upd_same, List.take_add_one, en, List.map_append, List.map_append]
            rfl
        · rintro H15 ⟨s15w, gE⟩
          rw [List.length_map, List.take_length] at gE
          have s15 := s15w.trans wo_same
          have S15 := (S13.same s14).same s15
          have g15 := s15 _ _ (s14 _ _ g13)
          -- two tests
          refine ⟨_, rfl, _, rfl, SX.S D, ch, rfl, by rw [SX.S_len]; omega, fun r2 H16 nr2 s16 gr2 => ⟨_, rfl, ?_⟩⟩
          have e3 : runs ch (sqT ch ks xs 0) 0 = (runs ch xs 0).map fun n => sq n ks := runs_sqT two xs 0
          rw [eq2, eD, e3] at gr2
          refine ⟨.list (((runs ch xs 0).map fun n => sq n ks).map PyData.int), .list (((runs ch xs 0).map fun n => sq n ks).map PyData.int), .lst (SqL.of gr2) (dp_ints _), .lst (SqL.of (s16 _ _ gE)) (dp_ints _), shaped_ints _, shaped_ints _, _, rfl, ?_⟩
          rw [eqv_ints, decide_eq_true rfl]
          have g16 := s16 _ _ g15
          refine iteF ⟨_, rfl, p, _, rfl, .lst (SqL.of g16) (dp_ints ks), shows_ints ks hk12, nodict_ints ks, dep40 ks, short_ints hk12 (by omega), _, rfl, _, _, rfl, rfl, _, rfl, ?_⟩
          rw [eKS, decide_eq_true rfl]
          refine iteF ?_
          have S16 := S15.same s16
          -- rest
          refine ⟨_, rfl, _, rfl, fun R hR => lc_it (walk_str (z := SX.S xs)) (fun j Hc => Same H16 (wo Hc R) ∧ Hc R = some (.lst (rst ch (xs.take j)))) ⟨by rw [wo_upd]; exact same_wo (Same.refl _) hR, upd_same⟩ (fun _ _ _ _ => trivial) ?_ ?_⟩
          · rintro j v Hc Hc' hj ⟨sc, gR⟩ ⟨rfl, x, ex, rfl⟩
            have tk : rst ch (xs.take (j + 1)) = rst ch (xs.take j) ++ (if x = ch then [] else [V.str ⟨#[x]⟩]) := by
              have ex' : xs[j]? = some x := by simpa using ex
              rw [List.take_add_one, ex', Option.toList_some, rst_snoc]
            refine ⟨rfl, _, rfl, _, rfl, rfl, _, rfl, ite2 (fun c1 => ⟨_, rfl, _, gR, ?_, ?_, ?_⟩) (fun c1 => ⟨sc, ?_⟩)⟩
            · have := rst_len ch (xs.take j)
              rw [List.length_take] at this
              omega
            · rw [wo_upd]
              exact sc
            · have ne : x ≠ ch := fun z => by
                rw [z, decide_eq_true rfl] at c1
                cases c1
              rw [upd_same, tk, if_neg ne]
            · have e : x = ch := by
                by_cases z : x = ch
                · exact z
                · refine absurd ?_ c1
                  rw [decide_eq_false (fun y => z (by injection y with y; injection y with y; injection y with y; injection y))]
                  rfl
              rw [gR, tk, if_pos e, List.append_nil]
          · rintro H17 ⟨s17w, gR⟩
            have s17 := s17w.trans wo_same
            have eR : rst ch (xs.take (SX.S xs).cps.size) = rst ch xs := by
              rw [show (SX.S xs).cps.size = xs.length from rfl, List.take_length]
            rw [eR] at gR
            have S17 := S16.same s17
            have g17 := s17 _ _ g16
            -- the same of due
            refine ⟨_, rfl, _, rfl, fun R2 hR2 => lc_it (walk_str (z := SX.S D)) (fun j Hc => Same H17 (wo Hc R2) ∧ Hc R2 = some (.lst (rst ch (D.take j)))) ⟨by rw [wo_upd]; exact same_wo (Same.refl _) hR2, upd_same⟩ (fun _ _ _ _ => trivial) ?_ ?_⟩
            · rintro j v Hc Hc' hj ⟨sc, gR2⟩ ⟨rfl, x, ex, rfl⟩
              have tk : rst ch (D.take (j + 1)) = rst ch (D.take j) ++ (if x = ch then [] else [V.str ⟨#[x]⟩]) := by
                have ex' : D[j]? = some x := by simpa using ex
                rw [List.take_add_one, ex', Option.toList_some, rst_snoc]
              refine ⟨rfl, _, rfl, _, rfl, rfl, _, rfl, ite2 (fun c1 => ⟨_, rfl, _, gR2, ?_, ?_, ?_⟩) (fun c1 => ⟨sc, ?_⟩)⟩
              · have := rst_len ch (D.take j)
                rw [List.length_take] at this
                omega
              · rw [wo_upd]
                exact sc
              · have ne : x ≠ ch := fun z => by
                  rw [z, decide_eq_true rfl] at c1
                  cases c1
                rw [upd_same, tk, if_neg ne]
              · have e : x = ch := by
                  by_cases z : x = ch
                  · exact z
                  · refine absurd ?_ c1
                    rw [decide_eq_false (fun y => z (by injection y with y; injection y with y; injection y with y; injection y))]
                    rfl
                rw [gR2, tk, if_pos e, List.append_nil]
            · rintro H18 ⟨s18w, gR2⟩
              have s18 := s18w.trans wo_same
              have eR2 : rst ch (D.take (SX.S D).cps.size) = rst ch xs := by
                rw [show (SX.S D).cps.size = D.length from rfl, List.take_length]
                unfold rst
                rw [eD, sqT_others]
              rw [eR2] at gR2
              have lof : ∀ c ∈ xs.filter (fun y => decide (y ≠ ch)), c < 128 := fun c h => lox c ((List.mem_filter.mp h).1)
              refine ⟨_, rfl, .list _, .list _, .lst (SqL.of gR2) (dp_strs _), .lst (SqL.of (s18 _ _ gR)) (dp_strs _), shaped_strs lof, shaped_strs lof, _, rfl, ?_⟩
              rw [eqv_strs lof]
              refine iteF ?_
              have S18 := S17.same s18
              have g18 := s18 _ _ g17
              -- cut
              refine ⟨_, rfl, _, rfl, p, _, rfl, .inl (SqL.of g18), _, 1, rfl, rfl, l, seed, c6, _, rfl, S18, by omega, by rw [List.length_map]; omega, lim10 (by rw [List.length_map]; omega), fun zc c7 H19 zc0 zc1 S19 hc7 k19 => ?_⟩
              rw [List.length_map] at zc1
              obtain ⟨n, rfl⟩ := Int.eq_ofNat_of_zero_le zc0
              have g19 := k19 _ _ g18 npl
              have nl : n ≤ ks.length := by omega
              refine ⟨_, rfl, _, rfl, _, rfl, _, rfl, n, rfl, p, _, rfl, SqL.of g19, fun u1 hu1 => ?_⟩
              rw [cutV_to ks n nl]
              have rt : Rpl (ks.take n) := fun k h => rpl k (List.mem_of_mem_take h)
              have rd : Rpl (ks.drop n) := fun k h => rpl k (List.mem_of_mem_drop h)
              refine ⟨SX.S xs, ch, u1, ks.take n, rfl, SqL.of upd_same, rt, x3, fun H20 s20 => ?_⟩
              rw [eSX, eq1]
              have g20 := s20 _ _ (same_new hu1 _ _ g19)
              refine ⟨_, rfl, _, rfl, _, rfl, n, rfl, p, _, rfl, SqL.of g20, fun u2 hu2 => ?_⟩
              rw [cutV_from ks n nl]
              have lm := sqT_len (b := ch) rt.two xs 0 (by decide)
              refine ⟨SX.S (sqT ch (ks.take n) xs 0), ch, u2, ks.drop n, rfl, SqL.of upd_same, rd, by rw [SX.S_len]; omega, fun H21 s21 => ?_⟩
              have g21 := s21 _ _ (same_new hu2 _ _ g20)
              have eC : sqT ch (ks.drop n) (SX.S (sqT ch (ks.take n) xs 0)).cps.toList 0 = D := by
                show sqT ch (ks.drop n) (sqT ch (ks.take n) xs 0) 0 = D
                rw [← sqT_comp rt.two xs 0 (by decide), List.take_append_drop, eD]
              rw [eSX, eC]
              refine ⟨_, rfl, _, _, rfl, rfl, _, rfl, ?_⟩
              rw [decide_eq_true rfl]
              refine iteF ?_
              -- the other sign
              refine ⟨_, rfl, _, rfl, SX.S xs, 96, p, ks, rfl, SqL.of g21, rpl, x3, fun H22 s22 => ?_⟩
              have e96 : sqT 96 ks (SX.S xs).cps.toList 0 = xs := sqT_free fun h => (n96 96 h).1 rfl
              rw [eSX, e96]
              refine ⟨_, rfl, _, _, rfl, rfl, _, rfl, ?_⟩
              rw [decide_eq_true rfl]
              refine iteF ⟨w1, fun u3 hu3 => ⟨"aaAAaa", 97, u3, [2], rfl, SqL.of upd_same, fun k h => by rw [List.mem_singleton.mp h]; decide, by decide +kernel, fun H23 s23 => ?_⟩⟩
              have e97 : (⟨(sqT 97 [2] (("aaAAaa" : Str)).cps.toList 0).toArray⟩ : Str) = "aAAa" := by decide +kernel
              rw [e97]
              refine ⟨_, _, rfl, rfl, _, rfl, ?_⟩
              rw [decide_eq_true rfl]
              refine iteF ?_
              exact ⟨c7, _, _, _, _, _, _, _, _, _, _, _, _, _, _, rfl, ((((S19.upd (S19.ne hu1)).same s20).same ((same_new hu2).trans s21)).same (s22.trans ((same_new hu3).trans s23))), by omega⟩
    · rintro σ H2 ⟨cnt, y2, y3, y4, y5, y6, y7, y8, y9, y10, y11, y12, y13, y14, y15, rfl, S2, hc2⟩
      have hc2' : cnt ≤ 4800 := by omega
      refine ⟨"900^40, 7^30, 2", List.replicate 40 900 ++ List.replicate 30 7 ++ [2], rfl, by decide, small_dec (by decide +kernel), by decide +kernel, fun p H3 np s3 gp => ?_⟩
      obtain ⟨ks, eks⟩ : ∃ ks : List Int, ks = List.replicate 40 900 ++ List.replicate 30 7 ++ [2] := ⟨_, rfl⟩
      rw [← eks] at gp
      have rpl : Rpl ks := by rw [eks]; intro k h; revert k; decide +kernel
      have two := rpl.two
      have S3 := S2.same s3
      have npl := S2.ne np
      refine ⟨_, rfl, l, seed, cnt, 2000, 32, rfl, by decide, by decide, by decide, S3, by omega, fun xs c4 H4 lxs n96 S4 hc4 k4 => ?_⟩
      refine ⟨⟨#[32]⟩, 13, by decide +kernel, rfl, mul_chr_ok 32 (by decide) (by decide), ?_⟩
      rw [mul_chr 32 (by decide)]
      have g4 := k4 _ _ gp npl
      refine ⟨_, _, rfl, rfl, by rw [SX.S_len, SX.S_len, List.length_replicate]; omega, ?_⟩
      rw [SX.S_cat]
      obtain ⟨L, eL⟩ : ∃ L, L = xs ++ List.replicate (13 : Int).toNat 32 := ⟨_, rfl⟩
      have lL : L.length ≤ 2013 := by
        rw [eL, List.length_append, List.length_replicate]
        omega
      rw [← eL]
      refine ⟨_, _, rfl, ?_⟩
      obtain ⟨X, eX⟩ : ∃ X, X = L.take 2000 := ⟨_, rfl⟩
      have lX : X.length ≤ 2000 := by
        rw [eX]
        exact List.length_take_le 2000 L
      have cutX : cutS (SX.S L) none (some 2000) = SX.S X := by
        rw [eX]
        exact cutS_upto (SX.S L) 2000
      have eSX : ∀ l : List Nat, (⟨l.toArray⟩ : Str) = SX.S l := fun _ => rfl
      refine ⟨_, rfl, 2000, rfl, SX.S L, rfl, by rw [SX.S_len]; omega, ?_⟩
      rw [cutX]
      refine ⟨_, rfl, p, rfl, ⟨_, SqL.of g4⟩, for_list (K := K) (a := p) (xs := ks.map V.int) (fun j σ H' => ∃ y8, σ = [some (.ref a), some (.ref l), y2, y3, some (.str (SX.S L)), y5, y6, some (.str (SX.S (sqT 32 (ks.take j) X 0))), y8, y9, y10, y11, y12, y13, y14, some (.ref p)] ∧ Same H4 H')
        ⟨y8, ?_, Same.refl _⟩ (fun j σ H' _ h => by obtain ⟨_, _, s9⟩ := h; exact SqL.of (s9 _ _ g4)) ?_ ?_⟩
      · rw [List.take_zero, sqT_nil 32 X 0 (by decide)]
        rfl
      · rintro j z σ H9 hz ⟨y8, rfl, s9⟩
        obtain ⟨k, ek, rfl⟩ := map_at hz
        have hk2 := two k (List.mem_of_getElem? ek)
        have le := sqT_len (b := 32) (ks := ks.take j) (fun x hx => two x (List.mem_of_mem_take hx)) X 0 (by decide)
        refine ⟨_, rfl, _, rfl, _, 32, k, rfl, hk2, by rw [SX.S_len]; omega, fun H' s' => ⟨some (.int k), ?_, s9.trans s'⟩⟩
        have e2 := sqT_step two ek (b := 32) X
        rw [← e2]
        rfl
      · rintro σ H9 ⟨y8, rfl, s9⟩
        rw [List.length_map, List.take_length]
        refine ⟨_, rfl, 2000, rfl, SX.S L, rfl, by rw [SX.S_len]; omega, ?_⟩
        rw [cutX]
        refine ⟨_, rfl, SX.S X, 32, p, ks, rfl, SqL.of (s9 _ _ g4), rpl, by rw [SX.S_len]; omega, fun H10 s10 => ?_⟩
        rw [eSX, show (SX.S X).cps.toList = X from rfl]
        refine ⟨_, rfl, rfl, _, rfl, ?_⟩
        rw [decide_eq_true rfl]
        refine iteF ?_
        refine ⟨w1, fun u3 hu3 => ⟨"", 32, u3, [2], rfl, SqL.of upd_same, fun k h => by rw [List.mem_singleton.mp h]; decide, by decide +kernel, fun H23 s23 => ?_⟩⟩
        have e0 : (⟨(sqT 32 [2] (("" : Str)).cps.toList 0).toArray⟩ : Str) = "" := by decide +kernel
        rw [e0]
        refine ⟨rfl, _, rfl, ?_⟩
        rw [decide_eq_true rfl, if_pos rfl]
        refine ⟨w2, fun u4 hu4 => ⟨"a    b   c", 32, u4, [3, 2], rfl, SqL.of upd_same, fun k h => by revert k; decide, by decide +kernel, fun H24 s24 => ?_⟩⟩
        have e1 : (⟨(sqT 32 [3, 2] (("a    b   c" : Str)).cps.toList 0).toArray⟩ : Str) = "a b c" := by decide +kernel
        rw [e1]
        refine ⟨rfl, ?_⟩
        rw [decide_eq_true rfl]
        exact q _
end
theorem kb_squeezetext {K : PySem.W.Frag} {f : Addr} {fd : FuncData} (F : Fun K "squeeze_text" "squeeze_text" s_squeezetext f fd) : KBn K fd ["text", "character", "replacements"] 0 ["replacements", "character", "text"] (perm3 2 1 0) (perm3 2 1 0) :=
  kbn_mk F _ _ _ (fun _ h => by
    cases h with
    | nil => exact .nil
    | cons a h =>
      cases h with
      | nil => exact .nil
      | cons b h =>
        cases h with
        | nil => exact .nil
        | cons c h =>
          cases h with
          | nil => exact .cons c (.cons b (.cons a .nil))
          | cons d h => exact .nil) fun _ _ _ _ _ _ ws hl => match ws, hl with | [_, _, _], _ => rfl
theorem tkn_perm : ∀ (ws : List Value) (m : Nat), ws.length = (["replacements", "character", "text"] : List Str).length → Tkn 1 ws m → Tkn 1 (perm3 2 1 0 [] ws) m := fun ws m hl h => by
  match ws, hl with
  | [a, b, c], _ => exact h
end Sq
set_option Elab.async false
set_option linter.all false
set_option maxRecDepth 100000
set_option maxHeartbeats 4000000
namespace Sq
open PySem PySem.Spec PyProof.Rows L2
theorem all_mk {l : PySem.W.OpenLaw} {w : World} {K : PySem.W.Frag} {h : Heap} {mg : Str → Option Value} {fa : Addr} (X : K.In h) (G : h.Ns mainGlobals mg) (hfa : mg "law" = some (.ref fa))
    {f_checklist : Addr} {od_checklist an_checklist : Option Addr} {sl_checklist : Array (Option Value)} {oc_checklist kV_checklist dc_checklist pm_checklist cd_checklist ct_checklist : Value}
    (a_checklist : PySem.W.nsIn K mainGlobals "check_list" = some (some (.ref f_checklist)))
    (l_checklist : K.lookup f_checklist = some ⟨oc_checklist, od_checklist, .func (PySem.W.fnOf "check_list" "check_list" (defArgs s_checklist) (defBody s_checklist) (defScope s_checklist) .none kV_checklist dc_checklist pm_checklist an_checklist cd_checklist ct_checklist), sl_checklist⟩)
    (c_checklist : PySem.W.codeIn K cd_checklist "check_list" = true) (k_checklist : PySem.W.keepIn K (.ref f_checklist) = true)
    {f_checknumber : Addr} {od_checknumber an_checknumber : Option Addr} {sl_checknumber : Array (Option Value)} {oc_checknumber kV_checknumber dc_checknumber pm_checknumber cd_checknumber ct_checknumber : Value}
    (a_checknumber : PySem.W.nsIn K mainGlobals "check_number" = some (some (.ref f_checknumber)))
    (l_checknumber : K.lookup f_checknumber = some ⟨oc_checknumber, od_checknumber, .func (PySem.W.fnOf "check_number" "check_number" (defArgs s_checknumber) (defBody s_checknumber) (defScope s_checknumber) .none kV_checknumber dc_checknumber pm_checknumber an_checknumber cd_checknumber ct_checknumber), sl_checknumber⟩)
    (c_checknumber : PySem.W.codeIn K cd_checknumber "check_number" = true) (k_checknumber : PySem.W.keepIn K (.ref f_checknumber) = true)
    {f_checkcharacter : Addr} {od_checkcharacter an_checkcharacter : Option Addr} {sl_checkcharacter : Array (Option Value)} {oc_checkcharacter kV_checkcharacter dc_checkcharacter pm_checkcharacter cd_checkcharacter ct_checkcharacter : Value}
    (a_checkcharacter : PySem.W.nsIn K mainGlobals "check_character" = some (some (.ref f_checkcharacter)))
    (l_checkcharacter : K.lookup f_checkcharacter = some ⟨oc_checkcharacter, od_checkcharacter, .func (PySem.W.fnOf "check_character" "check_character" (defArgs s_checkcharacter) (defBody s_checkcharacter) (defScope s_checkcharacter) .none kV_checkcharacter dc_checkcharacter pm_checkcharacter an_checkcharacter cd_checkcharacter ct_checkcharacter), sl_checkcharacter⟩)
    (c_checkcharacter : PySem.W.codeIn K cd_checkcharacter "check_character" = true) (k_checkcharacter : PySem.W.keepIn K (.ref f_checkcharacter) = true)
    {f_squeezed : Addr} {od_squeezed an_squeezed : Option Addr} {sl_squeezed : Array (Option Value)} {oc_squeezed kV_squeezed dc_squeezed pm_squeezed cd_squeezed ct_squeezed : Value}
    (a_squeezed : PySem.W.nsIn K mainGlobals "squeezed" = some (some (.ref f_squeezed)))
    (l_squeezed : K.lookup f_squeezed = some ⟨oc_squeezed, od_squeezed, .func (PySem.W.fnOf "squeezed" "squeezed" (defArgs s_squeezed) (defBody s_squeezed) (defScope s_squeezed) .none kV_squeezed dc_squeezed pm_squeezed an_squeezed cd_squeezed ct_squeezed), sl_squeezed⟩)
    (c_squeezed : PySem.W.codeIn K cd_squeezed "squeezed" = true) (k_squeezed : PySem.W.keepIn K (.ref f_squeezed) = true)
    {f_squeezetext : Addr} {od_squeezetext an_squeezetext : Option Addr} {sl_squeezetext : Array (Option Value)} {oc_squeezetext kV_squeezetext dc_squeezetext pm_squeezetext cd_squeezetext ct_squeezetext : Value}
    (a_squeezetext : PySem.W.nsIn K mainGlobals "squeeze_text" = some (some (.ref f_squeezetext)))
    (l_squeezetext : K.lookup f_squeezetext = some ⟨oc_squeezetext, od_squeezetext, .func (PySem.W.fnOf "squeeze_text" "squeeze_text" (defArgs s_squeezetext) (defBody s_squeezetext) (defScope s_squeezetext) .none kV_squeezetext dc_squeezetext pm_squeezetext an_squeezetext cd_squeezetext ct_squeezetext), sl_squeezetext⟩)
    (c_squeezetext : PySem.W.codeIn K cd_squeezetext "squeeze_text" = true) (k_squeezetext : PySem.W.keepIn K (.ref f_squeezetext) = true)
    {f_lengthafter : Addr} {od_lengthafter an_lengthafter : Option Addr} {sl_lengthafter : Array (Option Value)} {oc_lengthafter kV_lengthafter dc_lengthafter pm_lengthafter cd_lengthafter ct_lengthafter : Value}
    (a_lengthafter : PySem.W.nsIn K mainGlobals "length_after" = some (some (.ref f_lengthafter)))
    (l_lengthafter : K.lookup f_lengthafter = some ⟨oc_lengthafter, od_lengthafter, .func (PySem.W.fnOf "length_after" "length_after" (defArgs s_lengthafter) (defBody s_lengthafter) (defScope s_lengthafter) .none kV_lengthafter dc_lengthafter pm_lengthafter an_lengthafter cd_lengthafter ct_lengthafter), sl_lengthafter⟩)
    (c_lengthafter : PySem.W.codeIn K cd_lengthafter "length_after" = true) (k_lengthafter : PySem.W.keepIn K (.ref f_lengthafter) = true)
    {f_lengthafterone : Addr} {od_lengthafterone an_lengthafterone : Option Addr} {sl_lengthafterone : Array (Option Value)} {oc_lengthafterone kV_lengthafterone dc_lengthafterone pm_lengthafterone cd_lengthafterone ct_lengthafterone : Value}
    (a_lengthafterone : PySem.W.nsIn K mainGlobals "length_after_one" = some (some (.ref f_lengthafterone)))
    (l_lengthafterone : K.lookup f_lengthafterone = some ⟨oc_lengthafterone, od_lengthafterone, .func (PySem.W.fnOf "length_after_one" "length_after_one" (defArgs s_lengthafterone) (defBody s_lengthafterone) (defScope s_lengthafterone) .none kV_lengthafterone dc_lengthafterone pm_lengthafterone an_lengthafterone cd_lengthafterone ct_lengthafterone), sl_lengthafterone⟩)
    (c_lengthafterone : PySem.W.codeIn K cd_lengthafterone "length_after_one" = true) (k_lengthafterone : PySem.W.keepIn K (.ref f_lengthafterone) = true)
    {f_lengthsbetween : Addr} {od_lengthsbetween an_lengthsbetween : Option Addr} {sl_lengthsbetween : Array (Option Value)} {oc_lengthsbetween kV_lengthsbetween dc_lengthsbetween pm_lengthsbetween cd_lengthsbetween ct_lengthsbetween : Value}
    (a_lengthsbetween : PySem.W.nsIn K mainGlobals "lengths_between" = some (some (.ref f_lengthsbetween)))
    (l_lengthsbetween : K.lookup f_lengthsbetween = some ⟨oc_lengthsbetween, od_lengthsbetween, .func (PySem.W.fnOf "lengths_between" "lengths_between" (defArgs s_lengthsbetween) (defBody s_lengthsbetween) (defScope s_lengthsbetween) .none kV_lengthsbetween dc_lengthsbetween pm_lengthsbetween an_lengthsbetween cd_lengthsbetween ct_lengthsbetween), sl_lengthsbetween⟩)
    (c_lengthsbetween : PySem.W.codeIn K cd_lengthsbetween "lengths_between" = true) (k_lengthsbetween : PySem.W.keepIn K (.ref f_lengthsbetween) = true)
    {f_readlist : Addr} {od_readlist an_readlist : Option Addr} {sl_readlist : Array (Option Value)} {oc_readlist kV_readlist dc_readlist pm_readlist cd_readlist ct_readlist : Value}
    (a_readlist : PySem.W.nsIn K mainGlobals "read_list" = some (some (.ref f_readlist)))
    (l_readlist : K.lookup f_readlist = some ⟨oc_readlist, od_readlist, .func (PySem.W.fnOf "read_list" "read_list" (defArgs s_readlist) (defBody s_readlist) (defScope s_readlist) .none kV_readlist dc_readlist pm_readlist an_readlist cd_readlist ct_readlist), sl_readlist⟩)
    (c_readlist : PySem.W.codeIn K cd_readlist "read_list" = true) (k_readlist : PySem.W.keepIn K (.ref f_readlist) = true)
    {f_isnumber : Addr} {od_isnumber an_isnumber : Option Addr} {sl_isnumber : Array (Option Value)} {oc_isnumber kV_isnumber dc_isnumber pm_isnumber cd_isnumber ct_isnumber : Value}
    (a_isnumber : PySem.W.nsIn K mainGlobals "is_number" = some (some (.ref f_isnumber)))
    (l_isnumber : K.lookup f_isnumber = some ⟨oc_isnumber, od_isnumber, .func (PySem.W.fnOf "is_number" "is_number" (defArgs s_isnumber) (defBody s_isnumber) (defScope s_isnumber) .none kV_isnumber dc_isnumber pm_isnumber an_isnumber cd_isnumber ct_isnumber), sl_isnumber⟩)
    (c_isnumber : PySem.W.codeIn K cd_isnumber "is_number" = true) (k_isnumber : PySem.W.keepIn K (.ref f_isnumber) = true)
    {f_lawrng : Addr} {od_lawrng an_lawrng : Option Addr} {sl_lawrng : Array (Option Value)} {oc_lawrng kV_lawrng dc_lawrng pm_lawrng cd_lawrng ct_lawrng : Value}
    (a_lawrng : PySem.W.nsIn K mainGlobals "_law_rng" = some (some (.ref f_lawrng)))
    (l_lawrng : K.lookup f_lawrng = some ⟨oc_lawrng, od_lawrng, .func (PySem.W.fnOf "_law_rng" "_law_rng" (defArgs s_lawrng) (defBody s_lawrng) (defScope s_lawrng) .none kV_lawrng dc_lawrng pm_lawrng an_lawrng cd_lawrng ct_lawrng), sl_lawrng⟩)
    (c_lawrng : PySem.W.codeIn K cd_lawrng "_law_rng" = true) (k_lawrng : PySem.W.keepIn K (.ref f_lawrng) = true)
    {f_lawdraw : Addr} {od_lawdraw an_lawdraw : Option Addr} {sl_lawdraw : Array (Option Value)} {oc_lawdraw kV_lawdraw dc_lawdraw pm_lawdraw cd_lawdraw ct_lawdraw : Value}
    (a_lawdraw : PySem.W.nsIn K mainGlobals "_law_draw" = some (some (.ref f_lawdraw)))
    (l_lawdraw : K.lookup f_lawdraw = some ⟨oc_lawdraw, od_lawdraw, .func (PySem.W.fnOf "_law_draw" "_law_draw" (defArgs s_lawdraw) (defBody s_lawdraw) (defScope s_lawdraw) .none kV_lawdraw dc_lawdraw pm_lawdraw an_lawdraw cd_lawdraw ct_lawdraw), sl_lawdraw⟩)
    (c_lawdraw : PySem.W.codeIn K cd_lawdraw "_law_draw" = true) (k_lawdraw : PySem.W.keepIn K (.ref f_lawdraw) = true)
    {f_lawlist : Addr} {od_lawlist an_lawlist : Option Addr} {sl_lawlist : Array (Option Value)} {oc_lawlist kV_lawlist dc_lawlist pm_lawlist cd_lawlist ct_lawlist : Value}
    (a_lawlist : PySem.W.nsIn K mainGlobals "_law_list" = some (some (.ref f_lawlist)))
    (l_lawlist : K.lookup f_lawlist = some ⟨oc_lawlist, od_lawlist, .func (PySem.W.fnOf "_law_list" "_law_list" (defArgs s_lawlist) (defBody s_lawlist) (defScope s_lawlist) .none kV_lawlist dc_lawlist pm_lawlist an_lawlist cd_lawlist ct_lawlist), sl_lawlist⟩)
    (c_lawlist : PySem.W.codeIn K cd_lawlist "_law_list" = true) (k_lawlist : PySem.W.keepIn K (.ref f_lawlist) = true)
    {f_lawpiece : Addr} {od_lawpiece an_lawpiece : Option Addr} {sl_lawpiece : Array (Option Value)} {oc_lawpiece kV_lawpiece dc_lawpiece pm_lawpiece cd_lawpiece ct_lawpiece : Value}
    (a_lawpiece : PySem.W.nsIn K mainGlobals "_law_piece" = some (some (.ref f_lawpiece)))
    (l_lawpiece : K.lookup f_lawpiece = some ⟨oc_lawpiece, od_lawpiece, .func (PySem.W.fnOf "_law_piece" "_law_piece" (defArgs s_lawpiece) (defBody s_lawpiece) (defScope s_lawpiece) .none kV_lawpiece dc_lawpiece pm_lawpiece an_lawpiece cd_lawpiece ct_lawpiece), sl_lawpiece⟩)
    (c_lawpiece : PySem.W.codeIn K cd_lawpiece "_law_piece" = true) (k_lawpiece : PySem.W.keepIn K (.ref f_lawpiece) = true)
    {f_lawwritten : Addr} {od_lawwritten an_lawwritten : Option Addr} {sl_lawwritten : Array (Option Value)} {oc_lawwritten kV_lawwritten dc_lawwritten pm_lawwritten cd_lawwritten ct_lawwritten : Value}
    (a_lawwritten : PySem.W.nsIn K mainGlobals "_law_written" = some (some (.ref f_lawwritten)))
    (l_lawwritten : K.lookup f_lawwritten = some ⟨oc_lawwritten, od_lawwritten, .func (PySem.W.fnOf "_law_written" "_law_written" (defArgs s_lawwritten) (defBody s_lawwritten) (defScope s_lawwritten) .none kV_lawwritten dc_lawwritten pm_lawwritten an_lawwritten cd_lawwritten ct_lawwritten), sl_lawwritten⟩)
    (c_lawwritten : PySem.W.codeIn K cd_lawwritten "_law_written" = true) (k_lawwritten : PySem.W.keepIn K (.ref f_lawwritten) = true)
    {f_lawreplaced : Addr} {od_lawreplaced an_lawreplaced : Option Addr} {sl_lawreplaced : Array (Option Value)} {oc_lawreplaced kV_lawreplaced dc_lawreplaced pm_lawreplaced cd_lawreplaced ct_lawreplaced : Value}
    (a_lawreplaced : PySem.W.nsIn K mainGlobals "_law_replaced" = some (some (.ref f_lawreplaced)))
    (l_lawreplaced : K.lookup f_lawreplaced = some ⟨oc_lawreplaced, od_lawreplaced, .func (PySem.W.fnOf "_law_replaced" "_law_replaced" (defArgs s_lawreplaced) (defBody s_lawreplaced) (defScope s_lawreplaced) .none kV_lawreplaced dc_lawreplaced pm_lawreplaced an_lawreplaced cd_lawreplaced ct_lawreplaced), sl_lawreplaced⟩)
    (c_lawreplaced : PySem.W.codeIn K cd_lawreplaced "_law_replaced" = true) (k_lawreplaced : PySem.W.keepIn K (.ref f_lawreplaced) = true)
    {f_lawruns : Addr} {od_lawruns an_lawruns : Option Addr} {sl_lawruns : Array (Option Value)} {oc_lawruns kV_lawruns dc_lawruns pm_lawruns cd_lawruns ct_lawruns : Value}
    (a_lawruns : PySem.W.nsIn K mainGlobals "_law_runs" = some (some (.ref f_lawruns)))
    (l_lawruns : K.lookup f_lawruns = some ⟨oc_lawruns, od_lawruns, .func (PySem.W.fnOf "_law_runs" "_law_runs" (defArgs s_lawruns) (defBody s_lawruns) (defScope s_lawruns) .none kV_lawruns dc_lawruns pm_lawruns an_lawruns cd_lawruns ct_lawruns), sl_lawruns⟩)
    (c_lawruns : PySem.W.codeIn K cd_lawruns "_law_runs" = true) (k_lawruns : PySem.W.keepIn K (.ref f_lawruns) = true)
    {f_law : Addr} {od_law an_law : Option Addr} {sl_law : Array (Option Value)} {oc_law kV_law dc_law pm_law cd_law ct_law : Value}
    (a_law : PySem.W.nsIn K mainGlobals "law" = some (some (.ref f_law)))
    (l_law : K.lookup f_law = some ⟨oc_law, od_law, .func (PySem.W.fnOf "law" "law" (defArgs s_law) (defBody s_law) (defScope s_law) .none kV_law dc_law pm_law an_law cd_law ct_law), sl_law⟩)
    (c_law : PySem.W.codeIn K cd_law "law" = true) (k_law : PySem.W.keepIn K (.ref f_law) = true)
    (z_len : PySem.W.nsIn K mainGlobals "len" = some none)
    (z_min : PySem.W.nsIn K mainGlobals "min" = some none)
    (z_max : PySem.W.nsIn K mainGlobals "max" = some none)
    (z_abs : PySem.W.nsIn K mainGlobals "abs" = some none)
    (z_range : PySem.W.nsIn K mainGlobals "range" = some none)
    (z_isinstance : PySem.W.nsIn K mainGlobals "isinstance" = some none)
    (z_repr : PySem.W.nsIn K mainGlobals "repr" = some none)
    (z_enumerate : PySem.W.nsIn K mainGlobals "enumerate" = some none)
    (z_reversed : PySem.W.nsIn K mainGlobals "reversed" = some none)
    (z_sorted : PySem.W.nsIn K mainGlobals "sorted" = some none)
    (z_bool : PySem.W.nsIn K mainGlobals "bool" = some none)
    (z_int : PySem.W.nsIn K mainGlobals "int" = some none)
    (z_str : PySem.W.nsIn K mainGlobals "str" = some none)
    (z_list : PySem.W.nsIn K mainGlobals "list" = some none)
    (z_tuple : PySem.W.nsIn K mainGlobals "tuple" = some none)
    (z_set : PySem.W.nsIn K mainGlobals "set" = some none)
    (z_sum : PySem.W.nsIn K mainGlobals "sum" = some none)
    (z_zip : PySem.W.nsIn K mainGlobals "zip" = some none)
    (z_all : PySem.W.nsIn K mainGlobals "all" = some none)
    (z_any : PySem.W.nsIn K mainGlobals "any" = some none)
    (z_ValueError : PySem.W.nsIn K mainGlobals "ValueError" = some none)
    (z_divmod : PySem.W.nsIn K mainGlobals "divmod" = some none)
    {tkaMD : Tok} (aMD : PySem.W.nsIn K mainGlobals "MOST_DIGITS" = some (some (.int 200 tkaMD)))
    : ∃ fd : FuncData, (∀ (s : Shared) (v : Value), BindsTo s fd ⟨[v], []⟩ [("script", v)]) ∧ ∀ base : Heap, K.In base → base.Ns mainGlobals mg → Top l.prog w K mg base 8 fa fd "script" (spLaw K) := by
  have e := hfa.symm.trans (PySem.W.mg_of X G a_law)
  cases e
  have B : Bi mg := ⟨PySem.W.mg_none_of X G z_len, PySem.W.mg_none_of X G z_min, PySem.W.mg_none_of X G z_max, PySem.W.mg_none_of X G z_abs, PySem.W.mg_none_of X G z_range, PySem.W.mg_none_of X G z_isinstance, PySem.W.mg_none_of X G z_repr, PySem.W.mg_none_of X G z_enumerate, PySem.W.mg_none_of X G z_reversed, PySem.W.mg_none_of X G z_sorted, PySem.W.mg_none_of X G z_bool, PySem.W.mg_none_of X G z_int, PySem.W.mg_none_of X G z_str, PySem.W.mg_none_of X G z_list, PySem.W.mg_none_of X G z_tuple, PySem.W.mg_none_of X G z_set, PySem.W.mg_none_of X G z_sum, PySem.W.mg_none_of X G z_zip, PySem.W.mg_none_of X G z_all, PySem.W.mg_none_of X G z_any, PySem.W.mg_none_of X G z_ValueError, PySem.W.mg_none_of X G z_divmod⟩
  have F_checklist := fun_mk (st := s_checklist) l_checklist c_checklist k_checklist
  have b_checklist := F_checklist.binds (ps := ["replacements"]) fun _ _ _ _ _ _ us hl => match us, hl with | [_], _ => rfl
  have g_checklist := PySem.W.mg_of X G a_checklist
  have F_checknumber := fun_mk (st := s_checknumber) l_checknumber c_checknumber k_checknumber
  have b_checknumber := F_checknumber.binds (ps := ["number", "least"]) fun _ _ _ _ _ _ us hl => match us, hl with | [_, _], _ => rfl
  have g_checknumber := PySem.W.mg_of X G a_checknumber
  have F_checkcharacter := fun_mk (st := s_checkcharacter) l_checkcharacter c_checkcharacter k_checkcharacter
  have b_checkcharacter := F_checkcharacter.binds (ps := ["character"]) fun _ _ _ _ _ _ us hl => match us, hl with | [_], _ => rfl
  have g_checkcharacter := PySem.W.mg_of X G a_checkcharacter
  have F_squeezed := fun_mk (st := s_squeezed) l_squeezed c_squeezed k_squeezed
  have b_squeezed := F_squeezed.binds (ps := ["length", "replacements"]) fun _ _ _ _ _ _ us hl => match us, hl with | [_, _], _ => rfl
  have g_squeezed := PySem.W.mg_of X G a_squeezed
  have F_squeezetext := fun_mk (st := s_squeezetext) l_squeezetext c_squeezetext k_squeezetext
  have b_squeezetext := F_squeezetext.binds (ps := ["text", "character", "replacements"]) fun _ _ _ _ _ _ us hl => match us, hl with | [_, _, _], _ => rfl
  have g_squeezetext := PySem.W.mg_of X G a_squeezetext
  have F_lengthafter := fun_mk (st := s_lengthafter) l_lengthafter c_lengthafter k_lengthafter
  have b_lengthafter := F_lengthafter.binds (ps := ["length", "replacements"]) fun _ _ _ _ _ _ us hl => match us, hl with | [_, _], _ => rfl
  have g_lengthafter := PySem.W.mg_of X G a_lengthafter
  have F_lengthafterone := fun_mk (st := s_lengthafterone) l_lengthafterone c_lengthafterone k_lengthafterone
  have b_lengthafterone := F_lengthafterone.binds (ps := ["length", "number"]) fun _ _ _ _ _ _ us hl => match us, hl with | [_, _], _ => rfl
  have g_lengthafterone := PySem.W.mg_of X G a_lengthafterone
  have F_lengthsbetween := fun_mk (st := s_lengthsbetween) l_lengthsbetween c_lengthsbetween k_lengthsbetween
  have b_lengthsbetween := F_lengthsbetween.binds (ps := ["text", "character"]) fun _ _ _ _ _ _ us hl => match us, hl with | [_, _], _ => rfl
  have g_lengthsbetween := PySem.W.mg_of X G a_lengthsbetween
  have F_readlist := fun_mk (st := s_readlist) l_readlist c_readlist k_readlist
  have b_readlist := F_readlist.binds (ps := ["text"]) fun _ _ _ _ _ _ us hl => match us, hl with | [_], _ => rfl
  have g_readlist := PySem.W.mg_of X G a_readlist
  have F_isnumber := fun_mk (st := s_isnumber) l_isnumber c_isnumber k_isnumber
  have b_isnumber := F_isnumber.binds (ps := ["digits"]) fun _ _ _ _ _ _ us hl => match us, hl with | [_], _ => rfl
  have g_isnumber := PySem.W.mg_of X G a_isnumber
  have F_lawrng := fun_mk (st := s_lawrng) l_lawrng c_lawrng k_lawrng
  have b_lawrng := F_lawrng.binds (ps := ["script"]) fun _ _ _ _ _ _ us hl => match us, hl with | [_], _ => rfl
  have g_lawrng := PySem.W.mg_of X G a_lawrng
  have F_lawdraw := fun_mk (st := s_lawdraw) l_lawdraw c_lawdraw k_lawdraw
  have b_lawdraw := F_lawdraw.binds (ps := ["rng", "limit"]) fun _ _ _ _ _ _ us hl => match us, hl with | [_, _], _ => rfl
  have g_lawdraw := PySem.W.mg_of X G a_lawdraw
  have F_lawlist := fun_mk (st := s_lawlist) l_lawlist c_lawlist k_lawlist
  have b_lawlist := F_lawlist.binds (ps := ["rng", "most", "greatest"]) fun _ _ _ _ _ _ us hl => match us, hl with | [_, _, _], _ => rfl
  have g_lawlist := PySem.W.mg_of X G a_lawlist
  have F_lawpiece := fun_mk (st := s_lawpiece) l_lawpiece c_lawpiece k_lawpiece
  have b_lawpiece := F_lawpiece.binds (ps := ["rng", "sign", "most"]) fun _ _ _ _ _ _ us hl => match us, hl with | [_, _, _], _ => rfl
  have g_lawpiece := PySem.W.mg_of X G a_lawpiece
  have F_lawwritten := fun_mk (st := s_lawwritten) l_lawwritten c_lawwritten k_lawwritten
  have b_lawwritten := F_lawwritten.binds (ps := ["rng", "sign", "most"]) fun _ _ _ _ _ _ us hl => match us, hl with | [_, _, _], _ => rfl
  have g_lawwritten := PySem.W.mg_of X G a_lawwritten
  have F_lawreplaced := fun_mk (st := s_lawreplaced) l_lawreplaced c_lawreplaced k_lawreplaced
  have b_lawreplaced := F_lawreplaced.binds (ps := ["written", "sign", "number"]) fun _ _ _ _ _ _ us hl => match us, hl with | [_, _, _], _ => rfl
  have g_lawreplaced := PySem.W.mg_of X G a_lawreplaced
  have F_lawruns := fun_mk (st := s_lawruns) l_lawruns c_lawruns k_lawruns
  have b_lawruns := F_lawruns.binds (ps := ["written", "sign"]) fun _ _ _ _ _ _ us hl => match us, hl with | [_, _], _ => rfl
  have g_lawruns := PySem.W.mg_of X G a_lawruns
  have F_law := fun_mk (st := s_law) l_law c_law k_law
  exact ⟨_, fun s v => .of_eq rfl, fun base _ _ => by
    have D_checklist : Df l.prog w K mg base 1 "check_list" ["replacements"] (spCheckList K) := .mk' F_checklist (ok_checklist F_checklist B) g_checklist b_checklist
    have D_checknumber : Df l.prog w K mg base 1 "check_number" ["number", "least"] spCheckNumber := .mk' F_checknumber (ok_checknumber F_checknumber) g_checknumber b_checknumber
    have D_checkcharacter : Df l.prog w K mg base 1 "check_character" ["character"] spCheckChr := .mk' F_checkcharacter (ok_checkcharacter F_checkcharacter B) g_checkcharacter b_checkcharacter
    have D_lengthsbetween : Df l.prog w K mg base 1 "lengths_between" ["text", "character"] spBetween := .mk' F_lengthsbetween (ok_between F_lengthsbetween B) g_lengthsbetween b_lengthsbetween
    have D_lengthafterone : Df l.prog w K mg base 1 "length_after_one" ["length", "number"] spOnceS := .mk' F_lengthafterone (ok_lengthafterone F_lengthafterone B) g_lengthafterone b_lengthafterone
    have D_lengthafter : Df l.prog w K mg base 2 "length_after" ["length", "replacements"] (spSqzS K) := .mk' F_lengthafter (ok_lengthafter F_lengthafter D_lengthafterone) g_lengthafter b_lengthafter
    have D_squeezed : Df l.prog w K mg base 3 "squeezed" ["length", "replacements"] (spSqueezed K) := .mk' F_squeezed (ok_squeezed F_squeezed D_checknumber D_checklist D_lengthafter) g_squeezed b_squeezed
    have Y_squeezetext := ok_squeezetext (P := l.prog) (w := w) (mg := mg) (base := base) F_squeezetext B D_checkcharacter D_checklist D_lengthsbetween D_lengthafter
    have T_squeezetext : DfT l.prog w K mg base 4 "squeeze_text" ["text", "character", "replacements"] 1 (spSqT K) := ⟨⟨_, _, Y_squeezetext, g_squeezetext, k_squeezetext, b_squeezetext⟩⟩
    have K_squeezetext : DkT l.prog w K mg base 4 "squeeze_text" ["text", "character", "replacements"] ["replacements", "character", "text"] (perm3 2 1 0) 1 1 (spSqT K) := ⟨⟨_, _, _, Y_squeezetext, g_squeezetext, k_squeezetext, kb_squeezetext F_squeezetext, tkn_perm⟩⟩
    have D_isnumber : Df l.prog w K mg base 1 "is_number" ["digits"] spIsNum := .mk' F_isnumber (ok_isnumber F_isnumber B (PySem.W.mg_of X G aMD)) g_isnumber b_isnumber
    have D_readlist : Df l.prog w K mg base 2 "read_list" ["text"] spReadT := .mk' F_readlist (ok_readlist F_readlist B D_isnumber) g_readlist b_readlist
    have D_lawrng : Df l.prog w K mg base 1 "_law_rng" ["script"] (spRng K) := .mk' F_lawrng (ok_lawrng F_lawrng B) g_lawrng b_lawrng
    have D_lawdraw : Df l.prog w K mg base 1 "_law_draw" ["rng", "limit"] spDraw := .mk' F_lawdraw (ok_lawdraw F_lawdraw) g_lawdraw b_lawdraw
    have D_lawlist : Df l.prog w K mg base 2 "_law_list" ["rng", "most", "greatest"] spList := .mk' F_lawlist (ok_lawlist F_lawlist B D_lawdraw) g_lawlist b_lawlist
    have D_lawpiece : Df l.prog w K mg base 2 "_law_piece" ["rng", "sign", "most"] spPiece := .mk' F_lawpiece (ok_lawpiece F_lawpiece D_lawdraw) g_lawpiece b_lawpiece
    have D_lawwritten : Df l.prog w K mg base 3 "_law_written" ["rng", "sign", "most"] spWritten := .mk' F_lawwritten (ok_lawwritten F_lawwritten B D_lawdraw D_lawpiece) g_lawwritten b_lawwritten
    have D_lawreplaced : Df l.prog w K mg base 1 "_law_replaced" ["written", "sign", "number"] spReplaced := .mk' F_lawreplaced (ok_lawreplaced F_lawreplaced B) g_lawreplaced b_lawreplaced
    have D_lawruns : Df l.prog w K mg base 1 "_law_runs" ["written", "sign"] spRuns := .mk' F_lawruns (ok_lawruns F_lawruns B) g_lawruns b_lawruns
    exact ok_law F_law B D_lawrng D_lawdraw D_lawwritten D_lawlist D_lawreplaced D_lawruns D_squeezed D_readlist T_squeezetext K_squeezetext⟩
end Sq
open PySem PySem.W PyProof.Rows
set_option maxRecDepth 100000 in
set_option maxHeartbeats 0 in
theorem PySem.Challenge.cw_squeezelists_k03_whole_texts_squeezed_holds : PySem.Challenge.rw_squeezelists_k03_whole_texts_squeezed.Holds := by
  w_on; o_law; k_head; (case hw => w_witness2)
  k_fill
  refine Sq.walkAt (l := PySem.Challenge.rw_squeezelists_k03_whole_texts_squeezed) (n := 63) (k := 8) (x := "script") (sp := fun w => Sq.spLaw _) rfl (by decide) rfl (fun w h Y => PySem.W.kIn_of Y) ?F (fun _ _ a ns hl _ hS => ⟨a, ns, rfl, hS, hl, fun _ => rfl⟩)
  case F =>
    intro w mg fa h KX G hmg
    refine' Sq.all_mk KX G hmg ?a_checklist ?l_checklist ?c_checklist ?k_checklist ?a_checknumber ?l_checknumber ?c_checknumber ?k_checknumber ?a_checkcharacter ?l_checkcharacter ?c_checkcharacter ?k_checkcharacter ?a_squeezed ?l_squeezed ?c_squeezed ?k_squeezed ?a_squeezetext ?l_squeezetext ?c_squeezetext ?k_squeezetext ?a_lengthafter ?l_lengthafter ?c_lengthafter ?k_lengthafter ?a_lengthafterone ?l_lengthafterone ?c_lengthafterone ?k_lengthafterone ?a_lengthsbetween ?l_lengthsbetween ?c_lengthsbetween ?k_lengthsbetween ?a_readlist ?l_readlist ?c_readlist ?k_readlist ?a_isnumber ?l_isnumber ?c_isnumber ?k_isnumber ?a_lawrng ?l_lawrng ?c_lawrng ?k_lawrng ?a_lawdraw ?l_lawdraw ?c_lawdraw ?k_lawdraw ?a_lawlist ?l_lawlist ?c_lawlist ?k_lawlist ?a_lawpiece ?l_lawpiece ?c_lawpiece ?k_lawpiece ?a_lawwritten ?l_lawwritten ?c_lawwritten ?k_lawwritten ?a_lawreplaced ?l_lawreplaced ?c_lawreplaced ?k_lawreplaced ?a_lawruns ?l_lawruns ?c_lawruns ?k_lawruns ?a_law ?l_law ?c_law ?k_law ?z_len ?z_min ?z_max ?z_abs ?z_range ?z_isinstance ?z_repr ?z_enumerate ?z_reversed ?z_sorted ?z_bool ?z_int ?z_str ?z_list ?z_tuple ?z_set ?z_sum ?z_zip ?z_all ?z_any ?z_ValueError ?z_divmod ?aMD
    (case a_checklist => k_is); (case l_checklist => k_is); (case c_checklist => k_is); (case k_checklist => k_is); (case a_checknumber => k_is); (case l_checknumber => k_is); (case c_checknumber => k_is); (case k_checknumber => k_is); (case a_checkcharacter => k_is); (case l_checkcharacter => k_is); (case c_checkcharacter => k_is); (case k_checkcharacter => k_is); (case a_squeezed => k_is); (case l_squeezed => k_is); (case c_squeezed => k_is); (case k_squeezed => k_is); (case a_squeezetext => k_is); (case l_squeezetext => k_is); (case c_squeezetext => k_is); (case k_squeezetext => k_is); (case a_lengthafter => k_is); (case l_lengthafter => k_is); (case c_lengthafter => k_is); (case k_lengthafter => k_is); (case a_lengthafterone => k_is); (case l_lengthafterone => k_is); (case c_lengthafterone => k_is); (case k_lengthafterone => k_is); (case a_lengthsbetween => k_is); (case l_lengthsbetween => k_is); (case c_lengthsbetween => k_is); (case k_lengthsbetween => k_is); (case a_readlist => k_is); (case l_readlist => k_is); (case c_readlist => k_is); (case k_readlist => k_is); (case a_isnumber => k_is); (case l_isnumber => k_is); (case c_isnumber => k_is); (case k_isnumber => k_is); (case a_lawrng => k_is); (case l_lawrng => k_is); (case c_lawrng => k_is); (case k_lawrng => k_is); (case a_lawdraw => k_is); (case l_lawdraw => k_is); (case c_lawdraw => k_is); (case k_lawdraw => k_is); (case a_lawlist => k_is); (case l_lawlist => k_is); (case c_lawlist => k_is); (case k_lawlist => k_is); (case a_lawpiece => k_is); (case l_lawpiece => k_is); (case c_lawpiece => k_is); (case k_lawpiece => k_is); (case a_lawwritten => k_is); (case l_lawwritten => k_is); (case c_lawwritten => k_is); (case k_lawwritten => k_is); (case a_lawreplaced => k_is); (case l_lawreplaced => k_is); (case c_lawreplaced => k_is); (case k_lawreplaced => k_is); (case a_lawruns => k_is); (case l_lawruns => k_is); (case c_lawruns => k_is); (case k_lawruns => k_is); (case a_law => k_is); (case l_law => k_is); (case c_law => k_is); (case k_law => k_is); (case z_len => k_is); (case z_min => k_is); (case z_max => k_is); (case z_abs => k_is); (case z_range => k_is); (case z_isinstance => k_is); (case z_repr => k_is); (case z_enumerate => k_is); (case z_reversed => k_is); (case z_sorted => k_is); (case z_bool => k_is); (case z_int => k_is); (case z_str => k_is); (case z_list => k_is); (case z_tuple => k_is); (case z_set => k_is); (case z_sum => k_is); (case z_zip => k_is); (case z_all => k_is); (case z_any => k_is); (case z_ValueError => k_is); (case z_divmod => k_is); (case aMD => k_is)
