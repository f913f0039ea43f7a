import PyProof.Rows.All
import Wide.All
import OpenK.AllK
import Wide.FinOn
import HandS.ForMost
import HandS.IsInst
import HandS.Walk
import HandS.Defaults
import HandS.RaiseMore
import HandS.Wide
import HandS.Exc
import HandS.ExcOwn
import HandS.ExcInit
import HandS.ExcSuper
import KE.KExcSuper
import HandS.ExcValue
import HandS.ExcIs
import HandS.ExcField
import HandS.GenList
import HandS.WordsExc
import HandS.HotCalls
import HandS.Comp
import HandS.Deep
import HandS.Text
import HandS.StrMore
import HandS.Style
import HandS.GenBody
import HandS.GenYield
import PyProof.GenComp
import PyProof.ForAny
import HandS.Strs
import HandS.SetBool
import HandS.SuiteRaise
import HandS.Iter
import HandS.Property
import HandS.MakeKw
import HandS.MakeKwOnly
import PyProof.FactsSeq
import HandS.Replace
import HandS.GenOver
import HandS.Words
import HandS.WideBits
import HandS.SortInts
import HandS.Set
import HandS.SetFor
import HandS.Zip
import HandS.DictComp
import KE.GoesMore
import PyProof.LongRange
import HandS.More
import HandS.FStr
import HandS.NoneIn
import HandS.ReplaceList
import HandS.Codes
import PySem.Challenge.RW_squeezelists_k04_errors_of_squeezing
set_option Elab.async false
set_option linter.all false
set_option maxRecDepth 100000
set_option maxHeartbeats 2000000
/-! The layer for the laws: a def of the law run at the outermost call (where no repr is under way), repr of data, calls by keywords alone. -/
namespace Sq
open PySem PySem.Spec PyProof.Rows L2
/-! ### the law's own def, at one given surrounding -/
theorem fnAt {CX : CXT} {P : Program} {w : World} {K : PySem.W.Frag} {mg : Str → Option Value} {base : Heap} {k : Nat} {f : Addr} {nmF qualF : Str} {prm : Arguments} {bd : List Stmt} {scp : Scope}
    {dflt kwd docv pmv cdv ctv ocv : Value} {anv odv : Option Addr} {slv : Array (Option Value)} {names prs : List Str} {sp : Sp} {A : Around}
    (stands : K.lookup f = some ⟨ocv, odv, .func (PySem.W.fnOf nmF qualF prm bd scp dflt kwd docv pmv anv cdv ctv), slv⟩)
    (code : PySem.W.codeIn K cdv qualF = true) (sc : FnScope names prs scp)
    (count : ∀ vs H Q E, sp vs H Q E → vs.length = prs.length)
    (inner : ∀ (outer : List Env) (s : Shared) (H : Hp) (vs : List V) (Q : VK) (E : XK), Room k (A.deeper (envOfC qualF scp s.heap.objs.size f cdv)) → sp vs H Q E →
      ∃ t, PSs (cxOf CX P w K mg base names qualF scp f cdv A outer s H E) bd t ∧ t { nx := fun _ H' => Q .non H', rt := Q } (start names vs) H)
    {outer : List Env} {s : Shared} {H : Hp} {ag : Args} {us : List Value} {vs : List V} {Q : VK} {E : XK}
    (room : Room (k + 1) A) (entry : Env0 P w K mg base A outer s H)
    (bound : BindsTo s (PySem.W.fnOf nmF qualF prm bd scp dflt kwd docv pmv anv cdv ctv) ag (prs.zip us)) (rel : Vals vs us) (wish : sp vs H Q E) :
    codeAny (model P w) A (.call (.ref f) ag) (CR CX outer P w H s Q E) s := by
  have written : K.In s.heap := entry.mod.kin.keeps (fun b o e => (entry.bs b o e).1)
  have roomy : s.heap.NoLimit := entry.mod.nolimit.keeps (fun b o e => (entry.bs b o e).1)
  refine codeAny_call_function room.depth (written _ _ stands) rfl sc.co sc.gen rfl (PySem.W.codeRec_of written code) (bound _ _ _ _ ?_)
  refine wpAny_newFunctionEnv_cells sc.kind ?kinds ?body
  case kinds =>
    rintro ⟨n, v⟩ hn
    have inP := (List.of_mem_zip hn).1
    cases sc.par n inP with
    | inl q => exact Or.inl q
    | inr q => exact Or.inr ⟨q, PySem.W.cellsFrom_some _ _ _ (Or.inl q)⟩
  case body =>
    intro env eqn s1 fresh
    subst eqn
    refine ⟨roomy.keeps fresh.toInCall.keep, codeAny_func ?_⟩
    obtain ⟨t, steps, holds⟩ := inner outer s H vs Q E (room.deeper _) wish
    have inv := inv_start (CX := CX) (mg := mg) (base := base) (E := E) sc room.hd entry (count _ _ _ _ wish) rel fresh
    refine wpAny_mono (steps.run [] s1 (start names vs) H _ inv holds) ?_ (fun _ _ q => q)
    intro flow s' got
    cases flow with
    | ret u =>
      obtain ⟨v, σ', H', J, rv, q⟩ := got
      exact ⟨v, H', J.os, J.bare, J.base, J.hok, rv, q⟩
    | next =>
      obtain ⟨σ', H', J, q⟩ := got
      exact ⟨V.non, H', J.os, J.bare, J.base, J.hok, rfl, q⟩
    | brk => exact got.elim fun _ h => h.elim fun _ h => False.elim h.2
    | cont => exact got.elim fun _ h => h.elim fun _ h => False.elim h.2
/-- what the top's def promises at the outermost call alone -/
def Top (P : Program) (w : World) (K : PySem.W.Frag) (mg : Str → Option Value) (base : Heap) (k : Nat) (f : Addr) (fd : FuncData) (x : Str) (sp : Sp) : Prop :=
  ∀ (s : Shared) (H : Hp) (ag : Args) (u : Value) (v : V) (Q : VK), Env0 P w K mg base callerA [] s H → BindsTo s fd ag [(x, u)] → RelV v u → sp [v] H Q (fun _ _ _ => False) →
    codeAny (model P w) callerA (.call (.ref f) ag) (CR CX0 [] P w H s Q (fun _ _ _ => False)) s
theorem atTop {P : Program} {w : World} {K : PySem.W.Frag} {mg : Str → Option Value} {base : Heap} {k : Nat} {f : Addr} {fd : FuncData} {x y qual : Str} {st : Stmt} {names : List Str} {sp : Sp}
    (F : Fun K y qual st f fd) (sc : FnScope names [x] (defScope st)) (room : Room (k + 1) callerA) (count : ∀ vs H Q E, sp vs H Q E → vs.length = 1)
    (inner : ∀ (cdv : Value) (outer : List Env) (s : Shared) (H : Hp) (vs : List V) (Q : VK) (E : XK), Room k (callerA.deeper (envOfC qual (defScope st) s.heap.objs.size f cdv)) → sp vs H Q E →
      ∃ t, PSs (cxOf CX0 P w K mg base names qual (defScope st) f cdv callerA outer s H E).nox (defBody st) t ∧ t { nx := fun _ H' => Q .non H', rt := Q } (start names vs) H) :
    Top P w K mg base k f fd x sp := by
  intro s H ag u v Q e0 hb hv hs
  obtain ⟨oc, od, kV, doc, pm, an, cdv, ct, osl, rfl, lk, hcd⟩ := F.ex
  refine fnAt (us := [u]) (vs := [v]) lk hcd sc count (fun outer s' H' vs' Q' E' room' wish => ?_) room e0 hb (.cons hv .nil) hs
  obtain ⟨t, h, q⟩ := inner cdv outer s' H' vs' Q' E' room' wish
  exact ⟨t, h.nox, q⟩
/-- from the def's promise at the outermost call to the row's claim about that call -/
theorem lawAt {P : Program} {w : World} {K : PySem.W.Frag} {mg mb : Str → Option Value} {k : Nat} {fa a : Addr} {fd : FuncData} {x : Str} {sp : Sp} {s₁ : Shared} {cells : List Value} {nums : List Int}
    (inK : K.In s₁.heap) (nsM : s₁.heap.Ns mainGlobals mg) (nsB : s₁.heap.Ns builtinsNs mb) (boot : ∀ y : Str, y ≠ "__name__" → mb y = bootBuiltins y) (lim : s₁.heap.NoLimit) (gens : s₁.gens = #[])
    (script : s₁.heap.get? a = some { cls := .type "list", data := .seq cells.toArray }) (are : IntsAre cells nums) (few : nums.length ≤ sizeLine)
    (main : ∀ base : Heap, K.In base → base.Ns mainGlobals mg → Top P w K mg base k fa fd x sp) (binds : ∀ (s : Shared) (u : Value), BindsTo s fd ⟨[u], []⟩ [(x, u)])
    (told : ∀ H : Hp, Only H → SqL K H a (nums.map V.int) → sp [.ref a] H (fun v _ => v = .bl true) fun _ _ _ => False) :
    codeAny (model P w) callerA (.call (.ref fa) ⟨[.ref a], []⟩) (fun r s' => r = .ok (.ret (.bool true)) ∧ OldK s₁.heap s'.heap ∧ s'.os = s₁.os ∧ AllBare s'.gens) s₁ := by
  have rel := vals_ints are
  have same := are.length
  suffices goal : ∀ H : Hp, Only H → SqL K H a (nums.map V.int) → HOk P w H s₁.heap → (∀ b o, H b = some o → b = a ∧ K.lookup a = none) →
      codeAny (model P w) callerA (.call (.ref fa) ⟨[.ref a], []⟩) (fun r s' => r = .ok (.ret (.bool true)) ∧ OldK s₁.heap s'.heap ∧ s'.os = s₁.os ∧ AllBare s'.gens) s₁ by
    cases look : K.lookup a with
    | some o =>
      have here := inK a o look
      rw [script] at here
      cases here
      exact goal (fun _ => none) (fun _ => Or.inl rfl) (Or.inr ⟨_, cells.toArray, _, look, rfl, rfl, rfl, (by rw [List.size_toArray, same]; exact few), (by simpa using rel)⟩) (fun b u z => by cases (show (none : Option HO) = some u from z)) (fun b o z => by cases (show (none : Option HO) = some o from z))
    | none =>
      let Ha : Hp := fun b => if b = a then some (.frz { cls := .type "list", data := .seq cells.toArray } (.lst (nums.map V.int))) else none
      have at_a : Ha a = some (.frz { cls := .type "list", data := .seq cells.toArray } (.lst (nums.map V.int))) := if_pos rfl
      have off : ∀ b o, Ha b = some o → b = a := fun b o z => by
        by_cases hb : b = a
        · exact hb
        · rw [show Ha b = none from if_neg hb] at z
          cases z
      refine goal Ha (fun b => ?_) (Or.inl (Or.inr ⟨_, at_a⟩)) (fun b u z => ?_) (fun b o z => ⟨off b o z, look⟩)
      · by_cases hb : b = a
        · exact Or.inr ⟨_, _, if_pos hb⟩
        · exact Or.inl (if_neg hb)
      · obtain rfl := off b u z
        rw [at_a] at z
        cases z
        exact ⟨script, by rw [List.length_map]; exact few, cells, _, rel, script⟩
  intro H only seq hok apart
  have free : ∀ {b : Addr} {o : Obj}, s₁.heap.get? b = some o → (∀ u, H b = some u → False) → (hidT s₁.heap H).get? b = some o := fun {b o} e n =>
    hidT_get e (by
      cases q : H b with
      | none => rfl
      | some u => exact (n u q).elim)
  have nsH : ∀ {b : Addr} {m : Str → Option Value}, s₁.heap.Ns b m → (hidT s₁.heap H).Ns b m := by
    rintro b m ⟨o, es, ep, e, d, r⟩
    refine ⟨o, es, ep, free e fun u z => ?_, d, r⟩
    obtain ⟨rfl, _⟩ := apart b u z
    rw [script] at e
    cases e
    cases (show Data.seq cells.toArray _ = Data.dict es ep from d)
  have kH : K.In (hidT s₁.heap H) := fun b o e => free (inK b o e) fun u z => by
    obtain ⟨rfl, n⟩ := apart b u z
    rw [n] at e
    cases e
  have mod : Mod K mg (hidT s₁.heap H) := ⟨kH, nsH nsM, ⟨mb, nsH nsB, boot⟩, let ⟨mc, h1, h2⟩ := lim; ⟨mc, nsH h1, h2⟩⟩
  have entry : Env0 P w K mg (hidT s₁.heap H) callerA [] s₁ H :=
    ⟨rfl, mod, fun b o e => of_hidT e, Nat.le_of_eq (hidT_size _ _), trivial, fun b hb => absurd (show b ∈ ([] : List Addr) from hb) (by simp), hok, .of_eq gens⟩
  refine codeAny_mono (main _ kH (nsH nsM) s₁ H ⟨[.ref a], []⟩ (.ref a) (.ref a) _ entry (binds s₁ (.ref a)) rfl (told H only seq)) ?_
  intro r s' got
  match r, got with
  | .ok (.ret u), got =>
    obtain ⟨v, H', os, bare, un, hok', rv, q⟩ := got
    obtain rfl : v = .bl true := q
    obtain rfl : u = Value.bool true := rv
    refine ⟨rfl, OldK.of_keep fun b o e => ?_, os, bare⟩
    rcases only b with z | ⟨ob, xs, z⟩
    · exact un.keep b o e z (by intro y; exact absurd (show b ∈ ([] : List Addr) from y) (by simp)) (by simp)
    · obtain ⟨e1, _⟩ := hok b _ z
      obtain ⟨e2, _⟩ := hok' b _ (un.frzs b ob _ z)
      rw [e] at e1
      cases e1
      exact e2
/-- the goal that k_head leaves, from the law's promise at the outermost call -/
theorem walkAt {l : PySem.W.OpenLaw} {n k : Nat} {q : Program} {loose : List Str} {XP : (Str → Option Value) → Heap → Prop} {YP : World → Heap → Prop} {d : DefRec} {K : Params → PySem.W.Frag} {sp : World → Sp} {x : Str}
    (most : l.most = some n) (line : n ≤ sizeLine) (plain : d.params.defaults = []) (inK : ∀ (w : World) (h : Heap), YP w h → (K w.params).In h)
    (F : ∀ (w : World) (mg : Str → Option Value) (fa : Addr) (h : Heap), (K w.params).In h → h.Ns mainGlobals mg → mg d.name = some (.ref fa) →
      ∃ fd : FuncData, (∀ (s : Shared) (u : Value), BindsTo s fd ⟨[u], []⟩ [(x, u)]) ∧ ∀ base : Heap, (K w.params).In base → base.Ns mainGlobals mg → Top l.prog w (K w.params) mg base k fa fd x (sp w))
    (told : ∀ (w : World) (H : Hp) (a : Addr) (ns : List Int), ns.length ≤ n → Only H → SqL (K w.params) H a (ns.map V.int) → sp w [.ref a] H (fun v _ => v = .bl true) fun _ _ _ => False) :
    PySem.W.WalkO q loose XP YP l.row.toRowW d [] (fun f vs => PySem.call f vs) := by
  refine Att.attach_call most plain ?_
  intro w s₀ s₁ mg mb fa o pm cd doc a vs ns G Y ho hd hcd hmg hobj hints hlen hg
  obtain ⟨fd, hb, hF⟩ := F w mg fa _ (inK w _ Y) G.T.g hmg
  exact lawAt (inK w _ Y) G.T.g G.T.b G.T.builtins G.T.nolimit hg hobj hints (Nat.le_trans hlen line) hF hb fun H hO hS => told w H a ns hlen hO hS
/-! ### repr of data, where no repr is under way -/
def rReprD (K : PySem.W.Frag) : List V → Hp → VK → Prop := fun xs H Q => ∃ a d, xs = [.ref a] ∧ Dp K H (.ref a) d ∧ d.showable = true ∧ d.hasDict = false ∧ d.depth ≤ 40 ∧ d.shown.length ≤ sizeLine ∧ Q (.str d.shown) H
theorem call_reprD {X : Cx} (hg : X.A.guards = some []) (hu : X.A.units + 64 < cLine) : CallR X (.builtin "repr") (rReprD X.K) := by
  intro pins s σ H xs us Q I r h
  obtain ⟨a, d, rfl, hd, sh, nd, dep, sz, q⟩ := h
  obtain ⟨u, rfl, rv⟩ := vals1 r
  obtain rfl : u = Value.ref a := rv
  obtain ⟨as, rd⟩ := Dp.reads I d _ _ hd (show RelV (.ref a) (.ref a) from rfl)
  refine repr_of_reads' rd sh (by rw [nd]; exact fun z => nomatch z) hg (by omega) (fun b o e => e) (fun h' u tk keep => ?_) sz
  exact ⟨.str _, H, I.kept keep, ⟨_, rfl⟩, q⟩
/-! ### f(k = v, ..): keywords alone -/
end Sq
namespace Sq
open PySem PySem.Spec PyProof.Rows L2
/-- what a caller wants of a def of the text: it stands at its name and keeps its promise -/
structure Df (P : Program) (w : World) (K : PySem.W.Frag) (mg : Str → Option Value) (base : Heap) (k : Nat) (x : Str) (ps : List Str) (sp : Sp) : Prop where
  ex : ∃ f fd, FnOk P w K mg base CX0 k f fd ps sp ∧ mg x = some (.ref f) ∧ PySem.W.keepIn K (.ref f) = true ∧ Binds K fd ps []
section
variable {X : Cx} {k : Nat} {ps : List Str} {sp : Sp} {x : Str} {p pos : Pos} {e : Expr} {es : List Expr} {t : TA}
theorem pe_callD (D : Df X.prog X.w X.K X.mg X.base k x ps sp) (hr : Room k X.A) (hg : Gl X x) (ha : PA X (e :: es) t) (hdb : (x == ("__debug__" : Str)) = false := by decide)
    (he : starEach (e :: es) X.env = (false, eval e X.env) :: starEach es X.env := by rfl) (hpl : (backTo pos (starEach es X.env)).any (·.1) = false := by rfl) :
    PE X (.Call (.Name x p) (e :: es) [] pos) (tCall sp [] E0 t) := by
  obtain ⟨f, fd, F, g, kp, b⟩ := D.ex
  exact pe_call F hr hg g kp b .nil pass0 ha hdb he hpl
end
section
variable {P : Program} {w : World} {K : PySem.W.Frag} {mg : Str → Option Value} {base : Heap}
/-- a def without defaults, from its place in the text and its promise -/
theorem Df.mk' {k : Nat} {x : Str} {st : Stmt} {ps : List Str} {sp : Sp} {f : Addr} {fd : FuncData} (F : Fun K x x st f fd) (G : FnOk P w K mg base CX0 k f fd ps sp) (g : mg x = some (.ref f)) (b : Binds K fd ps []) : Df P w K mg base k x ps sp :=
  ⟨⟨f, fd, G, g, F.kp, b⟩⟩
end
end Sq
namespace Sq
open PySem PySem.Spec PyProof.Rows L2
theorem vals_rev : ∀ {zs : List V} {ws : List Value}, Vals zs ws → Vals zs.reverse ws.reverse
  | [], [], _ => .nil
  | _ :: _, _ :: _, .cons h t => by
    rw [List.reverse_cons, List.reverse_cons]
    exact (vals_rev t).append (.cons h .nil)
end Sq
set_option Elab.async false
set_option linter.all false
set_option maxRecDepth 100000
set_option maxHeartbeats 2000000
/-! Own errors whose __init__ says super().__init__(..) and stores its argument as value. -/
namespace SqX
open PySem PySem.W PySem.Calls PyProof.Rows PySem.HandSPX
def xA (p1 p2 : Pos) : Arguments := { posonlyargs := [], args := [{ arg := "self", annotation := none, pos := p1 }, { arg := "value", annotation := none, pos := p2 }], vararg := none, kwonlyargs := [], kw_defaults := [], kwarg := none, defaults := [] }
def xB (msg : Str) (j : Nat) (q0 q1 q2 q3 q4 q5 r1 r2 r3 r4 : Pos) : List Stmt :=
  [.Expr (.Call (.Attribute (.Call (.Name "super" q0) [] [] q1) "__init__" q2) [.Constant (.str msg) j q3] [] q4) q5, .Assign [.Attribute (.Name "self" r1) "value" r2] (.Name "value" r3) r4]
def xS : Scope := { kind := .function, names := [(PySem.Str.ofString "self", .local), (PySem.Str.ofString "value", .local), (PySem.Str.ofString "__class__", .free), (PySem.Str.ofString "super", .globalImplicit)], isGenerator := false, isCoroutine := false, more := [] }
/-- what the written part says of such a class at C, of its __init__ at fI -/
structure Er (K : Frag) (prog : Program) (C fI : Addr) (q : Str) : Prop where
  cls : ∃ nm qn N bs bm sn sub ab col dd k0 k1 k2 k3 k5, K.lookup C = some (excClassObj nm qn C N bs bm true sn sub ab col dd k0 k1 k2 k3 k5 "ValueError.__new__") ∧ refsVE bm = true
  sa : findIn K (.ref C) "__setattr__" = some (some (.builtin "object.__setattr__"))
  noV : findIn K (.ref C) "value" = some none
  iC : findIn K (.ref C) "__init__" = some (some (.ref fI))
  tC : typeIn K (.ref fI) = some (.type "function")
  kC : keepIn K (.ref C) = true
  exC : subIn K (.ref C) (.type "BaseException") = some true
  veC : subIn K (.ref C) (.type "ValueError") = some true
  tyC : typeIn K (.ref C) = some (.type "type")
  mC : mroIn K C (.ref C) = some true
  suC : ks_superIn K C C "__init__" = some (some (.builtin "ValueError.__init__"))
  third : nsIn K cStatics "thirdparty.any" = some none
  super : nsIn K mainGlobals "super" = some none
  top : (prog.main.scope.names.lookup ("super" : Str)).isSome = false
  fn : ∃ (oc : Value) (od : Option Addr) (doc pm : Value) (an : Option Addr) (ct : Value) (osl : Array (Option Value)) (cda cc : Addr) (msg : Str) (j : Nat) (p1 p2 q0 q1 q2 q3 q4 q5 r1 r2 r3 r4 : Pos) (ccl : Value) (cdd : Option Addr) (vs : Array Value) (ccs : Array (Option Value)) (file : Str) (tf : Tok) (cl : Value) (cld : Option Addr) (csl : Array (Option Value)),
    K.lookup fI = some ⟨oc, od, .func (ksFn "__init__" q (xA p1 p2) (xB msg j q0 q1 q2 q3 q4 q5 r1 r2 r3 r4) xS .none .none doc pm an (.ref cda) ct cc), osl⟩ ∧ codeIn K (.ref cda) q = true ∧
    K.lookup cda = some ⟨ccl, cdd, .fields vs, ccs⟩ ∧ vs[2]? = some (.str file tf) ∧ ((prog.main.file : Str) == file) = true ∧ K.lookup cc = some ⟨cl, cld, .cell (some (.ref C)), csl⟩ ∧ (q2.endLine == q4.line) = true
/-- what __init__ leaves of a fresh exception at x -/
structure Inited (h h' : Heap) (x C dx t1 : Addr) (v : Value) : Prop where
  keep : ∀ b o, b ≠ x → h.get? b = some o → h'.get? b = some o
  obj : h'.get? x = some { cls := .ref C, dict := some dx, data := .fields #[.ref t1, .none, .none, .none, .bool false, .none] }
  dbig : h.objs.size ≤ dx
  dne : dx ≠ x
  ns : h'.Ns1 dx (fun y => if y = "value" then some v else none)
theorem one_size (v : Value) : [v].length ≤ sizeLine := by
  rw [sizeLine_eq]
  exact (by decide : 1 ≤ 16777216)
theorem call_is {o e : Expr} {name : Str} {apos pos : Pos} {env : Env} (hline : (apos.endLine == pos.line) = true) (he : starEach [e] env = [(false, eval e env)]) :
    eval (.Call (.Attribute o name apos) [e] [] pos) env = (do
      let ov ← attributeBase o name env (eval o env)
      standAt apos.atName
      let (f, first) ← holding [ov] (getMethod ov name (do return (← importBound o env).getD true))
      callWith pos f first (backTo pos (starEach [e] env)) []) := by
  rw [arm_eval_Call]
  have hf : methodCallForm 1 (backTo pos (starEach [e] env)) (backToKw pos (keywordEach [] env)) = true := by
    rw [he]
    rfl
  have hp : methodCallPos true o env apos pos = pure pos := by
    unfold methodCallPos
    simp [hline]
  refine congrArg _ (funext fun ov => congrArg _ (funext fun _ => ?_))
  show methodCall o name apos pos env ov 1 (backTo pos (starEach [e] env)) (backToKw pos (keywordEach [] env)) = _
  unfold methodCall
  rw [hf, hp]
  rfl
/-- the bound ValueError.__init__ called: the args are laid anew -/
theorem call_mw {prog : Program} {w : World} {A : Around} {E : Value → Shared → Prop} {h : Heap} {g : Array GenState} {d : Drawn} {t : Nat} {os : OsState}
    {nm qn : Str} {C N : Addr} {bs bm : List Value} {hdct : Bool} {sn : List Str} {sub : List Value} {ab : Bool} {col : Option Bool} {dd : Option Addr} {k0 k1 k2 k3 k5 : Option Value} {u e t0 : Addr} {rest : List Value} {Q : Value → Shared → Prop}
    (atC : h.get? C = some (excClassObj nm qn C N bs bm hdct sn sub ab col dd k0 k1 k2 k3 k5 "ValueError.__new__")) (atE : h.get? e = some (excO C t0)) (atU : h.get? u = some (kxs_mw "ValueError.__init__" e)) (line : rest.length ≤ sizeLine)
    (fin : ∀ h' t1, (∀ b o, b ≠ e → h.get? b = some o → h'.get? b = some o) → h'.get? e = some (excO C t1) → Q .none ⟨h', g, d, t, os⟩) :
    wpAny (model prog w) A (call (.ref u) rest) Q E ⟨h, g, d, t, os⟩ := by
  refine wpAny_call (codeAny_of_tree ?_)
  show wpAny _ A.in1 (callAny (.ref u) ⟨rest, []⟩) _ _ _
  simp only [callAny]
  refine wpAny_bind (wpAny_load atU ?_)
  simp only [kxs_mw, show (Value.type "method-wrapper" == Value.type "method" || Value.type "method-wrapper" == Value.type "builtin_function_or_method" || Value.type "method-wrapper" == Value.type "method-wrapper") = true by decide, if_true]
  refine W.KFB.if_so (by decide) ?_
  refine wpAny_bind (ESX.check_bound F.excBase_ValueError atC atE rfl ?_)
  refine wpAny_bind (wpAny_pure (wpAny_pure ?_))
  refine ⟨Code.quiet_builtin _ (by decide +kernel), codeAny_builtin F.excBase_ValueError.initEntry ?_⟩
  rw [Around.under_plainId F.excBase_ValueError.init.plain _]
  wp_walk
  refine fin _ h.objs.size (fun b o nb hb => ?_) ?_
  · exact (Heap.get?_update_other _ _ (Ne.symm nb)).trans (Heap.get?_push_of_some _ hb)
  · exact (Heap.get?_update_self _ (Heap.get?_push_of_some _ atE) rfl).trans rfl
section
variable {prog : Program} {w : World} {A : Around} {E : Value → Shared → Prop} {R : Result → Shared → Prop} {s : Shared} {K : Frag} {mg : Str → Option Value} {base : Heap} {C fI : Addr} {q : Str}
theorem init (T : Er K prog C fI q) {x t0 : Addr} {v : Value} {args : Args} (X : K.In s.heap) (hg : s.heap.Ns mainGlobals mg) (hlim : s.heap.NoLimit) {mb : Str → Option Value} (hb : s.heap.Ns builtinsNs mb) (boot : ∀ y : Str, y ≠ "__name__" → mb y = bootBuiltins y)
    (hx : s.heap.get? x = some (excO C t0)) (hnx : K.lookup x = none) (hroom : A.depth < recursionLimit)
    (hargs : ∀ fd : FuncData, (∃ p1 p2 bd doc pm an cda ct cc, fd = ksFn "__init__" q (xA p1 p2) bd xS .none .none doc pm an (.ref cda) ct cc) → BindsTo s fd args [("self", .ref x), ("value", v)])
    (hq : ∀ h' tk dx t1, Inited s.heap h' x C dx t1 v → R (.ok (.ret .none)) { s with heap := h', toks := tk }) :
    codeAny (model prog w) A (.call (.ref fI) args) R s := by
  obtain ⟨oc, od, doc, pm, an, ct, osl, cda, cc, msg, j, p1, p2, q0, q1, q2, q3, q4, q5, r1, r2, r3, r4, ccl, cdd, vs, ccs, file, tf, cl, cld, csl, ho, hcd, hcode, hvs, hfile, hcell, hline⟩ := T.fn
  obtain ⟨nm, qn, N, bs, bm, sn, sub, ab, col, dd, k0, k1, k2, k3, k5, hC, hbm⟩ := T.cls
  have hcl : clsIn K C = some { name := nm, bases := bs, mro := .ref C :: bm, ns := N, qualname := qn, hasDict := true, slotNames := sn, subclasses := sub, abstract := ab, collection := col, hasDel := false } := by unfold clsIn; rw [hC] <;> rfl
  refine ks_codeAny_call_defAt (fd := ksFn "__init__" q (xA p1 p2) (xB msg j q0 q1 q2 q3 q4 q5 r1 r2 r3 r4) xS .none .none doc pm an (.ref cda) ct cc) (binds := [("self", .ref x), ("value", v)]) hroom (X _ _ ho) rfl hlim (codeRec_of X hcd) rfl
    (hargs _ ⟨_, _, _, _, _, _, _, _, _, rfl⟩) (show ∀ x ∈ xS.names, x.2 ≠ .cell by decide) (fun y hy => ?loc) (fun h₁ hns k => ?_)
  case loc =>
    rcases List.mem_cons.mp hy with rfl | hy
    · exact (show xS.names.lookup ("self" : Str) = some .local by decide)
    · obtain rfl := List.mem_singleton.mp hy
      exact (show xS.names.lookup ("value" : Str) = some .local by decide)
  have X₁ : K.In h₁ := X.keeps k
  have hx₁ := k _ _ hx
  obtain ⟨hh, g, d, t, os⟩ := s
  show _root_.PySem.wpAt _ _ _ (execs (xB msg j q0 q1 q2 q3 q4 q5 r1 r2 r3 r4) _) _ _ _
  refine ks_wpAt_execs_cons (ks_wpAt_Expr_any (ks_wpAt_MethodCall ?_ (call_is hline rfl)))
  obtain ⟨oD, hD1, hD2⟩ : ∃ oD, h₁.get? C = some oD ∧ ∃ cdD, oD.data = .cls cdD := ⟨_, X₁ _ _ hC, _, rfl⟩
  obtain ⟨cdD, hD2⟩ := hD2
  have I₁ : InstAt h₁ x (excO C t0) C none := ⟨hx₁, rfl, rfl, trivial⟩
  refine ks_wpAt_super_base (f := fI) (cc := cda) rfl rfl rfl rfl (X₁ _ _ ho) rfl rfl rfl (X₁ _ _ hcode) rfl hvs hfile T.top ?_
  refine ks_loadName_global rfl rfl (loadGlobal_builtin (hg.keeps k) (mg_none_of X hg T.super) (hb.keeps k) ((boot _ (by decide +kernel)).trans (by decide +kernel)) ⟨rfl, ?_⟩)
  refine wpAny_loadName_free rfl rfl rfl ⟨_, X₁ _ _ hcell, rfl⟩ ?_
  refine wpAny_loadName_local (v := .ref x) rfl rfl hns rfl ?_
  refine ks_wpAny_isType_cls hD1 hD2 ⟨rfl, ?_⟩
  refine ks_wpAny_call_super hD1 hD2 I₁.at_ I₁.cls (fun c e => by cases e) (looks_mroIn X₁ T.mC) (fun h₂ e₂ k₂ => ?_)
  have X₂ : K.In h₂ := X₁.keeps k₂
  have hx₂ := k₂ _ _ hx₁
  have I₂ : InstAt h₂ x (excO C t0) C none := ⟨hx₂, rfl, rfl, trivial⟩
  have al := T.suC
  unfold ks_superIn at al
  rw [hcl] at al
  refine kxs_getMethod kxs_ValueError e₂ (looks_opaque X₂ T.third) (l₀ := .ref C :: bm) ((looks_clsIn X₂ hcl).andThen .now) rfl X₂ al (I₂.type.andThen (looks_subIn X₂ T.veC)) (ks_ne X₂ I₂ hcl) (by decide) ?_
  have k₃ : ∀ b o, h₂.get? b = some o → (h₂.push (kxs_mw "ValueError.__init__" x)).get? b = some o := fun b o e => Heap.get?_push_of_some _ e
  have hu : (h₂.push (kxs_mw "ValueError.__init__" x)).get? h₂.objs.size = some (kxs_mw "ValueError.__init__" x) := Heap.get?_push_at rfl rfl
  refine kxs_callWith (i := "ValueError.__init__") (x := x) rfl (evalArgs_plain ?_)
  refine Calls.spliced_cons ?_
  show wpAny _ _ (eval (.Constant (.str msg) j q3) _) _ _ _
  refine Calls.Constant_str ?_
  refine Calls.spliced_nil ⟨hu, ?_⟩
  refine call_mw (k₃ _ _ (X₂ _ _ hC)) (k₃ _ _ hx₂) hu (one_size _) (fun h₄ t1 k₄ hx₄ => ?_)
  have kk : ∀ b o, b ≠ x → hh.get? b = some o → h₄.get? b = some o := fun b o nb e => k₄ b o nb (k₃ _ _ (k₂ _ _ (k _ _ e)))
  have X₄ : K.In h₄ := fun a o e => kk a o (fun z => by rw [z, hnx] at e; cases e) (X a o e)
  have nx : hh.objs.size ≠ x := fun z => by
    have := Heap.lt_size hx
    rw [← z] at this
    exact absurd this (Nat.lt_irrefl _)
  have ns₄ : h₄.Ns hh.objs.size (fun y => List.lookup y [(("self" : Str), Value.ref x), ("value", v)].reverse) :=
    hns.at fun o e => k₄ _ _ nx (k₃ _ _ (k₂ _ _ e))
  -- self.value = value
  refine ks_wpAt_execs_cons (wpAt_of_wpAny (plainObj_wpAny_Assign_Attribute ?_))
  refine wpAny_Name (wpAny_loadName_local (v := v) rfl rfl ns₄ rfl ?_) (by decide)
  refine wpAny_Name (wpAny_loadName_local (v := .ref x) rfl rfl ns₄ rfl ?_) (by decide)
  refine set_plain X₄ (ox := excO C t1) (od := none) ⟨hx₄, rfl, rfl, trivial⟩ T.sa ?_
  refine exc_osa X₄ hx₄ hcl (show refsVE (.ref C :: bm) = true from hbm) rfl T.noV (fun h₅ tk₅ dx k₅ dn dne hx₅ hn₅ => ?_)
  have big : hh.objs.size ≤ dx := by
    have l1 : hh.objs.size < h₁.objs.size := hns.lt
    have l2 : h₁.objs.size < h₂.objs.size := Heap.lt_size e₂
    have nu : h₂.objs.size ≠ x := Nat.ne_of_gt (Heap.lt_size hx₂)
    have l4 : h₂.objs.size < h₄.objs.size := Heap.lt_size (k₄ _ _ nu hu)
    have l5 : h₄.objs.size ≤ dx := dn
    exact Nat.le_trans (Nat.le_of_lt (Nat.lt_trans l1 (Nat.lt_trans l2 l4))) l5
  refine wpAt_of_wpAny (wpAny_execs_nil ?_)
  exact hq h₅ tk₅ dx t1 ⟨fun b o nb e => k₅ b o nb (kk b o nb e), hx₅, big, dne, hn₅⟩
end
end SqX
set_option Elab.async false
set_option linter.all false
set_option maxRecDepth 100000
set_option maxHeartbeats 2000000
namespace SqX
open PySem PySem.W PySem.Calls PyProof.Rows PySem.HandSPX
/-- a new error at e, its dict at d -/
structure New (h h' : Heap) (e C d t1 : Addr) (v : Value) : Prop where
  keep : ∀ b o, h.get? b = some o → h'.get? b = some o
  big : h.objs.size ≤ e
  obj : h'.get? e = some { cls := .ref C, dict := some d, data := .fields #[.ref t1, .none, .none, .none, .bool false, .none] }
  dbig : h.objs.size ≤ d
  dne : d ≠ e
  ns : h'.Ns1 d (fun y => if y = "value" then some v else none)
section
variable {prog : Program} {w : World} {A : Around} {E : Value → Shared → Prop} {R : Result → Shared → Prop} {K : Frag} {mg mb : Str → Option Value} {C fI : Addr} {q : Str}
theorem bind2 {s : Shared} {q : Str} {x v : Value} : ∀ fd : FuncData, (∃ p1 p2 bd doc pm an cda ct cc, fd = ksFn "__init__" q (xA p1 p2) bd xS .none .none doc pm an (.ref cda) ct cc) → BindsTo s fd ⟨[x, v], []⟩ [("self", x), ("value", v)] := by
  rintro fd ⟨p1, p2, bd, doc, pm, an, cda, ct, cc, rfl⟩
  exact BindsTo.of_eq (by first | rfl | with_unfolding_all rfl)
theorem made {s : Shared} (T : Er K prog C fI q) {v : Value} (X : K.In s.heap) (hg : s.heap.Ns mainGlobals mg) (hlim : s.heap.NoLimit) (hb : s.heap.Ns builtinsNs mb) (boot : ∀ y : Str, y ≠ "__name__" → mb y = bootBuiltins y)
    (hroom : A.depth + 1 < recursionLimit)
    (fin : ∀ h' tk e d t1, New s.heap h' e C d t1 v → R (.ok (.ret (.ref e))) { s with heap := h', toks := tk }) :
    codeAny (model prog w) A (.call (.ref C) ⟨[v], []⟩) R s := by
  obtain ⟨nm, qn, N, bs, bm, sn, sub, ab, col, dd, k0, k1, k2, k3, k5, hC, hbm⟩ := T.cls
  obtain ⟨hp, g, dr, tk, os⟩ := s
  have k : ∀ b o, hp.get? b = some o → ((hp.push (kdv_tup [v])).push (excO C hp.objs.size)).get? b = some o := fun b o e => Heap.get?_push_of_some _ (Heap.get?_push_of_some _ e)
  have atE : ((hp.push (kdv_tup [v])).push (excO C hp.objs.size)).get? (hp.objs.size + 1) = some (excO C hp.objs.size) := by heap_get
  have off : K.lookup (hp.objs.size + 1) = none := by
    cases e : K.lookup (hp.objs.size + 1) with
    | none => rfl
    | some o => exact absurd (Nat.lt_of_succ_lt (Heap.lt_size (X _ _ e))) (Nat.lt_irrefl _)
  refine call_own F.excBase_ValueError (fun Y => refsVE_contains Y bm hbm) (X _ _ hC) (looks_findIn X T.iC) (fun self => bind_fn X self T.tC) (one_size v) ?_
  refine init (s := ⟨(hp.push (kdv_tup [v])).push (excO C hp.objs.size), g, dr, tk, os⟩) T (X.keeps k) (hg.keeps k) (hlim.keeps k) (hb.keeps k) boot atE off (show A.depth + 1 < recursionLimit from hroom) bind2 ?_
  rintro h' tk' dx t1 ⟨kp, ob, dn, dne, ns⟩
  have old : ∀ b o, hp.get? b = some o → h'.get? b = some o := fun b o e => kp b o (Nat.ne_of_lt (Nat.lt_succ_of_lt (Heap.lt_size e))) (k b o e)
  have z : hp.objs.size + 1 + 1 ≤ dx := by
    first
      | (simpa only [Heap.size_push] using dn)
      | exact dn
      | (have y := dn; rw [Heap.size_push, Heap.size_push] at y; exact y)
  exact ⟨rfl, fin h' tk' (hp.objs.size + 1) dx t1 ⟨old, Nat.le_succ _, ob, Nat.le_trans (Nat.le_trans (Nat.le_succ _) (Nat.le_succ _)) z, dne, ns⟩⟩
end
end SqX
set_option Elab.async false
set_option linter.all false
set_option maxRecDepth 100000
set_option maxHeartbeats 4000000
/-! The same by keyword. -/
set_option Elab.async false
set_option linter.all false
set_option maxRecDepth 100000
set_option maxHeartbeats 2000000
/-! Own errors as values of the layer: made by position and by name, isinstance of them, their value. -/
namespace Sq
open PySem PySem.Spec PyProof.Rows L2
/-- an error of the class at C stands at a, its dict at d; it holds v -/
def ErrAt (H : Hp) (a d C : Addr) (v : V) : Prop := H a = some (exo a C (some d)) ∧ H d = some (exd d [(("value" : Str), v)])
theorem ErrAt.same {H H' : Hp} {a d C : Addr} {v : V} (s : Same H H') (e : ErrAt H a d C v) : ErrAt H' a d C v := ⟨s _ _ e.1, s _ _ e.2⟩
end Sq
set_option Elab.async false
set_option linter.all false
set_option maxRecDepth 100000
set_option maxHeartbeats 2000000
namespace SqX
open PySem PySem.W PySem.Spec PySem.Calls
section
variable {prog : Program} {w : World} {A : Around} {E : Value → Shared → Prop} {s : Shared} {K : Frag} {x D : Addr} {ox : Obj} {od : Option Obj}
/-- err.__class__, whatever the error's own dict holds -/
theorem classOf (T : L2.ExcC K D) (X : K.In s.heap) (I : InstAt s.heap x ox D od) {Q : Option Value → Shared → Prop} (fin : Q (some (.ref D)) { s with toks := s.toks + 1 }) :
    wpAny (model prog w) A (getAttr? (.ref x) "__class__") Q E s := by
  have found : findObj K D od "__class__" = some (.bind (.builtin "getset_descriptor.__get__") (.builtin "object.__class__")) := by
    obtain ⟨cd, hc, _⟩ := any_some T.hd
    unfold findObj
    rw [hc, Option.bind_some, T.ha, Option.bind_some]
    simp [T.hn, T.ht]
  obtain ⟨hp, g, d, t, os⟩ := s
  have ty := I.type (M := model prog w)
  have hookA := looks_findIn (M := model prog w) X T.hg
  have hookB := looks_findIn (M := model prog w) X T.hk
  have look := looks_find (M := model prog w) X I found
  have isB : Looks (model prog w) hp (isInstance (.ref x) (.type "BaseException")) true := ty.andThen (looks_subIn X T.hs)
  have differ : (Value.builtin "BaseException.__getattribute__" == Value.builtin "object.__getattribute__") = false := by decide +kernel
  have off : (onTheHeap (Value.ref D) && Value.builtin "BaseException.__getattribute__" == Value.builtin "object.__getattribute__") = false := by
    rw [differ]
    rfl
  unfold getAttr? getAttrBy? getAttrBy
  refine wpAny_bind (wpAny_mkText (wpAny_bind (wpAny_attempt (wpAny_holding (wpAny_bind (ty.at (wpAny_bind (hookA.at ?_))))))))
  show wpAny _ _ (if (onTheHeap (Value.ref D) && Value.builtin "BaseException.__getattribute__" == Value.builtin "object.__getattribute__") = true then _ else _) _ _ _
  rw [off, if_neg Bool.false_ne_true]
  unfold getAttrByItsOwn hookBefore
  refine wpAny_bind ?_
  rw [if_pos (show onTheHeap (Value.ref D) = true from rfl)]
  refine hookB.at ?_
  refine wpAny_bind (wpAny_attempt (wpAny_holding ?_))
  unfold callGetattribute
  rw [show (false && onTheHeap (Value.builtin "BaseException.__getattribute__")) = false from rfl, if_neg Bool.false_ne_true]
  unfold boundAndCalled
  rw [PySem.F.excAttr_ValueError.ga.bind (.ref x)]
  refine wpAny_bind (wpAny_pure ?_)
  show wpAny _ _ (call (.builtin "BaseException.__getattribute__") [.ref x, .str "__class__" t]) _ _ _
  refine wpAny_call (codeAny_call_builtin PySem.F.excAttr_ValueError.ga.plain PySem.F.entry_bexc_ga ?_)
  refine @check_slot (model prog w) _ _ ⟨hp, g, d, t + 1, os⟩ "BaseException.__getattribute__" "BaseException" "__getattribute__" (.ref x) [.str "__class__" t] [] _ (by decide +kernel) (by decide +kernel) isB (PySem.F.args_bexc_ga (.ref x) (.str "__class__" t)) ?_
  unfold Builtin.«object.__getattribute__»
  refine wpAny_bind (wpAny_of_eq (a := ((Value.ref x : Value), [Value.str "__class__" t])) (by first | rfl | (simp only [slotArgs]; rfl)) ?_)
  refine wpAny_bind (wpAny_pure (wpAny_bind (ty.at (wpAny_bind (look.at ?_)))))
  show wpAny _ _ (holding [Value.builtin "object.__class__"] (call (.builtin "getset_descriptor.__get__") [.builtin "object.__class__", .ref x, .ref D]) >>= ret) _ _ _
  refine wpAny_bind (wpAny_holding (wpAny_call (class_get (s := ⟨hp, g, d, t + 1, os⟩) (ox := ox) (od := od) X I T.hm ?_)))
  refine wpAny_pure ?_
  show wpAny _ _ (handedOut (.ref D)) _ _ _
  rw [handedOut_of (v := .ref D) rfl]
  first
    | exact wpAny_pure (wpAny_pure fin)
    | exact wpAny_pure fin
    | exact wpAny_pure (wpAny_bind (wpAny_pure (wpAny_pure fin)))
theorem kit (T : L2.ExcC K D) : KitX K (.ref x) (.ref D) (fun h => InstAt h x ox D od) where
  ty := fun _ _ _ I => I.type
  it := fun _ _ X _ => by
    obtain ⟨cdD, found, _⟩ := any_some T.hd
    unfold clsIn at found
    split at found
    · rename_i c' d' cd' sl' there
      intro A' Q' E' s' keep q
      unfold isType loadHead
      exact wpAny_bind (wpAny_loadPart (keep _ _ (X _ _ there)) (wpAny_pure q))
    · cases found
  ne := fun h tp dd its n sl X tup => by
    obtain ⟨cdD, found, _⟩ := any_some T.hd
    refine Bool.eq_false_iff.mpr fun q => ?_
    obtain rfl : D = tp := Value.ref.inj (beq_iff_eq.mp q)
    unfold clsIn at found
    split at found
    · rename_i c' d' cd' sl' there
      cases (X _ _ there).symm.trans tup
    · cases found
  ca := fun X I fin => classOf T X I fin
end
end SqX
namespace Sq
open PySem PySem.Spec PyProof.Rows L2
theorem kit_own {K : PySem.W.Frag} {C D : Addr} {b : Bool} (h1 : PySem.W.isClsIn K D = true) (h2 : PySem.W.typeIn K (.ref D) = some (.type "type")) (h3 : PySem.W.subIn K (.ref C) (.ref D) = some b) (h4 : C = D → b = true) : PySem.W.kitOne K (.ref C) (.ref D) = some b := by
  unfold PySem.W.kitOne
  by_cases e : C = D
  · subst e
    rw [if_pos (by simp), h4 rfl]
  · rw [if_neg (by simpa using e)]
    show (if ((PySem.W.clsIn K D).isSome && PySem.W.typeIn K (.ref D) == some (.type "type")) = true then PySem.W.subIn K (.ref C) (.ref D) else none) = some b
    have h1' : (PySem.W.clsIn K D).isSome = true := h1
    rw [h1', h2, if_pos (by rfl)]
    exact h3
theorem kit_base {K : PySem.W.Frag} {C : Addr} {T : String} {b : Bool} (h1 : PySem.W.kitMeta T = true) (h3 : PySem.W.subIn K (.ref C) (.type T) = some b) : PySem.W.kitOne K (.ref C) (.type T) = some b := by
  unfold PySem.W.kitOne
  rw [if_neg (by simp)]
  show (if PySem.W.kitMeta T = true then PySem.W.subIn K (.ref C) (.type T) else none) = some b
  rw [if_pos h1]
  exact h3
end Sq
set_option Elab.async false
set_option linter.all false
set_option maxRecDepth 100000
set_option maxHeartbeats 2000000
/-! Own errors raised; a caught one kept behind its suite. -/
namespace Sq
open PySem PySem.Spec PyProof.Rows L2
/-- an error that was raised: its class and its dict are known -/
def exq (a C : Addr) (d : Option Addr) : HO := .ext fun h => ∃ (oe : Obj) (vs : Array Value), h.get? a = some oe ∧ Zc (.ref C) d oe ∧ oe.data = .fields vs
theorem exq_ok {P : Program} {w : World} {H : Hp} {h : Heap} {a C : Addr} {d : Option Addr} {oe : Obj} {vs : Array Value} (e : h.get? a = some oe) (z : Zc (.ref C) d oe) (hd : oe.data = .fields vs) : ObjOk P w H h a (exq a C d) :=
  ⟨⟨oe, vs, e, z, hd⟩, ⟨oe, e⟩, fun _ _ ⟨o, v, q, r⟩ k => ⟨o, v, k o q, r⟩⟩
theorem exq_at {P : Program} {w : World} {H : Hp} {h : Heap} {a C : Addr} {d : Option Addr} (hok : HOk P w H h) (e : H a = some (exq a C d)) : ∃ (oe : Obj) (vs : Array Value), h.get? a = some oe ∧ Zc (.ref C) d oe ∧ oe.data = .fields vs := by
  have x : ObjOk P w H h a (.ext fun h => ∃ (oe : Obj) (vs : Array Value), h.get? a = some oe ∧ Zc (.ref C) d oe ∧ oe.data = .fields vs) := hok a _ e
  exact x.1
section
variable {X : Cx} {pins : List (Addr × Obj)} {σ : L2.St} {H : Hp} {s : Shared}
/-- an object that came into being since the entry is tracked from now on -/
theorem tracked {a C : Addr} {d : Option Addr} {oe : Obj} {vs : Array Value} (I : Inv X pins σ H s) (na : H a = none) (n0 : X.s_0.heap.get? a = none) (e : s.heap.get? a = some oe) (z : Zc (.ref C) d oe) (hd : oe.data = .fields vs)
    (hp : ∀ p ∈ X.pn ++ pins, p.1 ≠ a) (nL : a ≠ X.env.locals) : Inv X pins σ (upd H a (exq a C d)) s := by
  refine ⟨I.ok, I.os, I.bare, ⟨I.base.keep, I.base.slot, fun b o q n hx => ?_, I.base.there, fun b xs q => ?_, fun b o xs q => ?_, fun b ps q => ?_⟩, I.loc, I.cell, ?_, fun x c q => ?_, fun p q => ?_, fun b u q => ?_, I.len⟩
  · rw [upd_ne (fun z => by rw [z, n0] at q; cases q)]
    exact I.base.free b o q n hx
  · have y := I.base.tups b xs q
    rw [upd_ne (ne_of_none y na)]
    exact y
  · have y := I.base.frzs b o xs q
    rw [upd_ne (ne_of_none y na)]
    exact y
  · obtain ⟨m, y⟩ := I.base.tbls b ps q
    exact ⟨m, by rw [upd_ne (ne_of_none y na)]; exact y⟩
  · rw [upd_ne (Ne.symm nL)]
    exact I.free
  · obtain ⟨v, o, ho, hv⟩ := I.cell x c q
    have ne : c ≠ a := fun z => by
      rw [z, e] at ho
      cases ho
      rw [hd] at hv
      cases hv
    rw [upd_ne ne]
    exact I.freeC x c q
  · obtain ⟨y1, y2, y3, y4, y5⟩ := I.pin p q
    exact ⟨y1, by rw [upd_ne (hp p q)]; exact y2, y3, y4, y5⟩
  · by_cases hb : b = a
    · subst hb
      rw [upd_same] at q
      cases q
      exact exq_ok e z hd
    · rw [upd_ne hb] at q
      exact (I.hok b u q).stay (fun _ _ _ y => y) (fun c y => by rw [upd_ne (ne_of_none y na)]; exact y) fun c xs y => by rw [upd_ne (ne_of_none y na)]; exact y
/-- the name of an except clause goes; all but the frame's own record stands -/
theorem gone_stays {M : Model} {A : Around} {E : Value → Shared → Prop} {i : Nat} {n : Str} {pos : Pos} {Q : Unit → Shared → Prop} (I : Inv X pins σ H s) (hN : X.N.Nodup) (hi : X.N[i]? = some n) (hl : X.env.kindOf n = some .local)
    (h : ∀ s', Inv X pins (σ.set i none) H s' → (∀ b o, b ≠ X.env.locals → s.heap.get? b = some o → s'.heap.get? b = some o) → Q () s') : wpAny M A (do bindName X.env n .none; unbindBehindTheSuite X.env n pos) Q E s := by
  obtain ⟨spaces, there, held⟩ := id I.loc
  have plain : (X.env.scope.kind == .class || (X.env.scope.kind == .module && X.env.locals != X.env.globals)) = false := by
    rw [I.ok.kind]
    rfl
  have older : ∀ b o, X.s_0.heap.get? b = some o → b ≠ X.env.locals := fun b o e => Nat.ne_of_lt (Nat.lt_of_lt_of_le (Heap.lt_size e) I.ok.above)
  refine wpAny_nameGoes_keeps hl there plain fun h2 v there2 but => h _ ?_ fun b o nb e => (but.2 b nb).trans e
  have base2 : Un X.fs X.ex X.H_0 H X.s_0.heap h2 := {
    keep := fun b o e n hb hx => (but.2 b (older b o e)).trans (I.base.keep b o e n hb hx)
    slot := fun b o e n hb hx => let ⟨sl, y⟩ := I.base.slot b o e n hb hx; ⟨sl, (but.2 b (older b o e)).trans y⟩
    free := I.base.free
    there := fun b o e hx => let ⟨o', y⟩ := I.base.there b o e hx; ⟨o', (but.2 b (older b o e)).trans y⟩
    tups := I.base.tups
    frzs := I.base.frzs
    tbls := I.base.tbls }
  have cells2 : ∀ y c, X.env.cells.lookup y = some c → ∃ w', h2.IsCell c w' := fun y c e => let ⟨w', z⟩ := I.cell y c e; ⟨w', z.sameBut but (I.cne y c e)⟩
  refine ⟨I.ok, I.os, I.bare, base2, ⟨_, there2, fun j y v' at_ val vis => ?_⟩, cells2, I.free, I.freeC, fun q hq => ?_, fun b ob eb => ?_, by simpa using I.len⟩
  · by_cases same : j = i
    · exfalso
      subst same
      rw [List.getElem?_set] at val
      split at val
      · split at val <;> cases val
      · rename_i z
        exact z rfl
    · rw [List.getElem?_set_ne (Ne.symm same)] at val
      obtain ⟨u', rel, place⟩ := held j y v' at_ val vis
      refine ⟨u', rel, place.elim (fun ⟨k, e⟩ => .inl ⟨k, ?_⟩) fun ⟨k, c, e, z⟩ => .inr ⟨k, c, e, z.sameBut but (I.cne y c e)⟩⟩
      have other : y ≠ n := fun e => same (nodup_ix hN at_ (e ▸ hi))
      exact (if_neg other).trans e
  · obtain ⟨y1, y2, y3, y4, y5⟩ := I.pin q hq
    exact ⟨(but.2 q.1 y3).trans y1, y2, y3, y4, y5⟩
  · refine (I.hok b ob eb).stay (fun c w' hc z => (but.2 c fun isL => ?_).trans z) (fun _ z => z) fun _ _ z => z
    subst isL
    rcases hc with hc | hc
    · rw [← hc, I.free] at eb
      cases eb
    · rw [I.free] at hc
      cases hc
/-- raise X(e): what is made -/
theorem pmk_er {C fI : Addr} {q : Str} {e : Expr} {te : TE} {x : Str} {p pos : Pos} {k : Nat} (T : SqX.Er X.K X.prog C fI q) (gC : X.mg x = some (.ref C)) (hr : Room k X.A) (hg : Gl X x) (he : PE X e te)
    (hs : starEach [e] X.env = (false, eval e X.env) :: starEach [] X.env := by rfl) (hdb : (x == ("__debug__" : Str)) = false := by decide) :
    PMk X (.Call (.Name x p) [e] [] pos) (fun σ H Q => te σ H fun v H1 => ∀ d, H1 d = none → Q (.ref C) (some d) (upd H1 d (exd d [(("value" : Str), v)]))) := by
  intro pins s σ H Q I h
  refine wpAny_Call_Name_kw (ld_glob I hg gC ?_ hdb)
  refine PySem.W.callWith_K (h₀ := X.base) I.ok.mod.kin T.kC ?_ hs (by rfl)
  rw [hs]
  show wpAny _ _ (spliced ((false, eval e X.env) :: backTo pos (starEach [] X.env))) _ _ s
  refine Calls.spliced_cons (thn (he.run pins s σ H _ I h) fun u s1 hh => ?_)
  obtain ⟨v, H1, I1, r1, q1⟩ := hh
  refine Calls.spliced_nil ⟨I1.kIn, ?_⟩
  show wpAny _ _ (call (.ref C) [u]) _ _ _
  obtain ⟨mb, hb, boot⟩ := I1.ok.mod.blt
  refine wpAny_call (SqX.made T I1.kIn (I1.ok.mod.glob.keeps I1.bk) I1.nolimit (hb.keeps I1.bk) boot (by have := hr.dp; omega) fun h' tk a d t1 M => ?_)
  have na : H1 a = none := I1.hok.fresh M.big
  have nd : H1 d = none := I1.hok.fresh M.dbig
  obtain ⟨G, g1, g2⟩ := restrict h' fun b => decide (b ≠ a)
  have gk : ∀ b, b ≠ a → G.get? b = h'.get? b := fun b hb => g1 b (decide_eq_true hb)
  have ga : G.get? a = none := g2 a (by simp)
  have old : ∀ b o, s1.heap.get? b = some o → G.get? b = some o := fun b o z => (gk b (Nat.ne_of_lt (Nat.lt_of_lt_of_le (Heap.lt_size z) M.big))).trans (M.keep b o z)
  have nsG : G.Ns1 d (fun y => if y = "value" then some u else none) := M.ns.at fun o z => (gk d M.dne).trans z
  have rel : ∀ f, RelO (List.lookup f [(("value" : Str), v)]) (if f = "value" then some u else none) := relO_put (fs := []) (mA := fun _ => none) r1 fun g => True.intro
  have J : Inv X pins σ (upd H1 d (exd d [(("value" : Str), v)])) { s1 with heap := G, toks := tk } := I1.laid (t' := tk) old M.dbig (exd_ok nsG rel)
  refine ⟨a, _, _, { s1 with heap := G, toks := tk }, _, .ref C, some d, rfl, J, fun b o z => ?_, ga, M.obj, ⟨rfl, rfl⟩, rfl, rfl, by rw [upd_ne (Ne.symm M.dne)]; exact na, rfl, I1.bare, raises_own T.exC T.tyC, q1 d nd⟩
  by_cases hb : b = a
  · rw [hb, ga] at z
    cases z
  · rw [← gk b hb]
    exact z
end
end Sq
set_option Elab.async false
set_option linter.all false
set_option maxRecDepth 100000
set_option maxHeartbeats 4000000
/-! try: .. except X as n: suite, where the caught error is still known behind it. -/
namespace Sq
open PySem PySem.Spec PyProof.Rows L2
/-- what the clause wishes of an error of the body; behind the suite the error stands at its place -/
def wKeep (K : PySem.W.Frag) (c : Value) (i : Nat) (ts : Addr → Value → Option Addr → TS) (Wout : WX) (D : Ends) : WX := fun cls d σ H =>
  ∃ b, PySem.W.exmOne K cls c = some b ∧
    (b = true → ∃ C, cls = .ref C ∧ ∀ a, H a = none → ts a cls d { nx := fun σ' H' => D.nx (σ'.set i none) (upd H' a (exq a C d)), rt := fun v H' => D.rt v (upd H' a (exq a C d)), bk := fun σ' H' => D.bk (σ'.set i none) (upd H' a (exq a C d)), ct := fun σ' H' => D.ct (σ'.set i none) (upd H' a (exq a C d)) } (σ.set i (some (.ref a))) H) ∧
    (b = false → Wout cls d σ H)
section
variable {X : Cx} {x n : Str} {c : Value} {i : Nat} {body suite : List Stmt} {b₀ : Stmt} {np pos pos' : Pos} {tb : WX → TS} {ts : Addr → Value → Option Addr → TS} {Wout : WX}
theorem ps_try_keep (stack : X.stack = X.env :: X.outer) (frame : X.env.frame = some X.env.locals) (noex : X.ex = []) (nodup : X.N.Nodup) (slot : X.N[i]? = some n) (isLocal : X.env.kindOf n = some .local) (named : Names X x c) (takes : Takes X Wout)
    (tried : ∀ (W : WX) (pn : List (Addr × Obj)) (xe : Value → Shared → Prop), Takes (X.tr pn xe) W → PassesOwn (model X.prog X.w) X.A X.env xe → PSs (X.tr pn xe) body (tb W))
    (caught : ∀ (a : Addr) (oe : Obj) (cls : Value) (d : Option Addr) (pn : List (Addr × Obj)), Zc cls d oe → (∃ vs, oe.data = .fields vs) → PSs (X.suite a ((a, oe) :: pn)) (b₀ :: suite) (ts a cls d)) :
    PS X (.Try body [.ExceptHandler (some (.Name x np)) (some n) (b₀ :: suite) pos'] [] [] pos) (fun D σ H => tb (wKeep X.K c i ts Wout D) D σ H) := by
  refine ⟨fun pins s σ H D I h => ?_⟩
  have ok := I.ok
  have frames : X.A.frames = some (X.env :: X.outer) := by rw [ok.frames, stack]
  refine wpAny_Try_except (wpAny_mono ((tried (wKeep X.K c i ts Wout D) (X.pn ++ pins) (fun e s₁ => wpAny (model X.prog X.w) X.A (noteFrame e X.env) (fun _ s₂ => wpAny (model X.prog X.w) X.A (setFlight e none) (fun _ s₃ =>
    wpAny (model X.prog X.w) X.A (handleBy e X.env [.ExceptHandler (some (.Name x np)) (some n) (b₀ :: suite) pos']) (SP X pins D) X.xe s₃) X.xe s₂) X.xe s₁) (fun u s' air => ?_) PassesOwn.looking).run [] s σ H D (I.toTry _) h) (fun f s1 done => ?_) (fun e s1 he => he))
  · obtain ⟨a, B, sI, pins2, σ2, H2, cls, d, rfl, J', ground, upto, sky, na, os, ag, b, match_, yes, no⟩ := air
    have J : Inv X pins σ2 H2 sI := J'.ofTry ok
    have sky2 : Sky B (X.env :: X.outer) a (Zc cls d) X.env.locals s'.heap := by
      rw [← stack]
      exact sky
    refine Sky.land Zc.steady frames frame sky2 fun h3 fl3 up3 => ?_
    have J3 : Inv X pins σ2 H2 { s' with heap := h3 } := J.landed ground fl3.1 (upto.trans up3) os ag
    obtain ⟨oe3, vs3, he3, hz3, hd3⟩ := fl3.there
    have noFrame : a ∉ frs (X.env :: X.outer) := fun hm => by
      obtain ⟨_, o', e', hnf⟩ := fl3.2.2.1.mem hm
      rw [he3] at e'
      cases e'
      exact hnf _ hd3
    have nL : a ≠ X.env.locals := fun z => noFrame (List.mem_filterMap.mpr ⟨X.env, List.mem_cons_self, by rw [frame, z]⟩)
    have nF : a ∉ X.fs := fun hm => by
      obtain ⟨e, he, q⟩ := List.mem_filterMap.mp hm
      exact noFrame (List.mem_filterMap.mpr ⟨e, List.mem_cons_of_mem _ he, q⟩)
    -- the error is younger than all that stood at the entry, and no pin
    have newI : sI.heap.get? a = none := by
      cases e : sI.heap.get? a with
      | none => rfl
      | some o =>
        have z := ground a o e (by rw [stack]; exact noFrame)
        rw [fl3.2.1] at z
        cases z
    have new0 : X.s_0.heap.get? a = none := by
      cases e : X.s_0.heap.get? a with
      | none => rfl
      | some o =>
        obtain ⟨o', z⟩ := J.base.there a o e (by rw [noex]; exact fun z => nomatch z)
        rw [newI] at z
        cases z
    have noPin : ∀ q ∈ X.pn ++ pins, q.1 ≠ a := fun q hq z => by
      have y := (J.pin q hq).1
      rw [z, newI] at y
      cases y
    have S3 := J3.suite he3 hd3 na nL nF
    refine wpAny_handleBy_cons (codeAny_handlers_test ?_) (by intro q; cases q)
    have LT : PySem.W.Looks (model X.prog X.w) h3 (typeOf (.ref a)) cls := fun A Q E s k q => wpAny_typeOf_ref (k _ _ he3) (by rw [hz3.1]; exact q)
    have LM := PySem.W.exm_one (M := model X.prog X.w) (J3.kIn) LT match_
    have test : ∀ {Q : Value → Shared → Prop} {E : Value → Shared → Prop}, Q c { s' with heap := h3 } → wpAny (model X.prog X.w) (X.A.mark (some (.ref a))) (eval (.Name x np) X.env) Q E { s' with heap := h3 } := fun {Q E} q => by
      obtain ⟨hg, hdbg, hm | ⟨hm, hv, hnn⟩⟩ := named
      · exact ld_glob (X := X.suite a ((a, oe3) :: (X.pn ++ pins))) S3 hg hm q hdbg
      · exact ld_blt (X := X.suite a ((a, oe3) :: (X.pn ++ pins))) S3 hg hm hv q hnn hdbg
    refine test (LM.here ?_)
    cases b with
    | true =>
      obtain ⟨C, rfl, yes⟩ := yes rfl
      refine codeAny_handlers_suite_as ?_
      refine HandSPX.lands_againZ fl3 fun h4 fl4 up4 => ?_
      have J4 : Inv X pins σ2 H2 { s' with heap := h4 } := J.landed ground fl4.1 ((upto.trans up3).trans up4) os ag
      obtain ⟨oe4, vs4, he4, hz4, hd4⟩ := fl4.there
      have S4 := J4.suite he4 hd4 na nL nF
      refine store_ok (X := X.suite a ((a, oe4) :: (X.pn ++ pins))) (v := .ref a) S4 nodup slot (.inl isLocal) rfl (fun s5 S5 => ?_) (.inr isLocal)
      refine wpAny_mono ((caught a oe4 (.ref C) d (X.pn ++ pins) hz4 ⟨_, hd4⟩).run [] s5 _ H2 _ S5 (yes a na)) (fun f s6 after => ?_) (fun _ _ z => False.elim z)
      have leave : ∀ {σ6 : L2.St} {H6 : Hp} {Q : Shared → Prop}, Inv (X.suite a ((a, oe4) :: (X.pn ++ pins))) [] σ6 H6 s6 → (∀ s7, Inv X pins (σ6.set i none) (upd H6 a (exq a C d)) s7 → Q s7) →
          wpAny (model X.prog X.w) X.A (do bindName X.env n .none; unbindBehindTheSuite X.env n pos') (fun _ s7 => Q s7) X.xe s6 := fun {σ6 H6 Q} S6 hq => by
        obtain ⟨p1, p2, _⟩ := S6.pin (a, oe4) (List.mem_append_left _ List.mem_cons_self)
        exact gone_stays (S6.unsuite ok) nodup slot isLocal fun s7 J7 stays => hq s7 (tracked J7 p2 new0 (stays a oe4 nL p1) hz4 hd4 noPin nL)
      cases f with
      | next =>
        obtain ⟨σ6, H6, S6, q6⟩ := after
        exact leave S6 fun s7 J7 => ⟨_, _, J7, q6⟩
      | brk =>
        obtain ⟨σ6, H6, S6, q6⟩ := after
        exact leave S6 fun s7 J7 => ⟨_, _, J7, q6⟩
      | cont =>
        obtain ⟨σ6, H6, S6, q6⟩ := after
        exact leave S6 fun s7 J7 => ⟨_, _, J7, q6⟩
      | ret u =>
        obtain ⟨v6, σ6, H6, S6, r6, q6⟩ := after
        exact leave S6 fun s7 J7 => ⟨_, _, _, J7, r6, q6⟩
    | false =>
      show wpAny _ X.A (handleBy (.ref a) X.env []) _ _ _
      refine wpAny_handleBy_nil ?_
      obtain ⟨k1, k2, k3, oe, vs, T, oT, ts', he, hz, hd, h1, rest⟩ := id fl3
      unfold PySem.passOn
      refine wpAny_bind (wpAny_field he hd h1 ?_)
      rw [if_neg (show ¬ ((Value.ref T == Value.none) = true) from by simp)]
      have fin : wpAny (model X.prog X.w) X.A (setFlight (.ref a) X.env.frame) (fun _ s4 => wpAny (model X.prog X.w) X.A (throw (.ref a) : Sem Flow) (SP X pins D) X.xe s4) X.xe { s' with heap := h3 } := by
        rw [frame]
        refine HandSPX.setFlight_upZ fl3 fun h4 hh4 up4 => wpAny_throw (takes _ _ ?_)
        exact ⟨a, B, sI, pins, σ2, H2, cls, d, rfl, J, ground, (upto.trans up3).trans up4, .inr (.inr (by rw [stack]; exact hh4)), na, os, ag, no rfl⟩
      first
        | exact wpAny_bind (wpAny_pure (wpAny_bind fin))
        | exact wpAny_bind fin
  · cases f with
    | next =>
      obtain ⟨σ2, H2, J', q⟩ := done
      exact wpAny_execs_nil ⟨σ2, H2, J'.ofTry ok, q⟩
    | brk =>
      obtain ⟨σ2, H2, J', q⟩ := done
      exact ⟨σ2, H2, J'.ofTry ok, q⟩
    | cont =>
      obtain ⟨σ2, H2, J', q⟩ := done
      exact ⟨σ2, H2, J'.ofTry ok, q⟩
    | ret u =>
      obtain ⟨v, σ2, H2, J', r, q⟩ := done
      exact ⟨v, σ2, H2, J'.ofTry ok, r, q⟩
end
/-! ### what is asked of a caught error -/
/-- an error of the class at C was caught at a, its dict at d; it holds v -/
def CaughtAt (H : Hp) (a d C : Addr) (v : V) : Prop := H a = some (exq a C (some d)) ∧ H d = some (exd d [(("value" : Str), v)])
theorem CaughtAt.same {H H' : Hp} {a d C : Addr} {v : V} (s : Same H H') (e : CaughtAt H a d C v) : CaughtAt H' a d C v := ⟨s _ _ e.1, s _ _ e.2⟩
theorem caught_obj {X : Cx} {pins : List (Addr × Obj)} {σ : L2.St} {H : Hp} {s : Shared} {a d C : Addr} {v : V} (I : Inv X pins σ H s) (e : CaughtAt H a d C v) :
    ∃ ox od u, PySem.W.InstAt s.heap a ox C (some od) ∧ PySem.W.lookIn "value" od = some (some u) ∧ RelV v u := by
  obtain ⟨oe, vs, ho, z, hd⟩ := exq_at I.hok e.1
  obtain ⟨mA, hns, hr⟩ := exd_at I.hok e.2
  obtain ⟨od, hod, hl⟩ := lookIn_ns hns
  have l : List.lookup ("value" : Str) [(("value" : Str), v)] = some v := by simp [List.lookup]
  obtain ⟨u, hu, ru⟩ := RelO.some_of (v := v) (o := mA "value") (by rw [← l]; exact hr "value")
  exact ⟨oe, od, u, ⟨ho, z.1, by unfold PySem.W.notCls; rw [hd] <;> rfl, by rw [z.2]; exact hod⟩, by rw [hl, hu], ru⟩
end Sq
namespace Sq
open PySem PySem.Spec PyProof.Rows L2
section
variable {X : Cx}
def rIsiQ (K : PySem.W.Frag) : List V → Hp → VK → Prop := fun xs H Q => ∃ (a d C : Addr) (v c : V) (u : Value) (b : Bool), xs = [.ref a, c] ∧ ClsV c u ∧ CaughtAt H a d C v ∧ ExcC K C ∧ PySem.W.kitOne K (.ref C) u = some b ∧ Q (.bl b) H
theorem call_isiQ : CallR X (.builtin "isinstance") (rIsiQ X.K) := by
  intro pins s σ H xs us Q I r h
  obtain ⟨a, d, C, v, c, u, b, rfl, k, at_, T, e, q⟩ := h
  obtain ⟨u1, u2, rfl, r1, r2⟩ := vals2 r
  obtain rfl := k.eq r2
  obtain rfl : u1 = Value.ref a := r1
  obtain ⟨ox, od, uv, J, _, _⟩ := caught_obj I at_
  exact PySem.W.kia_one (SqX.kit (ox := ox) (od := some od) T) I.kIn J e (fun z => nomatch z) fun tk => ⟨.bl b, H, I.tok tk, rfl, q⟩
/-- isinstance(error, (X, Y)) -/
def rIsiQT (K : PySem.W.Frag) : List V → Hp → VK → Prop := fun xs H Q => ∃ (a d C tp : Addr) (v : V) (cs : List V) (us : List Value) (b : Bool), xs = [.ref a, .ref tp] ∧ H tp = some (.tup cs) ∧ Paired ClsV cs us ∧ CaughtAt H a d C v ∧ ExcC K C ∧ PySem.W.kitAny K (.ref C) us = some b ∧ Q (.bl b) H
theorem call_isiQT : CallR X (.builtin "isinstance") (rIsiQT X.K) := by
  intro pins s σ H xs vs Q I r h
  obtain ⟨a, d, C, tp, v, cs, us, b, rfl, ht, pc, at_, T, e, q⟩ := h
  obtain ⟨u1, u2, rfl, r1, r2⟩ := vals2 r
  obtain rfl : u1 = Value.ref a := r1
  obtain rfl : u2 = Value.ref tp := r2
  obtain ⟨ox, od, uv, J, _, _⟩ := caught_obj I at_
  obtain ⟨few, its, rv, ob, there, isT, n, data⟩ := (show ObjOk X.prog X.w H s.heap tp (.tup cs) from I.hok tp _ ht)
  have same := ClsV.all pc rv
  subst same
  obtain ⟨oc, dct, dt, sl⟩ := ob
  simp only at isT data
  subst isT data
  exact PySem.W.kia_tup (SqX.kit (ox := ox) (od := some od) T) I.kIn J there e (fun z => nomatch z) fun tk => ⟨.bl b, H, I.tok tk, rfl, q⟩
/-- error.value of a caught one -/
def tQv (K : PySem.W.Frag) (te : TE) : TE := fun σ H Q => te σ H fun x H1 => ∃ (a d C : Addr) (v : V), x = .ref a ∧ CaughtAt H1 a d C v ∧ XfC K C ∧ PySem.W.findIn K (.ref C) "value" = some none ∧ Q v H1
theorem pe_qv {e : Expr} {te : TE} {pos : Pos} (he : PE X e te) (hb : attributeBase e "value" X.env (eval e X.env) = eval e X.env := by rfl) : PE X (.Attribute e "value" pos) (tQv X.K te) := by
  refine ⟨fun pins s σ H Q I h => ?_⟩
  refine attr_of hb (thn (he.run pins s σ H _ I h) fun u s1 hh => ?_)
  obtain ⟨x, H1, I1, rx, a, d, C, v, ex, at_, T, hno, q⟩ := hh
  subst ex
  obtain rfl : u = Value.ref a := rx
  obtain ⟨ox, od, uv, J, l, ru⟩ := caught_obj I1 at_
  exact HandSPX.exc_get I1.kIn J T.ga T.gg T.exC (PySem.W.findObj_own T.hdC hno rfl l) (handed_of ru) ⟨v, H1, I1.tok _, ru, q⟩
end
end Sq
set_option Elab.async false
set_option linter.all false
set_option maxRecDepth 100000
set_option maxHeartbeats 2000000
/-! A walk that is left at its first item: for x in g(..): break. -/
namespace Sq
open PySem PySem.Spec PyProof.Rows L2 GenW
def Y1 (P : Program) (w : World) (outer : List Env) (H : Hp) (s : Shared) (a : Addr) (g : Nat) (q : V → Hp → Prop) : Protocol := fun _ _ v s1 _ =>
  s1.os = s.os ∧ AllBare s1.gens ∧ s1.heap.IsGen a g ∧ ∃ x H', Un (frs outer) [] H H' s.heap s1.heap ∧ HOk P w H' s1.heap ∧ RelV x v ∧ q x H'
def R1 (P : Program) (w : World) (outer : List Env) (H : Hp) (s : Shared) (a : Addr) (g : Nat) (E : XK) : GenEnd := fun _ _ r s1 => ∃ e, r = .error e ∧ CX P w outer H s E e s1 ∧ s1.heap.IsGen a g
/-- a generator that has not begun: its first item, or an error -/
def GFst (P : Program) (w : World) (k : Nat) (outer : List Env) (H : Hp) (s : Shared) (q : V → Hp → Prop) (E : XK) (u : Value) (s' : Shared) : Prop :=
  ∃ (a : Addr) (g : Nat) (c : Code), u = .ref a ∧ s.heap.objs.size ≤ a ∧ s'.heap.IsGen a g ∧ s'.gens[g]? = some (.fresh c) ∧ s'.os = s.os ∧ AllBare s'.gens ∧ s'.heap.NoLimit ∧ (∀ b o, s.heap.get? b = some o → s'.heap.get? b = some o) ∧
    ∀ (A : Around) (s2 : Shared), Room k A → A.frames = some outer → (∀ b o, s'.heap.get? b = some o → s2.heap.get? b = some o) → s2.os = s.os → AllBare s2.gens →
      Seg (model P w) A (R1 P w outer H s a g E) (Y1 P w outer H s a g q) 1 s2 c ((model P w).den c) [] s2
abbrev SpF := List V → Hp → (V → Hp → Prop) → XK → Prop
structure GFn1 (P : Program) (w : World) (K : PySem.W.Frag) (mg : Str → Option Value) (base : Heap) (k : Nat) (f : Addr) (fd : FuncData) (ps : List Str) (sp : SpF) : Prop where
  len : ∀ vs H Q E, sp vs H Q E → vs.length = ps.length
  run : ∀ (A : Around) (outer : List Env) (s : Shared) (H : Hp) (args : Args) (us : List Value) (vs : List V) (Q : V → Hp → Prop) (E : XK), Room k A → Env0 P w K mg base A outer s H → BindsTo s fd args (ps.zip us) → Vals vs us → sp vs H Q E →
    codeAny (model P w) A (.call (.ref f) args) (fun r s' => match r with | .ok (.ret u) => GFst P w k outer H s Q E u s' | _ => False) s
/-- two statements, then the first yield -/
theorem gfn1_of {P : Program} {w : World} {K : PySem.W.Frag} {mg : Str → Option Value} {base : Heap} {k : Nat} {f : Addr} {name qual : Str} {params : Arguments} {st1 st2 : Stmt} {ey : Expr} {yp ypos : Pos} {rest : List Stmt} {scope : Scope} {dV kV doc pm cdv ct oc : Value} {an od : Option Addr}
    {osl : Array (Option Value)} {N ps : List Str} {sp : SpF} (found : K.lookup f = some ⟨oc, od, .func (PySem.W.fnOf name qual params (st1 :: st2 :: .Expr (.Yield (some ey) yp) ypos :: rest) scope dV kV doc pm an cdv ct), osl⟩) (coded : PySem.W.codeIn K cdv qual = true) (S : GScope N ps scope)
    (len : ∀ vs H Q E, sp vs H Q E → vs.length = ps.length) (inter : ∀ n : Nat, interactive (envOfC qual scope n f cdv) = false)
    (inner : ∀ (A : Around) (outer : List Env) (s : Shared) (H : Hp) (vs : List V) (Q : V → Hp → Prop) (E : XK) (pn : List (Addr × Obj)), Room k (A.deeper (envOfC qual scope s.heap.objs.size f cdv)) → sp vs H Q E →
      ∃ t1 t2 te, PS (gcxOf P w K mg base N qual scope f cdv A outer s H E pn) st1 t1 ∧ PS (gcxOf P w K mg base N qual scope f cdv A outer s H E pn) st2 t2 ∧ PE (gcxOf P w K mg base N qual scope f cdv A outer s H E pn) ey te ∧
        t1 { nx := fun σ1 H1 => t2 { nx := fun σ2 H2 => te σ2 H2 Q, rt := fun _ _ => False } σ1 H1, rt := fun _ _ => False } (start N vs) H) :
    GFn1 P w K mg base (k + 1) f (PySem.W.fnOf name qual params (st1 :: st2 :: .Expr (.Yield (some ey) yp) ypos :: rest) scope dV kV doc pm an cdv ct) ps sp := by
  refine ⟨len, fun A outer s H args us vs Q E room e0 bound rel wish => ?_⟩
  have few := len _ _ _ _ wish
  have inK : K.In s.heap := e0.mod.kin.keeps fun b o e => (e0.bs b o e).1
  have noLim : s.heap.NoLimit := e0.mod.nolimit.keeps fun b o e => (e0.bs b o e).1
  have kinds : ∀ y ∈ ps.zip us, scope.names.lookup y.1 = some .local ∨ (scope.names.lookup y.1 = some .cell ∧ ((cellsFrom (s.heap.objs.size + 1) scope.names []).lookup y.1).isSome = true) := fun ⟨n, v⟩ hy =>
    (S.par n (List.of_mem_zip hy).1).elim .inl fun z => .inr ⟨z, PySem.W.cellsFrom_some _ _ _ (.inl z)⟩
  refine codeAny_call_generator room.depth (inK _ _ found) rfl S.co S.gen rfl (PySem.W.codeRec_of inK coded) (bound _ _ _ _ ?_)
  refine wpAny_newFunctionEnv_cells S.kind kinds fun env he s1 made => ?_
  subst he
  have lim1 : s1.heap.NoLimit := noLim.keeps made.toInCall.keep
  refine ⟨lim1, ?_⟩
  obtain ⟨h1, tk, es1, keep1⟩ := made.done
  have os1 : s1.os = s.os := by rw [es1]
  have gen1 : s1.gens = s.gens := by rw [es1]
  have lt1 : s.heap.objs.size < s1.heap.objs.size := made.toInCall.ns.lt
  have keepS : ∀ b o, s.heap.get? b = some o → s1.heap.get? b = some o := made.toInCall.keep
  suffices main : ∀ (go : Obj) (nm qn : Value) (tk2 : Nat), go.cls = .type "generator" → go.data = .fields #[.int s1.gens.size 0, nm, qn] → go.slots = #[] → (∀ h : Heap, (h.push go).get? h.objs.size = some go) →
      GFst P w (k + 1) outer H s Q E (.ref s1.heap.objs.size) { s1 with gens := s1.gens.push (.fresh (.func (st1 :: st2 :: .Expr (.Yield (some ey) yp) ypos :: rest) (envOfC qual scope s.heap.objs.size f cdv))), toks := tk2, heap := s1.heap.push go } from
    main _ _ _ _ rfl rfl rfl fun h => Heap.get?_push_size _ rfl
  intro go nm qn tk2 isG dataG slotsG pushG
  have isGen : ∀ h : Heap, h.get? s1.heap.objs.size = some go → h.IsGen s1.heap.objs.size s1.gens.size := fun h e => ⟨go, nm, qn, e, isG, dataG, slotsG⟩
  refine ⟨s1.heap.objs.size, s1.gens.size, _, rfl, Nat.le_of_lt lt1, isGen _ (pushG _), Array.getElem?_push_size .., os1, AllBare.push (by rw [gen1]; exact e0.bare) rfl, lim1.keeps fun b o e => Heap.get?_push_of_some _ e, fun b o e => Heap.get?_push_of_some _ (keepS b o e), ?_⟩
  intro Aw s2 roomW framesW keep2 os2 bare2
  have e0w : Env0 P w K mg base Aw outer s H := ⟨framesW, e0.mod, e0.bs, e0.bsz, e0.funs, e0.frf, e0.hok, e0.bare⟩
  obtain ⟨t1, t2, te, p1, p2, pe, reading⟩ := inner Aw outer s H vs Q E [(s1.heap.objs.size, go)] (roomW.deeper _) wish
  have I1 : Inv (gcxOf P w K mg base N qual scope f cdv Aw outer s H E []) [] (start N vs) H s1 := inv_startG S roomW.hd e0w few rel made
  have keep12 : ∀ b o, s1.heap.get? b = some o → s2.heap.get? b = some o := fun b o e => keep2 b o (Heap.get?_push_of_some _ e)
  have I2 : Inv (gcxOf P w K mg base N qual scope f cdv Aw outer s H E []) [] (start N vs) H s2 :=
    I1.call' (ch := []) (os2.trans os1.symm) (Un.kept keep12) (I1.hok.kept keep12) bare2 fun b z => by simp at z
  have thereG : s2.heap.get? s1.heap.objs.size = some go := keep2 s1.heap.objs.size go (pushG _)
  have I3 : Inv (gcxOf P w K mg base N qual scope f cdv Aw outer s H E [(s1.heap.objs.size, go)]) [] (start N vs) H s2 := Inv.pinnedG I2 fun p hp => by
    have hp' : p = (s1.heap.objs.size, go) := by simpa using hp
    rw [hp']
    exact ⟨thereG, I1.hok.fresh (Nat.le_refl _), Nat.ne_of_gt lt1, I1.nofs (Nat.le_refl _), fun v q => by rw [dataG] at q; cases q⟩
  have stillG : ∀ {σ' : L2.St} {H' : Hp} {s' : Shared}, Inv (gcxOf P w K mg base N qual scope f cdv Aw outer s H E [(s1.heap.objs.size, go)]) [] σ' H' s' → s'.heap.IsGen s1.heap.objs.size s1.gens.size := fun J =>
    isGen _ (J.pin (s1.heap.objs.size, go) (by simp [gcxOf])).1
  refine seg_func ?_
  have away : ∀ (n : Nat) (s₀ : Shared) (e : Value) (s' : Shared), (gcxOf P w K mg base N qual scope f cdv Aw outer s H E [(s1.heap.objs.size, go)]).xe e s' →
      Seg (model P w) Aw (R1 P w outer H s s1.heap.objs.size s1.gens.size E) (Y1 P w outer H s s1.heap.objs.size s1.gens.size Q) n s₀ (.func (st1 :: st2 :: .Expr (.Yield (some ey) yp) ypos :: rest) (envOfC qual scope s.heap.objs.size f cdv))
        ((leaving (envOfC qual scope s.heap.objs.size f cdv) e).wrap (fun _ => .raise e) .raise id id) [] s' := fun n s₀ e s' hx => by
    refine seg_wrap ?_
    rw [over_func]
    refine wpAny_mono (show wpAny (model P w) (Aw.deeper (envOfC qual scope s.heap.objs.size f cdv)) (leaving (envOfC qual scope s.heap.objs.size f cdv) e) (fun _ s'' => CX P w outer H s E e s'' ∧ ∀ p ∈ [(s1.heap.objs.size, go)], s''.heap.get? p.1 = some p.2) (fun _ _ => False) s' from hx) (fun _ s'' q => ?_) fun _ s'' q => q.elim
    exact seg_end (.error e) ⟨e, rfl, q.1, isGen _ (q.2 (s1.heap.objs.size, go) (List.mem_singleton.mpr rfl))⟩
  refine seg_execs_cons (seg_wrap ?_)
  rw [over_func]
  refine wpAny_mono (p1.run [] s2 (start N vs) H _ I3 reading) (fun fl s3 q3 => ?_) fun e s3 hx => away _ _ e s3 hx
  cases fl with
  | brk => exact q3.elim fun _ z => z.elim fun _ z => False.elim z.2
  | cont => exact q3.elim fun _ z => z.elim fun _ z => False.elim z.2
  | ret u => exact q3.elim fun _ z => z.elim fun _ z => z.elim fun _ z => False.elim z.2.2
  | next =>
    obtain ⟨σ3, H3, J3, r3⟩ := q3
    refine seg_execs_cons (seg_wrap ?_)
    rw [over_func]
    refine wpAny_mono (p2.run [] s3 σ3 H3 _ J3 r3) (fun fl s4 q4 => ?_) fun e s4 hx => away _ _ e s4 hx
    cases fl with
    | brk => exact q4.elim fun _ z => z.elim fun _ z => False.elim z.2
    | cont => exact q4.elim fun _ z => z.elim fun _ z => False.elim z.2
    | ret u => exact q4.elim fun _ z => z.elim fun _ z => z.elim fun _ z => False.elim z.2.2
    | next =>
      obtain ⟨σ4, H4, J4, r4⟩ := q4
      refine seg_execs_cons (seg_Expr_Yield rfl rfl rfl ?_ S.co (inter _))
      rw [over_func]
      refine wpAny_mono (pe.run [] s4 σ4 H4 _ J4 r4) (fun v s5 q5 => ?_) fun e s5 hx => away _ _ e s5 hx
      obtain ⟨x, H5, J5, rv, q⟩ := q5
      intro kap hk
      exact ⟨J5.os, J5.bare, stillG J5, x, H5, J5.base, J5.hok, rv, q⟩
end Sq
namespace Sq
open PySem PySem.Spec PyProof.Rows L2 GenW
/-- for x in g(e, ..): break -/
def tFirst (sp : SpF) (E : L2.St → XK) (t : TA) (i : Nat) : TS := fun D σ H => t σ H fun vs H1 => sp vs H1 (fun v H2 => D.nx (σ.set i (some v)) H2) (E σ)
section
variable {X : Cx} {k i : Nat} {f : Addr} {fd : FuncData} {ps : List Str} {sp : SpF} {E : L2.St → XK} {x y : Str} {p op bp cpos pos : Pos} {e : Expr} {es : List Expr} {t : TA}
theorem ps_first (F : GFn1 X.prog X.w X.K X.mg X.base k f fd ps sp) (hr : Room (k + 1) X.A) (hg : Gl X x) (hm : X.mg x = some (.ref f)) (hk : PySem.W.keepIn X.K (.ref f) = true) (hb : Binds X.K fd ps []) (ha : PA X (e :: es) t)
    (hx : ∀ σ, PassesAt (L2.CX X.prog X.w) X σ (E σ)) (ns : ∀ σ, NoStop X.K (E σ)) (own : PassesOwn (model X.prog X.w) X.A X.env X.xe) (hN : X.N.Nodup) (hi : X.N[i]? = some y) (hl : Loc X.env.scope y) (hfn : X.fn y = true ∨ X.env.scope.names.lookup y = some .local)
    (hdb : (x == ("__debug__" : Str)) = false := by decide) (he : starEach (e :: es) X.env = (false, eval e X.env) :: starEach es X.env := by rfl) (hpl : (backTo cpos (starEach es X.env)).any (·.1) = false := by rfl) :
    PS X (.For (.Name y op) (.Call (.Name x p) (e :: es) [] cpos) [.Break bp] [] pos) (tFirst sp E t i) := by
  refine ⟨fun pins s σ H D I h => ?_⟩
  refine wpAny_For (wpAny_Call_Name_kw (ld_glob I hg hm ?_ hdb)) (by intro _; rfl)
  refine PySem.W.callWith_K (h₀ := X.base) I.ok.mod.kin hk (thn (ha.run cpos pins s σ H _ I h) fun us s1 hh => ?_) he hpl
  obtain ⟨vs, H1, I1, r1, q⟩ := hh
  refine ⟨I1.kIn, ?_⟩
  have few : us.length = ps.length := by rw [← r1.length]; exact F.len _ _ _ _ q
  have bind := hb s1 us I1.kIn (by rw [List.append_nil]; exact few)
  rw [List.append_nil] at bind
  refine wpAny_call (codeAny_mono (F.run X.A X.stack s1 H1 ⟨us, []⟩ us vs _ (E σ) (hr.mono (by omega)) I1.env0 bind r1 q) fun r s2 hq => ?_)
  match r, hq with
  | .ok (.ret u), hq =>
    obtain ⟨a, g, c, rfl, ha1, isG, fresh, os2, bare2, lim2, keep2, wake⟩ := hq
    refine wpAny_pyIter_gen isG ?_
    refine codeAny_forLoop_any (fun n s' => s' = s2) (fun n s' hs => ?_) 0 rfl
    subst hs
    have seg := wake X.A.in1 (s'.setGen g .running) ⟨hr.hd, by have := hr.dp; show X.A.depth + 3 * k + 5 < _; omega, by have := hr.un; show X.A.units + 1 + 16 * k + 200 < _; omega⟩ I1.ok.frames (fun b o e => e) os2 (allBare_setGen bare2 rfl)
    have goes : (GenState.fresh c).Goes (model X.prog X.w) X.A.in1 (fun n s₀ r s₁ => ((r = .ok (.ret .none) ∨ r = .ok .next) ∧ False) ∨ ∃ e, r = .error e ∧ (CX X.prog X.w X.stack H1 s1 (E σ) e s₁ ∧ s₁.heap.IsGen a g)) (Y1 X.prog X.w X.stack H1 s1 a g (fun v H2 => D.nx (σ.set i (some v)) H2)) 1 (.send .none) (s'.setGen g .running) :=
      ⟨rfl, seg_imp (R := R1 X.prog X.w X.stack H1 s1 a g (E σ)) (Y := Y1 X.prog X.w X.stack H1 s1 a g (fun v H2 => D.nx (σ.set i (some v)) H2)) (fun n s₀ r s z => Or.inr z) (fun n s₀ v s kap kap' _ z => z) 1 seg⟩
    refine next_genG (A := X.A) (F := fun _ _ _ => False) hr.hd lim2 (by have := hr.dp; omega) isG fresh goes (fun v s₁ gs' bare' hv => ?_) (fun s₁ z => z.elim) fun er s₁ he => ?_
    · obtain ⟨os3, bare3, isG3, z, H3, un3, ok3, rv, qv⟩ := hv
      have I3 : Inv X pins σ H3 (s₁.setGen g gs') := I1.call' (ch := []) os3 un3 ok3 (allBare_setGen bare3 bare') fun b z => by simp at z
      refine wpAny_of_eq (rfl : letOwnedTupleGo (.Name y op) (.ref a) v = pure ()) ?_
      refine wpAny_passesOwn own (thn ((pg_name hN hi hl hfn).run pins _ σ H3 z v (fun σ2 H2 => D.nx σ2 H2) I3 rv qv) fun _ s4 h4 => ?_)
      obtain ⟨σ4, H4, I4, q4⟩ := h4
      exact wpAny_execs_cons (wpAny_Break ⟨σ4, H4, I4, q4⟩)
    · obtain ⟨hc, hg1⟩ := he
      have kin : X.K.In s₁.heap := by
        obtain ⟨b1, B, H2, cls, d, _, fl, _, ub, _⟩ := id hc
        refine I1.ok.mod.kin.keeps fun b o eb => fl.1 b o (ub.keep b o (I1.bs b o eb).1 (I1.bs b o eb).2 fun hm => ?_)
        rcases List.mem_cons.mp (I1.stkSub b hm) with z | z
        · have low := Heap.lt_size eb
          rw [z] at low
          exact absurd (Nat.lt_of_lt_of_le low (Nat.le_trans I1.ok.bsz I1.ok.above)) (Nat.lt_irrefl _)
        · exact I1.ok.nofr eb z
      refine ⟨hg1, notStop_of (ns σ) kin hc, own _ _ (hx σ pins H1 s1 er _ I1 ?_)⟩
      obtain ⟨b1, B, H2, cls, d, z1, fl, z2, ub, z3, z4, z5, z6⟩ := hc
      exact ⟨b1, B, H2, cls, d, z1, fl, z2, ub, z3, z4, allBare_setGen z5 rfl, z6⟩
end
end Sq
set_option Elab.async false
set_option linter.all false
set_option maxRecDepth 100000
set_option maxHeartbeats 2000000
/-! Calls that may raise. -/
namespace Sq
open PySem PySem.Spec PyProof.Rows L2
structure Dx (P : Program) (w : World) (K : PySem.W.Frag) (mg : Str → Option Value) (base : Heap) (k : Nat) (x : Str) (ps : List Str) (sp : Sp) : Prop where
  ex : ∃ f fd, FnOk P w K mg base (L2.CX P w) k f fd ps sp ∧ mg x = some (.ref f) ∧ PySem.W.keepIn K (.ref f) = true ∧ Binds K fd ps []
structure Dxk (P : Program) (w : World) (K : PySem.W.Frag) (mg : Str → Option Value) (base : Heap) (k : Nat) (x : Str) (ps ks : List Str) (g : List Value → List Value → List Value) (gV : List V → List V → List V) (sp : Sp) : Prop where
  ex : ∃ f fd, FnOk P w K mg base (L2.CX P w) k f fd ps sp ∧ mg x = some (.ref f) ∧ PySem.W.keepIn K (.ref f) = true ∧ KBn K fd ps 0 ks g gV
structure Dx1 (P : Program) (w : World) (K : PySem.W.Frag) (mg : Str → Option Value) (base : Heap) (k : Nat) (x : Str) (ps : List Str) (sp : SpF) : Prop where
  ex : ∃ f fd, GFn1 P w K mg base k f fd ps sp ∧ mg x = some (.ref f) ∧ PySem.W.keepIn K (.ref f) = true ∧ Binds K fd ps []
theorem Dx.mk' {P : Program} {w : World} {K : PySem.W.Frag} {mg : Str → Option Value} {base : Heap} {k : Nat} {x : Str} {st : Stmt} {ps : List Str} {sp : Sp} {f : Addr} {fd : FuncData} (F : Fun K x x st f fd) (G : FnOk P w K mg base (L2.CX P w) k f fd ps sp) (g : mg x = some (.ref f)) (b : Binds K fd ps []) : Dx P w K mg base k x ps sp :=
  ⟨⟨f, fd, G, g, F.kp, b⟩⟩
section
variable {P : Program} {w : World} {K : PySem.W.Frag} {mg : Str → Option Value} {base : Heap} {N : List Str} {qual : Str} {scope : Scope} {f : Addr} {cd : Value} {A : Around} {outer : List Env} {s : Shared} {H : Hp} {E : XK}
theorem takesX : Takes (cxOf (L2.CX P w) P w K mg base N qual scope f cd A outer s H E) (fun cls d _ H' => E cls d H') := takes_of rfl rfl rfl rfl
theorem ownsX : PassesOwn (model P w) (cxOf (L2.CX P w) P w K mg base N qual scope f cd A outer s H E).A (cxOf (L2.CX P w) P w K mg base N qual scope f cd A outer s H E).env (cxOf (L2.CX P w) P w K mg base N qual scope f cd A outer s H E).xe := passes_of rfl
end
section
variable {X : Cx} {k : Nat} {ps ks : List Str} {sp : Sp} {x : Str} {p pos : Pos} {e : Expr} {es : List Expr} {t tk : TA} {W : WX} {kws : List Keyword} {g : List Value → List Value → List Value} {gV : List V → List V → List V}
theorem pe_callX (D : Dx X.prog X.w X.K X.mg X.base k x ps sp) (takes : Takes X W) (hr : Room k X.A) (hg : Gl X x) (ha : PA X (e :: es) t) (hdb : (x == ("__debug__" : Str)) = false := by decide)
    (he : starEach (e :: es) X.env = (false, eval e X.env) :: starEach es X.env := by rfl) (hpl : (backTo pos (starEach es X.env)).any (·.1) = false := by rfl) :
    PE X (.Call (.Name x p) (e :: es) [] pos) (tCallS sp (WE W) t) := by
  obtain ⟨f, fd, F, g, kp, b⟩ := D.ex
  exact pe_callS F hr hg g kp b (passAt takes) ha hdb he hpl
/-- f(k = v, ..), which may raise -/
def tCallKX (n : Nat) (sp : Sp) (gV : List V → List V → List V) (E : L2.St → XK) (tk : TA) : TE := fun σ H Q => tk σ H fun zs H1 => zs.length = n ∧ sp (gV [] zs) H1 Q (E σ)
theorem pe_callXK (D : Dxk X.prog X.w X.K X.mg X.base k x ps ks g gV sp) (takes : Takes X W) (hr : Room k X.A) (hg : Gl X x) (hkw : PK X kws tk)
    (hall : (backToKw pos (keywordEach kws X.env)).all (·.1.isSome) = true := by rfl) (hks : (backToKw pos (keywordEach kws X.env)).filterMap (·.1) = ks := by rfl) (hdb : (x == ("__debug__" : Str)) = false := by decide)
    (hpl : ((backTo pos (starEach [] X.env)).any (·.1) || (backToKw pos (keywordEach kws X.env)).any (·.1.isNone)) = false := by rfl) :
    PE X (.Call (.Name x p) [] kws pos) (tCallKX ks.length sp gV (WE W) tk) := by
  obtain ⟨f, fd, F, hm, kp, hb⟩ := D.ex
  refine ⟨fun pins s σ H Q I h => ?_⟩
  refine wpAny_Call_Name_kw (ld_glob I hg hm ?_ hdb)
  refine PySem.W.callWith_KW0 (h₀ := X.base) I.ok.mod.kin kp hall ?_ hpl
  refine thn (hkw.run pos pins s σ H _ I h) ?_
  rintro ws s2 ⟨zs, H2, I2, rz, l2, q2⟩
  refine ⟨I2.kIn, ?_⟩
  rw [hks]
  have to := hb.to s2 [] ws I2.kIn rfl (rz.length.symm.trans l2)
  refine wpAny_call (codeAny_mono (F.run X.A X.stack s2 H2 ⟨[], ks.zip ws⟩ (g [] ws) (gV [] zs) Q (WE W σ) hr I2.env0 to (hb.rel .nil rz) q2) fun r s' hq => ?_)
  match r, hq with
  | .error u, hq => exact passAt takes σ pins H2 s2 u s' I2 hq
  | .ok (.ret u), hq => exact I2.after hq
end
/-- the same for a walk that is left at its first item -/
def EF (K : PySem.W.Frag) (W : WX) : L2.St → XK := fun σ cls d H => W cls d σ H ∧ PySem.W.subIn K cls (.type "StopIteration") = some false
section
variable {X : Cx} {k i : Nat} {ps : List Str} {sp : SpF} {x y : Str} {p op bp cpos pos : Pos} {e : Expr} {es : List Expr} {t : TA} {W : WX}
theorem ps_firstD {K0 : PySem.W.Frag} (sameK : X.K = K0) (D : Dx1 X.prog X.w X.K X.mg X.base k x ps sp) (takes : Takes X W) (hr : Room (k + 1) X.A) (hg : Gl X x) (ha : PA X (e :: es) t) (own : PassesOwn (model X.prog X.w) X.A X.env X.xe) (hN : X.N.Nodup) (hi : X.N[i]? = some y) (hl : Loc X.env.scope y)
    (hfn : X.fn y = true ∨ X.env.scope.names.lookup y = some .local) (hdb : (x == ("__debug__" : Str)) = false := by decide)
    (he : starEach (e :: es) X.env = (false, eval e X.env) :: starEach es X.env := by rfl) (hpl : (backTo cpos (starEach es X.env)).any (·.1) = false := by rfl) :
    PS X (.For (.Name y op) (.Call (.Name x p) (e :: es) [] cpos) [.Break bp] [] pos) (tFirst sp (EF K0 W) t i) := by
  obtain ⟨f, fd, F, g, kp, b⟩ := D.ex
  subst sameK
  exact ps_first (E := EF X.K W) F hr hg g kp b ha (fun σ pins H s e s' I c => passAt (W := fun cls d σ H => W cls d σ H ∧ PySem.W.subIn X.K cls (.type "StopIteration") = some false) (takes.imp fun _ _ _ _ z => z.1) σ pins H s e s' I c) (fun σ cls d H (z : EF X.K W σ cls d H) => z.2) own hN hi hl hfn hdb he hpl
end
/-- list.count(True) of bools -/
def rCountB (K : PySem.W.Frag) : V → List V → Hp → VK → Prop := fun x xs H Q => ∃ (p : Addr) (bs : List Bool) (k : Bool), x = .ref p ∧ xs = [.bl k] ∧ SqL K H p (bs.map V.bl) ∧ Q (.int (bs.count k : Nat)) H
theorem reads_bools : ∀ {bs : List Bool} {its : List Value} {hp : Heap}, Vals (bs.map V.bl) its → ∃ as, ReadsAll hp its (bs.map PyData.bool) as
  | [], _, _, r => by
    cases r
    exact ⟨_, ReadsAll.nil⟩
  | b :: bs, _, hp, r => by
    cases r with
    | cons r1 r2 =>
      rename_i u us
      obtain rfl : u = Value.bool b := r1
      obtain ⟨as, h⟩ := reads_bools (hp := hp) r2
      exact ⟨_, ReadsAll.cons (Reads.bool b) h⟩
theorem count_bools (k : Bool) : ∀ bs : List Bool, Spec.countIn (.bool k) (bs.map PyData.bool) = bs.count k
  | [] => rfl
  | b :: bs => by
    show (if Spec.same (.bool b) (.bool k) then 1 else 0) + Spec.countIn (.bool k) (bs.map PyData.bool) = ((b :: bs).count k : Nat)
    rw [count_bools k bs, List.count_cons]
    cases b <;> cases k <;> simp [Spec.same] <;> omega
theorem all_bools : ∀ bs : List Bool, (bs.map PyData.bool).all Shape.bool.has = true
  | [] => rfl
  | _ :: bs => all_bools bs
theorem mt_countB {X : Cx} : MtR X "list.count" (rCountB X.K) := by
  intro pins s σ H x xs v us Q I rx rxs h
  obtain ⟨p, bs, k, rfl, rfl, hs, q⟩ := h
  obtain rfl : v = Value.ref p := rx
  obtain ⟨u, rfl, ru⟩ := rxs.one
  obtain rfl : u = Value.bool k := ru
  obtain ⟨its, rv, hl, _⟩ := I.list hs
  obtain ⟨as, ra⟩ := reads_bools (hp := s.heap) rv
  refine count_list_bools hl.isList ra ?_ ⟨.int (bs.count k : Nat), H, I.tok _, ⟨s.toks, ?_⟩, q⟩
  · exact all_bools bs
  · rw [count_bools]
/-- what is wanted of an error of the class at C that holds v -/
def Wish (E : XK) (C : Addr) (v : V) (H : Hp) : Prop := ∀ d, H d = none → E (.ref C) (some d) (upd H d (exd d [(("value" : Str), v)]))
end Sq
set_option Elab.async false
set_option linter.all false
set_option maxRecDepth 100000
set_option maxHeartbeats 4000000
/-! A def called within an except suite: walks over lists, pairs unpacked, comprehensions, the handled error asked. -/
namespace Sq
open PySem PySem.Spec PyProof.Rows L2 HotX L2H
/-! ### hot contexts -/
/-- wherever the context's invariant holds an error is handled whose context is None -/
def HotW (X : Cx) : Prop := ∀ (pins : List (Addr × Obj)) (σ : L2.St) (H : Hp) (s : Shared), Inv X pins σ H s → ∃ x1, HotAt X.A x1 s.heap
theorem HotC.w {X : Cx} (c : HotC X) : HotW X := fun _ _ _ _ I => c.at I
end Sq
set_option Elab.async false
set_option linter.all false
set_option maxRecDepth 100000
set_option maxHeartbeats 4000000
/-! A def of the law called within an except suite with the caught error. -/
namespace Sq
open PySem PySem.Spec PyProof.Rows L2 HotX L2H
/-- what a def promises there: e the handled error, its class, its dict -/
abbrev SpZ := Addr → Value → Option Addr → Sp
structure FnHZ (P : Program) (w : World) (K : PySem.W.Frag) (mg : Str → Option Value) (base : Heap) (CX : CXT) (k : Nat) (f : Addr) (fd : FuncData) (ps : List Str) (sp : SpZ) : Prop where
  len : ∀ a c d vs H Q E, sp a c d vs H Q E → vs.length = ps.length
  run : ∀ (A : Around) (outer : List Env) (s : Shared) (H : Hp) (args : Args) (us : List Value) (vs : List V) (Q : VK) (E : XK) (p : Addr × Obj) (cls : Value) (d : Option Addr), RoomH k A → Hot1 A p → L2N.Zn cls d p.2 → PinOk outer H s p → Env0 P w K mg base A outer s H → BindsTo s fd args (ps.zip us) → Vals vs us → sp p.1 cls d vs H Q E →
    codeAny (model P w) A (.call (.ref f) args) (CR CX outer P w H s Q E) s
/-- it stands at its name -/
structure Dz (P : Program) (w : World) (K : PySem.W.Frag) (mg : Str → Option Value) (base : Heap) (k : Nat) (x : Str) (ps : List Str) (sp : SpZ) : Prop where
  ex : ∃ f fd, FnHZ P w K mg base CX0 k f fd ps sp ∧ mg x = some (.ref f) ∧ PySem.W.keepIn K (.ref f) = true ∧ Binds K fd ps []
/-! ### what is asked of the handled error -/
end Sq
set_option Elab.async false
set_option linter.all false
set_option maxRecDepth 100000
set_option maxHeartbeats 4000000
/-! Calls that may raise, where the error's context is known to be None. -/
namespace Sq
open PySem PySem.Spec PyProof.Rows L2
theorem okN {P : Program} {w : World} {K : PySem.W.Frag} {mg : Str → Option Value} {base : Heap} {x qual : Str} {st : Stmt} {f : Addr} {fd : FuncData} {N ps : List Str} {k : Nat} {sp : Sp} (F : Fun K x qual st f fd) (S : FnScope N ps (defScope st)) (len : ∀ vs H Q E, sp vs H Q E → vs.length = ps.length)
    (walk : ∀ (cdv : Value) (A : Around) (outer : List Env) (s : Shared) (H : Hp) (vs : List V) (Q : VK) (E : XK), Room k (A.deeper (envOfC qual (defScope st) s.heap.objs.size f cdv)) → sp vs H Q E →
      ∃ t, PSs (cxOf (L2N.CX P w) P w K mg base N qual (defScope st) f cdv A outer s H E) (defBody st) t ∧ t { nx := fun _ H' => Q .non H', rt := Q } (L2.start N vs) H) : FnOk P w K mg base (L2N.CX P w) (k + 1) f fd ps sp := by
  obtain ⟨oc, od, kV, doc, pm, an, cdv, ct, osl, rfl, lk, hcd⟩ := F.ex
  exact fn_of lk hcd S len fun A outer s H vs Q E hr h => walk cdv A outer s H vs Q E hr h
structure Dn (P : Program) (w : World) (K : PySem.W.Frag) (mg : Str → Option Value) (base : Heap) (k : Nat) (x : Str) (ps : List Str) (sp : Sp) : Prop where
  ex : ∃ f fd, FnOk P w K mg base (L2N.CX P w) k f fd ps sp ∧ mg x = some (.ref f) ∧ PySem.W.keepIn K (.ref f) = true ∧ Binds K fd ps []
theorem Dn.mk' {P : Program} {w : World} {K : PySem.W.Frag} {mg : Str → Option Value} {base : Heap} {k : Nat} {x : Str} {st : Stmt} {ps : List Str} {sp : Sp} {f : Addr} {fd : FuncData} (F : Fun K x x st f fd) (G : FnOk P w K mg base (L2N.CX P w) k f fd ps sp) (g : mg x = some (.ref f)) (b : Binds K fd ps []) : Dn P w K mg base k x ps sp :=
  ⟨⟨f, fd, G, g, F.kp, b⟩⟩
theorem Dz.mk' {P : Program} {w : World} {K : PySem.W.Frag} {mg : Str → Option Value} {base : Heap} {k : Nat} {x : Str} {st : Stmt} {ps : List Str} {sp : SpZ} {f : Addr} {fd : FuncData} (F : Fun K x x st f fd) (G : FnHZ P w K mg base CX0 k f fd ps sp) (g : mg x = some (.ref f)) (b : Binds K fd ps []) : Dz P w K mg base k x ps sp :=
  ⟨⟨f, fd, G, g, F.kp, b⟩⟩
end Sq
set_option Elab.async false
set_option linter.all false
set_option maxRecDepth 100000
set_option maxHeartbeats 2000000
/-! Data read off the layer's heap. -/
namespace Sq
open PySem PySem.Spec PyProof.Rows L2
theorem same_new {H : Hp} {p : Addr} {o : HO} (h : H p = none) : Same H (upd H p o) := fun b x e => by
  rw [upd_ne (ne_of_none e h)]
  exact e
theorem map_at {ks : List Int} {i : Nat} {x : V} (h : (ks.map V.int)[i]? = some x) : ∃ k, ks[i]? = some k ∧ V.int k = x := by
  rw [List.getElem?_map] at h
  exact Option.map_eq_some_iff.mp h
section
variable {K : PySem.W.Frag}
theorem dp_ints {H : Hp} : ∀ (ds : List Int), DpAll K H (ds.map V.int) (ds.map PyData.int)
  | [] => .nil
  | d :: ds => .cons (.int d) (dp_ints ds)
theorem lays_ints : ∀ (ds : List Int), PyData.canLayAll0 (ds.map PyData.int) = true
  | [] => rfl
  | d :: ds => by
    show (PyData.canLay0 (.int d) && PyData.canLayAll0 (ds.map PyData.int)) = true
    rw [lays_ints ds]
    rfl
theorem deep_ints : ∀ (ds : List Int), PyData.depthAll (ds.map PyData.int) ≤ 1
  | [] => Nat.zero_le _
  | _ :: ds => Nat.max_le.mpr ⟨Nat.zero_le _, deep_ints ds⟩
theorem shaped_ints (ds : List Int) : SeqAt.shaped (.list (ds.map PyData.int)) = true :=
  Bool.and_eq_true_iff.mpr ⟨lays_ints ds, decide_eq_true (Nat.le_trans (Nat.add_le_add_right (deep_ints ds) 1) (by decide))⟩
end
/-! ### data of ints and short lists -/
mutual
def il : PyData → Bool
  | .int _ => true
  | .list xs => decide (xs.length ≤ 1000) && ilAll xs
  | _ => false
def ilAll : List PyData → Bool
  | [] => true
  | x :: xs => il x && ilAll xs
end
mutual
theorem Dp.same {K : PySem.W.Frag} {H H' : Hp} (s : Same H H') : ∀ {d : PyData} {x : V}, Dp K H x d → Dp K H' x d
  | .none, _, .non => .non
  | .bool b, _, .bl _ => .bl b
  | .int i, _, .int _ => .int i
  | .str x, _, .str _ => .str x
  | .list ds, _, .lst h a => .lst (s.seq h) (DpAll.same s a)
  | .tuple ds, _, .tup h a => .tup (by
      rcases h with (h | ⟨o, h⟩) | h
      · exact .inl (.inl (s _ _ h))
      · exact .inl (.inr ⟨o, s _ _ h⟩)
      · exact .inr h) (DpAll.same s a)
theorem DpAll.same {K : PySem.W.Frag} {H H' : Hp} (s : Same H H') : ∀ {ds : List PyData} {xs : List V}, DpAll K H xs ds → DpAll K H' xs ds
  | [], _, .nil => .nil
  | _ :: _, _, .cons h t => .cons (Dp.same s h) (DpAll.same s t)
end
/-! ### the text of a list of ints -/
end Sq
namespace Sq
open PySem PySem.Spec PyProof.Rows L2
/-! ### repr of any value whose data is known -/
structure Shown (K : PySem.W.Frag) (H : Hp) (x : V) (d : PyData) : Prop where
  dp : Dp K H x d
  sh : d.showable = true
  nd : d.hasDict = false
  dep : d.depth ≤ 40
  fit : d.shown.length ≤ sizeLine
theorem Shown.same {K : PySem.W.Frag} {H H' : Hp} {x : V} {d : PyData} (S : Shown K H x d) (s : Same H H') : Shown K H' x d := ⟨Dp.same s S.dp, S.sh, S.nd, S.dep, S.fit⟩
def rReprV (K : PySem.W.Frag) : List V → Hp → VK → Prop := fun xs H Q => ∃ x d, xs = [x] ∧ Shown K H x d ∧ Q (.str d.shown) H
theorem call_reprV {X : Cx} (hg : X.A.guards = some []) (hu : X.A.units + 64 < cLine) : CallR X (.builtin "repr") (rReprV X.K) := by
  intro pins s σ H xs us Q I r h
  obtain ⟨x, d, rfl, S, q⟩ := h
  obtain ⟨u, rfl, rv⟩ := vals1 r
  obtain ⟨dp, sh, nd, dep, fit⟩ := S
  cases dp with
  | non =>
    obtain rfl : u = Value.none := rv
    exact PySem.P.repr_of_none ⟨.str _, H, I.tok _, ⟨_, rfl⟩, q⟩
  | bl b =>
    obtain rfl : u = Value.bool b := rv
    exact PySem.P.repr_of_bool ⟨.str _, H, I.tok _, ⟨_, rfl⟩, q⟩
  | int i =>
    obtain ⟨t, rfl⟩ := rv
    exact PySem.P.repr_of_int (of_decide_eq_true sh) ⟨.str _, H, I.tok _, ⟨_, rfl⟩, q⟩
  | str y =>
    obtain ⟨t, rfl⟩ := rv
    exact PySem.P.repr_of_str ⟨.str _, H, I.tok _, ⟨_, rfl⟩, q⟩ fit
  | lst hs ha => exact call_reprD hg hu pins s σ H _ _ Q I r ⟨_, _, rfl, .lst hs ha, sh, nd, dep, fit, q⟩
  | tup hs ha => exact call_reprD hg hu pins s σ H _ _ Q I r ⟨_, _, rfl, .tup hs ha, sh, nd, dep, fit, q⟩
theorem fits40 {d : PyData} (h : d.leavesShort 40 = true) (hw : d.weight ≤ 100000) : d.shown.length ≤ sizeLine := by
  have e := PyData.shown_le 40 (by decide) d h
  rw [sizeLine_eq]
  omega
/-! ### powers of greater numbers -/
def CPowW (i j : Int) : Prop := 0 ≤ j ∧ (Builtin.Int.intBits i : Int) * j ≤ 2 ^ 27
theorem op_powW {X : Cx} : OpR X (binaryOp .Pow) (rI CPowW fun i j => .int (i ^ j.toNat)) := opI fun _ _ _ _ _ _ _ hc q => pow_int hc.1 hc.2 q
theorem powW_of {i j : Int} {m : Nat} (h0 : 0 ≤ j) (hi : i.natAbs < 2 ^ m) (hm : 0 < m) (hj : (m : Int) * j ≤ 2 ^ 27) : CPowW i j := by
  refine ⟨h0, Int.le_trans (Int.mul_le_mul_of_nonneg_right ?_ h0) hj⟩
  unfold Builtin.Int.intBits
  split
  · omega
  · have := PySem.Flt.log2_lt_of hm hi
    omega
end Sq
namespace Sq
open PySem PySem.Spec PyProof.Rows L2
def rMulS : R2 := fun x y H Q => ∃ a n, x = .str a ∧ y = .int n ∧ _root_.PySem.MulOk a n ∧ Q (.str (_root_.PySem.Txt.mul a n)) H
theorem op_mulS {X : Cx} : OpR X (binaryOp .Mult) rMulS := by
  intro pins s σ H x y v u Q I rx ry h
  obtain ⟨a, n, rfl, rfl, hok, q⟩ := h
  obtain ⟨t, rfl⟩ := rx
  obtain ⟨t', rfl⟩ := ry
  exact SB.mul hok fun t2 k => ⟨.str _, H, I.tok k, ⟨_, rfl⟩, q⟩
end Sq
set_option Elab.async false
set_option linter.all false
/-! Squeezing and reaches in plain Lean. -/
namespace Sq
def once (n k : Int) : Int := n / k + n % k
def sq (n : Int) (ks : List Int) : Int := ks.foldl once n
def rw1 (k R : Int) : Int := if k > R + 1 then R else (R + 3 - k) * k - 2
theorem once_nonneg {k n : Int} (hk : 2 ≤ k) (h0 : 0 ≤ n) : 0 ≤ once n k := by
  unfold once
  have h1 := Int.ediv_nonneg h0 (by omega : 0 ≤ k)
  have h2 := Int.emod_nonneg n (by omega : k ≠ 0)
  omega
theorem sq_concat (n : Int) (ks : List Int) (k : Int) : sq n (ks ++ [k]) = once (sq n ks) k := by
  unfold sq
  rw [List.foldl_append]
  rfl
end Sq
set_option Elab.async false
set_option linter.all false
set_option maxRecDepth 100000
set_option maxHeartbeats 2000000
/-! What the laws share: the built-in names, the error classes, low numbers, data that can be shown, keeping heaps. -/
namespace Sq
open PySem PySem.Spec PyProof.Rows L2
structure Bi (mg : Str → Option Value) : Prop where
  n_len : mg "len" = none
  n_min : mg "min" = none
  n_max : mg "max" = none
  n_abs : mg "abs" = none
  n_range : mg "range" = none
  n_isinstance : mg "isinstance" = none
  n_repr : mg "repr" = none
  n_enumerate : mg "enumerate" = none
  n_reversed : mg "reversed" = none
  n_sorted : mg "sorted" = none
  n_bool : mg "bool" = none
  n_int : mg "int" = none
  n_str : mg "str" = none
  n_list : mg "list" = none
  n_tuple : mg "tuple" = none
  n_set : mg "set" = none
  n_sum : mg "sum" = none
  n_zip : mg "zip" = none
  n_all : mg "all" = none
  n_any : mg "any" = none
  n_ValueError : mg "ValueError" = none
  n_divmod : mg "divmod" = none
structure Errs (P : Program) (K : PySem.W.Frag) (mg : Str → Option Value) (c fI : Nat → Addr) (qn : Nat → Str) (cB : Addr) : Prop where
  er : ∀ n, n < 5 → True ∧ SqX.Er K P (c n) (fI n) (qn n)
  g0 : mg "InvalidList" = some (.ref (c 0))
  g1 : mg "InvalidNumber" = some (.ref (c 1))
  g2 : mg "InvalidCharacter" = some (.ref (c 2))
  g3 : mg "NothingToUndo" = some (.ref (c 3))
  g4 : mg "Unreadable" = some (.ref (c 4))
  g5 : mg "SqueezeError" = some (.ref cB)
  is : ∀ n m, n < 5 → m < 5 → PySem.W.kitOne K (.ref (c n)) (.ref (c m)) = some (decide (n = m))
  isB : ∀ n, n < 5 → PySem.W.kitOne K (.ref (c n)) (.ref cB) = some true
  isV : ∀ n, n < 5 → PySem.W.kitOne K (.ref (c n)) (.type "ValueError") = some true
  ex : ∀ n, n < 5 → ExcC K (c n)
  xf : ∀ n, n < 5 → XfC K (c n)
/-- what else is known of the error classes -/
structure Errs2 (K : PySem.W.Frag) (c : Nat → Addr) (cB : Addr) : Prop where
  ma : ∀ n, n < 5 → PySem.W.exmOne K (.ref (c n)) (.ref cB) = some true
  st : ∀ n, n < 5 → PySem.W.subIn K (.ref (c n)) (.type "StopIteration") = some false
  nv : ∀ n, n < 5 → PySem.W.findIn K (.ref (c n)) "value" = some none
/-- the first number less than 2 -/
def lowAt : List Int → Option Nat
  | [] => none
  | k :: ks => if k < 2 then some 0 else (lowAt ks).map (· + 1)
theorem lowAt_none : ∀ {ks : List Int}, lowAt ks = none → ∀ k ∈ ks, 2 ≤ k
  | k :: ks, h, x, hx => by
    unfold lowAt at h
    by_cases c : k < 2
    · rw [if_pos c] at h
      cases h
    · rw [if_neg c] at h
      rcases List.mem_cons.mp hx with e | e
      · omega
      · cases q : lowAt ks with
        | none => exact lowAt_none q x e
        | some j => rw [q] at h; cases h
theorem lowAt_take : ∀ (ks : List Int) (i : Nat), (∀ k ∈ ks.take i, 2 ≤ k) → (∀ k, ks[i]? = some k → k < 2 → lowAt ks = some i) ∧ (ks.length ≤ i → lowAt ks = none)
  | [], i, _ => ⟨fun k e => by simp at e, fun _ => rfl⟩
  | k :: ks, 0, _ => ⟨fun x e c => by
      cases e
      show (if k < 2 then some 0 else (lowAt ks).map (· + 1)) = some 0
      rw [if_pos c], fun z => by simp at z⟩
  | k :: ks, i + 1, h => by
    have hk := h k (by simp)
    obtain ⟨a, b⟩ := lowAt_take ks i fun x hx => h x (by simp [hx])
    refine ⟨fun x e c => ?_, fun z => ?_⟩
    · show (if k < 2 then some 0 else (lowAt ks).map (· + 1)) = some (i + 1)
      rw [if_neg (by omega), a x e c]
      rfl
    · show (if k < 2 then some 0 else (lowAt ks).map (· + 1)) = none
      rw [if_neg (by omega), b (by simpa using z)]
      rfl
/-! ### data that can be shown -/
structure Gd (n : Nat) (d : PyData) : Prop where
  sh : d.showable = true
  nd : d.hasDict = false
  dep : d.depth ≤ 4
  lf : d.leavesShort 40 = true
  wt : d.weight ≤ n
structure GdA (n : Nat) (ds : List PyData) : Prop where
  sh : PyData.showableAll ds = true
  nd : PyData.hasDictAll ds = false
  dep : PyData.depthAll ds ≤ 3
  lf : PyData.leavesShortAll 40 ds = true
  wt : PyData.weightAll ds ≤ n
theorem gd_int {i : Int} (h : i.natAbs < 10 ^ 31) : Gd 121 (.int i) := by
  have lg : i.natAbs.log2 < 120 := PySem.Flt.log2_lt_of (by decide) (Nat.lt_of_lt_of_le h (by decide))
  refine ⟨decide_eq_true (Nat.lt_trans lg (by decide)), rfl, Nat.zero_le _, ?_, ?_⟩
  · have e := int_text_length_le10 (k := 31) (by decide) h
    refine decide_eq_true ?_
    show (Str.ofString (toString i)).length ≤ 40
    rw [PySem.ofString_length]
    omega
  · show (if i == 0 then 0 else i.natAbs.log2 + 1) ≤ 121
    split <;> omega
theorem GdA.nil : GdA 0 [] := ⟨rfl, rfl, Nat.zero_le _, rfl, Nat.le_refl _⟩
theorem GdA.cons {n m : Nat} {d : PyData} {ds : List PyData} (h : Gd n d) (dp : d.depth ≤ 3) (t : GdA m ds) : GdA (n + 1 + m) (d :: ds) := by
  refine ⟨?_, ?_, Nat.max_le.mpr ⟨dp, t.dep⟩, ?_, ?_⟩
  · show (d.showable && PyData.showableAll ds) = true
    rw [h.sh, t.sh]; rfl
  · show (d.hasDict || PyData.hasDictAll ds) = false
    rw [h.nd, t.nd]; rfl
  · show (d.leavesShort 40 && PyData.leavesShortAll 40 ds) = true
    rw [h.lf, t.lf]; rfl
  · have a := h.wt
    have b := t.wt
    show d.weight + 1 + PyData.weightAll ds ≤ n + 1 + m
    omega
theorem GdA.list {n : Nat} {ds : List PyData} (t : GdA n ds) : Gd n (.list ds) := ⟨t.sh, t.nd, Nat.add_le_add_right t.dep 1, t.lf, t.wt⟩
theorem Gd.le {n m : Nat} {d : PyData} (h : Gd n d) (l : n ≤ m) : Gd m d := ⟨h.sh, h.nd, h.dep, h.lf, Nat.le_trans h.wt l⟩
theorem gda_ints : ∀ (ks : List Int), (∀ k ∈ ks, k.natAbs < 10 ^ 31) → GdA (122 * ks.length) (ks.map PyData.int) ∧ PyData.depthAll (ks.map PyData.int) ≤ 0
  | [], _ => ⟨GdA.nil, Nat.le_refl _⟩
  | k :: ks, h => by
    obtain ⟨a, b⟩ := gda_ints ks fun x hx => h x (List.mem_cons_of_mem _ hx)
    refine ⟨?_, Nat.max_le.mpr ⟨Nat.zero_le _, b⟩⟩
    have c := GdA.cons (gd_int (h k (List.mem_cons_self ..))) (Nat.zero_le _) a
    rw [List.length_cons, Nat.mul_add, Nat.mul_one, Nat.add_comm (122 * ks.length)]
    exact c
theorem Gd.shown {n : Nat} {K : PySem.W.Frag} {H : Hp} {x : V} {d : PyData} (h : Gd n d) (l : n ≤ 100000) (dp : Dp K H x d) : Shown K H x d :=
  ⟨dp, h.sh, h.nd, Nat.le_trans h.dep (by decide), fits40 h.lf (Nat.le_trans h.wt l)⟩
/-! ### the low numbers -/
theorem lowAt_some : ∀ {ks : List Int} {j : Nat}, lowAt ks = some j → j < ks.length ∧ ks.getD j 2 < 2 ∧ ∀ m, m < j → 2 ≤ ks.getD m 2
  | k :: ks, j, h => by
    have h' : (if k < 2 then some 0 else (lowAt ks).map (· + 1)) = some j := h
    by_cases c : k < 2
    · rw [if_pos c] at h'
      cases h'
      exact ⟨Nat.succ_pos _, c, fun m hm => absurd hm (Nat.not_lt_zero _)⟩
    · rw [if_neg c] at h'
      cases q : lowAt ks with
      | none => rw [q] at h'; cases h'
      | some i =>
        rw [q] at h'
        cases h'
        obtain ⟨a, b, d⟩ := lowAt_some q
        refine ⟨Nat.succ_lt_succ a, b, fun m hm => ?_⟩
        cases m with
        | zero => show 2 ≤ k; omega
        | succ m => exact d m (Nat.lt_of_succ_lt_succ hm)
def lowIx (ks : List Int) (i : Nat) : List Int := ((List.range i).filter fun j => decide (ks.getD j 2 < 2)).map fun j : Nat => (j : Int)
theorem lowIx_succ (ks : List Int) (i : Nat) : lowIx ks (i + 1) = if ks.getD i 2 < 2 then lowIx ks i ++ [(i : Int)] else lowIx ks i := by
  unfold lowIx
  rw [List.range_succ, List.filter_append, List.map_append]
  by_cases h : ks.getD i 2 < 2
  · have e : [i].filter (fun j => decide (ks.getD j 2 < 2)) = [i] := by
      rw [List.filter_cons, decide_eq_true h]
      rfl
    rw [if_pos h, e]
    rfl
  · have e : [i].filter (fun j => decide (ks.getD j 2 < 2)) = [] := by
      rw [List.filter_cons, decide_eq_false h]
      rfl
    rw [if_neg h, e]
    exact List.append_nil _
theorem lowIx_len (ks : List Int) (i : Nat) : (lowIx ks i).length ≤ i := by
  unfold lowIx
  rw [List.length_map]
  have := List.length_filter_le (fun j => decide (ks.getD j 2 < 2)) (List.range i)
  rwa [List.length_range] at this
theorem lowIx_none {ks : List Int} : ∀ {i : Nat}, (∀ m, m < i → 2 ≤ ks.getD m 2) → lowIx ks i = []
  | 0, _ => rfl
  | i + 1, h => by
    rw [lowIx_succ, if_neg (by have := h i (by omega); omega)]
    exact lowIx_none fun m hm => h m (by omega)
theorem lowIx_head {ks : List Int} {j : Nat} (a : ks.getD j 2 < 2) (b : ∀ m, m < j → 2 ≤ ks.getD m 2) : ∀ {i : Nat}, j < i → ∃ r, lowIx ks i = (j : Int) :: r
  | i + 1, h => by
    rw [lowIx_succ]
    by_cases e : j = i
    · subst e
      rw [if_pos a, lowIx_none b]
      exact ⟨[], rfl⟩
    · obtain ⟨r, hr⟩ := lowIx_head a b (i := i) (by omega)
      rw [hr]
      split
      · exact ⟨_, rfl⟩
      · exact ⟨_, rfl⟩
theorem low_none {ks : List Int} (h : lowAt ks = none) : lowIx ks ks.length = [] := lowIx_none fun m hm => by
  have : ∀ {ks : List Int} {m : Nat}, lowAt ks = none → 2 ≤ ks.getD m 2 := fun {ks} => by
    induction ks with
    | nil => intro m _; cases m <;> exact Int.le_refl _
    | cons k ks ih =>
      intro m h
      have h' : (if k < 2 then some 0 else (lowAt ks).map (· + 1)) = none := h
      by_cases c : k < 2
      · rw [if_pos c] at h'; cases h'
      · rw [if_neg c] at h'
        have h2 : lowAt ks = none := by
          cases q : lowAt ks with
          | none => rfl
          | some i => rw [q] at h'; cases h'
        cases m with
        | zero => show 2 ≤ k; omega
        | succ m => exact ih h2
  exact this h
theorem low_some {ks : List Int} {j : Nat} (h : lowAt ks = some j) : ∃ r, lowIx ks ks.length = (j : Int) :: r := by
  obtain ⟨a, b, c⟩ := lowAt_some h
  exact lowIx_head b c a
/-- the heap without one cell -/
def wo (H : Hp) (D : Addr) : Hp := fun b => if b = D then none else H b
theorem wo_upd {H : Hp} {D : Addr} {o : HO} : wo (upd H D o) D = wo H D := by
  funext b
  unfold wo
  by_cases h : b = D
  · rw [if_pos h, if_pos h]
  · rw [if_neg h, if_neg h, upd_ne h]
theorem wo_ne {H : Hp} {D b : Addr} (h : b ≠ D) : wo H D b = H b := by
  unfold wo
  rw [if_neg h]
theorem wo_same {H : Hp} {D : Addr} : Same (wo H D) H := fun b o e => by
  unfold wo at e
  by_cases h : b = D
  · rw [if_pos h] at e; cases e
  · rw [if_neg h] at e; exact e
theorem same_wo {G H : Hp} {D : Addr} (s : Same G H) (h : G D = none) : Same G (wo H D) := fun b o e => by
  rw [wo_ne (fun z => by subst z; rw [h] at e; cases e)]
  exact s b o e
theorem wo_self {H : Hp} {D : Addr} : wo H D D = none := by
  unfold wo
  rw [if_pos rfl]
theorem dp_snoc {K : PySem.W.Frag} {H : Hp} {v : V} {d : PyData} (h : Dp K H v d) : ∀ {xs : List V} {ds : List PyData}, DpAll K H xs ds → DpAll K H (xs ++ [v]) (ds ++ [d])
  | _, _, .nil => .cons h .nil
  | _, _, .cons a t => .cons a (dp_snoc h t)
end Sq
set_option Elab.async false
set_option linter.all false
set_option maxHeartbeats 1000000
/-! Small numbers as texts. -/
set_option Elab.async false
set_option linter.all false
set_option maxRecDepth 100000
set_option maxHeartbeats 1000000
/-! Texts of lists, read: in plain Lean, over the lists of signs. -/
set_option Elab.async false
set_option linter.all false
set_option maxRecDepth 100000
set_option maxHeartbeats 1000000
/-! What is written is read. -/
namespace Sq
open PySem PySem.Spec PyProof.Rows L2 TL
open NumText (digitsVal AllDigits)
def outL (ps : List (Nat × Nat)) : List Int := (ps.map fun p => List.replicate p.2 (p.1 : Int)).flatten
/-- neighbours differ -/
def Alt : Option Int → List (Nat × Nat) → Prop
  | _, [] => True
  | o, p :: r => o ≠ some (p.1 : Int) ∧ Alt (some (p.1 : Int)) r
end Sq
set_option Elab.async false
set_option linter.all false
set_option maxRecDepth 100000
set_option maxHeartbeats 1000000
/-! Texts of lists, written: the groups of equal neighbours, the digits of great numbers. -/
namespace Sq
open PySem PySem.Spec PyProof.Rows L2 TL
open NumText (digitsVal AllDigits)
/-- the number of the last group -/
def lastN (o : Option Int) (ps : List (Nat × Nat)) : Option Int := match ps.getLast? with
  | some p => some (p.1 : Int)
  | none => o
theorem lastN_cons (o : Option Int) (p : Nat × Nat) (ps : List (Nat × Nat)) : lastN o (p :: ps) = lastN (some (p.1 : Int)) ps := by
  unfold lastN
  cases ps with
  | nil => rfl
  | cons q r => rw [List.getLast?_cons_cons]; cases h : (q :: r).getLast? with
    | some z => rfl
    | none => simp at h
theorem alt_snoc : ∀ (ps : List (Nat × Nat)) (o : Option Int) (p : Nat × Nat), Alt o (ps ++ [p]) ↔ Alt o ps ∧ lastN o ps ≠ some (p.1 : Int)
  | [], o, p => ⟨fun h => ⟨trivial, h.1⟩, fun h => ⟨h.2, trivial⟩⟩
  | q :: r, o, p => by
    rw [lastN_cons]
    show (o ≠ some (q.1 : Int) ∧ Alt (some (q.1 : Int)) (r ++ [p])) ↔ (o ≠ some (q.1 : Int) ∧ Alt (some (q.1 : Int)) r) ∧ _
    rw [alt_snoc r]
    exact ⟨fun h => ⟨⟨h.1, h.2.1⟩, h.2.2⟩, fun h => ⟨h.1.1, h.1.2, h.2⟩⟩
/-- ks by its groups of equal neighbours -/
structure Grp (ks : List Int) (ps : List (Nat × Nat)) : Prop where
  alt : Alt none ps
  one : ∀ p ∈ ps, 1 ≤ p.2
  out : outL ps = ks
theorem outL_cons (p : Nat × Nat) (ps : List (Nat × Nat)) : outL (p :: ps) = List.replicate p.2 (p.1 : Int) ++ outL ps := rfl
theorem outL_snoc (ps : List (Nat × Nat)) (p : Nat × Nat) : outL (ps ++ [p]) = outL ps ++ List.replicate p.2 (p.1 : Int) := by
  unfold outL
  rw [List.map_append, List.flatten_append]
  simp
theorem Grp.nil : Grp [] [] := ⟨trivial, fun p h => (nomatch h), rfl⟩
/-- one more number, another one -/
theorem Grp.new {ks : List Int} {ps : List (Nat × Nat)} {k : Nat} (g : Grp ks ps) (h : lastN none ps ≠ some (k : Int)) : Grp (ks ++ [(k : Int)]) (ps ++ [(k, 1)]) := by
  refine ⟨(alt_snoc _ _ _).mpr ⟨g.alt, h⟩, fun p hp => ?_, ?_⟩
  · rcases List.mem_append.mp hp with z | z
    · exact g.one p z
    · rw [List.mem_singleton.mp z]
      exact Nat.le_refl _
  · rw [outL_snoc, g.out]
    rfl
theorem outL_head {p : Nat × Nat} {ps : List (Nat × Nat)} (h : 1 ≤ p.2) : ∃ r, outL (p :: ps) = (p.1 : Int) :: r := by
  rw [outL_cons]
  obtain ⟨m, e⟩ : ∃ m, p.2 = m + 1 := ⟨p.2 - 1, by omega⟩
  rw [e, List.replicate_succ]
  exact ⟨_, rfl⟩
theorem outL_eq_nil {ps : List (Nat × Nat)} (h : ∀ p ∈ ps, 1 ≤ p.2) (e : outL ps = []) : ps = [] := by
  cases ps with
  | nil => rfl
  | cons p r =>
    obtain ⟨s, z⟩ := outL_head (ps := r) (h p List.mem_cons_self)
    rw [z] at e
    cases e
theorem rep_cut {x : Int} {A B : List Int} : ∀ (m n : Nat), m ≤ n → List.replicate m x ++ A = List.replicate n x ++ B → A = List.replicate (n - m) x ++ B
  | 0, n, _, h => h
  | m + 1, 0, l, _ => absurd l (by omega)
  | m + 1, n + 1, l, h => by
    rw [List.replicate_succ, List.replicate_succ, List.cons_append, List.cons_append] at h
    rw [rep_cut m n (by omega) (List.cons.inj h).2, Nat.add_sub_add_right]
theorem alt_ne_head {k : Nat} {ps : List (Nat × Nat)} {B : List Int} {d : Nat} (a : Alt (some (k : Int)) ps) (o : ∀ p ∈ ps, 1 ≤ p.2) (hd : 0 < d) : outL ps ≠ List.replicate d (k : Int) ++ B := fun e => by
  obtain ⟨m, rfl⟩ : ∃ m, d = m + 1 := ⟨d - 1, by omega⟩
  rw [List.replicate_succ] at e
  cases ps with
  | nil => cases e
  | cons p r =>
    obtain ⟨s, z⟩ := outL_head (ps := r) (o p List.mem_cons_self)
    rw [z] at e
    have h := (List.cons.inj e).1
    exact a.1 (by rw [h])
theorem grp_one : ∀ (ps qs : List (Nat × Nat)) (o o' : Option Int), Alt o ps → Alt o' qs → (∀ p ∈ ps, 1 ≤ p.2) → (∀ p ∈ qs, 1 ≤ p.2) → outL ps = outL qs → ps = qs
  | [], qs, _, _, _, _, _, h2, e => (outL_eq_nil h2 e.symm).symm
  | p :: r, [], _, _, _, _, h1, _, e => outL_eq_nil h1 e
  | (k, m) :: r, (l, n) :: s, o, o', a1, a2, h1, h2, e => by
    have m1 : 1 ≤ m := h1 (k, m) List.mem_cons_self
    have n1 : 1 ≤ n := h2 (l, n) List.mem_cons_self
    have kl : (k : Int) = (l : Int) := by
      obtain ⟨x, e1⟩ := outL_head (p := (k, m)) (ps := r) m1
      obtain ⟨y, e2⟩ := outL_head (p := (l, n)) (ps := s) n1
      rw [e1, e2] at e
      exact (List.cons.inj e).1
    have kl' : k = l := Int.ofNat.inj kl
    subst kl'
    have e' : List.replicate m (k : Int) ++ outL r = List.replicate n (k : Int) ++ outL s := e
    have mn : m = n := by
      by_cases c : m < n
      · exact absurd (rep_cut m n (by omega) e') (alt_ne_head a1.2 (fun p hp => h1 p (List.mem_cons_of_mem _ hp)) (by omega))
      · by_cases c2 : n < m
        · exact absurd (rep_cut n m (by omega) e'.symm) (alt_ne_head a2.2 (fun p hp => h2 p (List.mem_cons_of_mem _ hp)) (by omega))
        · omega
    subst mn
    have e3 := rep_cut m m (Nat.le_refl _) e'
    rw [Nat.sub_self] at e3
    rw [grp_one r s _ _ a1.2 a2.2 (fun p hp => h1 p (List.mem_cons_of_mem _ hp)) (fun p hp => h2 p (List.mem_cons_of_mem _ hp)) e3]
theorem Grp.uniq {ks : List Int} {ps qs : List (Nat × Nat)} (a : Grp ks ps) (b : Grp ks qs) : ps = qs := grp_one ps qs none none a.alt b.alt a.one b.one (a.out.trans b.out.symm)
theorem Grp.mem {ks : List Int} {ps : List (Nat × Nat)} (g : Grp ks ps) : ∀ p ∈ ps, (p.1 : Int) ∈ ks := fun p hp => by
  rw [← g.out]
  unfold outL
  have h1 := g.one p hp
  exact List.mem_flatten.mpr ⟨_, List.mem_map.mpr ⟨p, hp, rfl⟩, List.mem_replicate.mpr ⟨by omega, rfl⟩⟩
theorem outL_len : ∀ (ps : List (Nat × Nat)), (outL ps).length = (ps.map (·.2)).sum
  | [] => rfl
  | p :: r => by
    rw [outL_cons, List.length_append, List.length_replicate, outL_len r]
    rfl
theorem sum_ge {ps : List (Nat × Nat)} : (∀ p ∈ ps, 1 ≤ p.2) → ps.length ≤ (ps.map (·.2)).sum ∧ ∀ p ∈ ps, p.2 ≤ (ps.map (·.2)).sum := by
  induction ps with
  | nil => exact fun _ => ⟨Nat.le_refl _, fun p hp => (nomatch hp)⟩
  | cons q r ih =>
    intro h
    obtain ⟨a, b⟩ := ih fun p hp => h p (List.mem_cons_of_mem _ hp)
    have h1 := h q List.mem_cons_self
    refine ⟨?_, fun p hp => ?_⟩
    · simp only [List.length_cons, List.map_cons, List.sum_cons]
      omega
    · simp only [List.map_cons, List.sum_cons]
      rcases List.mem_cons.mp hp with z | z
      · rw [z]; omega
      · have := b p z; omega
theorem Grp.len {ks : List Int} {ps : List (Nat × Nat)} (g : Grp ks ps) : ps.length ≤ ks.length ∧ ∀ p ∈ ps, p.2 ≤ ks.length := by
  rw [← g.out, outL_len]
  exact sum_ge g.one
/-! ### great numbers, piece by piece -/
end Sq
namespace Sq
open PySem PySem.Spec PyProof.Rows L2 TL
/-- one group's way of writing: the state of a writer that has closed the groups C and stands t signs in the next -/
structure OwnS (ks : List Int) (i : Nat) (C : List (Nat × Nat)) (t : Nat) : Prop where
  alt : Alt none C
  one : ∀ p ∈ C, 1 ≤ p.2
  nx : ∀ n, ks[i]? = some n → ks.take i = outL C ++ List.replicate t n ∧ lastN none C ≠ some n
  fin : ks[i]? = none → t = 0 ∧ outL C = ks
theorem OwnS.start (ks : List Int) : OwnS ks 0 [] 0 := ⟨trivial, fun p h => (nomatch h), fun n _ => ⟨rfl, fun z => (nomatch z)⟩, fun h => ⟨rfl, by
  cases ks with
  | nil => rfl
  | cons k r => cases h⟩⟩
theorem OwnS.same {ks : List Int} {i : Nat} {C : List (Nat × Nat)} {t : Nat} {n : Int} (h : OwnS ks i C t) (e : ks[i]? = some n) (e2 : ks[i + 1]? = some n) : OwnS ks (i + 1) C (t + 1) := by
  obtain ⟨a, b⟩ := h.nx n e
  refine ⟨h.alt, h.one, fun m hm => ?_, fun z => by rw [e2] at z; cases z⟩
  rw [e2] at hm
  cases hm
  refine ⟨?_, b⟩
  rw [List.take_add_one, e, a, List.replicate_succ', List.append_assoc]
  rfl
end Sq
set_option Elab.async false
set_option linter.all false
set_option maxRecDepth 100000
set_option maxHeartbeats 1000000
/-! What is read is written. -/
namespace Sq
open PySem PySem.Spec PyProof.Rows L2 TL
open NumText (digitsVal AllDigits)
/-! ### few digits behind each ^ -/
def isDg (c : Nat) : Bool := decide (48 ≤ c) && decide (c ≤ 57)
/-- of the two signs that stand second and third behind a ^ none is a digit -/
def Gap (l : List Nat) : Prop := ∀ i, l[i]? = some 94 → (∀ b, l[i + 2]? = some b → isDg b = false) ∧ (∀ c, l[i + 3]? = some c → isDg c = false)
theorem Gap.cons {c : Nat} {l : List Nat} (h : Gap l) (hc : c ≠ 94) : Gap (c :: l) := fun i e => by
  cases i with
  | zero => exact absurd (Option.some.inj e) hc
  | succ i => exact h i e
theorem Gap.nil : Gap [] := fun i e => (nomatch e)
end Sq
set_option Elab.async false
set_option linter.all false
set_option maxHeartbeats 1000000
/-! Two lists part at the run between their greatest origins of 1. -/
set_option Elab.async false
set_option linter.all false
set_option maxHeartbeats 1000000
/-! What parting_run returns. -/
set_option Elab.async false
set_option linter.all false
set_option maxHeartbeats 1000000
/-! A hidden list, found by questions. -/
set_option Elab.async false
set_option linter.all false
set_option maxRecDepth 100000
set_option maxHeartbeats 1000000
/-! What is asked of the handled error in its suite, whatever its class. -/
set_option Elab.async false
set_option linter.all false
set_option maxRecDepth 100000
set_option maxHeartbeats 1000000
/-! A def that may raise, called where it doesn't; keywords of such a def. -/
namespace Sq
open PySem PySem.Spec PyProof.Rows L2
theorem kbn_mk {K : PySem.W.Frag} {x qual : Str} {st : Stmt} {f : Addr} {fd : FuncData} {ps : List Str} (F : Fun K x qual st f fd) (ks : List Str) (g : List Value → List Value → List Value) (gV : List V → List V → List V)
    (rel : ∀ {vs : List V} {us : List Value} {zs : List V} {ws : List Value}, Vals vs us → Vals zs ws → Vals (gV vs zs) (g us ws))
    (h : ∀ (kV doc pm : Value) (an : Option Addr) (cdv ct : Value) (ws : List Value), ws.length = ks.length → bindArgs (PySem.W.fnOf x qual (defArgs st) (defBody st) (defScope st) .none kV doc pm an cdv ct) ⟨[], ks.zip ws⟩ = pure (ps.zip (g [] ws))) : KBn K fd ps 0 ks g gV := by
  obtain ⟨oc, od, kV, doc, pm, an, cdv, ct, osl, rfl, lk, hcd⟩ := F.ex
  refine ⟨fun s us ws X l1 l2 => ?_, rel⟩
  obtain rfl : us = [] := List.length_eq_zero_iff.mp l1
  exact .of_eq (h kV doc pm an cdv ct ws l2)
end Sq
set_option Elab.async false
set_option linter.all false
/-! A statement told apart from what follows. -/
namespace Sq
open PySem PySem.Spec PyProof.Rows L2
theorem tellSeq {t u : TS} {D : Ends} {σ : L2.St} {H : Hp} (T : L2.St → Hp → Prop) (h : ∀ N : L2.St → Hp → Prop, (∀ σ2 H2, T σ2 H2 → N σ2 H2) → t { D with nx := N } σ H) (hT : ∀ σ2 H2, T σ2 H2 → u D σ2 H2) : tSeq t u D σ H := h (u D) hT
theorem tellNx {t u : TS} {D : Ends} {r : VK} {b c : L2.St → Hp → Prop} {σ : L2.St} {H : Hp} (T : L2.St → Hp → Prop) (h : ∀ N : L2.St → Hp → Prop, (∀ σ2 H2, T σ2 H2 → N σ2 H2) → t { D with nx := N } σ H) (hT : ∀ σ2 H2, T σ2 H2 → u D σ2 H2) : Ends.nx { nx := tSeq t u D, rt := r, bk := b, ct := c } σ H := h (u D) hT
end Sq
set_option Elab.async false
set_option linter.all false
set_option maxHeartbeats 1000000
/-! Lists of replacements in the heap; slices of them. -/
namespace Sq
open PySem PySem.Spec PyProof.Rows L2
/-- replacements, not too great -/
def Rpl (ks : List Int) : Prop := ∀ k ∈ ks, 2 ≤ k ∧ k < 1073741824
theorem Rpl.two {ks : List Int} (h : Rpl ks) : ∀ k ∈ ks, 2 ≤ k := fun k hk => (h k hk).1
/-- a list of at most n replacements -/
def RL (H : Hp) (p : Addr) (n : Nat) : Prop := ∃ ks : List Int, H p = some (.lst (ks.map V.int)) ∧ ks.length ≤ n ∧ Rpl ks
theorem RL.same {H H' : Hp} {p : Addr} {n : Nat} (h : RL H p n) (s : Same H H') : RL H' p n := by
  obtain ⟨ks, g, l, r⟩ := h
  exact ⟨ks, s _ _ g, l, r⟩
theorem RL.le {H : Hp} {p : Addr} {n m : Nat} (h : RL H p n) (l : n ≤ m) : RL H p m := by
  obtain ⟨ks, g, l', r⟩ := h
  exact ⟨ks, g, Nat.le_trans l' l, r⟩
end Sq
set_option Elab.async false
set_option linter.all false
set_option maxRecDepth 100000
set_option maxHeartbeats 2000000
/-! A def of the law that asks for a repr: run where no repr is under way. -/
namespace Sq
open PySem PySem.Spec PyProof.Rows L2
structure FnG (P : Program) (w : World) (K : PySem.W.Frag) (mg : Str → Option Value) (base : Heap) (k : Nat) (f : Addr) (fd : FuncData) (ps : List Str) (sp : Sp) : Prop where
  count : ∀ vs H Q E, sp vs H Q E → vs.length = ps.length
  go : ∀ (A : Around) (outer : List Env) (s : Shared) (H : Hp) (ag : Args) (us : List Value) (vs : List V) (Q : VK) (E : XK), Room k A → A.guards = some [] → Env0 P w K mg base A outer s H →
    BindsTo s fd ag (ps.zip us) → Vals vs us → sp vs H Q E → codeAny (model P w) A (.call (.ref f) ag) (CR CX0 outer P w H s Q E) s
structure Dgr (P : Program) (w : World) (K : PySem.W.Frag) (mg : Str → Option Value) (base : Heap) (k : Nat) (x : Str) (ps : List Str) (sp : Sp) : Prop where
  ex : ∃ f fd, FnG P w K mg base k f fd ps sp ∧ mg x = some (.ref f) ∧ PySem.W.keepIn K (.ref f) = true ∧ Binds K fd ps []
theorem Dgr.mk' {P : Program} {w : World} {K : PySem.W.Frag} {mg : Str → Option Value} {base : Heap} {k : Nat} {x : Str} {st : Stmt} {ps : List Str} {sp : Sp} {f : Addr} {fd : FuncData} (F : Fun K x x st f fd) (G : FnG P w K mg base k f fd ps sp) (g : mg x = some (.ref f)) (b : Binds K fd ps []) : Dgr P w K mg base k x ps sp :=
  ⟨⟨f, fd, G, g, F.kp, b⟩⟩
end Sq
set_option Elab.async false
set_option linter.all false
/-! The best replacements, in plain Lean. -/
namespace Sq
def low (R : Int) : Int := (R + 3) / 2
def grow (R : Int) : Int := rw1 (low R) R
def up : Nat → Int → Int
  | 0, v => v
  | n + 1, v => grow (up n v)
end Sq
set_option Elab.async false
set_option linter.all false
/-! One of each choice, by its place. -/
namespace Sq
def Full (cs : List (List Int)) : Prop := ∀ c ∈ cs, 0 < c.length
theorem Full.tl {c : List Int} {cs : List (List Int)} (h : Full (c :: cs)) : Full cs := fun x hx => h x (List.mem_cons_of_mem _ hx)
theorem Full.hd {c : List Int} {cs : List (List Int)} (h : Full (c :: cs)) : 0 < c.length := h c (List.mem_cons_self ..)
end Sq
set_option Elab.async false
set_option linter.all false
set_option maxRecDepth 100000
set_option maxHeartbeats 1000000
/-! `for` in a generator's body, with yields in its suite. -/
namespace PySem
open Sem (wp)
end PySem
namespace L2
open PySem PySem.Spec PyProof.Rows GenW
end L2
set_option Elab.async false
set_option linter.all false
set_option maxRecDepth 100000
set_option maxHeartbeats 2000000
/-! Lists of lists of ints; a walk in a generator. -/
namespace Sq
open PySem PySem.Spec PyProof.Rows L2
/-- at each of them stands its list of ints -/
def RowsAt (H : Hp) : List Addr → List (List Int) → Prop
  | [], [] => True
  | a :: as, c :: cs => H a = some (.lst (c.map V.int)) ∧ RowsAt H as cs
  | _, _ => False
theorem RowsAt.same {H H' : Hp} (s : Same H H') : ∀ {as : List Addr} {cs : List (List Int)}, RowsAt H as cs → RowsAt H' as cs
  | [], [], _ => trivial
  | _ :: _, _ :: _, h => ⟨s _ _ h.1, RowsAt.same s h.2⟩
  | [], _ :: _, h => h.elim
  | _ :: _, [], h => h.elim
theorem RowsAt.len {H : Hp} : ∀ {as : List Addr} {cs : List (List Int)}, RowsAt H as cs → as.length = cs.length
  | [], [], _ => rfl
  | _ :: _, _ :: _, h => congrArg Nat.succ (RowsAt.len h.2)
  | [], _ :: _, h => h.elim
  | _ :: _, [], h => h.elim
theorem RowsAt.get {H : Hp} : ∀ {as : List Addr} {cs : List (List Int)} {i : Nat} {c : List Int}, RowsAt H as cs → cs[i]? = some c → ∃ a, as[i]? = some a ∧ H a = some (.lst (c.map V.int))
  | _ :: _, _ :: _, 0, _, h, e => by
    cases e
    exact ⟨_, rfl, h.1⟩
  | _ :: _, _ :: _, i + 1, _, h, e => RowsAt.get (i := i) h.2 e
  | [], _ :: _, _, _, h, _ => h.elim
  | _, [], _, _, _, e => by simp at e
theorem RowsAt.upd {H : Hp} {p : Addr} {o : HO} : ∀ {as : List Addr} {cs : List (List Int)}, RowsAt H as cs → p ∉ as → RowsAt (upd H p o) as cs
  | [], [], _, _ => trivial
  | a :: _, _ :: _, h, n => ⟨by rw [upd_ne (fun z => n (by rw [z]; exact List.mem_cons_self ..))]; exact h.1, RowsAt.upd h.2 (fun z => n (List.mem_cons_of_mem _ z))⟩
  | [], _ :: _, h, _ => h.elim
  | _ :: _, [], h, _ => h.elim
end Sq
set_option Elab.async false
set_option linter.all false
set_option maxRecDepth 100000
set_option maxHeartbeats 1000000
/-! Lists of lists of ints as data. -/
namespace Sq
open PySem PySem.Spec PyProof.Rows L2
theorem room65 {k : Nat} {A : Around} (r : Room k A) : A.units + 65 < cLine := by have := r.un; omega
def rLenK (K : PySem.W.Frag) : List V → Hp → VK → Prop := fun xs H Q => ∃ p ys, xs = [V.ref p] ∧ (SqL K H p ys ∨ SqT K H p ys) ∧ Q (V.int (ys.length : Nat)) H
theorem call_lenK {X : Cx} : CallR X (.builtin "len") (rLenK X.K) := call_len_seq
/-- kept by what turns the source alone -/
theorem RowsAt.keep {H H' : Hp} {l d : Addr} (k : ∀ b o, H b = some o → b ≠ l → b ≠ d → H' b = some o) : ∀ {as : List Addr} {cs : List (List Int)}, RowsAt H as cs → l ∉ as → d ∉ as → RowsAt H' as cs
  | [], [], _, _, _ => trivial
  | a :: _, _ :: _, h, n1, n2 => ⟨k _ _ h.1 (fun z => n1 (by rw [z]; exact List.mem_cons_self ..)) (fun z => n2 (by rw [z]; exact List.mem_cons_self ..)), RowsAt.keep k h.2 (fun z => n1 (List.mem_cons_of_mem _ z)) (fun z => n2 (List.mem_cons_of_mem _ z))⟩
  | [], _ :: _, h, _, _ => h.elim
  | _ :: _, [], h, _, _ => h.elim
end Sq
set_option Elab.async false
set_option linter.all false
set_option maxRecDepth 100000
set_option maxHeartbeats 4000000
/-! {e for a in xs for b in ys}, e an int: over the library's rules of the same with a list. -/
set_option Elab.async false
set_option linter.all false
set_option maxHeartbeats 1000000
/-! Choices counted: the longest run after a replacement, and how many choices are good. -/
namespace Sq
def la (L k : Int) : Int := if k > L then L else (L + 1) / k + k - 2
/-- 2, 3, .., g -/
def cand (g : Int) : List Int := (List.range (g - 1).toNat).map fun i : Nat => 2 + (i : Int)
def cnt (g : Int) : Nat → Int → Nat
  | 0, L => if L ≤ 1 then 1 else 0
  | n + 1, L => ((cand g).map fun k => cnt g n (la L k)).sum
end Sq
set_option Elab.async false
set_option linter.all false
set_option maxRecDepth 100000
set_option maxHeartbeats 1000000
/-! Walks with an open step; members without doubles; the lengths by place. -/
namespace Sq
open PySem PySem.Spec PyProof.Rows L2
theorem walkL {K : PySem.W.Frag} {a : Addr} {xs : List V} {Qd : Hp → Prop} {St : V → Hp → (Hp → Prop) → Prop} {H0 : Hp} (Pv : Nat → Hp → Prop) (h0 : Pv 0 H0) (hl : ∀ i H, i ≤ xs.length → Pv i H → SqL K H a xs)
    (hs : ∀ i x H, xs[i]? = some x → Pv i H → St x H (Pv (i + 1))) (hd : ∀ H, Pv xs.length H → Qd H) :
    ∃ W : Nat → Nat → Hp → Prop, (∃ m, W 0 m H0) ∧ ∀ i m H, W i m H → ((Itl K a).stop i H ∧ Qd H) ∨ ((Itl K a).go i H ∧ ∃ Nx : Hp → Prop, (∀ H', Nx H' → ∃ m', m' < m ∧ W (i + 1) m' H') ∧ ∀ x H', (Itl K a).yld i H x H' → St x H' Nx) := by
  refine ⟨fun i m H => m = xs.length - i ∧ i ≤ xs.length ∧ Pv i H, ⟨_, rfl, Nat.zero_le _, h0⟩, ?_⟩
  rintro i m H ⟨rfl, le, p⟩
  have there := hl i H le p
  by_cases lt : i < xs.length
  · exact .inr ⟨⟨xs, xs[i], there, List.getElem?_eq_getElem lt⟩, Pv (i + 1), fun H' p' => ⟨xs.length - (i + 1), by omega, rfl, lt, p'⟩, fun x H' y => by
      obtain ⟨rfl, e⟩ := y
      exact hs i x _ (e xs there) p⟩
  · obtain rfl : i = xs.length := by omega
    exact .inl ⟨⟨xs, there, Nat.le_refl _⟩, hd H p⟩
/-! ### without doubles -/
/-! ### the lengths by place -/
structure Lens (n : Nat) (g L : Int) (i : Nat) (rows : List (List Int)) : Prop where
  len : rows.length = i + 1
  zero : rows[0]? = some [L]
  asc : ∀ (p : Nat) (r : List Int), rows[p]? = some r → r.Pairwise (· < ·)
  mem : ∀ (p : Nat) (r : List Int), rows[p]? = some r → ∀ x ∈ r, 0 ≤ x ∧ x ≤ L
  next : ∀ (p : Nat) (r r' : List Int), rows[p]? = some r → rows[p + 1]? = some r' → ∀ x, x ∈ r' ↔ (∃ l ∈ r, ∃ k, 2 ≤ k ∧ k ≤ g ∧ x = la l k) ∧ x ≤ up (n - (p + 1)) 1
  short : L < 63 ∨ ∀ (p : Nat) (r : List Int), rows[p]? = some r → r.length ≤ 6
theorem Lens.start {n : Nat} {g L : Int} (h0 : 0 ≤ L) : Lens n g L 0 [[L]] where
  len := rfl
  zero := rfl
  asc := fun p r e => by
    match p, e with
    | 0, e => cases e; exact List.pairwise_singleton _ _
  mem := fun p r e x hx => by
    match p, e with
    | 0, e =>
      cases e
      rw [List.mem_singleton.mp hx]
      exact ⟨h0, Int.le_refl _⟩
  next := fun p r r' e e' => by
    match p, e' with
    | 0, e' => cases e'
    | p + 1, e' => cases e'
  short := .inr fun p r e => by
    match p, e with
    | 0, e => cases e; exact (show 1 ≤ 6 by decide)
theorem asc_nodup {ns : List Int} (h : ns.Pairwise (· < ·)) : ns.Nodup := List.Pairwise.imp (fun {a b} z e => by omega) h
end Sq
set_option Elab.async false
set_option linter.all false
set_option maxRecDepth 100000
set_option maxHeartbeats 2000000
/-! Generators that live beside their consumer: what stands, seen from either side. -/
set_option Elab.async false
set_option linter.all false
set_option maxRecDepth 100000
set_option maxHeartbeats 2000000
set_option Elab.async false
set_option linter.all false
set_option maxRecDepth 100000
set_option maxHeartbeats 1000000
/-! Counting: how many lengths up to a limit become one that is told. -/
set_option Elab.async false
set_option linter.all false
set_option maxRecDepth 100000
set_option maxHeartbeats 1000000
/-! A dict of limits, each with how often it counts: what it says of a length. -/
namespace Sq
open PySem PySem.Spec PyProof.Rows L2
/-! ### dicts from ints to ints -/
def one (b : Bool) : Int := if b = true then 1 else 0
/-! ### counts -/
end Sq
set_option Elab.async false
set_option linter.all false
set_option maxRecDepth 100000
set_option maxHeartbeats 1000000
/-! One replacement more: the next dict of limits. -/
set_option Elab.async false
set_option linter.all false
set_option maxRecDepth 100000
set_option maxHeartbeats 2000000
/-! Objects of an own class: made, their methods called, their properties read, where these may raise too. -/
set_option Elab.async false
set_option linter.all false
set_option maxRecDepth 100000
set_option maxHeartbeats 1000000
/-! a <= b <= c <= d as a test; the number of all origins. -/
set_option Elab.async false
set_option linter.all false
set_option maxRecDepth 100000
set_option maxHeartbeats 1000000
/-! The number of all origins, replacement by replacement. -/
set_option Elab.async false
set_option linter.all false
set_option maxRecDepth 100000
set_option maxHeartbeats 1000000
/-! yield from a list. -/
namespace L2
open PySem PySem.Spec PyProof.Rows GenW
end L2
set_option Elab.async false
set_option linter.all false
set_option maxRecDepth 100000
set_option maxHeartbeats 2000000
namespace Sq
open PySem PySem.Spec PyProof.Rows L2 GenW
structure GEndL where
  nx : Nat → Hp → L2.St → Hp → Prop
  rt : Nat → Hp → VK
  bk : Nat → Hp → L2.St → Hp → Prop := fun _ _ _ _ => False
  ct : Nat → Hp → L2.St → Hp → Prop := fun _ _ _ _ => False
def GEndL.at (D : GEndL) (i : Nat) (Hb : Hp) : Ends := { nx := D.nx i Hb, rt := D.rt i Hb, bk := D.bk i Hb, ct := D.ct i Hb }
end Sq
set_option Elab.async false
set_option linter.all false
set_option maxRecDepth 100000
set_option maxHeartbeats 2000000
set_option Elab.async false
set_option linter.all false
set_option maxRecDepth 100000
set_option maxHeartbeats 2000000
set_option Elab.async false
set_option linter.all false
set_option maxRecDepth 100000
set_option maxHeartbeats 2000000
/-! Code that leaves the generators' table as it is. -/
set_option Elab.async false
set_option linter.all false
set_option maxRecDepth 100000
set_option maxHeartbeats 2000000
/-! for x in g(e, ..): body, where g is a generator def that lives beside its consumer. -/
set_option Elab.async false
set_option linter.all false
set_option maxRecDepth 100000
set_option maxHeartbeats 2000000
set_option Elab.async false
set_option linter.all false
set_option maxRecDepth 100000
set_option maxHeartbeats 2000000
/-! More code that leaves the generators' table as it is: calls of defs, operators, tuples, enumerate. -/
set_option Elab.async false
set_option linter.all false
set_option maxRecDepth 100000
set_option maxHeartbeats 2000000
/-! Methods called by keywords: one value by place, the rest by name. -/
set_option Elab.async false
set_option linter.all false
set_option maxRecDepth 100000
set_option maxHeartbeats 2000000
/-! A def that may raise, called by keywords. -/
set_option Elab.async false
set_option linter.all false
set_option maxRecDepth 100000
set_option maxHeartbeats 2000000
/-! sorted of a set of ints, any number of members. -/
namespace Sq
open PySem PySem.Spec PyProof.Rows L2
theorem set_sorted {P : Program} {w : World} {A : Around} {E : Value → Shared → Prop} {s : Shared} {a : Addr} {S : Int → Bool} {n : Nat} {Q : Value → Shared → Prop} (R : SetR w s.heap a S n) (quiet : A.handled = none) (few : n ≤ sizeLine)
    (fin : ∀ s' p (got : List Value) (ep : Nat) (ns : List Int), (∀ b o, s.heap.get? b = some o → s'.heap.get? b = some o) → s'.gens = s.gens → s'.os = s.os → s.heap.objs.size ≤ p → s'.heap.get? p = some (seqObj "list" got.toArray ep) →
      IntsAre got ns → ns.Pairwise (· < ·) → (∀ k, k ∈ ns ↔ S k = true) → ns.length = n → Q (.ref p) s') : wpAny (model P w) A (call (.builtin "sorted") [.ref a]) Q E s := by
  obtain ⟨o, es, ep, t, get, exact', data, good, once, mem, bound, fits, size, ris, led⟩ := R
  apply Calls.call_function_entry kind_sorted plain_sorted entry_sorted (args_sorted1 _)
  unfold Builtin.«sorted»
  apply wpAny_bind (m := checkCount "sorted" 1 1 _)
  apply wpAny_pure
  apply wpAny_bind
  refine collect_set (A := A.in1) quiet ⟨o, get, exact'.1, data⟩ fits bound ris led fun s1 vs kept grown gens os perm => ?_
  have len : vs.length = n := by
    rw [perm.length_eq, List.length_map, Array.length_toList]
    exact size
  have areInts : IntsAre vs (vs.map Builtin.Re.reRawOf) := ints_of vs fun v hv => by
    obtain ⟨e, he, q⟩ := List.mem_map.mp (perm.mem_iff.mp hv)
    obtain ⟨k, tk, h1, _⟩ := good e he
    exact ⟨k, tk, q ▸ h1⟩
  have keys : (vs.map Builtin.Re.reRawOf).Perm (es.toList.map keyOf) := by
    have := perm.map Builtin.Re.reRawOf
    rwa [List.map_map] at this
  apply wpAny_bind
  refine wpAny_newList ?_ (by omega)
  have fresh : (s1.heap.push (seqObj "list" vs.toArray 0)).get? s1.heap.objs.size = some (seqObj "list" vs.toArray 0) := Heap.get?_push_size _ rfl
  apply wpAny_bind
  apply wpAny_holding
  refine wpAny_call_entry slot_list_sort ⟨_, fresh, rfl⟩ entry_list_sort ?_ (args_list_sort _)
  refine SrtO.list_sort_ord SrtO.swo_int fresh (by omega) (fun two => SrtO.ints_sortable areInts two) fun out up stable => ⟨_, rfl, ?_⟩
  obtain ⟨i1, i2, i3⟩ := SrtO.ints_out areInts up stable
  obtain ⟨c, hc⟩ := sortedHeap_at (vs := vs) (out := out.toArray) fresh
  have all := i2.trans keys
  apply wpAny_pure
  refine ⟨_, rfl, fin _ s1.heap.objs.size out c (out.map SrtO.iv) (fun b u e => ?_) gens os grown hc i1 (lt_of_le_nodup _ i3 (all.nodup_iff.mpr once)) (fun k => by rw [all.mem_iff, ← mem k]) ?_⟩
  · have old := kept b u e
    have lt := Heap.lt_size old
    refine (sortedHeap_old (Nat.ne_of_lt lt) ?_).trans (Heap.get?_push_of_some _ old)
    rw [size_push']
    exact Nat.lt_succ_of_lt lt
  · rw [all.length_eq, List.length_map, Array.length_toList, size]
def rSortedSetI (w : World) : List V → Hp → VK → Prop := fun vs H Q => ∃ (a : Addr) (S : Int → Bool) (n : Nat), vs = [V.ref a] ∧ H a = some (SetO w a S n) ∧ n ≤ sizeLine ∧
  ∀ (ns : List Int) (p : Addr), ns.Pairwise (· < ·) → (∀ k : Int, k ∈ ns ↔ S k = true) → ns.length = n → H p = none → Q (.ref p) (upd H p (.lst (ns.map V.int)))
end Sq
set_option Elab.async false
set_option linter.all false
set_option maxHeartbeats 1000000
/-! The runs that a list makes single: the greatest two, and how many runs one replacement makes equal. -/
set_option Elab.async false
set_option linter.all false
set_option maxHeartbeats 1000000
/-! Reading a list back: one step. -/
namespace Sq
theorem len_le_of {α : Type} [DecidableEq α] : ∀ {A B : List α}, A.Nodup → (∀ x ∈ A, x ∈ B) → A.length ≤ B.length
  | [], B, _, _ => Nat.zero_le _
  | a :: A, B, nd, sub => by
    have nd' := List.nodup_cons.mp nd
    have h := len_le_of (A := A) (B := B.erase a) nd'.2 fun x hx => (List.mem_erase_of_ne (fun z : x = a => nd'.1 (by rw [← z]; exact hx))).mpr (sub x (List.mem_cons_of_mem _ hx))
    have l := List.length_erase_of_mem (sub a (List.mem_cons_self ..))
    have p : 0 < B.length := List.length_pos_of_mem (sub a (List.mem_cons_self ..))
    rw [List.length_cons]
    omega
end Sq
set_option Elab.async false
set_option linter.all false
set_option maxRecDepth 100000
set_option maxHeartbeats 4000000
/-! set(l) of a list of ints, kept so that it may be sorted; its len. -/
namespace Sq
open PySem PySem.Spec PyProof.Rows L2
abbrev emptyS (w : World) : Obj := { cls := .type "set", dict := none, data := .set #[] 0 (.fresh 0 0 (!w.params.followText "set-order")) }
section
variable {P : Program} {w : World} {A : Around} {E : Value → Shared → Prop} {s : Shared}
theorem set_of_list {l : Addr} {its : Array Value} {zs : List Int} {Q : Value → Shared → Prop} (quiet : A.handled = none) (isL : s.heap.IsList l its) (areI : IntsAre its.toList zs) (few : zs.length + 1 < scanBound)
    (fin : ∀ (g : Heap) (tk m : Nat), SetR w g s.heap.objs.size (fun j => decide (j ∈ zs)) m → m ≤ zs.length → (∀ b o, s.heap.get? b = some o → g.get? b = some o) → Q (.ref s.heap.objs.size) { s with heap := g, toks := tk }) :
    wpAny (model P w) A (call (.type "set") [.ref l]) Q E s := by
  have size : its.size = zs.length := by
    rw [← Array.length_toList]
    exact IntsAre.length areI
  obtain ⟨c0, tl0, mro0⟩ := F.called_set.mro
  have made0 := F.called_set.made
  have sub0 := F.called_set.sub
  refine wpAny_call (codeAny_of_tree (show wpAny _ _ (callAny (.type "set") _) _ _ _ from ?_))
  refine wpAny_pure ⟨Code.quiet_builtin _ (by decide +kernel), codeAny_builtin F.entry_type_call ?_⟩
  rw [Around.under_plain (weight_type_call_type "set" [.ref l] []) rfl]
  have t1 := F.called_set.notType
  have t2 := F.called_set.canCreate
  have t3 := F.typeCall_set_1 (.ref l)
  repeat (any_goals (first | assumption | wp_step))
  refine codeAny_mono (code_set_led1 (.ref l) (E := E) (Q₁ := fun ob s' => ob = .ref s.heap.objs.size ∧ s' = { s with heap := s.heap.push (emptyS w) }) ⟨rfl, rfl⟩) fun r s' hr => ?_
  match r, hr with
  | .error e, hr => exact hr
  | .ok .next, hr => exact hr.elim
  | .ok .brk, hr => exact hr.elim
  | .ok .cont, hr => exact hr.elim
  | .ok (.ret ob), hr =>
    obtain ⟨rfl, rfl⟩ := hr
    have gS : (s.heap.push (emptyS w)).get? s.heap.objs.size = some (emptyS w) := Heap.get?_push_size _ rfl
    have tS : Shared.TypeIs { s with heap := s.heap.push (emptyS w) } (.ref s.heap.objs.size) "set" := ⟨_, gS, rfl⟩
    have i1 := F.called_set.init.lookup
    have i2 := F.called_set.init.bind (.ref s.heap.objs.size)
    repeat (any_goals (first | assumption | wp_step))
    refine codeAny_mono (codeAny_call_builtin (R := wants (fun r s2 => r = .none ∧ ∃ g tk m, s2 = { s with heap := g, toks := tk } ∧ SetR w g s.heap.objs.size (fun j => decide (j ∈ zs)) m ∧ m ≤ zs.length ∧
        ∀ b o, s.heap.get? b = some o → g.get? b = some o) E) F.called_set.init.plain F.entry_set_init (check_set_init_1 tS ?_)) fun r2 s2 hr2 => ?_
    · obtain ⟨⟨cl, di, da, sl⟩, ol, isC, nl, isD⟩ := isL
      simp only at isC isD
      subst isC isD
      have ol1 : (s.heap.push (emptyS w)).get? l = some { cls := .type "list", dict := di, data := .seq its nl, slots := sl } := Heap.get?_push_of_some _ ol
      have n1 := F.sub_list_set
      have n2 := F.sub_list_frozenset
      have n3 : (Value.type "list" == Value.type "dict") = false := by decide
      have isL1 : (s.heap.push (emptyS w)).IsList l its := ⟨_, ol1, rfl, nl, rfl⟩
      unfold Builtin.«set.__init__» noKeywords Builtin.Frozenset.updateFrom
      generalize pk : pyIter = PK
      wp_walk
      subst pk
      refine wpAny_pyIter_list isL1 (wpAny_bind (wpAny_runValue ?_))
      have low : l < s.heap.objs.size := Heap.lt_size ol
      have q3 : A.in1.in1.in1.handled = none := by simp [quiet]
      have big : (s.heap.push (emptyS w)).objs.size = s.heap.objs.size + 1 := Heap.size_push ..
      have apart : l ≠ (s.heap.push (emptyS w)).objs.size := by rw [big]; exact Nat.ne_of_lt (Nat.lt_succ_of_lt low)
      have notIn : s.heap.objs.size ∉ [(s.heap.push (emptyS w)).objs.size, l] := by
        rw [big]
        intro z
        rcases List.mem_cons.mp z with z | z
        · exact absurd z (Nat.ne_of_lt (Nat.lt_succ_self _))
        · exact absurd (List.mem_singleton.mp z) (Nat.ne_of_gt low)
      have vals : ∀ (i : Nat) (v : Value), its[i]? = some v → ∃ k t, zs[i]? = some k ∧ v = .int k t := fun i v hv => by
        have li : i < zs.length := by rw [← size]; exact (Array.getElem?_eq_some_iff.mp hv).1
        obtain ⟨t, e⟩ := IntsAre.int_at areI i v (by rw [Array.getElem?_toList]; exact hv)
        refine ⟨zs[i], t, List.getElem?_eq_getElem li, ?_⟩
        rw [e, List.getD_eq_getElem?_getD, List.getElem?_eq_getElem li] <;> rfl
      refine set_update_ints ((Walks.list q3 _ l apart its).toS) s.heap.objs.size notIn zs size few vals (its.size - 0) 0 _ (by omega) (Nat.zero_le _) ⟨⟨_, Heap.get?_push_size _ rfl, rfl, rfl⟩, isL1.push _⟩ ⟨0, Nat.le_refl 0, setR_new_at (Heap.get?_push_of_some _ gS)⟩ ?_
      intro s3 m mv lm R3
      obtain ⟨g, gn, dr, tk, os⟩ := s3
      obtain rfl : gn = s.gens := mv.gens
      obtain rfl : dr = s.drawn := mv.drawn
      obtain rfl : os = s.os := mv.os
      rw [size] at lm
      refine (show wpAny _ _ _ _ _ _ from wpAny_pure (show wpAny _ _ (ret Value.none) _ _ _ from ?_))
      refine wpAny_pure ⟨rfl, g, tk, m, rfl, R3, lm, fun b o e => ?_⟩
      have lb : b < s.heap.objs.size := Heap.lt_size e
      refine mv.heap b o (fun z => ?_) (Heap.get?_push_of_some _ (Heap.get?_push_of_some _ e))
      rcases List.mem_cons.mp z with z | z
      · exact absurd z (Nat.ne_of_lt lb)
      · have z := List.mem_singleton.mp z
        rw [big] at z
        exact absurd z (Nat.ne_of_lt (Nat.lt_succ_of_lt lb))
    · match r2, hr2 with
      | .error e, hr2 => exact hr2
      | .ok .next, hr2 => exact hr2.elim
      | .ok .brk, hr2 => exact hr2.elim
      | .ok .cont, hr2 => exact hr2.elim
      | .ok (.ret v), hr2 =>
        obtain ⟨rfl, g, tk, m, rfl, R3, lm, kept⟩ := hr2
        repeat (any_goals (first | assumption | wp_step))
        exact fin _ _ _ R3 lm kept
end
theorem perm_of_sub {α : Type} [DecidableEq α] : ∀ {A B : List α}, A.Nodup → (∀ x ∈ A, x ∈ B) → B.length = A.length → A.Perm B
  | [], B, _, _, l => by rw [List.length_eq_zero_iff.mp l]
  | a :: A, B, nd, sub, l => by
    have nd' := List.nodup_cons.mp nd
    have ha := sub a List.mem_cons_self
    have le := List.length_erase_of_mem ha
    rw [List.length_cons] at l
    have ih := perm_of_sub (A := A) (B := B.erase a) nd'.2 (fun x hx => (List.mem_erase_of_ne (fun z : x = a => nd'.1 (by rw [← z]; exact hx))).mpr (sub x (List.mem_cons_of_mem _ hx))) (by omega)
    exact (ih.cons a).trans (List.perm_cons_erase ha).symm
theorem setR_count {w : World} {h : Heap} {a : Addr} {zs : List Int} {m : Nat} (R : SetR w h a (fun j => decide (j ∈ zs)) m) : m = zs.length ↔ zs.Nodup := by
  obtain ⟨o, es, ep, t, get, ex, data, good, once, mem, bound, fits, size, ris, led⟩ := R
  have len : (es.toList.map keyOf).length = m := by rw [List.length_map, Array.length_toList]; exact size
  have sub : ∀ x, x ∈ es.toList.map keyOf ↔ x ∈ zs := fun x => by rw [← mem x]; exact decide_eq_true_iff
  constructor
  · intro e
    exact (perm_of_sub once (fun x hx => (sub x).mp hx) (by rw [len, e])).nodup_iff.mp once
  · intro nd
    have a := len_le_of nd fun x hx => (sub x).mpr hx
    have b := len_le_of once fun x hx => (sub x).mp hx
    omega
section
variable {X : Cx}
def rSetL (K : PySem.W.Frag) (w : World) : List V → Hp → VK → Prop := fun vs H Q => ∃ (l : Addr) (zs : List Int), vs = [.ref l] ∧ SqL K H l (zs.map V.int) ∧ zs.length ≤ 4000 ∧ ∀ p m, H p = none → m ≤ zs.length → (m = zs.length ↔ zs.Nodup) → Q (.ref p) (upd H p (SetO w p (fun j => decide (j ∈ zs)) m))
end
end Sq
set_option Elab.async false
set_option linter.all false
set_option maxRecDepth 100000
set_option maxHeartbeats 1000000
/-! Texts of lists: what the laws share. -/
set_option Elab.async false
set_option linter.all false
set_option maxRecDepth 100000
set_option maxHeartbeats 2000000
/-! list(text); texts cut at ^ or at ", "; how long a shown list of numbers is. -/
namespace Sq
open PySem PySem.Spec PyProof.Rows L2
open NumText (digitsVal AllDigits)
def signsV (x : Str) : List V := (TL.tl x).map fun c => V.str ⟨#[c]⟩
def rListStr : List V → Hp → VK → Prop := fun xs H Q => ∃ x : Str, xs = [.str x] ∧ x.length ≤ sizeLine ∧ ∀ p, H p = none → Q (.ref p) (upd H p (.lst (signsV x)))
theorem vals_signs {x : Str} {acc : Array Value} (h : ItemsOf (SignAt x) acc x.cps.size) : Vals (signsV x) acc.toList := by
  obtain ⟨sz, items⟩ := h
  have key : ∀ (cs : List Nat) (vs : List Value), cs.length = vs.length → (∀ (j : Nat) (v : Value), vs[j]? = some v → ∃ c u, cs[j]? = some c ∧ v = Value.str ⟨#[c]⟩ u) → Vals (cs.map fun c => V.str ⟨#[c]⟩) vs := fun cs => by
    induction cs with
    | nil =>
      intro vs l _
      cases vs with
      | nil => exact .nil
      | cons v vs => cases l
    | cons c cs ih =>
      intro vs l it
      cases vs with
      | nil => cases l
      | cons v vs =>
        obtain ⟨c', u, e, rfl⟩ := it 0 v rfl
        cases e
        exact .cons ⟨u, rfl⟩ (ih vs (Nat.succ.inj l) fun j w e => it (j + 1) w e)
  refine key (TL.tl x) acc.toList ?_ fun j v e => ?_
  · show x.cps.toList.length = _
    rw [Array.length_toList, Array.length_toList, sz]
  · obtain ⟨c, u, e2, e3⟩ := items j v (by rw [← Array.getElem?_toList]; exact e)
    exact ⟨c, u, by show x.cps.toList[j]? = some c; rw [Array.getElem?_toList]; exact e2, e3⟩
theorem call_listStr {X : Cx} (hc : X.calm = true) : CallR X (.type "list") rListStr := by
  intro pins s σ H xs us Q I r h
  obtain ⟨x, rfl, hl, q⟩ := h
  obtain ⟨u, rfl, t, rfl⟩ := vals1 r
  refine PySem.call_list_str (I.ok.hd hc) x t (fun h' tk acc' c' keep got items => ?_) hl
  have free : H s.heap.objs.size = none := I.hok.fresh (Nat.le_refl _)
  have len : (signsV x).length ≤ sizeLine := by
    unfold signsV
    rw [List.length_map, ← TL.len_tl]
    exact hl
  refine ⟨.ref s.heap.objs.size, upd H s.heap.objs.size (.lst (signsV x)), ?_, rfl, q _ free⟩
  exact I.call (ch := []) (Un.laid keep (Nat.le_refl _) free) (I.hok.laid keep (Nat.le_refl _) ⟨len, acc'.toList, c', vals_signs items, by rw [Array.toArray_toList]; exact got⟩) I.bare (fun _ z => nomatch z)
end Sq
set_option Elab.async false
set_option linter.all false
set_option maxRecDepth 100000
set_option maxHeartbeats 2000000
/-! Code that leaves one cell of the frame as it is, to the token of its text: for str.replace. -/
namespace Sq
open PySem PySem.Spec PyProof.Rows L2 GenW
/-- the object at c is as it was -/
def Kc (c : Addr) (s s' : Shared) : Prop := ∀ o, s.heap.get? c = some o → s'.heap.get? c = some o
theorem Kc.refl {c : Addr} {s : Shared} : Kc c s s := fun _ e => e
theorem Kc.trans {c : Addr} {s s1 s2 : Shared} (a : Kc c s s1) (b : Kc c s1 s2) : Kc c s s2 := fun o e => b o (a o e)
/-- c is the cell of a name of the def's own -/
structure Cel (X : Cx) (y : Str) (c : Addr) : Prop where
  is : X.env.cells.lookup y = some c
  own : X.fn y = true
section
variable {X : Cx} {y : Str} {c : Addr} {pins : List (Addr × Obj)} {σ : L2.St} {H H' : Hp} {s s' : Shared}
theorem Cel.free (C : Cel X y c) (I : Inv X pins σ H s) : H c = none := I.freeC _ _ C.is
theorem Cel.nofs (C : Cel X y c) (I : Inv X pins σ H s) : c ∉ X.fs := fun hb => by
  obtain ⟨_, o, ho, _⟩ := I.ok.funs.mem hb
  exact absurd (Nat.lt_of_lt_of_le (Heap.lt_size ho) (I.ok.cab _ _ C.own C.is)) (Nat.lt_irrefl _)
theorem Cel.nostk (C : Cel X y c) (I : Inv X pins σ H s) : c ∉ frs X.stack := by
  rcases I.ok.stk with e | ⟨e, fr⟩
  · rw [e]
    exact C.nofs I
  · rw [e]
    intro h
    obtain ⟨en, hm, hf⟩ := List.mem_filterMap.mp h
    rcases List.mem_cons.mp hm with z | z
    · rw [z, fr] at hf
      exact I.cne _ _ C.is (Option.some.inj hf).symm
    · exact C.nofs I (List.mem_filterMap.mpr ⟨en, z, hf⟩)
theorem Cel.un (C : Cel X y c) (I : Inv X pins σ H s) (u : Un (frs X.stack) [] H H' s.heap s'.heap) : Kc c s s' := fun o e => u.keep c o e (C.free I) (C.nostk I) (by simp)
end
structure JE (X : Cx) (c : Addr) (e : Expr) (t : TE) : Prop where
  run : ∀ (pins : List (Addr × Obj)) (s : Shared) (σ : L2.St) (H : Hp) (Q : VK), Inv X pins σ H s → t σ H Q → wpAny (model X.prog X.w) X.A (eval e X.env) (fun u s' => Kc c s s' ∧ EP X pins σ Q u s') X.xe s
structure JA (X : Cx) (c : Addr) (es : List Expr) (t : TA) : Prop where
  run : ∀ (pos : Pos) (pins : List (Addr × Obj)) (s : Shared) (σ : L2.St) (H : Hp) (Q : List V → Hp → Prop), Inv X pins σ H s → t σ H Q → wpAny (model X.prog X.w) X.A (spliced (backTo pos (starEach es X.env))) (fun us s' => Kc c s s' ∧ AP X pins σ Q us s') X.xe s
structure JSt (X : Cx) (c : Addr) (st : Stmt) (t : TS) : Prop where
  run : ∀ (pins : List (Addr × Obj)) (s : Shared) (σ : L2.St) (H : Hp) (D : Ends), Inv X pins σ H s → t D σ H → wpAny (model X.prog X.w) X.A (exec st X.env) (fun f s' => Kc c s s' ∧ SP X pins D f s') X.xe s
def CallJ (X : Cx) (c : Addr) (f : Value) (r : List V → Hp → VK → Prop) : Prop := ∀ (pins : List (Addr × Obj)) (s : Shared) (σ : L2.St) (H : Hp) (vs : List V) (us : List Value) (Q : VK), Inv X pins σ H s → Vals vs us → r vs H Q → wpAny (model X.prog X.w) X.A (call f us) (fun u s' => Kc c s s' ∧ EP X pins σ Q u s') X.xe s
section
variable {X : Cx} {y : Str} {c : Addr} {pins : List (Addr × Obj)} {σ : L2.St} {H : Hp} {s : Shared} {x : Str} {p pos : Pos} {e : Expr} {es : List Expr} {te : TE} {t : TA}
/-! ### expressions -/
theorem je_var {i : Nat} (hN : X.N[i]? = some x) (hv : Vis X.env.scope x) (hd : (x == ("__debug__" : Str)) = false := by decide) (hcd : (x == ("__classdict__" : Str)) = false := by decide) : JE X c (.Name x pos) (tVar i) :=
  ⟨fun pins s σ H Q I h => by
    obtain ⟨v, e, q⟩ := h
    exact raw_name hN hv I e (fun u r => ⟨Kc.refl, v, H, I, r, q⟩) hd hcd⟩
theorem jv (i : Nat) (hN : X.N[i]? = some x := by rfl) (hv : Vis X.env.scope x := by first | exact Or.inl rfl | exact Or.inr (Or.inl rfl) | exact Or.inr (Or.inr rfl)) (hd : (x == ("__debug__" : Str)) = false := by decide)
    (hcd : (x == ("__classdict__" : Str)) = false := by decide) : JE X c (.Name x pos) (tVar i) := je_var hN hv hd hcd
theorem je_int {i : Int} {k : Nat} : JE X c (.Constant (.int i) k pos) (tC (.int i)) :=
  ⟨fun pins s σ H Q I h => wpAny_Constant_int ⟨Kc.refl, .int i, H, I.tok _, ⟨_, rfl⟩, h⟩⟩
theorem ja_nil : JA X c [] tNil := ⟨fun pos pins s σ H Q I h => Calls.spliced_nil ⟨Kc.refl, [], H, I, .nil, h⟩⟩
theorem ja_cons (ha : JE X c e te) (hr : JA X c es t) (hs : starEach (e :: es) X.env = (false, eval e X.env) :: starEach es X.env := by rfl) : JA X c (e :: es) (tCons te t) := by
  refine ⟨fun pos pins s σ H Q I h => ?_⟩
  rw [hs]
  show wpAny _ _ (spliced ((false, eval e X.env) :: backTo pos (starEach es X.env))) _ _ s
  refine Calls.spliced_cons (thn (ha.run pins s σ H _ I h) fun u s1 hh => ?_)
  obtain ⟨g1, x, H1, I1, r1, q1⟩ := hh
  exact thn (hr.run pos pins s1 σ H1 _ I1 q1) fun us s2 ⟨g2, xs, H2, I2, r2, q2⟩ => ⟨g1.trans g2, x :: xs, H2, I2, .cons r1 r2, q2⟩
theorem run_fnJ {CX : CXT} {k : Nat} {f : Addr} {fd : FuncData} {ps : List Str} {sp : Sp} {dvs : List V} {ds : List Value} {E : XK} {Q : VK} {us : List Value} {vs : List V} (C : Cel X y c) (F : FnOk X.prog X.w X.K X.mg X.base CX k f fd ps sp) (hr : Room k X.A) (hb : Binds X.K fd ps ds) (hd : Vals dvs ds) (hx : Passes CX X E)
    (I : Inv X pins σ H s) (r : Vals vs us) (h : sp (vs ++ dvs) H Q E) : wpAny (model X.prog X.w) X.A (call (.ref f) us) (fun u s' => Kc c s s' ∧ EP X pins σ Q u s') X.xe s := by
  have r2 : Vals (vs ++ dvs) (us ++ ds) := r.append hd
  have hl : (us ++ ds).length = ps.length := by rw [← r2.length]; exact F.len _ _ _ _ h
  refine wpAny_call (codeAny_mono (F.run X.A X.stack s H ⟨us, []⟩ (us ++ ds) (vs ++ dvs) Q E hr I.env0 (hb s us I.kIn hl) r2 h) fun r s' hq => ?_)
  match r, hq with
  | .error e, hq => exact hx pins σ H s e s' I hq
  | .ok (.ret u), hq =>
    have ce : CE X.stack X.prog X.w H s Q u s' := hq
    obtain ⟨_, _, _, _, un, _⟩ := id ce
    exact ⟨C.un I un, I.after ce⟩
  | .ok .next, hq => exact False.elim hq
  | .ok .brk, hq => exact False.elim hq
  | .ok .cont, hq => exact False.elim hq
theorem je_call {CX : CXT} {k : Nat} {f : Addr} {fd : FuncData} {ps : List Str} {sp : Sp} {dvs : List V} {ds : List Value} {E : XK} (C : Cel X y c) (F : FnOk X.prog X.w X.K X.mg X.base CX k f fd ps sp) (hr : Room k X.A) (hg : Gl X x) (hm : X.mg x = some (.ref f)) (hk : PySem.W.keepIn X.K (.ref f) = true) (hb : Binds X.K fd ps ds) (hd : Vals dvs ds) (hx : Passes CX X E)
    (ha : JA X c (e :: es) t) (hdb : (x == ("__debug__" : Str)) = false := by decide) (he : starEach (e :: es) X.env = (false, eval e X.env) :: starEach es X.env := by rfl) (hpl : (backTo pos (starEach es X.env)).any (·.1) = false := by rfl) :
    JE X c (.Call (.Name x p) (e :: es) [] pos) (tCall sp dvs E t) := by
  refine ⟨fun pins s σ H Q I h => ?_⟩
  refine wpAny_Call_Name_kw (ld_glob I hg hm ?_ hdb)
  refine PySem.W.callWith_K (h₀ := X.base) I.ok.mod.kin hk (thn (ha.run pos pins s σ H _ I h) fun us s1 hh => ?_) he hpl
  obtain ⟨g1, vs, H1, I1, r, q⟩ := hh
  exact ⟨I1.kIn, thn (run_fnJ C F hr hb hd hx I1 r q) fun u s2 ⟨g2, q2⟩ => ⟨g1.trans g2, q2⟩⟩
theorem je_callD {k : Nat} {ps : List Str} {sp : Sp} (C : Cel X y c) (D : Df X.prog X.w X.K X.mg X.base k x ps sp) (hr : Room k X.A) (hg : Gl X x) (ha : JA X c (e :: es) t) (hdb : (x == ("__debug__" : Str)) = false := by decide)
    (he : starEach (e :: es) X.env = (false, eval e X.env) :: starEach es X.env := by rfl) (hpl : (backTo pos (starEach es X.env)).any (·.1) = false := by rfl) : JE X c (.Call (.Name x p) (e :: es) [] pos) (tCall sp [] E0 t) := by
  obtain ⟨f, fd, F, g, kp, b⟩ := D.ex
  exact je_call C F hr hg g kp b .nil pass0 ha hdb he hpl
theorem je_callB {id : String} {r : List V → Hp → VK → Prop} (hc : CallJ X c (.builtin id) r) (hg : Gl X x) (hm : X.mg x = none) (hv : bootBuiltins x = some (.builtin id)) (ha : JA X c (e :: es) t) (hn : x ≠ "__name__" := by decide) (hdb : (x == ("__debug__" : Str)) = false := by decide)
    (he : starEach (e :: es) X.env = (false, eval e X.env) :: starEach es X.env := by rfl) (hpl : (backTo pos (starEach es X.env)).any (·.1) = false := by rfl) : JE X c (.Call (.Name x p) (e :: es) [] pos) (tCB r t) := by
  refine ⟨fun pins s σ H Q I h => ?_⟩
  refine wpAny_Call_Name_kw (ld_blt I hg hm hv ?_ hn hdb)
  refine PyProof.Rows.callWith_builtin1 (thn (ha.run pos pins s σ H _ I h) fun us s1 hh => ?_) he hpl
  obtain ⟨g1, vs, H1, I1, r1, q1⟩ := hh
  exact thn (hc pins s1 σ H1 vs us Q I1 r1 q1) fun u s2 ⟨g2, q2⟩ => ⟨g1.trans g2, q2⟩
theorem cj_sortedSetI (hc : X.calm = true) : CallJ X c (.builtin "sorted") (rSortedSetI X.w) := by
  intro pins s σ H vs us Q I r h
  obtain ⟨a, S, n, rfl, ha, few, q⟩ := h
  rw [Vals.ref1 r]
  refine set_sorted (setO_get I ha) (I.ok.hd hc) few fun s' p got ep ns kept g os lp hg areI up mem len => ?_
  have free : H p = none := I.hok.fresh lp
  have sz : (ns.map V.int).length ≤ sizeLine := by
    rw [List.length_map]
    omega
  have same : s' = { s with heap := s'.heap, gens := s'.gens, drawn := s'.drawn, toks := s'.toks } := by
    cases s'
    cases s
    cases os
    rfl
  rw [same]
  exact ⟨fun o e => kept _ _ e, .ref p, upd H p (.lst (ns.map V.int)), I.call (ch := []) (Un.laid kept lp free) (I.hok.laid kept lp ⟨sz, got, ep, vals_of_ints areI, hg⟩) (by rw [g]; exact I.bare) (fun _ z => nomatch z), rfl, q ns p up mem len free⟩
/-! ### statements -/
theorem jst_expr (he : JE X c e te) (hs : swapsWith e none pos.line X.env = pure false := by rfl) : JSt X c (.Expr e pos) (tDrop te) := by
  refine ⟨fun pins s σ H D I h => ?_⟩
  refine wpAny_Expr_any (thn (he.run pins s σ H _ I h) fun v s1 hh => ?_) I.quiet hs
  obtain ⟨g1, x, H1, I1, r1, q1⟩ := hh
  exact ⟨g1, σ, H1, I1, q1⟩
theorem jst_set {i : Nat} {pos' : Pos} (C : Cel X y c) (ne : x ≠ y) (hN : X.N.Nodup) (hi : X.N[i]? = some x) (hx : Loc X.env.scope x) (he : JE X c e te) (hs : swapsWith e (some (.Name x pos')) pos.line X.env = pure false := by rfl) (hf : X.fn x = true ∨ X.env.scope.names.lookup x = some .local := by first | exact .inl rfl | exact .inr rfl | assumption) :
    JSt X c (.Assign [.Name x pos'] e pos) (tAsg te (gName i)) := by
  refine ⟨fun pins s σ H D I h => ?_⟩
  refine wpAny_Assign_Name (thn (he.run pins s σ H _ I h) fun v s1 hh => ?_) hs
  obtain ⟨g1, z, H1, I1, r1, q1⟩ := hh
  refine store_ok2 I1 hN hi hx r1 (fun s2 I2 hh => ?_) hf
  obtain ⟨a, sb, ha⟩ := hh
  have ca : c ≠ a := fun z => by
    rcases ha with ha | ha
    · exact I1.cne _ _ C.is (z.trans ha)
    · rw [← z] at ha
      exact ne (I1.ok.inj _ _ _ ha C.is)
  exact ⟨g1.trans fun o e => (sb.2 c ca).trans e, _, H1, I2, q1⟩
end
end Sq
set_option Elab.async false
set_option linter.all false
set_option maxRecDepth 100000
set_option maxHeartbeats 4000000
/-! More code that leaves one cell as it is: a dict comprehension with one for, set(l), list(x). -/
namespace Sq
open PySem PySem.Spec PyProof.Rows L2 GenW
section
variable {X : Cx}
/-- where a loop's items come from -/
structure JI (X : Cx) (c : Addr) (tg iter : Expr) (wi : TI) : Prop where
  run : ∀ (pins : List (Addr × Obj)) (s : Shared) (σ : L2.St) (H : Hp) (R : It → Hp → Prop), Inv X pins σ H s → wi σ H R →
    wpAny (model X.prog X.w) X.A (eval iter X.env) (fun v s1 => wpAny (model X.prog X.w) X.A (pyIter v) (fun u s2 => Kc c s s2 ∧ PIE X pins σ tg R u s2) X.xe s1) X.xe s
theorem ji_list {c : Addr} {tg l : Expr} {tl : TE} (hl : JE X c l tl) : JI X c tg l (iList X.K tl) := by
  refine ⟨fun pins s σ H R I h => ?_⟩
  refine thn (hl.run pins s σ H _ I h) fun v s1 hh => ?_
  obtain ⟨g1, x, H1, I1, r1, a, e, ⟨xs, hq⟩, q⟩ := hh
  subst e
  cases r1
  obtain ⟨its, rv, p, hz⟩ := I1.list hq
  refine wpAny_pyIter_list p.isList ⟨g1.trans fun o e => Heap.get?_push_of_some _ e, ?_⟩
  have lo : s1.heap.objs.size ≤ s1.heap.objs.size := Nat.le_refl _
  refine ⟨s1.heap.objs.size, [s1.heap.objs.size], _, _, H1, rfl, I1.kept (t' := s1.toks) fun b o e => Heap.get?_push_of_some _ e, turn_list a _, ⟨_, Heap.get?_push_size _ rfl, rfl, rfl⟩, fun b hb => ?_, q⟩
  rw [List.mem_singleton.mp hb]
  exact I1.fpOk lo (I1.hok.fresh lo)
theorem dcJ_core {y0 : Str} {c0 : Addr} (Ce : Cel X y0 c0) {pins : List (Addr × Obj)} {s : Shared} {σ : L2.St} {H : Hp} {Q : VK} {elt eltv tg iter : Expr} {ifs : List Expr} {scope : Scope} {own : List (Str × Nat)} {pos pos' : Pos} {wi : TI} {g : TG} {tt : TT} {te tf : TE} {use : Option (Value → Sem Unit)} {Qf : Value → Shared → Prop}
    (mood : X.calm = true) (nodupN : X.N.Nodup) (I : Inv X pins σ H s) (sourceA : JI X c0 tg iter wi) (ok : BlkOk X.N X.env.scope scope own)
    (targetA : ∀ (s : Shared) (H : Hp) (C : Addr) (cl : List (Str × Addr)) (fp : List Addr), PG (X.blk s H scope (compEnvC scope cl C X.env) fp) tg g) (testsA : ∀ (s : Shared) (H : Hp) (C : Addr) (cl : List (Str × Addr)) (fp : List Addr), PTs (X.blk s H scope (compEnvC scope cl C X.env) fp) ifs tt)
    (elemA : ∀ (s : Shared) (H : Hp) (C : Addr) (cl : List (Str × Addr)) (fp : List Addr), PE (X.blk s H scope (compEnvC scope cl C X.env) fp) elt te)
    (valA : ∀ (s : Shared) (H : Hp) (C : Addr) (cl : List (Str × Addr)) (fp : List Addr), PE (X.blk s H scope (compEnvC scope cl C X.env) fp) eltv tf) (plainA : ∀ x, foldedSetIterable iter X.env x = pure x)
    (h : tDc wi g tt te tf (own.map (·.2)) σ H Q)
    (back : ∀ D C s' m H', Kc c0 s s' → Inv X pins σ H' s' → Q (.ref D) H' → s'.heap.Ns C m → FpOk X pins H' C → compPost (model X.prog X.w) X.A X.xe use Qf (.ref D) C (.ok .next) s') :
    wpAny (model X.prog X.w) X.A (comprehension (.DictComp elt eltv [⟨tg, iter, ifs, 0⟩] scope pos) scope X.env pos' newDict false (eval iter X.env) use) Qf X.xe s := by
  have captured : ∀ y ∈ scope.names, y.2 = .free → ∃ c, X.env.cells.lookup y.1 = some c := fun y hy e => by
    rcases ok.free y hy e with k | k
    · exact I.ok.has _ (.inl k)
    · exact I.ok.has _ (.inr k)
  refine wpAny_comprehension_free (use := use) rfl plainA (closure_ok captured) ok.kind (fun y hy e => by rw [ok.uniq y hy, e])
    (thn (sourceA.run pins s σ H _ I h) fun srcV sA gotX => thn gotX fun itV sB hB2 => ?_)
  obtain ⟨kB, h2⟩ := hB2
  obtain ⟨it, fp, tn, J, HB, e, I2, T, st2, f2, q⟩ := h2
  subst e
  refine wpAny_newObj_type (newEnv_comp ?_)
  generalize atD : sB.heap.objs.size = D
  have freshD : HB D = none := I2.hok.fresh (Nat.le_of_eq atD)
  obtain ⟨W, ⟨mes0, inv0⟩, walk0⟩ := q D freshD
  -- the new dict
  generalize laid3 : ({ sB with heap := sB.heap.push { cls := .type "dict", data := .dict #[] } } : Shared) = sC
  have J3 : Inv X pins σ (upd HB D (.dK [])) sC := by
    rw [← laid3]
    refine I2.laid (t' := sB.toks) (fun b o e => Heap.get?_push_of_some _ e) (Nat.le_of_eq atD) ?_
    rw [← atD]
    exact dk_empty sB.heap I2.big
  have heap3 : sC.heap = sB.heap.push { cls := .type "dict", data := .dict #[] } := by rw [← laid3]
  have below : ∀ b ∈ fp, b < sB.heap.objs.size := fun b hb => by
    obtain ⟨o, e, _⟩ := T.obj _ _ st2 b hb
    exact Heap.lt_size e
  have roam3 : ∀ b ∈ fp, FpOk X pins (upd HB D (.dK [])) b ∧ b < sC.heap.objs.size := fun b hb => by
    have hlt := below b hb
    refine ⟨⟨?_, (f2 b hb).2⟩, by rw [heap3, Heap.size_push]; exact Nat.lt_succ_of_lt hlt⟩
    rw [upd_ne (by rw [← atD]; exact Nat.ne_of_lt hlt)]
    exact (f2 b hb).1
  have turn3 : tn 0 sC.heap := T.keep _ _ _ st2 fun b _ o e => by rw [heap3]; exact Heap.get?_push_of_some _ e
  have J4 := block_start J3 ok nodupN roam3
  have tgt := targetA sC (upd HB D (.dK [])) sC.heap.objs.size (cellsFrom (sC.heap.objs.size + 1) scope.names (cloFrom X.env.cells scope.names [])) fp
  have elv := valA sC (upd HB D (.dK [])) sC.heap.objs.size (cellsFrom (sC.heap.objs.size + 1) scope.names (cloFrom X.env.cells scope.names [])) fp
  have tst := testsA sC (upd HB D (.dK [])) sC.heap.objs.size (cellsFrom (sC.heap.objs.size + 1) scope.names (cloFrom X.env.cells scope.names [])) fp
  have elm := elemA sC (upd HB D (.dK [])) sC.heap.objs.size (cellsFrom (sC.heap.objs.size + 1) scope.names (cloFrom X.env.cells scope.names [])) fp
  show codeAny _ _ (.compStart (.DictComp elt eltv [⟨tg, iter, ifs, 0⟩] scope pos) 0 (.ref it) (.ref D) (compEnvC scope (cellsFrom (sC.heap.objs.size + 1) scope.names (cloFrom X.env.cells scope.names [])) sC.heap.objs.size X.env)) (compPost (model X.prog X.w) X.A X.xe use Qf (.ref D) sC.heap.objs.size) { sC with heap := pushCells (sC.heap.push { cls := .type "dict", data := .dict #[] }) scope.names }
  have untr : ∀ b ∈ fp, (upd HB D (.dK [])) b = none := fun b hb => (roam3 b hb).1.1
  generalize blkE : compEnvC scope (cellsFrom (sC.heap.objs.size + 1) scope.names (cloFrom X.env.cells scope.names [])) sC.heap.objs.size X.env = ce at J4 tgt tst elm elv ⊢
  have locE : ce.locals = sC.heap.objs.size := by subst blkE; rfl
  generalize heapE : upd HB D (.dK []) = HC at J3 J4 tgt tst elm elv inv0 untr roam3
  generalize laid4 : ({ sC with heap := pushCells (sC.heap.push { cls := .type "dict", data := .dict #[] }) scope.names } : Shared) = sD at J4 ⊢
  have turn4 : tn 0 sD.heap := T.keep _ _ _ turn3 fun b _ o e => by rw [← laid4]; exact pushCells_keeps _ _ _ _ (Heap.get?_push_of_some _ e)
  have roams : ∀ {σ' : L2.St} {H' : Hp} {s' : Shared}, Inv (X.blk sC HC scope ce fp) [] σ' H' s' → (∀ b ∈ fp, H' b = none) → ∀ b ∈ fp, FpOk (X.blk sC HC scope ce fp) [] H' b := fun {σ' H' s'} I' nsC b hb =>
    ⟨nsC b hb, (I'.ok.exf b hb).1, I'.ok.exfs b hb, .inl hb, fun x c e => (I'.ok.exf b hb).2 x c e, fun p hp => absurd (show p ∈ ([] : List (Addr × Obj)) ++ [] from hp) (by simp)⟩
  have outer0 : codeAny (model X.prog X.w) X.A (.compLoop (.DictComp elt eltv [⟨tg, iter, ifs, 0⟩] scope pos) 0 (.ref it) (.ref D) ce) (compPost (model X.prog X.w) X.A X.xe use Qf (.ref D) sC.heap.objs.size) sD := by
    refine compLoop_anyD (fun n s' => ∃ i H', Inv (X.blk sC HC scope ce fp) [] (wipe σ (own.map (·.2))) H' s' ∧ tn i s'.heap ∧ (∀ b ∈ fp, H' b = none) ∧ W i n H') ?_ mes0 ⟨0, HC, J4, turn4, untr, inv0⟩
    rintro n sE ⟨i, HE, J5, turn5, un5, inv5⟩
    rcases walk0 i n HE inv5 with ⟨atEnd, done0⟩ | ⟨more, NxA, reach, body0⟩
    · have ended := T.done (X.blk sC HC scope ce fp) rfl rfl rfl mood i [] sE _ HE (fun _ _ => False) J5 (roams J5 un5) turn5 atEnd
      refine thnF ended fun r sF ⟨hr, J6⟩ => ?_
      subst hr
      have J7 : Inv X pins σ HE sF := J3.call' (ch := fp) J6.os J6.base J6.hok J6.bare fun b hb => ⟨(roam3 b hb).1.2.2.2.1, (roam3 b hb).1.2.1, (roam3 b hb).1.2.2.2.2.1, (roam3 b hb).1.2.2.2.2.2⟩
      have freeC : HE sC.heap.objs.size = none := by
        have z : HE ce.locals = none := J6.free
        rw [locE] at z
        exact z
      obtain ⟨m, nsC, _⟩ := J6.loc
      have nsC : sF.heap.Ns ce.locals m := nsC
      rw [locE] at nsC
      have kAll : Kc c0 s sF := fun o eo => by
        have e3 : sC.heap.get? c0 = some o := by
          rw [heap3]
          exact Heap.get?_push_of_some _ (kB o eo)
        refine J6.base.keep c0 o e3 (Ce.free J3) (Ce.nostk J3) fun hb => ?_
        exact (roam3 c0 hb).1.2.2.2.2.1 _ _ Ce.is rfl
      exact back D sC.heap.objs.size sF m HE kAll J7 done0 nsC (J3.fpOk (Nat.le_refl _) freeC)
    · have given := T.item (X.blk sC HC scope ce fp) rfl rfl rfl mood i [] sE _ HE (fun _ _ => False) J5 (roams J5 un5) turn5 more
      refine thnF given fun r sF ⟨u, hr, got6⟩ => ?_
      subst hr
      refine thnF got6 fun _ sG ⟨x, HG, J7, rel7, yld7, turn7, un7⟩ => ?_
      have J7p := J7.pinned (roams J7 un7) (T.obj _ _ turn7)
      refine thnF (tgt.run _ sG _ HG x u _ J7p rel7 (body0 x HG yld7)) fun _ sH ⟨τ, HH, J8, wip8, go8⟩ => ?_
      refine thnF (tst.run _ sH τ HH _ J8 go8) fun b sI ⟨HI, J9, go9⟩ => ?_
      have close : ∀ {s' : Shared} {H' : Hp}, Inv (X.blk sC HC scope ce fp) ([] ++ pinsAt fp sG.heap) τ H' s' → NxA H' →
          ∃ m, m < n ∧ ∃ i H', Inv (X.blk sC HC scope ce fp) [] (wipe σ (own.map (·.2))) H' s' ∧ tn i s'.heap ∧ (∀ b ∈ fp, H' b = none) ∧ W i m H' := fun {s' H'} I' nextW => by
        obtain ⟨m', lessM, invM⟩ := reach H' nextW
        have kept : ∀ b ∈ fp, ∀ o, sG.heap.get? b = some o → s'.heap.get? b = some o ∧ H' b = none := fun b hb o e =>
          let z := I'.pin (b, o) (List.mem_append_right _ (List.mem_append_right _ (mem_pinsAt hb e)))
          ⟨z.1, z.2.1⟩
        refine ⟨m', lessM, i + 1, H', (I'.unpinned (pins := [])).weak (by rw [← wip8, wipe_length]) (fun j v e => by rw [← wip8] at e; exact (wipe_some e).1), T.keep _ _ _ turn7 fun b hb o e => (kept b hb o e).1, fun b hb => ?_, invM⟩
        obtain ⟨o, e, _⟩ := T.obj _ _ turn7 b hb
        exact (kept b hb o e).2
      cases b with
      | false =>
        simp only [Bool.false_eq_true, if_false] at go9 ⊢
        exact close J9 go9
      | true =>
        simp only [if_true] at go9 ⊢
        refine thnF (elm.run _ sI τ HI _ J9 go9) fun z sQ ⟨yv, HQ, J17, rel17, go17⟩ => ?_
        refine thnF (elv.run _ sQ τ HQ _ J17 go17) fun z2 sR ⟨yw, HR, J18, rel18, kvs, kk, ey, acc18, room18, nextW⟩ => ?_
        subst ey
        exact d_dictSet (X := X.blk sC HC scope ce fp) J18 acc18 room18 rel17 rel18 fun sS J19 => close J19 nextW
  exact codeAny_compStart_dict outer0 (T.self X.A 0 _ _ _ turn4 outer0)
/-- as a value -/
theorem je_dc {y0 : Str} {c0 : Addr} (Ce : Cel X y0 c0) {elt eltv tg iter : Expr} {ifs : List Expr} {scope : Scope} {own : List (Str × Nat)} {pos : Pos} {wi : TI} {g : TG} {tt : TT} {te tf : TE} (mood : X.calm = true) (nodupN : X.N.Nodup) (sourceA : JI X c0 tg iter wi) (ok : BlkOk X.N X.env.scope scope own)
    (targetA : ∀ (s : Shared) (H : Hp) (C : Addr) (cl : List (Str × Addr)) (fp : List Addr), PG (X.blk s H scope (compEnvC scope cl C X.env) fp) tg g) (testsA : ∀ (s : Shared) (H : Hp) (C : Addr) (cl : List (Str × Addr)) (fp : List Addr), PTs (X.blk s H scope (compEnvC scope cl C X.env) fp) ifs tt)
    (elemA : ∀ (s : Shared) (H : Hp) (C : Addr) (cl : List (Str × Addr)) (fp : List Addr), PE (X.blk s H scope (compEnvC scope cl C X.env) fp) elt te)
    (valA : ∀ (s : Shared) (H : Hp) (C : Addr) (cl : List (Str × Addr)) (fp : List Addr), PE (X.blk s H scope (compEnvC scope cl C X.env) fp) eltv tf) (plainA : ∀ x, foldedSetIterable iter X.env x = pure x := by intro _; rfl) :
    JE X c0 (.DictComp elt eltv [⟨tg, iter, ifs, 0⟩] scope pos) (tDc wi g tt te tf (own.map (·.2))) := by
  refine ⟨fun pins s σ H Q I h => ?_⟩
  rw [arm_eval_DictComp]
  refine dcJ_core Ce mood nodupN I sourceA ok targetA testsA elemA valA plainA h fun D C s' m H' kAll I' q nsC f => ⟨m, nsC, fun h'' sb => ?_⟩
  obtain ⟨f0, f1, f2, roam3, f4, f5⟩ := f
  have away : c0 ≠ C := f4 _ _ Ce.is
  exact ⟨kAll.trans fun o e => (sb.2 c0 away).trans e, .ref D, H', I'.turned (t' := s'.toks) (fun b o hb e => (sb.2 b hb).trans e) f0 f1 roam3 f4 f5, rfl, q⟩
theorem je_callTy {c : Addr} {T : String} {r : List V → Hp → VK → Prop} {x : Str} {p pos : Pos} {e : Expr} {es : List Expr} {t : TA} (hc : CallJ X c (.type T) r) (hg : Gl X x) (hm : X.mg x = none) (hv : bootBuiltins x = some (.type T)) (ha : JA X c (e :: es) t) (hn : x ≠ "__name__" := by decide) (hdb : (x == ("__debug__" : Str)) = false := by decide)
    (he : starEach (e :: es) X.env = (false, eval e X.env) :: starEach es X.env := by rfl) (hpl : (backTo pos (starEach es X.env)).any (·.1) = false := by rfl) : JE X c (.Call (.Name x p) (e :: es) [] pos) (tCB r t) := by
  refine ⟨fun pins s σ H Q I h => ?_⟩
  refine wpAny_Call_Name_kw (ld_blt I hg hm hv ?_ hn hdb)
  refine PyProof.Rows.callWith_type1 (thn (ha.run pos pins s σ H _ I h) fun us s1 hh => ?_) he hpl
  obtain ⟨g1, vs, H1, I1, r1, q1⟩ := hh
  exact thn (hc pins s1 σ H1 vs us Q I1 r1 q1) fun u s2 ⟨g2, q2⟩ => ⟨g1.trans g2, q2⟩
theorem cj_setL {c : Addr} (hc : X.calm = true) : CallJ X c (.type "set") (rSetL X.K X.w) := by
  intro pins s σ H vs us Q I r h
  obtain ⟨l, zs, rfl, hs, few, q⟩ := h
  rw [Vals.ref1 r]
  obtain ⟨its, rv, pl, _⟩ := I.list hs
  refine set_of_list (I.ok.hd hc) pl.isList (by simpa using ints_of_vals rv) (by unfold scanBound; omega) fun g tk m R lm kept => ?_
  have free : H s.heap.objs.size = none := I.hok.fresh (Nat.le_refl _)
  exact ⟨fun o e => kept _ _ e, .ref s.heap.objs.size, upd H s.heap.objs.size (SetO X.w s.heap.objs.size (fun j => decide (j ∈ zs)) m), I.laid kept (Nat.le_refl _) (setO_new R), rfl, q _ m free lm (setR_count R)⟩
end
end Sq
set_option Elab.async false
set_option linter.all false
set_option maxRecDepth 100000
set_option maxHeartbeats 4000000
/-! Code that knows what stands in one cell, to the token: text.replace(character, ''). -/
namespace Sq
open PySem PySem.Spec PyProof.Rows L2 GenW
theorem Kc.cell {c : Addr} {s s' : Shared} {v : Option Value} (k : Kc c s s') (h : s.heap.IsCell c v) : s'.heap.IsCell c v := by
  obtain ⟨o, e, d⟩ := h
  exact ⟨o, k o e, d⟩
structure JR (X : Cx) (c : Addr) (u0 : Value) (n : Nat) (e : Expr) (t : TE) : Prop where
  run : ∀ (pins : List (Addr × Obj)) (s : Shared) (σ : L2.St) (H : Hp) (Q : VK), Inv X pins σ H s → n ≤ s.toks → s.heap.IsCell c (some u0) → t σ H Q → wpAny (model X.prog X.w) X.A (eval e X.env) (EP X pins σ Q) X.xe s
structure JRs (X : Cx) (c : Addr) (u0 : Value) (n : Nat) (sts : List Stmt) (t : TS) : Prop where
  run : ∀ (pins : List (Addr × Obj)) (s : Shared) (σ : L2.St) (H : Hp) (D : Ends), Inv X pins σ H s → n ≤ s.toks → s.heap.IsCell c (some u0) → t D σ H → wpAny (model X.prog X.w) X.A (execs sts X.env) (SP X pins D) X.xe s
section
variable {X : Cx} {c : Addr} {u0 : Value} {n : Nat} {x y : Str} {p pos : Pos} {e e2 : Expr} {es : List Expr} {te tf : TE} {t : TA} {st : Stmt} {rest : List Stmt} {ts tr : TS}
theorem jrs_cons (h1 : JSt X c st ts) (h2 : JRs X c u0 n rest tr) : JRs X c u0 n (st :: rest) (tSeq ts tr) := by
  refine ⟨fun pins s σ H D I hn hc h => ?_⟩
  refine wpAny_execs_cons (wpAny_mono (PySem.wpAny_toks (h1.run pins s σ H { D with nx := tr D } I h)) (fun f s1 hh => ?_) fun _ _ z => z.2)
  obtain ⟨hk, kc, q⟩ := hh
  match f, q with
  | .next, ⟨σ', H', I', q⟩ => exact h2.run pins s1 σ' H' D I' (Nat.le_trans hn hk) (kc.cell hc) q
  | .ret v, q => exact q
  | .brk, q => exact q
  | .cont, q => exact q
/-- the last one that knows it: x = e, then what doesn't -/
theorem jrs_set {i : Nat} {pos' : Pos} (hN : X.N.Nodup) (hi : X.N[i]? = some x) (hx : Loc X.env.scope x) (he : JR X c u0 n e te) (h2 : PSs X rest tr) (hs : swapsWith e (some (.Name x pos')) pos.line X.env = pure false := by rfl) (hf : X.fn x = true ∨ X.env.scope.names.lookup x = some .local := by first | exact .inl rfl | exact .inr rfl | assumption) :
    JRs X c u0 n (.Assign [.Name x pos'] e pos :: rest) (tSeq (tAsg te (gName i)) tr) := by
  refine ⟨fun pins s σ H D I hn hc h => ?_⟩
  refine wpAny_execs_cons (wpAny_Assign_Name (thn (he.run pins s σ H _ I hn hc h) fun v s1 hh => ?_) hs)
  obtain ⟨z, H1, I1, r1, q1⟩ := hh
  exact store_ok I1 hN hi hx r1 (fun s2 I2 => h2.run pins s2 _ H1 D I2 q1) hf
theorem jr_op {op : Operator} {r : R2} (ho : OpR X (binaryOp op) r) (ha : JR X c u0 n e te) (hb : PE X e2 tf) : JR X c u0 n (.BinOp e op e2 pos) (tOp r te tf) := by
  refine ⟨fun pins s σ H Q I hn hc h => ?_⟩
  refine wpAny_BinOp (thn (ha.run pins s σ H _ I hn hc h) fun v s1 hh => ?_)
  obtain ⟨a, H1, I1, r1, q1⟩ := hh
  exact thn (hb.run pins s1 σ H1 _ I1 q1) fun u s2 ⟨b, H2, I2, r2, q2⟩ => ho pins s2 σ H2 a b v u Q I2 r1 r2 q2
/-- T(e) -/
theorem jr_callTy {T : String} {r : List V → Hp → VK → Prop} (hc : CallR X (.type T) r) (hg : Gl X x) (hm : X.mg x = none) (hv : bootBuiltins x = some (.type T)) (ha : JR X c u0 n e te) (hn : x ≠ "__name__" := by decide) (hdb : (x == ("__debug__" : Str)) = false := by decide)
    (he : starEach [e] X.env = (false, eval e X.env) :: starEach [] X.env := by rfl) (hpl : (backTo pos (starEach [] X.env)).any (·.1) = false := by rfl) : JR X c u0 n (.Call (.Name x p) [e] [] pos) (tCB r (tCons te tNil)) := by
  refine ⟨fun pins s σ H Q I hn' hcell h => ?_⟩
  refine wpAny_Call_Name_kw (ld_blt I hg hm hv ?_ hn hdb)
  refine PyProof.Rows.callWith_type1 ?_ he hpl
  rw [he]
  show wpAny _ _ (spliced ((false, eval e X.env) :: backTo pos (starEach [] X.env))) _ _ s
  refine Calls.spliced_cons (thn (ha.run pins s σ H _ I hn' hcell h) fun u s1 hh => ?_)
  obtain ⟨v, H1, I1, r1, q1⟩ := hh
  exact Calls.spliced_nil (hc pins s1 σ H1 [v] [u] Q I1 (.cons r1 .nil) q1)
/-- the name's own value, to the token -/
theorem raw_cell {pins : List (Addr × Obj)} {σ : L2.St} {H : Hp} {s : Shared} {Q E : Value → Shared → Prop} (I : Inv X pins σ H s) (hk : X.env.kindOf y = some .cell) (hc : X.env.cells.lookup y = some c) (hcell : s.heap.IsCell c (some u0)) (fin : Q u0 s)
    (hd : (y == ("__debug__" : Str)) = false := by decide) : wpAny (model X.prog X.w) X.A (eval (.Name y pos) X.env) Q E s :=
  wpAny_Name (wpAny_loadName_cell I.ok.kind hk hc hcell fin) hd
/-- text.replace(character, z): the text in a slot, the character in the cell, z written -/
def tRepJ (i : Nat) (b z : Str) : TE := fun σ H Q => ∃ a : Str, σ[i]? = some (some (.str a)) ∧ a.length + (a.length + 1) * z.length ≤ 16777216 ∧ Q (.str (Txt.replace a b z)) H
theorem jr_rep {i : Nat} {kx : Str} {b z : Str} {tb : Tok} {j : Nat} {p1 p2 c1 apos : Pos} (hN : X.N[i]? = some kx) (hv : Vis X.env.scope kx) (hk : X.env.kindOf y = some .cell) (hc : X.env.cells.lookup y = some c) (good : tb ≠ 0 ∧ tb < n) (hbz : (b == z) = false)
    (hd : (kx == ("__debug__" : Str)) = false := by decide) (hcd : (kx == ("__classdict__" : Str)) = false := by decide) (hdy : (y == ("__debug__" : Str)) = false := by decide)
    (hst : starEach [.Name y p2, .Constant (.str z) j c1] X.env = [(false, eval (.Name y p2) X.env), (false, eval (.Constant (.str z) j c1) X.env)] := by rfl)
    (hbase : attributeBase (.Name kx p1) "replace" X.env (eval (.Name kx p1) X.env) = eval (.Name kx p1) X.env := by rfl) (hline : (apos.endLine == pos.line) = true := by rfl) :
    JR X c (.str b tb) n (.Call (.Attribute (.Name kx p1) "replace" apos) [.Name y p2, .Constant (.str z) j c1] [] pos) (tRepJ i b z) := by
  refine ⟨fun pins s σ H Q I hn hcell h => ?_⟩
  obtain ⟨a, ha, few, q⟩ := h
  refine PySem.Call_method2 hbase hst hline (raw_name hN hv I ha (fun v r => ?_) hd hcd)
  obtain ⟨ta, e1⟩ := r
  subst e1
  refine ⟨"str", _, PySem.F.plainAttrs_str, PySem.F.slot_str_replace, PySem.F.type_str_replace, typeIs_str _ _ _, (fun _ e => nomatch e), Calls.callWith_builtin rfl (Calls.evalArgs_plain (Calls.spliced_cons (raw_cell I hk hc hcell ?_ hdy)))⟩
  refine Calls.spliced_cons (Calls.Constant_str (Calls.spliced_nil ?_))
  have g1 : tb ≠ 0 := good.1
  have g2 : tb < n := good.2
  exact PySem.SC.replace g1 (Nat.ne_of_gt (Nat.lt_of_lt_of_le (Nat.lt_of_le_of_lt (Nat.zero_le tb) g2) hn)) (Nat.ne_of_lt (Nat.lt_of_lt_of_le g2 hn)) hbz few fun t' k => ⟨.str (Txt.replace a b z), H, I.tok k, ⟨t', rfl⟩, q⟩
end
/-- a def whose promise needs one argument's token: it isn't 0 and was given out before -/
def Tkn (j : Nat) (us : List Value) (n : Nat) : Prop := ∀ b t, us[j]? = some (.str b t) → b.length = 1 → t ≠ 0 ∧ t < n
structure FnT (P : Program) (w : World) (K : PySem.W.Frag) (mg : Str → Option Value) (base : Heap) (k : Nat) (f : Addr) (fd : FuncData) (ps : List Str) (j : Nat) (sp : Sp) : Prop where
  len : ∀ vs H Q E, sp vs H Q E → vs.length = ps.length
  run : ∀ (A : Around) (outer : List Env) (s : Shared) (H : Hp) (args : Args) (us : List Value) (vs : List V) (Q : VK), Room k A → Env0 P w K mg base A outer s H → BindsTo s fd args (ps.zip us) → Vals vs us → Tkn j us s.toks → sp vs H Q E0 →
    codeAny (model P w) A (.call (.ref f) args) (fun r s' => match r with | .ok (.ret u) => CE outer P w H s Q u s' | _ => False) s
theorem fnt_of {P : Program} {w : World} {K : PySem.W.Frag} {mg : Str → Option Value} {base : Heap} {x qual y : Str} {st : Stmt} {f : Addr} {fd : FuncData} {N ps : List Str} {k j : Nat} {sp : Sp} (F : Fun K x qual st f fd) (S : FnScope N ps (defScope st)) (len : ∀ vs H Q E, sp vs H Q E → vs.length = ps.length)
    (hy : ps[j]? = some y) (hk : (defScope st).names.lookup y = some .cell)
    (walk : ∀ (cdv : Value) (A : Around) (outer : List Env) (s : Shared) (H : Hp) (us : List Value) (vs : List V) (Q : VK) (c : Addr) (u0 : Value), Room k (A.deeper (envOfC qual (defScope st) s.heap.objs.size f cdv)) → sp vs H Q E0 → Vals vs us → Tkn j us s.toks → us[j]? = some u0 → Cel (cxOf CX0 P w K mg base N qual (defScope st) f cdv A outer s H E0).nox y c →
      ∃ t, JRs (cxOf CX0 P w K mg base N qual (defScope st) f cdv A outer s H E0).nox c u0 s.toks (defBody st) t ∧ t { nx := fun _ H' => Q .non H', rt := Q } (L2.start N vs) H) : FnT P w K mg base (k + 1) f fd ps j sp := by
  obtain ⟨oc, od, kV, doc, pm, an, cdv, ct, osl, rfl, lk, hcd⟩ := F.ex
  refine ⟨len, fun A outer s H args us vs Q hr e0 hb r tkn hsp => ?_⟩
  have hl := len _ _ _ _ hsp
  have KX : K.In s.heap := e0.mod.kin.keeps fun b o e => (e0.bs b o e).1
  have lim : s.heap.NoLimit := e0.mod.nolimit.keeps fun b o e => (e0.bs b o e).1
  have hkind : ∀ y ∈ ps.zip us, (defScope st).names.lookup y.1 = some .local ∨ ((defScope st).names.lookup y.1 = some .cell ∧ ((cellsFrom (s.heap.objs.size + 1) (defScope st).names []).lookup y.1).isSome = true) := fun ⟨n, v⟩ hy =>
    (S.par n (List.of_mem_zip hy).1).elim .inl fun z => .inr ⟨z, PySem.W.cellsFrom_some _ _ _ (.inl z)⟩
  refine codeAny_call_function hr.depth (KX _ _ lk) rfl S.co S.gen rfl (PySem.W.codeRec_of KX hcd) (hb _ _ _ _ ?_)
  refine PySem.wpAny_with_toks (Nat.le_refl s.toks) (wpAny_newFunctionEnv_cells S.kind hkind fun env he s1 made toks1 => ?_)
  subst he
  refine ⟨lim.keeps made.toInCall.keep, codeAny_func ?_⟩
  obtain ⟨c, hc⟩ := cell_has (n := s.heap.objs.size + 1) hk
  have jl : j < ps.length := (List.getElem?_eq_some_iff.mp hy).1
  obtain ⟨u0, hu⟩ : ∃ u0, us[j]? = some u0 := ⟨us[j]'(by rw [← r.length, hl]; exact jl), List.getElem?_eq_getElem _⟩
  have ndP : ps.Nodup := by rw [← S.pre]; exact S.nd.sublist (List.take_sublist _ _)
  have at1 := made.cell y c hc
  rw [bindC_get ndP hy hu (by show (defScope st).names.lookup y ≠ _; rw [hk]; decide)] at at1
  obtain ⟨t, ht, hq⟩ := walk cdv A outer s H us vs Q c u0 (hr.deeper _) hsp r tkn hu ⟨hc, rfl⟩
  have I : Inv (cxOf CX0 P w K mg base N qual (defScope st) f cdv A outer s H E0).nox [] (start N vs) H s1 := (inv_start S hr.hd e0 hl r made).wish _
  refine wpAny_mono (ht.run [] s1 (start N vs) H _ I toks1 at1 hq) (fun fl s' hs => ?_) fun e s' hs => False.elim hs
  match fl, hs with
  | .ret u, ⟨v, σ', H', J, rv, q⟩ => exact ⟨v, H', J.os, J.bare, J.base, J.hok, rv, q⟩
  | .next, ⟨σ', H', J, q⟩ => exact ⟨V.non, H', J.os, J.bare, J.base, J.hok, rfl, q⟩
  | .brk, ⟨_, _, _, q⟩ => exact False.elim q
  | .cont, ⟨_, _, _, q⟩ => exact False.elim q
end Sq
set_option Elab.async false
set_option linter.all false
set_option maxRecDepth 100000
set_option maxHeartbeats 4000000
/-! for i, c in enumerate(text). -/
set_option Elab.async false
set_option linter.all false
set_option maxRecDepth 100000
set_option maxHeartbeats 4000000
/-! Code that keeps one cell and may use what stands in it: expressions, tests, statements. -/
namespace Sq
open PySem PySem.Spec PyProof.Rows L2 GenW
/-- the cell is kept, and n tokens were given out -/
def Kn2 (c : Addr) (n : Nat) (s s' : Shared) : Prop := Kc c s s' ∧ n ≤ s'.toks
theorem Kn2.trans {c : Addr} {n : Nat} {s s1 s2 : Shared} (a : Kn2 c n s s1) (b : Kn2 c n s1 s2) : Kn2 c n s s2 := ⟨a.1.trans b.1, b.2⟩
structure JK (X : Cx) (c : Addr) (u0 : Value) (n : Nat) (e : Expr) (t : TE) : Prop where
  run : ∀ (pins : List (Addr × Obj)) (s : Shared) (σ : L2.St) (H : Hp) (Q : VK), Inv X pins σ H s → n ≤ s.toks → s.heap.IsCell c (some u0) → t σ H Q → wpAny (model X.prog X.w) X.A (eval e X.env) (fun u s' => Kn2 c n s s' ∧ EP X pins σ Q u s') X.xe s
structure JKA (X : Cx) (c : Addr) (u0 : Value) (n : Nat) (es : List Expr) (t : TA) : Prop where
  run : ∀ (pos : Pos) (pins : List (Addr × Obj)) (s : Shared) (σ : L2.St) (H : Hp) (Q : List V → Hp → Prop), Inv X pins σ H s → n ≤ s.toks → s.heap.IsCell c (some u0) → t σ H Q → wpAny (model X.prog X.w) X.A (spliced (backTo pos (starEach es X.env))) (fun us s' => Kn2 c n s s' ∧ AP X pins σ Q us s') X.xe s
structure JKT (X : Cx) (c : Addr) (u0 : Value) (n : Nat) (e : Expr) (t : TT) : Prop where
  run : ∀ (pins : List (Addr × Obj)) (s : Shared) (σ : L2.St) (H : Hp) (Q : Bool → Hp → Prop), Inv X pins σ H s → n ≤ s.toks → s.heap.IsCell c (some u0) → t σ H Q → wpAny (model X.prog X.w) X.A (isTrue e X.env (eval e X.env)) (fun b s' => Kn2 c n s s' ∧ TP X pins σ Q b s') X.xe s
structure JKS (X : Cx) (c : Addr) (u0 : Value) (n : Nat) (st : Stmt) (t : TS) : Prop where
  run : ∀ (pins : List (Addr × Obj)) (s : Shared) (σ : L2.St) (H : Hp) (D : Ends), Inv X pins σ H s → n ≤ s.toks → s.heap.IsCell c (some u0) → t D σ H → wpAny (model X.prog X.w) X.A (exec st X.env) (fun f s' => Kn2 c n s s' ∧ SP X pins D f s') X.xe s
section
variable {X : Cx} {c : Addr} {u0 : Value} {n : Nat} {x y : Str} {p pos : Pos} {e e2 : Expr} {es : List Expr} {te tf : TE} {t : TA} {st : Stmt} {rest a b : List Stmt} {ts tr : TS} {tt : TT}
theorem jk_of (h : JE X c e te) : JK X c u0 n e te :=
  ⟨fun pins s σ H Q I hn _ q => wpAny_mono (PySem.wpAny_toks_of hn (h.run pins s σ H Q I q)) (fun _ _ z => ⟨⟨z.2.1, z.1⟩, z.2.2⟩) fun _ _ z => z.2⟩
theorem jks_of (h : JSt X c st ts) : JKS X c u0 n st ts :=
  ⟨fun pins s σ H D I hn _ q => wpAny_mono (PySem.wpAny_toks_of hn (h.run pins s σ H D I q)) (fun _ _ z => ⟨⟨z.2.1, z.1⟩, z.2.2⟩) fun _ _ z => z.2⟩
theorem jka_nil : JKA X c u0 n [] tNil := ⟨fun pos pins s σ H Q I hn _ h => Calls.spliced_nil ⟨⟨Kc.refl, hn⟩, [], H, I, .nil, h⟩⟩
theorem jka_cons (ha : JK X c u0 n e te) (hr : JKA X c u0 n es t) (hs : starEach (e :: es) X.env = (false, eval e X.env) :: starEach es X.env := by rfl) : JKA X c u0 n (e :: es) (tCons te t) := by
  refine ⟨fun pos pins s σ H Q I hn hc h => ?_⟩
  rw [hs]
  show wpAny _ _ (spliced ((false, eval e X.env) :: backTo pos (starEach es X.env))) _ _ s
  refine Calls.spliced_cons (thn (ha.run pins s σ H _ I hn hc h) fun u s1 hh => ?_)
  obtain ⟨g1, x, H1, I1, r1, q1⟩ := hh
  exact thn (hr.run pos pins s1 σ H1 _ I1 g1.2 (g1.1.cell hc) q1) fun us s2 ⟨g2, xs, H2, I2, r2, q2⟩ => ⟨g1.trans g2, x :: xs, H2, I2, .cons r1 r2, q2⟩
/-- [e, ..] -/
theorem jk_lst {ta : TA} (h : JKA X c u0 n es ta) : JK X c u0 n (.List es pos) (tLst ta) := by
  refine ⟨fun pins s σ H Q I hn hc hq => ?_⟩
  refine wpAny_List_spliced (thn (h.run pos pins s σ H _ I hn hc hq) fun us s1 hh => ?_)
  obtain ⟨g1, xs, H1, I1, r, z, q⟩ := hh
  refine ⟨by rw [← r.length]; exact z, g1.trans ⟨fun o e => Heap.get?_push_of_some _ e, g1.2⟩, .ref s1.heap.objs.size, upd H1 s1.heap.objs.size (.lst xs), I1.laid (t' := s1.toks) (fun b u e => Heap.get?_push_of_some _ e) (Nat.le_refl _) ?_, rfl, q _ (I1.hok.fresh (Nat.le_refl _))⟩
  exact ⟨z, us, 0, r, Heap.get?_push_size _ rfl⟩
/-- an operator of which only the kept cell is to be told -/
def OpJ (X : Cx) (c : Addr) (op : Value → Value → Sem Value) (r : R2) : Prop :=
  ∀ (pins : List (Addr × Obj)) (s : Shared) (σ : L2.St) (H : Hp) (x y : V) (v u : Value) (Q : VK), Inv X pins σ H s → RelV x v → RelV y u → r x y H Q → wpAny (model X.prog X.w) X.A (op v u) (fun w s' => Kc c s s' ∧ EP X pins σ Q w s') X.xe s
/-! ### statements -/
theorem jks_set {i : Nat} {pos' : Pos} (C : Cel X y c) (ne : x ≠ y) (hN : X.N.Nodup) (hi : X.N[i]? = some x) (hx : Loc X.env.scope x) (he : JK X c u0 n e te) (hs : swapsWith e (some (.Name x pos')) pos.line X.env = pure false := by rfl) (hf : X.fn x = true ∨ X.env.scope.names.lookup x = some .local := by first | exact .inl rfl | exact .inr rfl | assumption) :
    JKS X c u0 n (.Assign [.Name x pos'] e pos) (tAsg te (gName i)) := by
  refine ⟨fun pins s σ H D I hn hc h => ?_⟩
  refine wpAny_Assign_Name (thn (he.run pins s σ H _ I hn hc h) fun v s1 hh => ?_) hs
  obtain ⟨g1, z, H1, I1, r1, q1⟩ := hh
  refine wpAny_mono (PySem.wpAny_toks_of g1.2 (store_ok2 (E := X.xe) (Q := fun _ s2 => Kc c s1 s2 ∧ ∃ σ' H', Inv X pins σ' H' s2 ∧ D.nx σ' H') I1 hN hi hx r1 (fun s2 I2 hh => ?_) hf)) (fun _ _ z => ⟨g1.trans ⟨z.2.1, z.1⟩, z.2.2⟩) fun _ _ z => z.2
  obtain ⟨a, sb, ha⟩ := hh
  have ca : c ≠ a := fun z => by
    rcases ha with ha | ha
    · exact I1.cne _ _ C.is (z.trans ha)
    · rw [← z] at ha
      exact ne (I1.ok.inj _ _ _ ha C.is)
  exact ⟨fun o e => (sb.2 c ca).trans e, _, H1, I2, q1⟩
end
end Sq
set_option Elab.async false
set_option linter.all false
set_option maxRecDepth 100000
set_option maxHeartbeats 4000000
/-! Calls of a def whose promise needs one argument's token. -/
namespace Sq
open PySem PySem.Spec PyProof.Rows L2 GenW
structure DfT (P : Program) (w : World) (K : PySem.W.Frag) (mg : Str → Option Value) (base : Heap) (k : Nat) (x : Str) (ps : List Str) (j : Nat) (sp : Sp) : Prop where
  ex : ∃ f fd, FnT P w K mg base k f fd ps j sp ∧ mg x = some (.ref f) ∧ PySem.W.keepIn K (.ref f) = true ∧ Binds K fd ps []
end Sq
set_option Elab.async false
set_option linter.all false
set_option maxRecDepth 100000
set_option maxHeartbeats 4000000
/-! More code that keeps one cell: lists compared, repr, an item of a list, tests. -/
namespace Sq
open PySem PySem.Spec PyProof.Rows L2 GenW
section
variable {X : Cx} {c : Addr} {u0 : Value} {n : Nat} {x y : Str} {p pos : Pos} {e e2 : Expr} {es : List Expr} {te tf : TE} {t : TA}
theorem oj_neD (hu : X.A.units + 64 < cLine) : OpJ X c (compareOp .NotEq) (rNeD X.K) := by
  intro pins s σ H x y v u Q I rx ry h
  obtain ⟨d, e, hd, he, sd, se, q⟩ := h
  obtain ⟨as, r1⟩ := Dp.reads I d x v hd rx
  obtain ⟨bs, r2⟩ := Dp.reads I e y u he ry
  exact SeqAt.compareNe_shaped r1 r2 sd se hu ⟨Kc.refl, .bl _, H, I, rfl, q⟩
theorem cj_reprD (hg : X.A.guards = some []) (hu : X.A.units + 64 < cLine) : CallJ X c (.builtin "repr") (rReprD X.K) := by
  intro pins s σ H xs us Q I r h
  obtain ⟨a, d, rfl, hd, sh, nd, dep, sz, q⟩ := h
  obtain ⟨u, rfl, rv⟩ := vals1 r
  obtain rfl : u = Value.ref a := rv
  obtain ⟨as, rd⟩ := Dp.reads I d _ _ hd (show RelV (.ref a) (.ref a) from rfl)
  refine repr_of_reads' rd sh (by rw [nd]; exact fun z => nomatch z) hg (by omega) (fun b o e => e) (fun h' u tk keep => ?_) sz
  exact ⟨fun o e => keep _ _ e, .str _, H, I.kept keep, ⟨_, rfl⟩, q⟩
/-- l[i], i not negative -/
def rIxP (K : PySem.W.Frag) : R2 := fun x y H Q => ∃ (p : Addr) (xs : List V) (i : Nat) (v : V), x = .ref p ∧ y = .int (i : Int) ∧ SqL K H p xs ∧ xs[i]? = some v ∧ Q v H
theorem jk_ixP (ha : JK X c u0 n e te) (hb : JK X c u0 n e2 tf) (hs : PlainIx e2) : JK X c u0 n (.Subscript e e2 pos) (tOp (rIxP X.K) te tf) := by
  refine ⟨fun pins s σ H Q I hn hc h => ?_⟩
  refine Subscript_ (thn (ha.run pins s σ H _ I hn hc h) fun v s1 hh => ?_)
  obtain ⟨g1, a, H1, I1, r1, q1⟩ := hh
  refine thn (hb.run pins s1 σ H1 _ I1 g1.2 (g1.1.cell hc) q1) fun u s2 hh => ?_
  obtain ⟨g2, b, H2, I2, r2, l, xs, i, z, rfl, rfl, hq, hz, q⟩ := hh
  cases r1
  obtain ⟨tk, rfl⟩ := r2
  obtain ⟨its, r, pl, few⟩ := I2.list hq
  obtain ⟨w, ew, rw'⟩ := r.get hz
  have il : i < xs.length := (List.getElem?_eq_some_iff.mp hz).1
  have hl := r.length
  have line := line63
  refine item_listR pl.isList (Int.natCast_nonneg i) (by omega) (x := w) (by simpa using ew) ⟨g1.trans g2, z, H2, I2, rw', q⟩ (hs _ _)
/-! ### tests -/
theorem jkt_cmp {op : CmpOp} {r : R2} (ho : OpJ X c (compareOp op) r) (ha : JK X c u0 n e te) (hb : JK X c u0 n e2 tf) (hm : behindInMarks op e2 = false) : JKT X c u0 n (.Compare e [op] [e2] pos) (tTest (tOp r te tf)) := by
  refine ⟨fun pins s σ H Q I hn hc h => ?_⟩
  refine wpAny_isTrue_Compare1 (thn (ha.run pins s σ H _ I hn hc h) fun v s1 hh => ?_) hm
  obtain ⟨g1, a, H1, I1, r1, q1⟩ := hh
  refine thn (hb.run pins s1 σ H1 _ I1 g1.2 (g1.1.cell hc) q1) fun u s2 hh => ?_
  obtain ⟨g2, b, H2, I2, r2, q2⟩ := hh
  refine wpAny_mono (PySem.wpAny_toks_of g2.2 (ho pins s2 σ H2 a b v u _ I2 r1 r2 q2)) (fun w s3 z => ?_) fun _ _ z => z.2
  obtain ⟨t3, k3, b3, H3, I3, r3, k, e3, q3⟩ := z
  subst e3
  cases r3
  exact wpAny_truthy_bool ⟨(g1.trans g2).trans ⟨k3, t3⟩, H3, I3, q3⟩
end
end Sq
set_option Elab.async false
set_option linter.all false
set_option maxRecDepth 100000
set_option maxHeartbeats 4000000
/-! A name that is a cell is stored: what stands in the cell is known from then on. -/
namespace Sq
open PySem PySem.Spec PyProof.Rows L2 GenW
section
variable {X : Cx} {c : Addr} {n : Nat} {x : Str} {p pos : Pos} {e : Expr} {te : TE} {pins : List (Addr × Obj)} {σ : L2.St} {H : Hp} {s : Shared} {rest : List Stmt} {tr : TS}
theorem store_cellS {M : Model} {A : Around} {E : Value → Shared → Prop} {i : Nat} {v : V} {u : Value} {Q : Unit → Shared → Prop} (I : Inv X pins σ H s) (hN : X.N.Nodup) (hi : X.N[i]? = some x) (hk : X.env.kindOf x = some .cell) (C : Cel X x c) (r : RelV v u)
    (h : ∀ h', Inv X pins (σ.set i (some v)) H { s with heap := h' } → h'.IsCell c (some u) → Heap.SameBut c s.heap h' → Q () { s with heap := h' }) : wpAny M A (storeName X.env x u) Q E s := by
  obtain ⟨m, hn, hl⟩ := id I.loc
  have hiσ : i < σ.length := by rw [I.len]; exact (List.getElem?_eq_some_iff.mp hi).1
  obtain ⟨w0, old⟩ := I.cell x c C.is
  refine wpAny_storeName_cell I.ok.kind hk C.is old fun h' new sb => h h' ?_ new sb
  obtain ⟨oc, hoc, hod⟩ := id old
  have above : ∀ b o, X.s_0.heap.get? b = some o → b ≠ c := fun b o e => Nat.ne_of_lt (Nat.lt_of_lt_of_le (Heap.lt_size e) (I.ok.cab x c C.own C.is))
  have freeC := I.freeC x c C.is
  have loc2 : ∀ (j : Nat) (z : Str) (v' : V), X.N[j]? = some z → (σ.set i (some v))[j]? = some (some v') → Vis X.env.scope z → ∃ u', RelV v' u' ∧ Look X.env h' m z u' := fun j z v' e1 e2 e3 => by
    by_cases hj : j = i
    · subst hj
      rw [hi] at e1
      cases e1
      rw [List.getElem?_set_self hiσ] at e2
      cases e2
      exact ⟨u, r, .inr ⟨.inl hk, c, C.is, new⟩⟩
    · rw [List.getElem?_set_ne (Ne.symm hj)] at e2
      obtain ⟨u', r', q⟩ := hl j z v' e1 e2 e3
      rcases q with q | ⟨k, c2, e4, z4⟩
      · exact ⟨u', r', .inl q⟩
      · have away : c2 ≠ c := fun y => by
          rw [y] at e4
          exact hj (nodup_ix hN e1 (I.ok.inj _ _ _ e4 C.is ▸ hi))
        exact ⟨u', r', .inr ⟨k, c2, e4, z4.sameBut sb away⟩⟩
  refine ⟨I.ok, I.os, I.bare, ⟨fun b o e n hb hx => (sb.2 b (above b o e)).trans (I.base.keep b o e n hb hx), fun b o e n hb hx => ?_, I.base.free, fun b o e hx => ?_, I.base.tups, I.base.frzs, I.base.tbls⟩, ⟨m, hn.sameBut sb (Ne.symm (I.cne x c C.is)), loc2⟩, fun z c2 e => ?_, I.free, I.freeC, fun p hp => ?_, fun b ob e => ?_, by simpa using I.len⟩
  · obtain ⟨sl, e1⟩ := I.base.slot b o e n hb hx
    exact ⟨sl, (sb.2 b (above b o e)).trans e1⟩
  · obtain ⟨o2, e1⟩ := I.base.there b o e hx
    exact ⟨o2, (sb.2 b (above b o e)).trans e1⟩
  · by_cases y : c2 = c
    · rw [y]
      exact ⟨_, new⟩
    · obtain ⟨w2, z2⟩ := I.cell z c2 e
      exact ⟨w2, z2.sameBut sb y⟩
  · obtain ⟨e1, n1, ne1, nf1, d1⟩ := I.pin p hp
    have away : p.1 ≠ c := fun y => by
      rw [y, hoc] at e1
      exact d1 w0 (by rw [← Option.some.inj e1]; exact hod)
    exact ⟨(sb.2 p.1 away).trans e1, n1, ne1, nf1, d1⟩
  · refine (I.hok b ob e).stay (fun b2 w2 hb2 q => (sb.2 b2 fun y => ?_).trans q) (fun _ q => q) fun _ _ q => q
    rw [y, freeC] at hb2
    rcases hb2 with z | z
    · rw [← z, freeC] at e
      cases e
    · cases z
theorem store_cellJ {M : Model} {A : Around} {E : Value → Shared → Prop} {i : Nat} {v : V} {u : Value} {Q : Unit → Shared → Prop} (I : Inv X pins σ H s) (hN : X.N.Nodup) (hi : X.N[i]? = some x) (hk : X.env.kindOf x = some .cell) (C : Cel X x c) (r : RelV v u)
    (h : ∀ h', Inv X pins (σ.set i (some v)) H { s with heap := h' } → h'.IsCell c (some u) → Q () { s with heap := h' }) : wpAny M A (storeName X.env x u) Q E s :=
  store_cellS I hN hi hk C r fun h' I' z _ => h h' I' z
end
end Sq
set_option Elab.async false
set_option linter.all false
set_option maxRecDepth 100000
set_option maxHeartbeats 4000000
/-! for over a list, one cell kept. -/
set_option Elab.async false
set_option linter.all false
set_option maxRecDepth 100000
set_option maxHeartbeats 4000000
/-! A list comprehension with one for, one cell kept. -/
namespace Sq
open PySem PySem.Spec PyProof.Rows L2 GenW
section
variable {X : Cx}
theorem lcJ_core {y0 : Str} {c0 : Addr} (Ce : Cel X y0 c0) {pins : List (Addr × Obj)} {s : Shared} {σ : L2.St} {H : Hp} {Q : VK} {elt tg iter : Expr} {ifs : List Expr} {scope : Scope} {own : List (Str × Nat)} {pos pos' : Pos} {wi : TI} {g : TG} {tt : TT} {te : TE} {use : Option (Value → Sem Unit)} {Qf : Value → Shared → Prop}
    (mood : X.calm = true) (nodupN : X.N.Nodup) (I : Inv X pins σ H s) (sourceA : JI X c0 tg iter wi) (ok : BlkOk X.N X.env.scope scope own)
    (targetA : ∀ (s : Shared) (H : Hp) (C : Addr) (cl : List (Str × Addr)) (fp : List Addr), PG (X.blk s H scope (compEnvC scope cl C X.env) fp) tg g) (testsA : ∀ (s : Shared) (H : Hp) (C : Addr) (cl : List (Str × Addr)) (fp : List Addr), PTs (X.blk s H scope (compEnvC scope cl C X.env) fp) ifs tt)
    (elemA : ∀ (s : Shared) (H : Hp) (C : Addr) (cl : List (Str × Addr)) (fp : List Addr), PE (X.blk s H scope (compEnvC scope cl C X.env) fp) elt te) (plainA : ∀ x, foldedSetIterable iter X.env x = pure x)
    (h : tLc wi g tt te (own.map (·.2)) σ H Q)
    (back : ∀ D C s' m H', Kc c0 s s' → Inv X pins σ H' s' → Q (.ref D) H' → s'.heap.Ns C m → FpOk X pins H' C → compPost (model X.prog X.w) X.A X.xe use Qf (.ref D) C (.ok .next) s') :
    wpAny (model X.prog X.w) X.A (comprehension (.ListComp elt [⟨tg, iter, ifs, 0⟩] scope pos) scope X.env pos' (newList []) false (eval iter X.env) use) Qf X.xe s := by
  have captured : ∀ y ∈ scope.names, y.2 = .free → ∃ c, X.env.cells.lookup y.1 = some c := fun y hy e => by
    rcases ok.free y hy e with k | k
    · exact I.ok.has _ (.inl k)
    · exact I.ok.has _ (.inr k)
  refine wpAny_comprehension_free (use := use) rfl plainA (closure_ok captured) ok.kind (fun y hy e => by rw [ok.uniq y hy, e])
    (thn (sourceA.run pins s σ H _ I h) fun srcV sA gotX => thn gotX fun itV sB hB2 => ?_)
  obtain ⟨kB, h2⟩ := hB2
  obtain ⟨it, fp, tn, J, HB, e, I2, T, st2, f2, q⟩ := h2
  subst e
  refine wpAny_newObj_type (newEnv_comp ?_) (Nat.zero_le _)
  generalize atD : sB.heap.objs.size = D
  have freshD : HB D = none := I2.hok.fresh (Nat.le_of_eq atD)
  obtain ⟨W, ⟨mes0, inv0⟩, walk0⟩ := q D freshD
  -- the new list
  generalize laid3 : ({ sB with heap := sB.heap.push { cls := .type "list", data := .seq ([] : List Value).toArray } } : Shared) = sC
  have J3 : Inv X pins σ (upd HB D (.lst [])) sC := by
    rw [← laid3]
    refine I2.laid (t' := sB.toks) (fun b o e => Heap.get?_push_of_some _ e) (Nat.le_of_eq atD) ⟨Nat.zero_le _, [], 0, .nil, ?_⟩
    rw [← atD]
    exact Heap.get?_push_size _ rfl
  have heap3 : sC.heap = sB.heap.push { cls := .type "list", data := .seq ([] : List Value).toArray } := by rw [← laid3]
  have below : ∀ b ∈ fp, b < sB.heap.objs.size := fun b hb => by
    obtain ⟨o, e, _⟩ := T.obj _ _ st2 b hb
    exact Heap.lt_size e
  have roam3 : ∀ b ∈ fp, FpOk X pins (upd HB D (.lst [])) b ∧ b < sC.heap.objs.size := fun b hb => by
    have hlt := below b hb
    refine ⟨⟨?_, (f2 b hb).2⟩, by rw [heap3, Heap.size_push]; exact Nat.lt_succ_of_lt hlt⟩
    rw [upd_ne (by rw [← atD]; exact Nat.ne_of_lt hlt)]
    exact (f2 b hb).1
  have turn3 : tn 0 sC.heap := T.keep _ _ _ st2 fun b _ o e => by rw [heap3]; exact Heap.get?_push_of_some _ e
  have J4 := block_start J3 ok nodupN roam3
  have tgt := targetA sC (upd HB D (.lst [])) sC.heap.objs.size (cellsFrom (sC.heap.objs.size + 1) scope.names (cloFrom X.env.cells scope.names [])) fp
  have tst := testsA sC (upd HB D (.lst [])) sC.heap.objs.size (cellsFrom (sC.heap.objs.size + 1) scope.names (cloFrom X.env.cells scope.names [])) fp
  have elm := elemA sC (upd HB D (.lst [])) sC.heap.objs.size (cellsFrom (sC.heap.objs.size + 1) scope.names (cloFrom X.env.cells scope.names [])) fp
  show codeAny _ _ (.compStart (.ListComp elt [⟨tg, iter, ifs, 0⟩] scope pos) 0 (.ref it) (.ref D) (compEnvC scope (cellsFrom (sC.heap.objs.size + 1) scope.names (cloFrom X.env.cells scope.names [])) sC.heap.objs.size X.env)) (compPost (model X.prog X.w) X.A X.xe use Qf (.ref D) sC.heap.objs.size) { sC with heap := pushCells (sC.heap.push { cls := .type "dict", data := .dict #[] }) scope.names }
  have untr : ∀ b ∈ fp, (upd HB D (.lst [])) b = none := fun b hb => (roam3 b hb).1.1
  generalize blkE : compEnvC scope (cellsFrom (sC.heap.objs.size + 1) scope.names (cloFrom X.env.cells scope.names [])) sC.heap.objs.size X.env = ce at J4 tgt tst elm ⊢
  have locE : ce.locals = sC.heap.objs.size := by subst blkE; rfl
  generalize heapE : upd HB D (.lst []) = HC at J3 J4 tgt tst elm inv0 untr roam3
  generalize laid4 : ({ sC with heap := pushCells (sC.heap.push { cls := .type "dict", data := .dict #[] }) scope.names } : Shared) = sD at J4 ⊢
  have turn4 : tn 0 sD.heap := T.keep _ _ _ turn3 fun b _ o e => by rw [← laid4]; exact pushCells_keeps _ _ _ _ (Heap.get?_push_of_some _ e)
  have roams : ∀ {σ' : L2.St} {H' : Hp} {s' : Shared}, Inv (X.blk sC HC scope ce fp) [] σ' H' s' → (∀ b ∈ fp, H' b = none) → ∀ b ∈ fp, FpOk (X.blk sC HC scope ce fp) [] H' b := fun {σ' H' s'} I' nsC b hb =>
    ⟨nsC b hb, (I'.ok.exf b hb).1, I'.ok.exfs b hb, .inl hb, fun x c e => (I'.ok.exf b hb).2 x c e, fun p hp => absurd (show p ∈ ([] : List (Addr × Obj)) ++ [] from hp) (by simp)⟩
  have outer0 : codeAny (model X.prog X.w) X.A (.compLoop (.ListComp elt [⟨tg, iter, ifs, 0⟩] scope pos) 0 (.ref it) (.ref D) ce) (compPost (model X.prog X.w) X.A X.xe use Qf (.ref D) sC.heap.objs.size) sD := by
    refine compLoop_any (fun n s' => ∃ i H', Inv (X.blk sC HC scope ce fp) [] (wipe σ (own.map (·.2))) H' s' ∧ tn i s'.heap ∧ (∀ b ∈ fp, H' b = none) ∧ W i n H') ?_ mes0 ⟨0, HC, J4, turn4, untr, inv0⟩
    rintro n sE ⟨i, HE, J5, turn5, un5, inv5⟩
    rcases walk0 i n HE inv5 with ⟨atEnd, done0⟩ | ⟨more, NxA, reach, body0⟩
    · have ended := T.done (X.blk sC HC scope ce fp) rfl rfl rfl mood i [] sE _ HE (fun _ _ => False) J5 (roams J5 un5) turn5 atEnd
      refine thnF ended fun r sF ⟨hr, J6⟩ => ?_
      subst hr
      have J7 : Inv X pins σ HE sF := J3.call' (ch := fp) J6.os J6.base J6.hok J6.bare fun b hb => ⟨(roam3 b hb).1.2.2.2.1, (roam3 b hb).1.2.1, (roam3 b hb).1.2.2.2.2.1, (roam3 b hb).1.2.2.2.2.2⟩
      have freeC : HE sC.heap.objs.size = none := by
        have z : HE ce.locals = none := J6.free
        rw [locE] at z
        exact z
      obtain ⟨m, nsC, _⟩ := J6.loc
      have nsC : sF.heap.Ns ce.locals m := nsC
      rw [locE] at nsC
      have kAll : Kc c0 s sF := fun o eo => by
        have e3 : sC.heap.get? c0 = some o := by
          rw [heap3]
          exact Heap.get?_push_of_some _ (kB o eo)
        refine J6.base.keep c0 o e3 (Ce.free J3) (Ce.nostk J3) fun hb => ?_
        exact (roam3 c0 hb).1.2.2.2.2.1 _ _ Ce.is rfl
      exact back D sC.heap.objs.size sF m HE kAll J7 done0 nsC (J3.fpOk (Nat.le_refl _) freeC)
    · have given := T.item (X.blk sC HC scope ce fp) rfl rfl rfl mood i [] sE _ HE (fun _ _ => False) J5 (roams J5 un5) turn5 more
      refine thnF given fun r sF ⟨u, hr, got6⟩ => ?_
      subst hr
      refine thnF got6 fun _ sG ⟨x, HG, J7, rel7, yld7, turn7, un7⟩ => ?_
      have J7p := J7.pinned (roams J7 un7) (T.obj _ _ turn7)
      refine thnF (tgt.run _ sG _ HG x u _ J7p rel7 (body0 x HG yld7)) fun _ sH ⟨τ, HH, J8, wip8, go8⟩ => ?_
      refine thnF (tst.run _ sH τ HH _ J8 go8) fun b sI ⟨HI, J9, go9⟩ => ?_
      have close : ∀ {s' : Shared} {H' : Hp}, Inv (X.blk sC HC scope ce fp) ([] ++ pinsAt fp sG.heap) τ H' s' → NxA H' →
          ∃ m, m < n ∧ ∃ i H', Inv (X.blk sC HC scope ce fp) [] (wipe σ (own.map (·.2))) H' s' ∧ tn i s'.heap ∧ (∀ b ∈ fp, H' b = none) ∧ W i m H' := fun {s' H'} I' nextW => by
        obtain ⟨m', lessM, invM⟩ := reach H' nextW
        have kept : ∀ b ∈ fp, ∀ o, sG.heap.get? b = some o → s'.heap.get? b = some o ∧ H' b = none := fun b hb o e =>
          let z := I'.pin (b, o) (List.mem_append_right _ (List.mem_append_right _ (mem_pinsAt hb e)))
          ⟨z.1, z.2.1⟩
        refine ⟨m', lessM, i + 1, H', (I'.unpinned (pins := [])).weak (by rw [← wip8, wipe_length]) (fun j v e => by rw [← wip8] at e; exact (wipe_some e).1), T.keep _ _ _ turn7 fun b hb o e => (kept b hb o e).1, fun b hb => ?_, invM⟩
        obtain ⟨o, e, _⟩ := T.obj _ _ turn7 b hb
        exact (kept b hb o e).2
      cases b with
      | false =>
        simp only [Bool.false_eq_true, if_false] at go9 ⊢
        exact close J9 go9
      | true =>
        simp only [if_true] at go9 ⊢
        refine thnF (elm.run _ sI τ HI _ J9 go9) fun z sQ ⟨yv, HQ, J17, rel17, acc, acc17, room17, nextW⟩ => ?_
        exact app_ok (X := X.blk sC HC scope ce fp) J17 acc17 room17 rel17 fun sR J18 => close J18 nextW
  exact codeAny_compStart_list outer0 (T.self X.A 0 _ _ _ turn4 outer0)
/-- as a value -/
theorem je_lc {y0 : Str} {c0 : Addr} (Ce : Cel X y0 c0) {elt tg iter : Expr} {ifs : List Expr} {scope : Scope} {own : List (Str × Nat)} {pos : Pos} {wi : TI} {g : TG} {tt : TT} {te : TE} (mood : X.calm = true) (nodupN : X.N.Nodup) (sourceA : JI X c0 tg iter wi) (ok : BlkOk X.N X.env.scope scope own)
    (targetA : ∀ (s : Shared) (H : Hp) (C : Addr) (cl : List (Str × Addr)) (fp : List Addr), PG (X.blk s H scope (compEnvC scope cl C X.env) fp) tg g) (testsA : ∀ (s : Shared) (H : Hp) (C : Addr) (cl : List (Str × Addr)) (fp : List Addr), PTs (X.blk s H scope (compEnvC scope cl C X.env) fp) ifs tt)
    (elemA : ∀ (s : Shared) (H : Hp) (C : Addr) (cl : List (Str × Addr)) (fp : List Addr), PE (X.blk s H scope (compEnvC scope cl C X.env) fp) elt te) (plainA : ∀ x, foldedSetIterable iter X.env x = pure x := by intro _; rfl) :
    JE X c0 (.ListComp elt [⟨tg, iter, ifs, 0⟩] scope pos) (tLc wi g tt te (own.map (·.2))) := by
  refine ⟨fun pins s σ H Q I h => ?_⟩
  rw [arm_eval_ListComp]
  refine lcJ_core Ce mood nodupN I sourceA ok targetA testsA elemA plainA h fun D C s' m H' kAll I' q nsC f => ⟨m, nsC, fun h'' sb => ?_⟩
  obtain ⟨f0, f1, f2, roam3, f4, f5⟩ := f
  have away : c0 ≠ C := f4 _ _ Ce.is
  exact ⟨kAll.trans fun o e => (sb.2 c0 away).trans e, .ref D, H', I'.turned (t' := s'.toks) (fun b o hb e => (sb.2 b hb).trans e) f0 f1 roam3 f4 f5, rfl, q⟩
end
end Sq
set_option Elab.async false
set_option linter.all false
set_option maxRecDepth 100000
set_option maxHeartbeats 4000000
/-! Slices of lists, texts compared, `or` of tests, the signs of a text: one cell kept. -/
namespace Sq
open PySem PySem.Spec PyProof.Rows L2 GenW
section
variable {X : Cx} {c : Addr} {u0 : Value} {n : Nat} {x y : Str} {p pos p2 : Pos} {e e2 : Expr} {es : List Expr} {te tf : TE} {t tA tB' : TT} {lo hi : Option Expr} {tl th : TO}
/-! ### slices -/
/-! ### or -/
structure JW (X : Cx) (c : Addr) (u0 : Value) (n : Nat) (e : Expr) (t : TT) : Prop where
  run : ∀ (whole : Sem Value) (pins : List (Addr × Obj)) (s : Shared) (σ : L2.St) (H : Hp) (Q : Bool → Hp → Prop), Inv X pins σ H s → n ≤ s.toks → s.heap.IsCell c (some u0) → t σ H Q → wpAny (model X.prog X.w) X.A (isTrue e X.env whole) (fun b s' => Kn2 c n s s' ∧ TP X pins σ Q b s') X.xe s
theorem JW.pt (h : JW X c u0 n e t) : JKT X c u0 n e t := ⟨h.run _⟩
/-! ### the signs of a text, as a comprehension's source -/
end
end Sq
set_option Elab.async false
set_option linter.all false
set_option maxRecDepth 100000
set_option maxHeartbeats 4000000
/-! a, b = e, f: one cell kept. -/
namespace Sq
open PySem PySem.Spec PyProof.Rows L2 GenW
section
variable {X : Cx} {c : Addr} {y : Str}
theorem store_keep {M : Model} {A : Around} {E : Value → Shared → Prop} {pins : List (Addr × Obj)} {σ : L2.St} {H : Hp} {s : Shared} {i : Nat} {x : Str} {v : V} {u : Value} {Q : Unit → Shared → Prop} (C : Cel X y c) (ne : x ≠ y) (I : Inv X pins σ H s) (hN : X.N.Nodup) (hi : X.N[i]? = some x) (hx : Loc X.env.scope x) (r : RelV v u)
    (h : ∀ s', Inv X pins (σ.set i (some v)) H s' → Kc c s s' → Q () s') (hf : X.fn x = true ∨ X.env.scope.names.lookup x = some .local) : wpAny M A (storeName X.env x u) Q E s := by
  refine store_ok2 I hN hi hx r (fun s2 I2 hh => ?_) hf
  obtain ⟨a, sb, ha⟩ := hh
  have ca : c ≠ a := fun z => by
    rcases ha with ha | ha
    · exact I.cne _ _ C.is (z.trans ha)
    · rw [← z] at ha
      exact ne (I.ok.inj _ _ _ ha C.is)
  exact h s2 I2 fun o e => (sb.2 c ca).trans e
theorem jst_par {i j : Nat} {x z : Str} {a b : Expr} {ta : TA} {px pz pt spos : Pos} {kt k2 pt2} (C : Cel X y c) (nx : x ≠ y) (nz : z ≠ y) (mood : X.calm = true) (hN : X.N.Nodup) (hi : X.N[i]? = some x) (hj : X.N[j]? = some z) (hij : i ≠ j)
    (hx : X.env.scope.names.lookup x = some .local) (hz : X.env.scope.names.lookup z = some .local) (ha : JA X c [a, b] ta)
    (hw : swappedStores [.Tuple [.Name x px, .Name z pz] kt pt] (.Tuple [a, b] k2 pt2) X.env = pure (some [x, z]))
    (hs : swapsWithSole [.Tuple [.Name x px, .Name z pz] kt pt] (.Tuple [a, b] k2 pt2) spos.line X.env = pure false := by rfl) :
    JSt X c (.Assign [.Tuple [.Name x px, .Name z pz] kt pt] (.Tuple [a, b] k2 pt2) spos) (tPar i j ta) := by
  refine ⟨fun pins s σ H D I h => ?_⟩
  rw [exec_Assign_arm]
  refine wpAny_bind (wpAny_standAt ?_)
  rw [hs]
  refine wpAny_bind (wpAny_pure ?_)
  rw [if_neg (by decide)]
  refine wpAny_bind (Tuple_ (thn (ha.run _ pins s σ H _ I h) fun us s1 hh => ?_))
  obtain ⟨g1, vs, H1, I1, r1, v, w, e1, q1⟩ := hh
  subst e1
  obtain ⟨u1, u2, rfl, rv, rw'⟩ := vals2 r1
  refine wpAny_newObj_type ?_ (by show 2 ≤ sizeLine; decide)
  have g2 : Kc c s { s1 with heap := s1.heap.push { cls := .type "tuple", data := .seq [u1, u2].toArray } } := g1.trans fun o e => Heap.get?_push_of_some _ e
  have I2 : Inv X pins σ H1 { s1 with heap := s1.heap.push { cls := .type "tuple", data := .seq [u1, u2].toArray } } := I1.kept (t' := s1.toks) fun b o e => Heap.get?_push_of_some _ e
  rw [hw]
  refine wpAny_bind (wpAny_pure ?_)
  show wpAny (model X.prog X.w) X.A (do rule "assign.swapped-stores"; let items ← unpackItems (.ref s1.heap.objs.size) 2 none; assignInOrder [fun v => bindName X.env z v, fun v => bindName X.env x v] items.reverse; pure Flow.next) _ _ _
  refine wpAny_bind (wpAny_rule (wpAny_bind (unpackItems_tuple (items := #[u1, u2]) (I.ok.hd mood) (IsTup.new s1.heap _) fun h' hx' => ?_)))
  have stay := fun (b : Addr) (o : Obj) (e : (s1.heap.push { cls := .type "tuple", data := .seq [u1, u2].toArray }).get? b = some o) => hx' b o (Nat.ne_of_lt (Heap.lt_size e)) e
  have I3 := I2.kept (h' := h') (t' := s1.toks) stay
  have g3 : Kc c s { s1 with heap := h' } := g2.trans fun o e => stay _ _ e
  show wpAny _ _ (assignInOrder [fun v => bindName X.env z v, fun v => bindName X.env x v] [u2, u1] >>= fun _ => pure Flow.next) _ _ _
  refine wpAny_bind (assignInOrder_cons (wpAny_bindName (store_keep C nz I3 hN hj (.inl hz) rw' (fun s2 I4 g4 => ?_) (.inr hz))))
  refine assignInOrder_cons (wpAny_bindName (store_keep C nx I4 hN hi (.inl hx) rv (fun s3 I5 g5 => assignInOrder_nil (wpAny_pure ?_)) (.inr hx)))
  rw [List.set_comm _ _ (Ne.symm hij)] at I5
  exact ⟨(g3.trans g4).trans g5, _, H1, I5, q1⟩
end
end Sq
set_option Elab.async false
set_option linter.all false
set_option maxRecDepth 100000
set_option maxHeartbeats 4000000
/-! A def whose promise needs one argument's token, called by keywords. -/
namespace Sq
open PySem PySem.Spec PyProof.Rows L2 GenW
section
variable {X : Cx} {c : Addr} {u0 : Value} {n j : Nat} {x y : Str} {p pos kpos : Pos} {e : Expr} {te : TE} {t tk : TA} {kws : List Keyword} {nm : Option Str}
/-- the same as DfT by keywords -/
structure DkT (P : Program) (w : World) (K : PySem.W.Frag) (mg : Str → Option Value) (base : Heap) (k : Nat) (x : Str) (ps ks : List Str) (gV : List V → List V → List V) (j j' : Nat) (sp : Sp) : Prop where
  ex : ∃ f fd g, FnT P w K mg base k f fd ps j' sp ∧ mg x = some (.ref f) ∧ PySem.W.keepIn K (.ref f) = true ∧ KBn K fd ps 0 ks g gV ∧ ∀ ws m, ws.length = ks.length → Tkn j ws m → Tkn j' (g [] ws) m
end
end Sq
set_option Elab.async false
set_option linter.all false
set_option maxRecDepth 100000
set_option maxHeartbeats 4000000
/-! Written texts and truth values, return: one cell kept. -/
namespace Sq
open PySem PySem.Spec PyProof.Rows L2 GenW
section
variable {X : Cx} {c : Addr} {u0 : Value} {n : Nat} {pos : Pos} {e : Expr} {te : TE}
theorem je_str {z : Str} {k : Nat} : JE X c (.Constant (.str z) k pos) (tC (.str z)) :=
  ⟨fun pins s σ H Q I h => Calls.Constant_str ⟨Kc.refl, .str z, H, I.tok _, ⟨_, rfl⟩, h⟩⟩
end
end Sq
set_option Elab.async false
set_option linter.all false
set_option maxRecDepth 100000
set_option maxHeartbeats 4000000
/-! A call with a written sign, outside of any cell: something before it has given a token out. -/
namespace Sq
open PySem PySem.Spec PyProof.Rows L2 GenW
/-- e gives a token out -/
structure PEg (X : Cx) (e : Expr) (t : TE) : Prop where
  run : ∀ (pins : List (Addr × Obj)) (s : Shared) (σ : L2.St) (H : Hp) (Q : VK), Inv X pins σ H s → t σ H Q → wpAny (model X.prog X.w) X.A (eval e X.env) (fun u s' => 1 ≤ s'.toks ∧ EP X pins σ Q u s') X.xe s
end Sq
set_option Elab.async false
set_option linter.all false
set_option maxRecDepth 100000
set_option maxHeartbeats 4000000
/-! Code that keeps what is known of the state (Θ): the raw value of a name, how many tokens were given out. -/
namespace Sq
open PySem PySem.Spec PyProof.Rows L2 GenW
/-- u was stored as x -/
def Put (X : Cx) (x : Str) (u : Value) (s s' : Shared) : Prop :=
  (X.env.scope.names.lookup x = some .local ∧ Heap.SameBut X.env.locals s.heap s'.heap ∧ ∃ m, s.heap.Ns X.env.locals m ∧ s'.heap.Ns X.env.locals (fun z => if z = x then some u else m z)) ∨
  (∃ c, X.env.cells.lookup x = some c ∧ Heap.SameBut c s.heap s'.heap ∧ s'.heap.IsCell c (some u))
/-- what code keeps that doesn't store to ys -/
structure Clo (X : Cx) (ys : List Str) (Θ : Shared → Prop) : Prop where
  but : ∀ {pins : List (Addr × Obj)} {σ : L2.St} {H : Hp} {s s' : Shared} (fp : List Addr), Inv X pins σ H s → s.toks ≤ s'.toks → (∀ b ∈ fp, b ≠ X.env.locals ∧ ∀ x c, X.env.cells.lookup x = some c → c ≠ b) → (∀ b o, b ∉ fp → s.heap.get? b = some o → s'.heap.get? b = some o) → Θ s → Θ s'
  un : ∀ {pins : List (Addr × Obj)} {σ : L2.St} {H H' : Hp} {s s' : Shared} (ex : List Addr), Inv X pins σ H s → s.toks ≤ s'.toks → (∀ b ∈ ex, b ≠ X.env.locals ∧ ∀ x c, X.env.cells.lookup x = some c → c ≠ b) → Un (frs X.stack) ex H H' s.heap s'.heap → Θ s → Θ s'
  st : ∀ {pins : List (Addr × Obj)} {σ : L2.St} {H : Hp} {s s' : Shared} {x : Str} {u : Value}, Inv X pins σ H s → x ∉ ys → s.toks ≤ s'.toks → Put X x u s s' → Θ s → Θ s'
theorem Clo.kept {X : Cx} {ys : List Str} {Θ : Shared → Prop} (C : Clo X ys Θ) {pins : List (Addr × Obj)} {σ : L2.St} {H : Hp} {s s' : Shared} (I : Inv X pins σ H s) (t : s.toks ≤ s'.toks) (k : ∀ b o, s.heap.get? b = some o → s'.heap.get? b = some o) (θ : Θ s) : Θ s' :=
  C.but [] I t (fun _ z => nomatch z) (fun b o _ e => k b o e) θ
theorem Clo.tok {X : Cx} {ys : List Str} {Θ : Shared → Prop} (C : Clo X ys Θ) {pins : List (Addr × Obj)} {σ : L2.St} {H : Hp} {s : Shared} (I : Inv X pins σ H s) (θ : Θ s) : Θ { s with toks := s.toks + 1 } :=
  C.kept I (Nat.le_add_right _ _) (fun _ _ e => e) θ
theorem Clo.push {X : Cx} {ys : List Str} {Θ : Shared → Prop} (C : Clo X ys Θ) {pins : List (Addr × Obj)} {σ : L2.St} {H : Hp} {s : Shared} {o : Obj} (I : Inv X pins σ H s) (θ : Θ s) : Θ { s with heap := s.heap.push o } :=
  C.kept I (Nat.le_refl _) (fun _ _ e => Heap.get?_push_of_some _ e) θ
theorem Clo.un0 {X : Cx} {ys : List Str} {Θ : Shared → Prop} (C : Clo X ys Θ) {pins : List (Addr × Obj)} {σ : L2.St} {H H' : Hp} {s s' : Shared} (I : Inv X pins σ H s) (t : s.toks ≤ s'.toks) (u : Un (frs X.stack) [] H H' s.heap s'.heap) (θ : Θ s) : Θ s' :=
  C.un [] I t (fun _ z => nomatch z) u θ
/-- n tokens were given out -/
theorem clo_n {X : Cx} {n : Nat} : Clo X [] (fun s => n ≤ s.toks) :=
  ⟨fun _ _ t _ _ h => Nat.le_trans h t, fun _ _ t _ _ h => Nat.le_trans h t, fun _ _ t _ h => Nat.le_trans h t⟩
theorem Clo.and {X : Cx} {ys zs : List Str} {Θ Φ : Shared → Prop} (a : Clo X ys Θ) (b : Clo X zs Φ) : Clo X (ys ++ zs) (fun s => Θ s ∧ Φ s) :=
  ⟨fun fp I t f k h => ⟨a.but fp I t f k h.1, b.but fp I t f k h.2⟩, fun ex I t f u h => ⟨a.un ex I t f u h.1, b.un ex I t f u h.2⟩,
    fun I n t p h => ⟨a.st I (fun z => n (List.mem_append_left _ z)) t p h.1, b.st I (fun z => n (List.mem_append_right _ z)) t p h.2⟩⟩
/-- the raw value of a local name -/
def Raw (X : Cx) (y : Str) (u : Value) (s : Shared) : Prop := ∃ m, s.heap.Ns X.env.locals m ∧ m y = some u
theorem clo_raw {X : Cx} {y : Str} {u : Value} (hl : X.env.scope.names.lookup y = some .local) : Clo X [y] (Raw X y u) := by
  refine ⟨fun {pins σ H s s'} fp I t f k h => ?_, fun {pins σ H H' s s'} ex I t f un h => ?_, fun {pins σ H s s' x v} I n t p h => ?_⟩
  · obtain ⟨m, ⟨o, es, ep, ho, rest⟩, e⟩ := h
    exact ⟨m, ⟨o, es, ep, k _ _ (fun z => (f _ z).1 rfl) ho, rest⟩, e⟩
  · obtain ⟨m, ⟨o, es, ep, ho, rest⟩, e⟩ := h
    obtain ⟨sl, e2⟩ := un.any ho I.free (fun z => (f _ z).1 rfl)
    exact ⟨m, ⟨_, es, ep, e2, rest⟩, e⟩
  · obtain ⟨m, ns, e⟩ := h
    have ne : y ≠ x := fun z => n (by rw [z]; exact List.mem_singleton_self _)
    rcases p with ⟨_, _, m2, ns2, new⟩ | ⟨c, hc, sb, _⟩
    · refine ⟨_, new, ?_⟩
      show (if y = x then some v else m2 y) = some u
      rw [if_neg ne, ns2.agree ns y]
      exact e
    · exact ⟨m, ns.sameBut sb (Ne.symm (I.cne x c hc)), e⟩
/-- the raw value of a name that has a cell -/
def RawC (X : Cx) (c : Addr) (u : Value) (s : Shared) : Prop := s.heap.IsCell c (some u)
theorem clo_cell {X : Cx} {y : Str} {c : Addr} {u : Value} (hc : X.env.cells.lookup y = some c) : Clo X [y] (RawC X c u) := by
  refine ⟨fun {pins σ H s s'} fp I t f k h => ?_, fun {pins σ H H' s s'} ex I t f un h => ?_, fun {pins σ H s s' x v} I n t p h => ?_⟩
  · obtain ⟨o, ho, rest⟩ := h
    exact ⟨o, k _ _ (fun z => (f _ z).2 _ _ hc rfl) ho, rest⟩
  · obtain ⟨o, ho, rest⟩ := h
    obtain ⟨sl, e2⟩ := un.any ho (I.freeC _ _ hc) (fun z => (f _ z).2 _ _ hc rfl)
    exact ⟨_, e2, rest⟩
  · have ne : x ≠ y := fun z => n (by rw [z]; exact List.mem_singleton_self _)
    have k : ∀ a, c ≠ a → Heap.SameBut a s.heap s'.heap → RawC X c u s' := fun a na sb => by
      obtain ⟨o, ho, rest⟩ := h
      exact ⟨o, (sb.2 c na).trans ho, rest⟩
    rcases p with ⟨_, sb, _⟩ | ⟨c2, hc2, sb, _⟩
    · exact k _ (I.cne y c hc) sb
    · exact k _ (fun z => ne (I.ok.inj x y c (by rw [z]; exact hc2) hc)) sb
section
variable {X : Cx} {pins : List (Addr × Obj)} {σ : L2.St} {H : Hp} {s : Shared} {x : Str}
/-- a name is stored; what is known of the state afterwards -/
theorem put_ok {M : Model} {A : Around} {E : Value → Shared → Prop} {i : Nat} {v : V} {u : Value} {Q : Unit → Shared → Prop} (I : Inv X pins σ H s) (hN : X.N.Nodup) (hi : X.N[i]? = some x) (hx : Loc X.env.scope x) (r : RelV v u)
    (h : ∀ s', Inv X pins (σ.set i (some v)) H s' → s.toks ≤ s'.toks → Put X x u s s' → Q () s') (hf : X.fn x = true ∨ X.env.scope.names.lookup x = some .local) : wpAny M A (storeName X.env x u) Q E s := by
  rcases hx with hk | hk
  · obtain ⟨m, ns, look⟩ := id I.loc
    have inside : i < σ.length := by rw [I.len]; exact (List.getElem?_eq_some_iff.mp hi).1
    have notcls : (X.env.scope.kind == .class || (X.env.scope.kind == .module && X.env.locals != X.env.globals)) = false := by rw [I.ok.kind]; rfl
    refine wpAny_storeName_local hk ns (fun g ns2 sb => ?_) notcls
    obtain ⟨oF, _, _, hoF, _⟩ := id ns
    have low : ∀ b o, X.s_0.heap.get? b = some o → b ≠ X.env.locals := fun b o e => Nat.ne_of_lt (Nat.lt_of_lt_of_le (Heap.lt_size e) I.ok.above)
    have objs : HOk X.prog X.w H g := fun b ob e => by
      refine (I.hok b ob e).stay (fun c2 w2 h2 q => (sb.2 c2 fun z => ?_).trans q) (fun _ q => q) fun _ _ q => q
      subst z
      rcases h2 with z | z
      · rw [← z, I.free] at e
        cases e
      · rw [I.free] at z
        cases z
    have loc2 : ∀ (j : Nat) (z : Str) (w : V), X.N[j]? = some z → (σ.set i (some v))[j]? = some (some w) → Vis X.env.scope z → ∃ u', RelV w u' ∧ Look X.env g (fun y => if y = x then some u else m y) z u' := fun j z w e1 e2 e3 => by
      by_cases ji : j = i
      · subst ji
        rw [hi] at e1
        cases e1
        rw [List.getElem?_set_self inside] at e2
        cases e2
        exact ⟨u, r, .inl ⟨hk, by simp⟩⟩
      · rw [List.getElem?_set_ne (Ne.symm ji)] at e2
        obtain ⟨u', r', q⟩ := look j z w e1 e2 e3
        have zx : z ≠ x := fun e => ji (nodup_ix hN e1 (e ▸ hi))
        rcases q with ⟨k, e⟩ | ⟨k, c2, e, z4⟩
        · exact ⟨u', r', .inl ⟨k, by simp [zx, e]⟩⟩
        · exact ⟨u', r', .inr ⟨k, c2, e, z4.sameBut sb (I.cne z c2 e)⟩⟩
    refine h _ ⟨I.ok, I.os, I.bare, ⟨fun b o e n hb hx2 => (sb.2 b (low b o e)).trans (I.base.keep b o e n hb hx2), fun b o e n hb hx2 => ?_, I.base.free, fun b o e hx2 => ?_, I.base.tups, I.base.frzs, I.base.tbls⟩, ⟨_, ns2, loc2⟩, fun z c2 e => ?_, I.free, I.freeC, fun p hp => ?_, objs, by simpa using I.len⟩ (Nat.le_add_right _ _) (.inl ⟨hk, sb, m, ns, ns2⟩)
    · obtain ⟨sl, e1⟩ := I.base.slot b o e n hb hx2
      exact ⟨sl, (sb.2 b (low b o e)).trans e1⟩
    · obtain ⟨o2, e1⟩ := I.base.there b o e hx2
      exact ⟨o2, (sb.2 b (low b o e)).trans e1⟩
    · obtain ⟨w2, z2⟩ := I.cell z c2 e
      exact ⟨w2, z2.sameBut sb (I.cne z c2 e)⟩
    · obtain ⟨e, n, ne, nf, d⟩ := I.pin p hp
      exact ⟨(sb.2 p.1 ne).trans e, n, ne, nf, d⟩
  · have own : X.fn x = true := by
      rcases hf with z | z
      · exact z
      · rw [z] at hk; cases hk
    obtain ⟨c, hc⟩ := I.ok.has x (.inl hk)
    exact store_cellS I hN hi hk ⟨hc, own⟩ r fun h' I2 cell sb => h _ I2 (Nat.le_refl _) (.inr ⟨c, hc, sb, cell⟩)
end
end Sq
set_option Elab.async false
set_option linter.all false
set_option maxRecDepth 100000
set_option maxHeartbeats 4000000
/-! Judgements that keep what is known of the state. -/
namespace Sq
open PySem PySem.Spec PyProof.Rows L2 GenW
structure We (X : Cx) (Θ : Shared → Prop) (e : Expr) (t : TE) : Prop where
  run : ∀ (pins : List (Addr × Obj)) (s : Shared) (σ : L2.St) (H : Hp) (Q : VK), Inv X pins σ H s → Θ s → t σ H Q → wpAny (model X.prog X.w) X.A (eval e X.env) (fun u s' => Θ s' ∧ EP X pins σ Q u s') X.xe s
structure Wa (X : Cx) (Θ : Shared → Prop) (es : List Expr) (t : TA) : Prop where
  run : ∀ (pos : Pos) (pins : List (Addr × Obj)) (s : Shared) (σ : L2.St) (H : Hp) (Q : List V → Hp → Prop), Inv X pins σ H s → Θ s → t σ H Q → wpAny (model X.prog X.w) X.A (spliced (backTo pos (starEach es X.env))) (fun us s' => Θ s' ∧ AP X pins σ Q us s') X.xe s
structure Wt (X : Cx) (Θ : Shared → Prop) (e : Expr) (t : TT) : Prop where
  run : ∀ (pins : List (Addr × Obj)) (s : Shared) (σ : L2.St) (H : Hp) (Q : Bool → Hp → Prop), Inv X pins σ H s → Θ s → t σ H Q → wpAny (model X.prog X.w) X.A (isTrue e X.env (eval e X.env)) (fun b s' => Θ s' ∧ TP X pins σ Q b s') X.xe s
structure Ws (X : Cx) (Θ : Shared → Prop) (st : Stmt) (t : TS) : Prop where
  run : ∀ (pins : List (Addr × Obj)) (s : Shared) (σ : L2.St) (H : Hp) (D : Ends), Inv X pins σ H s → Θ s → t D σ H → wpAny (model X.prog X.w) X.A (exec st X.env) (fun f s' => Θ s' ∧ SP X pins D f s') X.xe s
structure Wss (X : Cx) (Θ : Shared → Prop) (sts : List Stmt) (t : TS) : Prop where
  run : ∀ (pins : List (Addr × Obj)) (s : Shared) (σ : L2.St) (H : Hp) (D : Ends), Inv X pins σ H s → Θ s → t D σ H → wpAny (model X.prog X.w) X.A (execs sts X.env) (fun f s' => Θ s' ∧ SP X pins D f s') X.xe s
/-- where it need not be known behind it -/
structure Wu (X : Cx) (Θ : Shared → Prop) (sts : List Stmt) (t : TS) : Prop where
  run : ∀ (pins : List (Addr × Obj)) (s : Shared) (σ : L2.St) (H : Hp) (D : Ends), Inv X pins σ H s → Θ s → t D σ H → wpAny (model X.prog X.w) X.A (execs sts X.env) (SP X pins D) X.xe s
/-- raw arguments of which the j-th is known -/
structure Wx (X : Cx) (Θ : Shared → Prop) (j : Nat) (es : List Expr) (t : TA) : Prop where
  run : ∀ (pos : Pos) (pins : List (Addr × Obj)) (s : Shared) (σ : L2.St) (H : Hp) (Q : List V → Hp → Prop), Inv X pins σ H s → Θ s → t σ H Q → wpAny (model X.prog X.w) X.A (spliced (backTo pos (starEach es X.env))) (fun us s' => (Θ s' ∧ Tkn j us s'.toks) ∧ AP X pins σ Q us s') X.xe s
structure Wk (X : Cx) (Θ : Shared → Prop) (kws : List Keyword) (t : TA) : Prop where
  run : ∀ (pos : Pos) (pins : List (Addr × Obj)) (s : Shared) (σ : L2.St) (H : Hp) (Q : List V → Hp → Prop), Inv X pins σ H s → Θ s → t σ H Q → wpAny (model X.prog X.w) X.A (evalAll ((backToKw pos (keywordEach kws X.env)).map (·.2))) (fun us s' => Θ s' ∧ AP X pins σ Q us s') X.xe s
structure Wy (X : Cx) (Θ : Shared → Prop) (j : Nat) (kws : List Keyword) (t : TA) : Prop where
  run : ∀ (pos : Pos) (pins : List (Addr × Obj)) (s : Shared) (σ : L2.St) (H : Hp) (Q : List V → Hp → Prop), Inv X pins σ H s → Θ s → t σ H Q → wpAny (model X.prog X.w) X.A (evalAll ((backToKw pos (keywordEach kws X.env)).map (·.2))) (fun us s' => (Θ s' ∧ Tkn j us s'.toks) ∧ AP X pins σ Q us s') X.xe s
/-- the raw value u of the name y is known, and if it is a text of one sign, its token -/
structure Known (X : Cx) (Θ : Shared → Prop) (y : Str) : Prop where
  kn : ∀ (s : Shared), Θ s → ∃ u, Tkn 0 [u] s.toks ∧ ((X.env.kindOf y = some .local ∧ Raw X y u s) ∨ (X.env.kindOf y = some .cell ∧ ∃ c, X.env.cells.lookup y = some c ∧ s.heap.IsCell c (some u)))
def OpW (X : Cx) (Θ : Shared → Prop) (op : Value → Value → Sem Value) (r : R2) : Prop :=
  ∀ (pins : List (Addr × Obj)) (s : Shared) (σ : L2.St) (H : Hp) (x y : V) (v u : Value) (Q : VK), Inv X pins σ H s → Θ s → RelV x v → RelV y u → r x y H Q → wpAny (model X.prog X.w) X.A (op v u) (fun w s' => Θ s' ∧ EP X pins σ Q w s') X.xe s
section
variable {X : Cx} {Θ : Shared → Prop} {ys : List Str} {pins : List (Addr × Obj)} {σ : L2.St} {H : Hp} {s : Shared} {x y : Str} {p pos kpos : Pos} {e e2 : Expr} {es : List Expr} {te tf : TE} {t tk : TA} {st : Stmt} {a b rest : List Stmt} {ts tr : TS} {tt : TT} {kws : List Keyword} {nm : Option Str} {n j : Nat}
/-! ### expressions -/
theorem we_var {i : Nat} (hN : X.N[i]? = some x) (hv : Vis X.env.scope x) (hd : (x == ("__debug__" : Str)) = false := by decide) (hcd : (x == ("__classdict__" : Str)) = false := by decide) : We X Θ (.Name x pos) (tVar i) :=
  ⟨fun pins s σ H Q I θ h => by
    obtain ⟨v, e, q⟩ := h
    exact raw_name hN hv I e (fun u r => ⟨θ, v, H, I, r, q⟩) hd hcd⟩
theorem wv (i : Nat) (hN : X.N[i]? = some x := by rfl) (hv : Vis X.env.scope x := by first | exact Or.inl rfl | exact Or.inr (Or.inl rfl) | exact Or.inr (Or.inr rfl)) (hd : (x == ("__debug__" : Str)) = false := by decide)
    (hcd : (x == ("__classdict__" : Str)) = false := by decide) : We X Θ (.Name x pos) (tVar i) := we_var hN hv hd hcd
theorem we_int (C : Clo X ys Θ) {i : Int} {k : Nat} : We X Θ (.Constant (.int i) k pos) (tC (.int i)) :=
  ⟨fun pins s σ H Q I θ h => wpAny_Constant_int ⟨C.tok I θ, .int i, H, I.tok _, ⟨_, rfl⟩, h⟩⟩
theorem we_str (C : Clo X ys Θ) {z : Str} {k : Nat} : We X Θ (.Constant (.str z) k pos) (tC (.str z)) :=
  ⟨fun pins s σ H Q I θ h => Calls.Constant_str ⟨C.tok I θ, .str z, H, I.tok _, ⟨_, rfl⟩, h⟩⟩
theorem we_non {k : Nat} : We X Θ (.Constant .none k pos) (tC .non) :=
  ⟨fun pins s σ H Q I θ h => wpAny_Constant_none ⟨θ, .non, H, I, rfl, h⟩⟩
theorem wa_nil : Wa X Θ [] tNil := ⟨fun pos pins s σ H Q I θ h => Calls.spliced_nil ⟨θ, [], H, I, .nil, h⟩⟩
theorem wa_cons (ha : We X Θ e te) (hr : Wa X Θ es t) (hs : starEach (e :: es) X.env = (false, eval e X.env) :: starEach es X.env := by rfl) : Wa X Θ (e :: es) (tCons te t) := by
  refine ⟨fun pos pins s σ H Q I θ h => ?_⟩
  rw [hs]
  show wpAny _ _ (spliced ((false, eval e X.env) :: backTo pos (starEach es X.env))) _ _ s
  refine Calls.spliced_cons (thn (ha.run pins s σ H _ I θ h) fun u s1 hh => ?_)
  obtain ⟨g1, x, H1, I1, r1, q1⟩ := hh
  exact thn (hr.run pos pins s1 σ H1 _ I1 g1 q1) fun us s2 ⟨g2, xs, H2, I2, r2, q2⟩ => ⟨g2, x :: xs, H2, I2, .cons r1 r2, q2⟩
end
end Sq
set_option Elab.async false
set_option linter.all false
set_option maxRecDepth 100000
set_option maxHeartbeats 4000000
/-! Calls with a raw argument that is known; tests, statements, loops. -/
namespace Sq
open PySem PySem.Spec PyProof.Rows L2 GenW
section
variable {X : Cx} {Θ : Shared → Prop} {ys : List Str} {pins : List (Addr × Obj)} {σ : L2.St} {H : Hp} {s : Shared} {x y : Str} {p pos kpos : Pos} {e e2 : Expr} {es : List Expr} {te tf : TE} {t tk : TA} {st : Stmt} {a b rest : List Stmt} {ts tr : TS} {tt tu : TT} {kws : List Keyword} {nm : Option Str} {n j : Nat}
/-! ### a known name -/
theorem known_eval {E : Value → Shared → Prop} {Q : Value → Shared → Prop} {i : Nat} {v : V} (Kn : Known X Θ y) (I : Inv X pins σ H s) (θ : Θ s) (hN : X.N[i]? = some y) (hv : Vis X.env.scope y) (h : σ[i]? = some (some v)) (fin : ∀ u, RelV v u → Tkn 0 [u] s.toks → Q u s) (hd : (y == ("__debug__" : Str)) = false := by decide) :
    wpAny (model X.prog X.w) X.A (eval (.Name y p) X.env) Q E s := by
  obtain ⟨u, tk, where_⟩ := Kn.kn s θ
  obtain ⟨m, hns, look⟩ := I.loc
  obtain ⟨u2, r, l⟩ := look i y v hN h hv
  rcases where_ with ⟨k, m2, ns2, e2⟩ | ⟨k, c, hc, cell⟩
  · have eu : u2 = u := by
      rcases l with ⟨_, q⟩ | ⟨k1, _⟩
      · rw [hns.agree ns2 y, e2] at q
        exact (Option.some.inj q).symm
      · rw [k] at k1
        rcases k1 with z | z <;> cases z
    subst eu
    exact wpAny_Name (wpAny_loadName_local I.ok.kind k ns2 e2 (fin _ r tk)) hd
  · have eu : u2 = u := by
      rcases l with ⟨k1, _⟩ | ⟨_, c1, e1, cell1⟩
      · rw [k] at k1
        cases k1
      · rw [hc] at e1
        obtain rfl : c = c1 := Option.some.inj e1
        obtain ⟨o1, g1, d1⟩ := cell
        obtain ⟨o2, g2, d2⟩ := cell1
        rw [g1] at g2
        obtain rfl : o1 = o2 := Option.some.inj g2
        rw [d1] at d2
        injection d2 with d2
        exact (Option.some.inj d2).symm
    subst eu
    exact wpAny_Name (wpAny_loadName_cell I.ok.kind k hc cell (fin _ r tk)) hd
theorem wx_name {i : Nat} (Kn : Known X Θ y) (hN : X.N[i]? = some y) (hv : Vis X.env.scope y) (hr : Wa X Θ es t) (hs : starEach (.Name y p :: es) X.env = (false, eval (.Name y p) X.env) :: starEach es X.env := by rfl) (hd : (y == ("__debug__" : Str)) = false := by decide) :
    Wx X Θ 0 (.Name y p :: es) (tCons (tVar i) t) := by
  refine ⟨fun pos pins s σ H Q I θ h => ?_⟩
  rw [hs]
  show wpAny _ _ (spliced ((false, eval (.Name y p) X.env) :: backTo pos (starEach es X.env))) _ _ s
  obtain ⟨v, e, q⟩ := h
  refine Calls.spliced_cons (known_eval Kn I θ hN hv e (fun u r good => ?_) hd)
  refine wpAny_mono (PySem.wpAny_toks (hr.run pos pins s σ H _ I θ q)) (fun us s2 hh => ?_) fun _ _ z => z.2
  obtain ⟨up, g2, xs, H2, I2, r2, q2⟩ := hh
  exact ⟨⟨g2, fun b tk eb one => ⟨(good b tk eb one).1, Nat.lt_of_lt_of_le (good b tk eb one).2 up⟩⟩, v :: xs, H2, I2, .cons r r2, q2⟩
theorem wx_skip (ha : We X Θ e te) (hr : Wx X Θ j es t) (hs : starEach (e :: es) X.env = (false, eval e X.env) :: starEach es X.env := by rfl) : Wx X Θ (j + 1) (e :: es) (tCons te t) := by
  refine ⟨fun pos pins s σ H Q I θ h => ?_⟩
  rw [hs]
  show wpAny _ _ (spliced ((false, eval e X.env) :: backTo pos (starEach es X.env))) _ _ s
  refine Calls.spliced_cons (thn (ha.run pins s σ H _ I θ h) fun u s1 hh => ?_)
  obtain ⟨g1, v, H1, I1, r1, q1⟩ := hh
  exact thn (hr.run pos pins s1 σ H1 _ I1 g1 q1) fun us s2 ⟨g2, xs, H2, I2, r2, q2⟩ => ⟨g2, v :: xs, H2, I2, .cons r1 r2, q2⟩
/-- f(..) -/
theorem we_callT {k : Nat} {ps : List Str} {sp : Sp} (C : Clo X ys Θ) (D : DfT X.prog X.w X.K X.mg X.base k x ps j sp) (hr : Room k X.A) (hg : Gl X x) (ha : Wx X Θ j (e :: es) t) (hdb : (x == ("__debug__" : Str)) = false := by decide)
    (he : starEach (e :: es) X.env = (false, eval e X.env) :: starEach es X.env := by rfl) (hpl : (backTo pos (starEach es X.env)).any (·.1) = false := by rfl) : We X Θ (.Call (.Name x p) (e :: es) [] pos) (tCall sp [] E0 t) := by
  obtain ⟨f, fd, F, g, kp, b⟩ := D.ex
  refine ⟨fun pins s σ H Q I θ h => ?_⟩
  refine wpAny_Call_Name_kw (ld_glob I hg g ?_ hdb)
  refine PySem.W.callWith_K (h₀ := X.base) I.ok.mod.kin kp (thn (ha.run pos pins s σ H _ I θ h) fun us s1 hh => ?_) he hpl
  obtain ⟨⟨g1, tk⟩, vs, H1, I1, r, q⟩ := hh
  refine ⟨I1.kIn, ?_⟩
  rw [List.append_nil] at q
  have hl : us.length = ps.length := by rw [← r.length]; exact F.len _ _ _ _ q
  have bind := b s1 us I1.kIn (by rw [List.append_nil]; exact hl)
  rw [List.append_nil] at bind
  have called : wpAny (model X.prog X.w) X.A (call (.ref f) us) (fun u s' => (s1.toks ≤ s'.toks → Θ s') ∧ EP X pins σ Q u s') X.xe s1 := by
    refine wpAny_call (codeAny_mono (F.run X.A X.stack s1 H1 ⟨us, []⟩ us vs Q hr I1.env0 bind r tk q) fun r s' hq => ?_)
    match r, hq with
    | .ok (.ret u), hq =>
      have ce : CE X.stack X.prog X.w H1 s1 Q u s' := hq
      obtain ⟨_, _, _, _, un, _⟩ := id ce
      exact ⟨fun up => C.un0 I1 up un g1, I1.after ce⟩
  exact wpAny_mono (PySem.wpAny_toks called) (fun u s' z => ⟨z.2.1 z.1, z.2.2⟩) fun _ _ z => z.2
/-! ### keywords -/
theorem wk_nil : Wk X Θ [] tNil := ⟨fun _ _ _ _ H Q I θ h => wpAny_evalAll_nil ⟨θ, [], H, I, .nil, h⟩⟩
theorem wk_cons (ha : We X Θ e te) (hr : Wk X Θ kws t) : Wk X Θ (⟨nm, e, kpos⟩ :: kws) (tCons te t) := by
  refine ⟨fun pos pins s σ H Q I θ h => ?_⟩
  show wpAny _ _ (evalAll ((do let v ← eval e X.env; standAt pos; pure v) :: (backToKw pos (keywordEach kws X.env)).map (·.2))) _ _ s
  refine wpAny_evalAll_cons (wpAny_bind (thn (ha.run pins s σ H _ I θ h) fun u s1 hh => wpAny_bind (wpAny_standAt (wpAny_pure ?_))))
  obtain ⟨g1, v, H1, I1, r1, q1⟩ := hh
  exact thn (hr.run pos pins s1 σ H1 _ I1 g1 q1) fun us s2 ⟨g2, xs, H2, I2, r2, q2⟩ => ⟨g2, v :: xs, H2, I2, .cons r1 r2, q2⟩
theorem wy_name {i : Nat} (Kn : Known X Θ y) (hN : X.N[i]? = some y) (hv : Vis X.env.scope y) (hr : Wk X Θ kws t) (hd : (y == ("__debug__" : Str)) = false := by decide) :
    Wy X Θ 0 (⟨nm, .Name y p, kpos⟩ :: kws) (tCons (tVar i) t) := by
  refine ⟨fun pos pins s σ H Q I θ h => ?_⟩
  show wpAny _ _ (evalAll ((do let v ← eval (.Name y p) X.env; standAt pos; pure v) :: (backToKw pos (keywordEach kws X.env)).map (·.2))) _ _ s
  obtain ⟨v, e, q⟩ := h
  refine wpAny_evalAll_cons (wpAny_bind (known_eval Kn I θ hN hv e (fun u r good => wpAny_bind (wpAny_standAt (wpAny_pure ?_))) hd))
  refine wpAny_mono (PySem.wpAny_toks (hr.run pos pins s σ H _ I θ q)) (fun us s2 hh => ?_) fun _ _ z => z.2
  obtain ⟨up, g2, xs, H2, I2, r2, q2⟩ := hh
  exact ⟨⟨g2, fun b tk eb one => ⟨(good b tk eb one).1, Nat.lt_of_lt_of_le (good b tk eb one).2 up⟩⟩, v :: xs, H2, I2, .cons r r2, q2⟩
theorem we_callTK {k : Nat} {ps ks : List Str} {gV : List V → List V → List V} {j' : Nat} {sp : Sp} (C : Clo X ys Θ) (D : DkT X.prog X.w X.K X.mg X.base k x ps ks gV j j' sp) (hr : Room k X.A) (hg : Gl X x) (hkw : Wy X Θ j kws tk) (hall : (backToKw pos (keywordEach kws X.env)).all (·.1.isSome) = true := by rfl)
    (hks : (backToKw pos (keywordEach kws X.env)).filterMap (·.1) = ks := by rfl) (hdb : (x == ("__debug__" : Str)) = false := by decide)
    (hpl : ((backTo pos (starEach [] X.env)).any (·.1) || (backToKw pos (keywordEach kws X.env)).any (·.1.isNone)) = false := by rfl) :
    We X Θ (.Call (.Name x p) [] kws pos) (fun σ H Q => tk σ H fun zs H1 => zs.length = ks.length ∧ sp (gV [] zs) H1 Q E0) := by
  obtain ⟨f, fd, g, F, hm, kp, hb, hj⟩ := D.ex
  refine ⟨fun pins s σ H Q I θ h => ?_⟩
  refine wpAny_Call_Name_kw (ld_glob I hg hm ?_ hdb)
  refine PySem.W.callWith_KW0 (h₀ := X.base) I.ok.mod.kin kp hall (thn (hkw.run pos pins s σ H _ I θ h) fun ws s1 hh => ?_) hpl
  obtain ⟨⟨g1, tkn⟩, zs, H1, I1, rz, l2, q⟩ := hh
  refine ⟨I1.kIn, ?_⟩
  rw [hks]
  have lw : ws.length = ks.length := rz.length.symm.trans l2
  have r2 := hb.rel .nil rz
  have called : wpAny (model X.prog X.w) X.A (call (.ref f) ([] ++ []) (ks.zip ws)) (fun u s' => (s1.toks ≤ s'.toks → Θ s') ∧ EP X pins σ Q u s') X.xe s1 := by
    refine wpAny_call (codeAny_mono (F.run X.A X.stack s1 H1 ⟨[], ks.zip ws⟩ (g [] ws) (gV [] zs) Q hr I1.env0 (hb.to s1 [] ws I1.kIn rfl lw) r2 (hj ws _ lw tkn) q) fun r s' hq => ?_)
    match r, hq with
    | .ok (.ret u), hq =>
      have ce : CE X.stack X.prog X.w H1 s1 Q u s' := hq
      obtain ⟨_, _, _, _, un, _⟩ := id ce
      exact ⟨fun up => C.un0 I1 up un g1, I1.after ce⟩
  exact wpAny_mono (PySem.wpAny_toks called) (fun u s' z => ⟨z.2.1 z.1, z.2.2⟩) fun _ _ z => z.2
/-! ### tests -/
theorem wt_cmp {op : CmpOp} {r : R2} (ho : OpW X Θ (compareOp op) r) (ha : We X Θ e te) (hb : We X Θ e2 tf) (hm : behindInMarks op e2 = false) : Wt X Θ (.Compare e [op] [e2] pos) (tTest (tOp r te tf)) := by
  refine ⟨fun pins s σ H Q I θ h => ?_⟩
  refine wpAny_isTrue_Compare1 (thn (ha.run pins s σ H _ I θ h) fun v s1 hh => ?_) hm
  obtain ⟨g1, a, H1, I1, r1, q1⟩ := hh
  refine thn (hb.run pins s1 σ H1 _ I1 g1 q1) fun u s2 hh => ?_
  obtain ⟨g2, b, H2, I2, r2, q2⟩ := hh
  refine thn (ho pins s2 σ H2 a b v u _ I2 g2 r1 r2 q2) (fun w s3 z => ?_)
  obtain ⟨g3, b3, H3, I3, r3, k, e3, q3⟩ := z
  subst e3
  cases r3
  exact wpAny_truthy_bool ⟨g3, H3, I3, q3⟩
/-! ### statements -/
theorem wss_one (h1 : Ws X Θ st ts) : Wss X Θ [st] ts := by
  refine ⟨fun pins s σ H D I θ h => ?_⟩
  refine wpAny_execs_cons (thn (h1.run pins s σ H D I θ h) fun f s1 hh => ?_)
  obtain ⟨g1, q⟩ := hh
  match f, q with
  | .next, q => exact wpAny_execs_nil ⟨g1, q⟩
  | .ret v, q => exact ⟨g1, q⟩
  | .brk, q => exact ⟨g1, q⟩
  | .cont, q => exact ⟨g1, q⟩
/-- never reached -/
theorem wss_no : Wss X Θ rest (fun _ _ _ => False) := ⟨fun _ _ _ _ _ _ _ h => h.elim⟩
theorem pss_no : PSs X rest (fun _ _ _ => False) := ⟨fun _ _ _ _ _ _ h => h.elim⟩
theorem wu_ps (h : PSs X rest tr) : Wu X Θ rest tr := ⟨fun pins s σ H D I θ q => h.run pins s σ H D I q⟩
theorem wu_cons (h1 : Ws X Θ st ts) (h2 : Wu X Θ rest tr) : Wu X Θ (st :: rest) (tSeq ts tr) := by
  refine ⟨fun pins s σ H D I θ h => ?_⟩
  refine wpAny_execs_cons (thn (h1.run pins s σ H { D with nx := tr D } I θ h) fun f s1 hh => ?_)
  obtain ⟨g1, q⟩ := hh
  match f, q with
  | .next, ⟨σ', H', I', q⟩ => exact h2.run pins s1 σ' H' D I' g1 q
  | .ret v, q => exact q
  | .brk, q => exact q
  | .cont, q => exact q
theorem ws_expr (he : We X Θ e te) (hs : swapsWith e none pos.line X.env = pure false := by rfl) : Ws X Θ (.Expr e pos) (tDrop te) := by
  refine ⟨fun pins s σ H D I θ h => ?_⟩
  refine wpAny_Expr_any (thn (he.run pins s σ H _ I θ h) fun v s1 hh => ?_) I.quiet hs
  obtain ⟨g1, x, H1, I1, r1, q1⟩ := hh
  exact ⟨g1, σ, H1, I1, q1⟩
theorem ws_set {i : Nat} {pos' : Pos} (C : Clo X ys Θ) (ne : x ∉ ys) (hN : X.N.Nodup) (hi : X.N[i]? = some x) (hx : Loc X.env.scope x) (he : We X Θ e te) (hs : swapsWith e (some (.Name x pos')) pos.line X.env = pure false := by rfl) (hf : X.fn x = true ∨ X.env.scope.names.lookup x = some .local := by first | exact .inl rfl | exact .inr rfl | assumption) :
    Ws X Θ (.Assign [.Name x pos'] e pos) (tAsg te (gName i)) := by
  refine ⟨fun pins s σ H D I θ h => ?_⟩
  refine wpAny_Assign_Name (thn (he.run pins s σ H _ I θ h) fun v s1 hh => ?_) hs
  obtain ⟨g1, z, H1, I1, r1, q1⟩ := hh
  exact put_ok I1 hN hi hx r1 (fun s2 I2 up pt => ⟨C.st I1 ne up pt g1, _, H1, I2, q1⟩) hf
theorem ws_if {ce : Expr} (hc : Wt X Θ ce tt) (ha : Wss X Θ a ts) (hb : Wss X Θ b tr) : Ws X Θ (.If ce a b pos) (tIfS tt ts tr) := by
  refine ⟨fun pins s σ H D I θ h => ?_⟩
  refine wpAny_If (thn (hc.run pins s σ H _ I θ h) fun d s1 hh => ?_)
  obtain ⟨g1, H1, I1, q1⟩ := hh
  cases d with
  | true => exact ha.run pins s1 σ H1 D I1 g1 q1
  | false => exact hb.run pins s1 σ H1 D I1 g1 q1
/-- try: .. where nothing is raised -/
theorem ws_tryc {body : List Stmt} {hd : ExceptHandler} {hs : List ExceptHandler} {tb : TS} (tried : ∀ (pn : List (Addr × Obj)), Wss (X.tr pn fun _ _ => False) Θ body tb) : Ws X Θ (.Try body (hd :: hs) [] [] pos) tb := by
  refine ⟨fun pins s σ H D I θ h => ?_⟩
  have ok := I.ok
  refine wpAny_Try_except (wpAny_mono ((tried (X.pn ++ pins)).run [] s σ H D (I.toTry _) θ h) (fun f s1 done => ?_) (fun e s1 he => he.elim))
  obtain ⟨g1, q⟩ := done
  cases f with
  | next =>
    obtain ⟨σ2, H2, J, q⟩ := q
    exact wpAny_execs_nil ⟨g1, σ2, H2, J.ofTry ok, q⟩
  | brk =>
    obtain ⟨σ2, H2, J, q⟩ := q
    exact ⟨g1, σ2, H2, J.ofTry ok, q⟩
  | cont =>
    obtain ⟨σ2, H2, J, q⟩ := q
    exact ⟨g1, σ2, H2, J.ofTry ok, q⟩
  | ret u =>
    obtain ⟨v, σ2, H2, J, r, q⟩ := q
    exact ⟨g1, v, σ2, H2, J.ofTry ok, r, q⟩
end
/-- Known, of a local name -/
theorem known_local {X : Cx} {y : Str} {u : Value} {n : Nat} (hk : X.env.kindOf y = some .local) (good : Tkn 0 [u] n) : Known X (fun s => Raw X y u s ∧ n ≤ s.toks) y :=
  ⟨fun s h => ⟨u, fun b t e one => ⟨(good b t e one).1, Nat.lt_of_lt_of_le (good b t e one).2 h.2⟩, .inl ⟨hk, h.1⟩⟩⟩
theorem known_cell {X : Cx} {y : Str} {c : Addr} {u : Value} {n : Nat} (hk : X.env.kindOf y = some .cell) (hc : X.env.cells.lookup y = some c) (good : Tkn 0 [u] n) : Known X (fun s => RawC X c u s ∧ n ≤ s.toks) y :=
  ⟨fun s h => ⟨u, fun b t e one => ⟨(good b t e one).1, Nat.lt_of_lt_of_le (good b t e one).2 h.2⟩, .inr ⟨hk, c, hc, h.1⟩⟩⟩
end Sq
set_option Elab.async false
set_option linter.all false
set_option maxRecDepth 100000
set_option maxHeartbeats 4000000
/-! Promises that want one argument's token, from walks that know it. -/
namespace Sq
open PySem PySem.Spec PyProof.Rows L2 GenW
section
variable {P : Program} {w : World} {K : PySem.W.Frag} {mg : Str → Option Value} {base : Heap} {k j : Nat} {f : Addr} {fd : FuncData} {ps : List Str} {sp spA spB : Sp}
theorem FnT.of (F : FnOk P w K mg base CX0 k f fd ps sp) : FnT P w K mg base k f fd ps j sp :=
  ⟨F.len, fun A outer s H args us vs Q hr e0 hb r _ h => codeAny_mono (F.run A outer s H args us vs Q E0 hr e0 hb r h) fun r s' hq => by
    match r, hq with
    | .error e, hq => exact hq
    | .ok (.ret u), hq => exact hq
    | .ok .next, hq => exact hq
    | .ok .brk, hq => exact hq
    | .ok .cont, hq => exact hq⟩
theorem FnT.or (a : FnT P w K mg base k f fd ps j spA) (b : FnT P w K mg base k f fd ps j spB) (h : ∀ vs H Q E, sp vs H Q E → spA vs H Q E ∨ spB vs H Q E) : FnT P w K mg base k f fd ps j sp :=
  ⟨fun vs H Q E q => (h vs H Q E q).elim (a.len vs H Q E) (b.len vs H Q E), fun A outer s H args us vs Q hr e0 hb r tk q => (h vs H Q E0 q).elim (a.run A outer s H args us vs Q hr e0 hb r tk) (b.run A outer s H args us vs Q hr e0 hb r tk)⟩
theorem FnT.mono {k2 : Nat} (a : FnT P w K mg base k f fd ps j sp) (h : k ≤ k2) : FnT P w K mg base k2 f fd ps j sp :=
  ⟨a.len, fun A outer s H args us vs Q hr e0 hb r tk q => a.run A outer s H args us vs Q (hr.mono h) e0 hb r tk q⟩
/-- the argument is a plain local -/
theorem fnt_ofL {x qual y : Str} {st : Stmt} {N : List Str} (F : Fun K x qual st f fd) (S : FnScope N ps (defScope st)) (len : ∀ vs H Q E, sp vs H Q E → vs.length = ps.length)
    (hy : ps[j]? = some y) (hk : (defScope st).names.lookup y = some .local)
    (walk : ∀ (cdv : Value) (A : Around) (outer : List Env) (s : Shared) (H : Hp) (us : List Value) (vs : List V) (Q : VK) (u0 : Value), Room k (A.deeper (envOfC qual (defScope st) s.heap.objs.size f cdv)) → sp vs H Q E0 → Vals vs us → Tkn j us s.toks → us[j]? = some u0 →
      ∃ t, Wu (cxOf CX0 P w K mg base N qual (defScope st) f cdv A outer s H E0).nox (fun s' => Raw (cxOf CX0 P w K mg base N qual (defScope st) f cdv A outer s H E0).nox y u0 s' ∧ s.toks ≤ s'.toks) (defBody st) t ∧ t { nx := fun _ H' => Q .non H', rt := Q } (L2.start N vs) H) : FnT P w K mg base (k + 1) f fd ps j sp := by
  obtain ⟨oc, od, kV, doc, pm, an, cdv, ct, osl, rfl, lk, hcd⟩ := F.ex
  refine ⟨len, fun A outer s H args us vs Q hr e0 hb r tkn hsp => ?_⟩
  have hl := len _ _ _ _ hsp
  have KX : K.In s.heap := e0.mod.kin.keeps fun b o e => (e0.bs b o e).1
  have lim : s.heap.NoLimit := e0.mod.nolimit.keeps fun b o e => (e0.bs b o e).1
  have hkind : ∀ y ∈ ps.zip us, (defScope st).names.lookup y.1 = some .local ∨ ((defScope st).names.lookup y.1 = some .cell ∧ ((cellsFrom (s.heap.objs.size + 1) (defScope st).names []).lookup y.1).isSome = true) := fun ⟨n, v⟩ hy =>
    (S.par n (List.of_mem_zip hy).1).elim .inl fun z => .inr ⟨z, PySem.W.cellsFrom_some _ _ _ (.inl z)⟩
  refine codeAny_call_function hr.depth (KX _ _ lk) rfl S.co S.gen rfl (PySem.W.codeRec_of KX hcd) (hb _ _ _ _ ?_)
  refine PySem.wpAny_with_toks (Nat.le_refl s.toks) (wpAny_newFunctionEnv_cells S.kind hkind fun env he s1 made toks1 => ?_)
  subst he
  refine ⟨lim.keeps made.toInCall.keep, codeAny_func ?_⟩
  have jl : j < ps.length := (List.getElem?_eq_some_iff.mp hy).1
  obtain ⟨u0, hu⟩ : ∃ u0, us[j]? = some u0 := ⟨us[j]'(by rw [← r.length, hl]; exact jl), List.getElem?_eq_getElem _⟩
  have ndP : ps.Nodup := by rw [← S.pre]; exact S.nd.sublist (List.take_sublist _ _)
  have at1 := bindL_get (kindOf := (envOfC qual (defScope st) s.heap.objs.size f cdv).kindOf) (m := fun _ => none) ndP hy hu hk
  obtain ⟨t, ht, hq⟩ := walk cdv A outer s H us vs Q u0 (hr.deeper _) hsp r tkn hu
  have I : Inv (cxOf CX0 P w K mg base N qual (defScope st) f cdv A outer s H E0).nox [] (start N vs) H s1 := (inv_start S hr.hd e0 hl r made).wish _
  refine wpAny_mono (ht.run [] s1 (start N vs) H _ I ⟨⟨_, made.toInCall.ns, at1⟩, toks1⟩ hq) (fun fl s' hs => ?_) fun e s' hs => False.elim hs
  match fl, hs with
  | .ret u, ⟨v, σ', H', J, rv, q⟩ => exact ⟨v, H', J.os, J.bare, J.base, J.hok, rv, q⟩
  | .next, ⟨σ', H', J, q⟩ => exact ⟨V.non, H', J.os, J.bare, J.base, J.hok, rfl, q⟩
  | .brk, ⟨_, _, _, q⟩ => exact False.elim q
  | .cont, ⟨_, _, _, q⟩ => exact False.elim q
end
end Sq
set_option Elab.async false
set_option linter.all false
set_option maxRecDepth 100000
set_option maxHeartbeats 4000000
/-! A comprehension whose elements know what stands in a cell of the def. -/
namespace Sq
open PySem PySem.Spec PyProof.Rows L2 GenW
section
variable {X : Cx}
theorem lcK_core {y0 : Str} {c0 : Addr} {u0 : Value} {n0 : Nat} (Ce : Cel X y0 c0) {pins : List (Addr × Obj)} {s : Shared} {σ : L2.St} {H : Hp} {Q : VK} {elt tg iter : Expr} {ifs : List Expr} {scope : Scope} {own : List (Str × Nat)} {pos pos' : Pos} {wi : TI} {g : TG} {tt : TT} {te : TE} {use : Option (Value → Sem Unit)} {Qf : Value → Shared → Prop}
    (mood : X.calm = true) (nodupN : X.N.Nodup) (I : Inv X pins σ H s) (many : n0 ≤ s.toks) (there : s.heap.IsCell c0 (some u0)) (sourceA : JI X c0 tg iter wi) (ok : BlkOk X.N X.env.scope scope own)
    (targetA : ∀ (s : Shared) (H : Hp) (C : Addr) (cl : List (Str × Addr)) (fp : List Addr), PG (X.blk s H scope (compEnvC scope cl C X.env) fp) tg g) (testsA : ∀ (s : Shared) (H : Hp) (C : Addr) (cl : List (Str × Addr)) (fp : List Addr), PTs (X.blk s H scope (compEnvC scope cl C X.env) fp) ifs tt)
    (elemA : ∀ (s : Shared) (H : Hp) (C : Addr) (k : Nat) (fp : List Addr), We (X.blk s H scope (compEnvC scope (cellsFrom k scope.names (cloFrom X.env.cells scope.names [])) C X.env) fp) (fun s => RawC X c0 u0 s ∧ n0 ≤ s.toks) elt te) (plainA : ∀ x, foldedSetIterable iter X.env x = pure x)
    (h : tLc wi g tt te (own.map (·.2)) σ H Q)
    (back : ∀ D C s' m H', Inv X pins σ H' s' → Q (.ref D) H' → s'.heap.Ns C m → FpOk X pins H' C → compPost (model X.prog X.w) X.A X.xe use Qf (.ref D) C (.ok .next) s') :
    wpAny (model X.prog X.w) X.A (comprehension (.ListComp elt [⟨tg, iter, ifs, 0⟩] scope pos) scope X.env pos' (newList []) false (eval iter X.env) use) Qf X.xe s := by
  have captured : ∀ y ∈ scope.names, y.2 = .free → ∃ c, X.env.cells.lookup y.1 = some c := fun y hy e => by
    rcases ok.free y hy e with k | k
    · exact I.ok.has _ (.inl k)
    · exact I.ok.has _ (.inr k)
  refine wpAny_comprehension_free (use := use) rfl plainA (closure_ok captured) ok.kind (fun y hy e => by rw [ok.uniq y hy, e])
    (wpAny_mono (PySem.wpAny_toks_of many (sourceA.run pins s σ H _ I h)) (fun srcV sA gotX => wpAny_mono (PySem.wpAny_toks_of gotX.1 gotX.2) (fun itV sB hB2 => ?_) fun _ _ z => z.2) fun _ _ z => z.2)
  obtain ⟨manyB, kB, h2⟩ := hB2
  have thereB : sB.heap.IsCell c0 (some u0) := kB.cell there
  obtain ⟨it, fp, tn, J, HB, e, I2, T, st2, f2, q⟩ := h2
  subst e
  refine wpAny_newObj_type (newEnv_comp ?_) (Nat.zero_le _)
  generalize atD : sB.heap.objs.size = D
  have freshD : HB D = none := I2.hok.fresh (Nat.le_of_eq atD)
  obtain ⟨W, ⟨mes0, inv0⟩, walk0⟩ := q D freshD
  -- the new list
  generalize laid3 : ({ sB with heap := sB.heap.push { cls := .type "list", data := .seq ([] : List Value).toArray } } : Shared) = sC
  have J3 : Inv X pins σ (upd HB D (.lst [])) sC := by
    rw [← laid3]
    refine I2.laid (t' := sB.toks) (fun b o e => Heap.get?_push_of_some _ e) (Nat.le_of_eq atD) ⟨Nat.zero_le _, [], 0, .nil, ?_⟩
    rw [← atD]
    exact Heap.get?_push_size _ rfl
  have heap3 : sC.heap = sB.heap.push { cls := .type "list", data := .seq ([] : List Value).toArray } := by rw [← laid3]
  have below : ∀ b ∈ fp, b < sB.heap.objs.size := fun b hb => by
    obtain ⟨o, e, _⟩ := T.obj _ _ st2 b hb
    exact Heap.lt_size e
  have roam3 : ∀ b ∈ fp, FpOk X pins (upd HB D (.lst [])) b ∧ b < sC.heap.objs.size := fun b hb => by
    have hlt := below b hb
    refine ⟨⟨?_, (f2 b hb).2⟩, by rw [heap3, Heap.size_push]; exact Nat.lt_succ_of_lt hlt⟩
    rw [upd_ne (by rw [← atD]; exact Nat.ne_of_lt hlt)]
    exact (f2 b hb).1
  have turn3 : tn 0 sC.heap := T.keep _ _ _ st2 fun b _ o e => by rw [heap3]; exact Heap.get?_push_of_some _ e
  have J4 := block_start J3 ok nodupN roam3
  have tgt := targetA sC (upd HB D (.lst [])) sC.heap.objs.size (cellsFrom (sC.heap.objs.size + 1) scope.names (cloFrom X.env.cells scope.names [])) fp
  have tst := testsA sC (upd HB D (.lst [])) sC.heap.objs.size (cellsFrom (sC.heap.objs.size + 1) scope.names (cloFrom X.env.cells scope.names [])) fp
  have elm := elemA sC (upd HB D (.lst [])) sC.heap.objs.size (sC.heap.objs.size + 1) fp
  show codeAny _ _ (.compStart (.ListComp elt [⟨tg, iter, ifs, 0⟩] scope pos) 0 (.ref it) (.ref D) (compEnvC scope (cellsFrom (sC.heap.objs.size + 1) scope.names (cloFrom X.env.cells scope.names [])) sC.heap.objs.size X.env)) (compPost (model X.prog X.w) X.A X.xe use Qf (.ref D) sC.heap.objs.size) { sC with heap := pushCells (sC.heap.push { cls := .type "dict", data := .dict #[] }) scope.names }
  have manyC : n0 ≤ sC.toks := by
    rw [← laid3]
    exact manyB
  have thereC : sC.heap.IsCell c0 (some u0) := by
    obtain ⟨o, eo, d⟩ := thereB
    exact ⟨o, by rw [heap3]; exact Heap.get?_push_of_some _ eo, d⟩
  have untr : ∀ b ∈ fp, (upd HB D (.lst [])) b = none := fun b hb => (roam3 b hb).1.1
  generalize blkE : compEnvC scope (cellsFrom (sC.heap.objs.size + 1) scope.names (cloFrom X.env.cells scope.names [])) sC.heap.objs.size X.env = ce at J4 tgt tst elm ⊢
  have locE : ce.locals = sC.heap.objs.size := by subst blkE; rfl
  generalize heapE : upd HB D (.lst []) = HC at J3 J4 tgt tst elm inv0 untr roam3
  generalize laid4 : ({ sC with heap := pushCells (sC.heap.push { cls := .type "dict", data := .dict #[] }) scope.names } : Shared) = sD at J4 ⊢
  have turn4 : tn 0 sD.heap := T.keep _ _ _ turn3 fun b _ o e => by rw [← laid4]; exact pushCells_keeps _ _ _ _ (Heap.get?_push_of_some _ e)
  have roams : ∀ {σ' : L2.St} {H' : Hp} {s' : Shared}, Inv (X.blk sC HC scope ce fp) [] σ' H' s' → (∀ b ∈ fp, H' b = none) → ∀ b ∈ fp, FpOk (X.blk sC HC scope ce fp) [] H' b := fun {σ' H' s'} I' nsC b hb =>
    ⟨nsC b hb, (I'.ok.exf b hb).1, I'.ok.exfs b hb, .inl hb, fun x c e => (I'.ok.exf b hb).2 x c e, fun p hp => absurd (show p ∈ ([] : List (Addr × Obj)) ++ [] from hp) (by simp)⟩
  have outer0 : codeAny (model X.prog X.w) X.A (.compLoop (.ListComp elt [⟨tg, iter, ifs, 0⟩] scope pos) 0 (.ref it) (.ref D) ce) (compPost (model X.prog X.w) X.A X.xe use Qf (.ref D) sC.heap.objs.size) sD := by
    refine compLoop_any (fun n s' => ∃ i H', Inv (X.blk sC HC scope ce fp) [] (wipe σ (own.map (·.2))) H' s' ∧ tn i s'.heap ∧ (∀ b ∈ fp, H' b = none) ∧ W i n H' ∧ n0 ≤ s'.toks) ?_ mes0 ⟨0, HC, J4, turn4, untr, inv0, by rw [← laid4]; exact manyC⟩
    rintro n sE ⟨i, HE, J5, turn5, un5, inv5, manyE⟩
    rcases walk0 i n HE inv5 with ⟨atEnd, done0⟩ | ⟨more, NxA, reach, body0⟩
    · have ended := T.done (X.blk sC HC scope ce fp) rfl rfl rfl mood i [] sE _ HE (fun _ _ => False) J5 (roams J5 un5) turn5 atEnd
      refine thnF ended fun r sF ⟨hr, J6⟩ => ?_
      subst hr
      have J7 : Inv X pins σ HE sF := J3.call' (ch := fp) J6.os J6.base J6.hok J6.bare fun b hb => ⟨(roam3 b hb).1.2.2.2.1, (roam3 b hb).1.2.1, (roam3 b hb).1.2.2.2.2.1, (roam3 b hb).1.2.2.2.2.2⟩
      have freeC : HE sC.heap.objs.size = none := by
        have z : HE ce.locals = none := J6.free
        rw [locE] at z
        exact z
      obtain ⟨m, nsC, _⟩ := J6.loc
      have nsC : sF.heap.Ns ce.locals m := nsC
      rw [locE] at nsC
      exact back D sC.heap.objs.size sF m HE J7 done0 nsC (J3.fpOk (Nat.le_refl _) freeC)
    · have given := T.item (X.blk sC HC scope ce fp) rfl rfl rfl mood i [] sE _ HE (fun _ _ => False) J5 (roams J5 un5) turn5 more
      refine wpAny_mono (PySem.wpAny_toks_of manyE given) (fun r sF hh => ?_) fun _ _ z => False.elim z.2
      obtain ⟨manyF, u, hr, got6⟩ := hh
      subst hr
      refine wpAny_mono (PySem.wpAny_toks_of manyF got6) (fun _ sG hh => ?_) fun _ _ z => False.elim z.2
      obtain ⟨manyG, x, HG, J7, rel7, yld7, turn7, un7⟩ := hh
      have J7p := J7.pinned (roams J7 un7) (T.obj _ _ turn7)
      refine wpAny_mono (PySem.wpAny_toks_of manyG (tgt.run _ sG _ HG x u _ J7p rel7 (body0 x HG yld7))) (fun _ sH hh => ?_) fun _ _ z => False.elim z.2
      obtain ⟨manyH, τ, HH, J8, wip8, go8⟩ := hh
      refine wpAny_mono (PySem.wpAny_toks_of manyH (tst.run _ sH τ HH _ J8 go8)) (fun b sI hh => ?_) fun _ _ z => False.elim z.2
      obtain ⟨manyI, HI, J9, go9⟩ := hh
      have close : ∀ {s' : Shared} {H' : Hp}, n0 ≤ s'.toks → Inv (X.blk sC HC scope ce fp) ([] ++ pinsAt fp sG.heap) τ H' s' → NxA H' →
          ∃ m, m < n ∧ ∃ i H', Inv (X.blk sC HC scope ce fp) [] (wipe σ (own.map (·.2))) H' s' ∧ tn i s'.heap ∧ (∀ b ∈ fp, H' b = none) ∧ W i m H' ∧ n0 ≤ s'.toks := fun {s' H'} mn I' nextW => by
        obtain ⟨m', lessM, invM⟩ := reach H' nextW
        have kept : ∀ b ∈ fp, ∀ o, sG.heap.get? b = some o → s'.heap.get? b = some o ∧ H' b = none := fun b hb o e =>
          let z := I'.pin (b, o) (List.mem_append_right _ (List.mem_append_right _ (mem_pinsAt hb e)))
          ⟨z.1, z.2.1⟩
        refine ⟨m', lessM, i + 1, H', (I'.unpinned (pins := [])).weak (by rw [← wip8, wipe_length]) (fun j v e => by rw [← wip8] at e; exact (wipe_some e).1), T.keep _ _ _ turn7 fun b hb o e => (kept b hb o e).1, fun b hb => ?_, invM, mn⟩
        obtain ⟨o, e, _⟩ := T.obj _ _ turn7 b hb
        exact (kept b hb o e).2
      cases b with
      | false =>
        simp only [Bool.false_eq_true, if_false] at go9 ⊢
        exact close manyI J9 go9
      | true =>
        simp only [if_true] at go9 ⊢
        have thereI : RawC X c0 u0 sI := by
          obtain ⟨o, eo, d⟩ := thereC
          exact ⟨o, J9.base.keep c0 o eo (Ce.free J3) (Ce.nostk J3) (fun hb => (roam3 c0 hb).1.2.2.2.2.1 _ _ Ce.is rfl), d⟩
        refine thnF (elm.run _ sI τ HI _ J9 ⟨thereI, manyI⟩ go9) fun z sQ ⟨kn17, yv, HQ, J17, rel17, acc, acc17, room17, nextW⟩ => ?_
        refine wpAny_mono (PySem.wpAny_toks_of kn17.2 (app_ok (X := X.blk sC HC scope ce fp) (E := fun _ _ => False) (Q := fun _ s' => n0 ≤ s'.toks → ∃ m, m < n ∧ ∃ i H', Inv (X.blk sC HC scope ce fp) [] (wipe σ (own.map (·.2))) H' s' ∧ tn i s'.heap ∧ (∀ b ∈ fp, H' b = none) ∧ W i m H' ∧ n0 ≤ s'.toks) J17 acc17 room17 rel17 fun sR J18 mn => close mn J18 nextW)) (fun _ _ z => z.2 z.1) fun _ _ z => False.elim z.2
  exact codeAny_compStart_list outer0 (T.self X.A 0 _ _ _ turn4 outer0)
theorem jr_lcK {y0 : Str} {c0 : Addr} {u0 : Value} {n0 : Nat} (Ce : Cel X y0 c0) {elt tg iter : Expr} {ifs : List Expr} {scope : Scope} {own : List (Str × Nat)} {pos : Pos} {wi : TI} {g : TG} {tt : TT} {te : TE} (mood : X.calm = true) (nodupN : X.N.Nodup) (sourceA : JI X c0 tg iter wi) (ok : BlkOk X.N X.env.scope scope own)
    (targetA : ∀ (s : Shared) (H : Hp) (C : Addr) (cl : List (Str × Addr)) (fp : List Addr), PG (X.blk s H scope (compEnvC scope cl C X.env) fp) tg g) (testsA : ∀ (s : Shared) (H : Hp) (C : Addr) (cl : List (Str × Addr)) (fp : List Addr), PTs (X.blk s H scope (compEnvC scope cl C X.env) fp) ifs tt)
    (elemA : ∀ (s : Shared) (H : Hp) (C : Addr) (k : Nat) (fp : List Addr), We (X.blk s H scope (compEnvC scope (cellsFrom k scope.names (cloFrom X.env.cells scope.names [])) C X.env) fp) (fun s => RawC X c0 u0 s ∧ n0 ≤ s.toks) elt te) (plainA : ∀ x, foldedSetIterable iter X.env x = pure x := by intro _; rfl) :
    JR X c0 u0 n0 (.ListComp elt [⟨tg, iter, ifs, 0⟩] scope pos) (tLc wi g tt te (own.map (·.2))) := by
  refine ⟨fun pins s σ H Q I hn hc h => ?_⟩
  rw [arm_eval_ListComp]
  refine lcK_core Ce mood nodupN I hn hc sourceA ok targetA testsA elemA plainA h fun D C s' m H' I' q nsC f => ⟨m, nsC, fun h'' sb => ?_⟩
  obtain ⟨f0, f1, f2, roam3, f4, f5⟩ := f
  exact ⟨.ref D, H', I'.turned (t' := s'.toks) (fun b o hb e => (sb.2 b hb).trans e) f0 f1 roam3 f4 f5, rfl, q⟩
end
end Sq
set_option Elab.async false
set_option linter.all false
set_option maxRecDepth 100000
set_option maxHeartbeats 4000000
/-! More code that keeps a cell; a sign out of a written list. -/
namespace Sq
open PySem PySem.Spec PyProof.Rows L2 GenW
section
variable {X : Cx} {c : Addr} {u0 : Value} {n : Nat} {x y : Str} {p pos : Pos} {e e2 e3 : Expr} {es : List Expr} {te tf : TE} {t : TA} {a b rest : List Stmt} {ts tr : TS} {tt : TT} {st : Stmt}
theorem cj_reprV (hg : X.A.guards = some []) (hu : X.A.units + 64 < cLine) : CallJ X c (.builtin "repr") (rReprV X.K) := by
  intro pins s σ H xs us Q I r h
  obtain ⟨x, d, rfl, S, q⟩ := h
  obtain ⟨u, rfl, rv⟩ := vals1 r
  obtain ⟨dp, sh, nd, dep, fit⟩ := S
  cases dp with
  | non =>
    obtain rfl : u = Value.none := rv
    exact PySem.P.repr_of_none ⟨Kc.refl, .str _, H, I.tok _, ⟨_, rfl⟩, q⟩
  | bl b =>
    obtain rfl : u = Value.bool b := rv
    exact PySem.P.repr_of_bool ⟨Kc.refl, .str _, H, I.tok _, ⟨_, rfl⟩, q⟩
  | int i =>
    obtain ⟨t, rfl⟩ := rv
    exact PySem.P.repr_of_int (of_decide_eq_true sh) ⟨Kc.refl, .str _, H, I.tok _, ⟨_, rfl⟩, q⟩
  | str y =>
    obtain ⟨t, rfl⟩ := rv
    exact PySem.P.repr_of_str ⟨Kc.refl, .str _, H, I.tok _, ⟨_, rfl⟩, q⟩ fit
  | lst hs ha => exact cj_reprD hg hu pins s σ H _ _ Q I r ⟨_, _, rfl, .lst hs ha, sh, nd, dep, fit, q⟩
  | tup hs ha => exact cj_reprD hg hu pins s σ H _ _ Q I r ⟨_, _, rfl, .tup hs ha, sh, nd, dep, fit, q⟩
theorem oj_lt : OpJ X c (compareOp .Lt) (rI0 fun i j => .bl (decide (i < j))) := by
  intro pins s σ H x y v u Q I rx ry h
  obtain ⟨i, j, rfl, rfl, q⟩ := h
  obtain ⟨t1, rfl⟩ := rx
  obtain ⟨t2, rfl⟩ := ry
  exact lt_int ⟨Kc.refl, .bl _, H, I, rfl, q⟩
theorem oj_inD (hu : X.A.units + 65 < cLine) : OpJ X c (compareOp .In) (rInD X.K) := by
  intro pins s σ H x y v u Q I rx ry h
  obtain ⟨d, ds, hd, he, sd, se, q⟩ := h
  obtain ⟨as, r1⟩ := Dp.reads I d x v hd rx
  obtain ⟨bs, r2⟩ := Dp.reads I (.list ds) y u he ry
  exact SeqAt.in_list_reads r2 r1 (SeqAt.canLay_of_shaped se) (SeqAt.canLay_of_shaped sd) (room_in_shaped sd hu) ⟨Kc.refl, .bl _, H, I, rfl, q⟩
theorem je_non {k : Nat} : JE X c (.Constant .none k pos) (tC .non) :=
  ⟨fun pins s σ H Q I h => wpAny_Constant_none ⟨Kc.refl, .non, H, I, rfl, h⟩⟩
theorem je_lst (h : JA X c es t) : JE X c (.List es pos) (tLst t) := by
  refine ⟨fun pins s σ H Q I hq => ?_⟩
  refine wpAny_List_spliced (thn (h.run pos pins s σ H _ I hq) fun us s1 hh => ?_)
  obtain ⟨g1, xs, H1, I1, r, z, q⟩ := hh
  refine ⟨by rw [← r.length]; exact z, g1.trans fun o e => Heap.get?_push_of_some _ e, .ref s1.heap.objs.size, upd H1 s1.heap.objs.size (.lst xs), I1.laid (t' := s1.toks) (fun b u e => Heap.get?_push_of_some _ e) (Nat.le_refl _) ?_, rfl, q _ (I1.hok.fresh (Nat.le_refl _))⟩
  exact ⟨z, us, 0, r, Heap.get?_push_size _ rfl⟩
theorem jk_ifx {ce : Expr} (hc : JKT X c u0 n ce tt) (ha : JK X c u0 n e te) (hb : JK X c u0 n e2 tf) : JK X c u0 n (.IfExp ce e e2 pos) (tIf tt te tf) := by
  refine ⟨fun pins s σ H Q I hn hcell h => ?_⟩
  refine wpAny_IfExp (thn (hc.run pins s σ H _ I hn hcell h) fun d s1 hh => ?_)
  obtain ⟨g1, H1, I1, q1⟩ := hh
  cases d with
  | true => exact thn (ha.run pins s1 σ H1 Q I1 g1.2 (g1.1.cell hcell) q1) fun u s2 ⟨g2, q2⟩ => ⟨g1.trans g2, q2⟩
  | false => exact thn (hb.run pins s1 σ H1 Q I1 g1.2 (g1.1.cell hcell) q1) fun u s2 ⟨g2, q2⟩ => ⟨g1.trans g2, q2⟩
theorem ji_range1 {tg : Expr} (hg : Gl X "range") (hm : X.mg "range" = none) (ha : JA X c [e] t) (hs : starEach [e] X.env = [(false, eval e X.env)] := by rfl) : JI X c tg (.Call (.Name "range" p) [e] [] pos) (iRng1 t) := by
  refine ⟨fun pins s σ H R I h => ?_⟩
  refine Call_ (ld_blt I hg hm boot_range (PyProof.Rows.callWith_type1 (thn (ha.run pos pins s σ H _ I h) fun us s1 hh => ?_) hs rfl))
  obtain ⟨g1, vs, H1, I1, r1, j, ex, q1, q2, q⟩ := hh
  subst ex
  obtain ⟨u, rfl, tk, rfl⟩ := vals1 r1
  refine call_range_1 ?_
  generalize eh : s1.heap.push { cls := .type "range", data := .fields #[.int 0 s1.toks, .int j tk, .int 1 (s1.toks + 1)] } = h1
  have kept : ∀ b o, s1.heap.get? b = some o → h1.get? b = some o := fun b o e => by
    rw [← eh]
    exact Heap.get?_push_of_some _ e
  have isR : IsRange h1 s1.heap.objs.size 0 j 1 s1.toks tk (s1.toks + 1) := by
    rw [← eh]
    exact IsRange.new ..
  have I2 : Inv X pins σ H1 { s1 with heap := h1, toks := s1.toks + 1 + 1 } := I1.kept (t' := s1.toks + 1 + 1) kept
  refine wpAny_pyIter_range isR (small_one (by omega) (by omega) q1 q2) ⟨g1.trans fun o e => Heap.get?_push_of_some _ (kept _ _ e), ?_⟩
  refine ⟨h1.objs.size, [h1.objs.size], _, _, H1, rfl, I2.kept (t' := s1.toks + 1 + 1) (fun b o e => Heap.get?_push_of_some _ e), turn_range _ 0 j.toNat, ?_, fun b hb => ?_, q⟩
  · have first : (0 : Int) + ((0 : Nat) : Int) * 1 = 0 := by omega
    have left : ((j.toNat : Nat) : Int) - ((0 : Nat) : Int) = Builtin.Range.rangeSize 0 j 1 := by
      rw [rangeSize_one]
      split <;> omega
    show IsRangeIter _ _ ((0 : Int) + ((0 : Nat) : Int) * 1) (((j.toNat : Nat) : Int) - ((0 : Nat) : Int)) 1
    rw [first, left]
    exact Heap.get?_push_size _ rfl
  · rw [List.mem_singleton.mp hb]
    exact I2.fpOk (Nat.le_refl _) (I2.hok.fresh (Nat.le_refl _))
theorem ji_enum {pt : Pos} {elts : List Expr} {kk : Nat} (hg : Gl X "enumerate") (hm : X.mg "enumerate" = none) (ha : JA X c [e] t) (hs : starEach [e] X.env = [(false, eval e X.env)] := by rfl) :
    JI X c (.Tuple elts kk pt) (.Call (.Name "enumerate" p) [e] [] pos) (iEnum X.K t) := by
  refine ⟨fun pins s σ H R I h => ?_⟩
  refine Call_ (ld_blt I hg hm boot_enumerate (PyProof.Rows.callWith_type1 (thn (ha.run pos pins s σ H _ I h) fun us s1 hh => ?_) hs rfl))
  obtain ⟨g1, vs, H1, I1, r1, l, xs, ex, hq, q⟩ := hh
  subst ex
  obtain ⟨u, rfl, rfl⟩ := vals1 r1
  obtain ⟨its, rv, isL, hz⟩ := I1.list hq
  refine call_enumerate_list isL.isList fun g isE isI hsz hk => wpAny_pyIter_enum isE ⟨g1.trans fun o e => hk _ _ e, ?_⟩
  refine ⟨s1.heap.objs.size + 1, [s1.heap.objs.size + 1, s1.heap.objs.size], _, _, H1, rfl, I1.kept (t' := s1.toks) hk, turn_enum l (s1.heap.objs.size + 1) s1.heap.objs.size, ⟨⟨.none, isE⟩, isI, Nat.succ_ne_self _⟩, fun b hb => ?_, q⟩
  have up : s1.heap.objs.size ≤ b := by
    rcases List.mem_cons.mp hb with z | z
    · rw [z]
      exact Nat.le_add_right _ _
    · rw [List.mem_singleton.mp z]
      exact Nat.le_refl _
  exact I1.fpOk up (I1.hok.fresh up)
/-! ### where it is known before alone -/
theorem jrs_consK (h1 : JKS X c u0 n st ts) (h2 : JRs X c u0 n rest tr) : JRs X c u0 n (st :: rest) (tSeq ts tr) := by
  refine ⟨fun pins s σ H D I hn hc h => ?_⟩
  refine wpAny_execs_cons (thn (h1.run pins s σ H { D with nx := tr D } I hn hc h) fun f s1 hh => ?_)
  obtain ⟨g1, q⟩ := hh
  match f, q with
  | .next, ⟨σ', H', I', q⟩ => exact h2.run pins s1 σ' H' D I' g1.2 (g1.1.cell hc) q
  | .ret v, q => exact q
  | .brk, q => exact q
  | .cont, q => exact q
theorem jr_callB {id : String} {r : List V → Hp → VK → Prop} (hc : CallR X (.builtin id) r) (hg : Gl X x) (hm : X.mg x = none) (hv : bootBuiltins x = some (.builtin id)) (ha : JR X c u0 n e te) (hn : x ≠ "__name__" := by decide) (hdb : (x == ("__debug__" : Str)) = false := by decide)
    (he : starEach [e] X.env = (false, eval e X.env) :: starEach [] X.env := by rfl) (hpl : (backTo pos (starEach [] X.env)).any (·.1) = false := by rfl) : JR X c u0 n (.Call (.Name x p) [e] [] pos) (tCB r (tCons te tNil)) := by
  refine ⟨fun pins s σ H Q I hk hcell h => ?_⟩
  refine wpAny_Call_Name_kw (ld_blt I hg hm hv ?_ hn hdb)
  refine PyProof.Rows.callWith_builtin1 ?_ he hpl
  rw [he]
  show wpAny _ _ (spliced ((false, eval e X.env) :: backTo pos (starEach [] X.env))) _ _ s
  refine Calls.spliced_cons (thn (ha.run pins s σ H _ I hk hcell h) fun u s1 hh => ?_)
  obtain ⟨v, H1, I1, r1, q1⟩ := hh
  exact Calls.spliced_nil (hc pins s1 σ H1 [v] [u] Q I1 (.cons r1 .nil) q1)
/-- if e != e2: .. -/
theorem jrs_ifcmp {op : CmpOp} {r : R2} (ho : OpR X (compareOp op) r) (h1 : JR X c u0 n e te) (h2 : PE X e2 tf) (hm : behindInMarks op e2 = false) (ha : PSs X a ts) (hb : PSs X rest tr) {tn : TS} (hn : PSs X b tn) : JRs X c u0 n (.If (.Compare e [op] [e2] pos) a b p :: rest) (tSeq (tIfS (tTest (tOp r te tf)) ts tn) tr) := by
  refine ⟨fun pins s σ H D I hk hcell h => ?_⟩
  refine wpAny_execs_cons (wpAny_If (wpAny_isTrue_Compare1 (thn (h1.run pins s σ H _ I hk hcell h) fun v s1 hh => ?_) hm))
  obtain ⟨v1, H1, I1, r1, q1⟩ := hh
  refine thn (h2.run pins s1 σ H1 _ I1 q1) fun u s2 hh => ?_
  obtain ⟨v2, H2, I2, r2, q2⟩ := hh
  refine thn (ho pins s2 σ H2 v1 v2 v u _ I2 r1 r2 q2) fun w s3 hh => ?_
  obtain ⟨v3, H3, I3, r3, k, e3, q3⟩ := hh
  subst e3
  cases r3
  refine wpAny_truthy_bool ?_
  have go : ∀ (sts : List Stmt) (tx : TS), PSs X sts tx → tx { D with nx := tr D } σ H3 → wpAny (model X.prog X.w) X.A (execs sts X.env) (fun f s' => match f with | .next => wpAny (model X.prog X.w) X.A (execs rest X.env) (SP X pins D) X.xe s' | f => SP X pins D f s') X.xe s3 := fun sts tx hx hq =>
    thn (hx.run pins s3 σ H3 { D with nx := tr D } I3 hq) fun f s4 h4 => by
      match f, h4 with
      | .next, ⟨σ', H', I', q⟩ => exact hb.run pins s4 σ' H' D I' q
      | .ret v, q => exact q
      | .brk, q => exact q
      | .cont, q => exact q
  cases k with
  | true => exact go a ts ha q3
  | false => exact go b tn hn q3
end
end Sq
set_option Elab.async false
set_option linter.all false
set_option maxRecDepth 100000
set_option maxHeartbeats 4000000
/-! name = ['x', 'y', ..][e], the name in a cell: the rest knows it. -/
namespace Sq
open PySem PySem.Spec PyProof.Rows L2 GenW
/-- statements run where n tokens were given out -/
structure Pn (X : Cx) (n : Nat) (sts : List Stmt) (t : TS) : Prop where
  run : ∀ (pins : List (Addr × Obj)) (s : Shared) (σ : L2.St) (H : Hp) (D : Ends), Inv X pins σ H s → n ≤ s.toks → t D σ H → wpAny (model X.prog X.w) X.A (execs sts X.env) (SP X pins D) X.xe s
section
variable {X : Cx} {x y : Str} {p pos p1 p2 pc : Pos} {e a b : Expr} {es : List Expr} {te ta tb : TE} {t : TA} {rest : List Stmt} {tr : TS} {c : Addr}
theorem peg_ix {r : R2} (hr : IxR X r) (ha : PE X a ta) (hb : PEg X b tb) (hs : PlainIx b) : PEg X (.Subscript a b pos) (tOp r ta tb) := by
  refine ⟨fun pins s σ H Q I h => ?_⟩
  refine Subscript_ (thn (ha.run pins s σ H _ I h) fun v s1 hh => ?_)
  obtain ⟨z, H1, I1, r1, q1⟩ := hh
  refine thn (hb.run pins s1 σ H1 _ I1 q1) fun u s2 hh => ?_
  obtain ⟨up, w, H2, I2, r2, q2⟩ := hh
  exact wpAny_mono (PySem.wpAny_toks_of up (hr a b pins s2 σ H2 z w v u Q I2 r1 r2 q2 (hs _ _))) (fun _ _ z => z) fun _ _ z => z.2
/-- f(e, k) -/
theorem peg_call {k m : Nat} {i : Int} {ps : List Str} {sp : Sp} (D : Df X.prog X.w X.K X.mg X.base k x ps sp) (hr : Room k X.A) (hg : Gl X x) (ha : PE X e te) (hdb : (x == ("__debug__" : Str)) = false := by decide)
    (he : starEach [e, .Constant (.int i) m pc] X.env = (false, eval e X.env) :: starEach [.Constant (.int i) m pc] X.env := by rfl) (h2 : starEach [.Constant (.int i) m pc] X.env = [(false, eval (.Constant (.int i) m pc) X.env)] := by rfl) (hpl : (backTo pos (starEach [.Constant (.int i) m pc] X.env)).any (·.1) = false := by rfl) :
    PEg X (.Call (.Name x p) [e, .Constant (.int i) m pc] [] pos) (tCall sp [] E0 (tCons te (tCons (tC (.int i)) tNil))) := by
  obtain ⟨f, fd, F, g, kp, b⟩ := D.ex
  refine ⟨fun pins s σ H Q I h => ?_⟩
  refine wpAny_Call_Name_kw (ld_glob I hg g ?_ hdb)
  refine PySem.W.callWith_K (h₀ := X.base) I.ok.mod.kin kp ?_ he hpl
  rw [he, h2]
  show wpAny _ _ (spliced ((false, eval e X.env) :: [(false, eval (.Constant (.int i) m pc) X.env)])) _ _ s
  refine Calls.spliced_cons (thn (ha.run pins s σ H _ I h) fun u s1 hh => ?_)
  obtain ⟨v, H1, I1, r1, q1⟩ := hh
  refine Calls.spliced_cons (wpAny_Constant_int (Calls.spliced_nil ?_))
  have I2 : Inv X pins σ H1 { s1 with toks := s1.toks + 1 } := I1.tok _
  refine ⟨I2.kIn, ?_⟩
  have r : Vals [v, .int i] [u, .int i s1.toks] := .cons r1 (.cons ⟨_, rfl⟩ .nil)
  replace q1 : sp [v, .int i] H1 Q E0 := q1
  have hl : [u, Value.int i s1.toks].length = ps.length := by rw [← r.length]; exact F.len _ _ _ _ q1
  have bind := b { s1 with toks := s1.toks + 1 } [u, .int i s1.toks] I2.kIn (by rw [List.append_nil]; exact hl)
  rw [List.append_nil] at bind
  refine wpAny_mono (PySem.wpAny_toks_of (n := 1) (Nat.le_add_left 1 _) (wpAny_call (codeAny_mono (F.run X.A X.stack { s1 with toks := s1.toks + 1 } H1 ⟨[u, .int i s1.toks], []⟩ _ _ Q E0 hr I2.env0 bind r q1) fun r s' hq => ?_))) (fun _ _ z => z) fun _ _ z => z.2
  match r, hq with
  | .error e, hq => exact pass0 pins σ H1 _ e s' I2 hq
  | .ok (.ret u), hq => exact I2.after hq
theorem pss_gives {i : Nat} {pos' : Pos} (hN : X.N.Nodup) (hi : X.N[i]? = some x) (hx : Loc X.env.scope x) (he : PEg X e te) (hrest : Pn X 1 rest tr) (hs : swapsWith e (some (.Name x pos')) pos.line X.env = pure false := by rfl) (hf : X.fn x = true ∨ X.env.scope.names.lookup x = some .local := by first | exact .inl rfl | exact .inr rfl | assumption) :
    PSs X (.Assign [.Name x pos'] e pos :: rest) (tSeq (tAsg te (gName i)) tr) := by
  refine ⟨fun pins s σ H D I h => ?_⟩
  refine wpAny_execs_cons (wpAny_Assign_Name (thn (he.run pins s σ H _ I h) fun v s1 hh => ?_) hs)
  obtain ⟨up, z, H1, I1, r1, q1⟩ := hh
  exact put_ok I1 hN hi hx r1 (fun s2 I2 ups _ => hrest.run pins s2 _ H1 D I2 (Nat.le_trans up ups) q1) hf
/-- ['x', 'y', ..][e] -/
def tSignL (z1 z2 : Str) (ta : TA) (te : TE) : TE := fun σ H Q => ta σ H fun vs H1 => vs.length + 2 ≤ sizeLine ∧ te σ H1 fun y H2 => ∃ (j : Nat) (v : V), y = .int (j : Int) ∧ (V.str z1 :: V.str z2 :: vs)[j]? = some v ∧ (2 ≤ j → ∀ z : Str, v = .str z → z.length ≠ 1) ∧ Q v H2
theorem pn_signL {i k1 k2 : Nat} {z1 z2 : Str} {pos' pl ps : Pos} (hN : X.N.Nodup) (hi : X.N[i]? = some x) (hk : X.env.kindOf x = some .cell) (C : Cel X x c) (ha : PA X es t) (he : PE X e te) (hix : PlainIx e)
    (hrest : ∀ (u0 : Value) (n : Nat), Tkn 0 [u0] n → 1 ≤ n → JRs X c u0 n rest tr) (hs : swapsWith (.Subscript (.List (.Constant (.str z1) k1 p1 :: .Constant (.str z2) k2 p2 :: es) pl) e ps) (some (.Name x pos')) pos.line X.env = pure false := by rfl)
    (h1 : starEach (.Constant (.str z1) k1 p1 :: .Constant (.str z2) k2 p2 :: es) X.env = (false, eval (.Constant (.str z1) k1 p1) X.env) :: (false, eval (.Constant (.str z2) k2 p2) X.env) :: starEach es X.env := by rfl) :
    Pn X 1 (.Assign [.Name x pos'] (.Subscript (.List (.Constant (.str z1) k1 p1 :: .Constant (.str z2) k2 p2 :: es) pl) e ps) pos :: rest) (tSeq (tAsg (tSignL z1 z2 t te) (gName i)) tr) := by
  refine ⟨fun pins s σ H D I hn h => ?_⟩
  refine wpAny_execs_cons (wpAny_Assign_Name (Subscript_ (wpAny_List_spliced ?_)) hs)
  rw [h1]
  show wpAny _ _ (spliced ((false, eval (.Constant (.str z1) k1 p1) X.env) :: (false, eval (.Constant (.str z2) k2 p2) X.env) :: backTo pl (starEach es X.env))) _ _ s
  refine Calls.spliced_cons (Calls.Constant_str (Calls.spliced_cons (Calls.Constant_str ?_)))
  have I0 : Inv X pins σ H { s with toks := s.toks + 1 + 1 } := I.tok _
  refine wpAny_mono (PySem.wpAny_toks (ha.run pl pins _ σ H _ I0 h)) (fun us s1 hh => ?_) fun _ _ z => z.2
  obtain ⟨up1, vs, H1, I1, r1, few, q1⟩ := hh
  have up1' : s.toks + 1 + 1 ≤ s1.toks := up1
  refine ⟨by show us.length + 2 ≤ sizeLine; rw [← r1.length]; exact few, ?_⟩
  -- the list stands as a pin
  generalize eo : ({ cls := .type "list", data := .seq (Value.str z1 s.toks :: Value.str z2 (s.toks + 1) :: us).toArray } : Obj) = ob
  have hdat : ob.data = .seq (Value.str z1 s.toks :: Value.str z2 (s.toks + 1) :: us).toArray := by rw [← eo]
  have fp : FpOk X pins H1 s1.heap.objs.size := I1.fpOk (Nat.le_refl _) (I1.hok.fresh (Nat.le_refl _))
  have I2 : Inv X pins σ H1 { s1 with heap := s1.heap.push ob } := I1.kept (t' := s1.toks) fun b o e => Heap.get?_push_of_some _ e
  have at2 : (s1.heap.push ob).get? s1.heap.objs.size = some ob := Heap.get?_push_size _ (by rw [← eo]; rfl)
  have I3 := I2.pinned (fp := [s1.heap.objs.size]) (fun b hb => by rw [List.mem_singleton.mp hb]; exact fp) (fun b hb => by
    rw [List.mem_singleton.mp hb]
    exact ⟨ob, at2, fun v q => by rw [hdat] at q; cases q⟩)
  refine wpAny_mono (PySem.wpAny_toks (he.run _ _ σ H1 _ I3 q1)) (fun v s2 hh => ?_) fun _ _ z => z.2
  obtain ⟨up2, y, H2, I4, r2, j, v1, rfl, at3, short, q2⟩ := hh
  have up2' : s1.toks ≤ s2.toks := up2
  have pin := I4.pin (s1.heap.objs.size, ob) (List.mem_append_right _ (List.mem_append_right _ (mem_pinsAt (by simp) at2)))
  have I5 := I4.unpinned
  obtain ⟨tk, rfl⟩ := r2
  have rr : Vals (.str z1 :: .str z2 :: vs) (Value.str z1 s.toks :: Value.str z2 (s.toks + 1) :: us) := .cons ⟨_, rfl⟩ (.cons ⟨_, rfl⟩ r1)
  obtain ⟨w, ew, rw'⟩ := rr.get at3
  have isL : s2.heap.IsList s1.heap.objs.size (Value.str z1 s.toks :: Value.str z2 (s.toks + 1) :: us).toArray := ⟨ob, pin.1, by rw [← eo], 0, hdat⟩
  have il : j < (Value.str z1 s.toks :: Value.str z2 (s.toks + 1) :: us).length := (List.getElem?_eq_some_iff.mp ew).1
  have lr := r1.length
  have line := line63
  refine item_listR isL (Int.natCast_nonneg j) (by simp only [List.length_cons] at il; omega) (x := w) (by simpa using ew) ?_ (hix _ _)
  refine store_cellJ (v := v1) I5 hN hi hk C rw' fun h' I6 cell => ?_
  have good : Tkn 0 [w] s2.toks := fun b tb eb one => by
    have ewb : w = .str b tb := Option.some.inj eb
    have key : tb = s.toks ∨ tb = s.toks + 1 := by
      match j, ew, at3, short with
      | 0, ew, _, _ =>
        have e3 : Value.str z1 s.toks = w := Option.some.inj ew
        rw [ewb] at e3
        injection e3 with _ e4
        exact .inl e4.symm
      | 1, ew, _, _ =>
        have e3 : Value.str z2 (s.toks + 1) = w := Option.some.inj ew
        rw [ewb] at e3
        injection e3 with _ e4
        exact .inr e4.symm
      | j + 2, ew, _, short =>
        exfalso
        rw [ewb] at rw'
        cases v1 with
        | str z =>
          obtain ⟨t4, e4⟩ := rw'
          injection e4 with e5 _
          exact short (by omega) z rfl (by rw [← e5]; exact one)
        | non => cases rw'
        | bl _ => cases rw'
        | int _ => obtain ⟨_, e4⟩ := rw'; cases e4
        | byt _ => obtain ⟨_, e4⟩ := rw'; cases e4
        | flt _ => obtain ⟨_, e4⟩ := rw'; cases e4
        | ref _ => cases rw'
        | ty _ => cases rw'
    have h0 : tb ≠ 0 := by
      rcases key with z | z <;> rw [z]
      · exact Nat.ne_of_gt hn
      · exact Nat.succ_ne_zero _
    refine ⟨h0, ?_⟩
    rcases key with z | z <;> rw [z]
    · exact Nat.lt_of_lt_of_le (Nat.lt_of_lt_of_le (Nat.lt_succ_self _) (Nat.le_of_succ_le up1')) up2'
    · exact Nat.lt_of_lt_of_le up1' up2'
  exact (hrest w s2.toks good (Nat.le_trans hn (Nat.le_trans (Nat.le_of_succ_le (Nat.le_of_succ_le up1')) up2'))).run pins _ _ H2 D I6 (Nat.le_refl _) cell q2
end
end Sq
set_option Elab.async false
set_option linter.all false
set_option maxRecDepth 100000
set_option maxHeartbeats 1000000
/-! range(lo, hi) of ints of any size; order of lists; list(g(..)). -/
namespace L2
open PySem PySem.Spec PyProof.Rows
end L2
set_option Elab.async false
set_option linter.all false
set_option maxRecDepth 100000
set_option maxHeartbeats 8000000
set_option exponentiation.threshold 2000
namespace Sq
open PySem PySem.Spec PyProof.Rows L2
def topS (i : Nat) : Stmt := PySem.Challenge.pw_squeezelists_k04_errors_of_squeezing.main.body.getD i (.Pass ⟨0, 0, 0, 0⟩)
abbrev s_checklist : Stmt := topS 8
theorem sc_checklist : FnScope ["replacements", "index", "number"] ["replacements"] (defScope s_checklist) := ⟨rfl, rfl, rfl, by decide +kernel, rfl, by decide +kernel, by decide +kernel⟩
abbrev s_checknumber : Stmt := topS 9
theorem sc_checknumber : FnScope ["number", "least"] ["number", "least"] (defScope s_checknumber) := ⟨rfl, rfl, rfl, by decide +kernel, rfl, by decide +kernel, by decide +kernel⟩
abbrev s_checkcharacter : Stmt := topS 10
theorem sc_checkcharacter : FnScope ["character"] ["character"] (defScope s_checkcharacter) := ⟨rfl, rfl, rfl, by decide +kernel, rfl, by decide +kernel, by decide +kernel⟩
abbrev s_squeezed : Stmt := topS 12
theorem sc_squeezed : FnScope ["length", "replacements"] ["length", "replacements"] (defScope s_squeezed) := ⟨rfl, rfl, rfl, by decide +kernel, rfl, by decide +kernel, by decide +kernel⟩
abbrev s_squeezetext : Stmt := topS 13
theorem sc_squeezetext : FnScope ["text", "character", "replacements", "lengths", "after", "others", "length", "other"] ["text", "character", "replacements"] (defScope s_squeezetext) := ⟨rfl, rfl, rfl, by decide +kernel, rfl, by decide +kernel, by decide +kernel⟩
abbrev s_lengthsbetween : Stmt := topS 17
theorem sc_lengthsbetween : FnScope ["text", "character", "lengths", "run", "sign"] ["text", "character"] (defScope s_lengthsbetween) := ⟨rfl, rfl, rfl, by decide +kernel, rfl, by decide +kernel, by decide +kernel⟩
abbrev s_lengthafter : Stmt := topS 15
theorem sc_lengthafter : FnScope ["length", "replacements", "present", "number"] ["length", "replacements"] (defScope s_lengthafter) := ⟨rfl, rfl, rfl, by decide +kernel, rfl, by decide +kernel, by decide +kernel⟩
abbrev s_lengthafterone : Stmt := topS 16
theorem sc_lengthafterone : FnScope ["length", "number", "groups", "left"] ["length", "number"] (defScope s_lengthafterone) := ⟨rfl, rfl, rfl, by decide +kernel, rfl, by decide +kernel, by decide +kernel⟩
abbrev s_lawrng : Stmt := topS 19
theorem sc_lawrng : FnScope ["script", "digits", "seed", "cell", "far"] ["script"] (defScope s_lawrng) := ⟨rfl, rfl, rfl, by decide +kernel, rfl, by decide +kernel, by decide +kernel⟩
abbrev s_lawdraw : Stmt := topS 20
theorem sc_lawdraw : FnScope ["rng", "limit", "found", "mixed"] ["rng", "limit"] (defScope s_lawdraw) := ⟨rfl, rfl, rfl, by decide +kernel, rfl, by decide +kernel, by decide +kernel⟩
abbrev s_lawlist : Stmt := topS 21
theorem sc_lawlist : FnScope ["rng", "most", "greatest", "found", "kind", "turn", "some"] ["rng", "most", "greatest"] (defScope s_lawlist) := ⟨rfl, rfl, rfl, by decide +kernel, rfl, by decide +kernel, by decide +kernel⟩
abbrev s_lawtold : Stmt := topS 22
theorem sc_lawtold : FnScope ["way", "many", "some", "sign", "caught", "one", "e", "flags"] ["way", "many", "some", "sign"] (defScope s_lawtold) := ⟨rfl, rfl, rfl, by decide +kernel, rfl, by decide +kernel, by decide +kernel⟩
abbrev s_law : Stmt := topS 23
theorem sc_law : FnScope ["script", "rng", "lap", "some", "turn", "many", "sign", "kept", "low", "wrong", "first", "late", "spot", "one", "way"] ["script"] (defScope s_law) := ⟨rfl, rfl, rfl, by decide +kernel, rfl, by decide +kernel, by decide +kernel⟩
abbrev s_stages : Stmt := topS 14
theorem sc_stages : GScope ["length", "replacements", "present", "number"] ["length", "replacements"] (defScope s_stages) := ⟨rfl, rfl, rfl, by decide +kernel, rfl, by decide +kernel, by decide +kernel⟩
/-! ### the draws -/
structure Rng (H : Hp) (l : Addr) (seed cnt : Int) : Prop where
  ob : ∃ dg, H l = some (.lst [.int dg, .int seed, .int cnt])
  s0 : 0 ≤ seed
  s1 : seed < 2305843009213693951
  c0 : 0 ≤ cnt
theorem Rng.same {H H' : Hp} {l : Addr} {seed cnt : Int} (S : Rng H l seed cnt) (s : Same H H') : Rng H' l seed cnt :=
  let ⟨dg, h⟩ := S.ob
  ⟨⟨dg, s _ _ h⟩, S.s0, S.s1, S.c0⟩
/-- all but the object at l is as it was -/
def Keep1 (H H' : Hp) (l : Addr) : Prop := ∀ b o, H b = some o → b ≠ l → H' b = some o
theorem Keep1.trans {H H1 H2 : Hp} {l : Addr} (a : Keep1 H H1 l) (b : Keep1 H1 H2 l) : Keep1 H H2 l := fun c o h n => b c o (a c o h n) n
theorem Keep1.of {H H' : Hp} {l : Addr} (s : Same H H') : Keep1 H H' l := fun b o h _ => s b o h
theorem Keep1.set {H : Hp} {l : Addr} {o : HO} : Keep1 H (upd H l o) l := fun c x h n => by
  rw [upd_ne n]
  exact h
theorem growD {D r T : Int} {a : Nat} (h0 : 0 ≤ D) (h1 : D.natAbs < 2 ^ a) (r0 : 0 ≤ r) (r1 : r < T) (hT : T.natAbs ≤ 2 ^ 200) : 0 ≤ D * T + r ∧ (D * T + r).natAbs < 2 ^ (a + 200) := by
  have t0 : 0 ≤ T := by omega
  have p := Int.mul_nonneg h0 t0
  obtain ⟨d, rfl⟩ := Int.eq_ofNat_of_zero_le h0
  obtain ⟨t, rfl⟩ := Int.eq_ofNat_of_zero_le t0
  refine ⟨by omega, ?_⟩
  have h1' : d < 2 ^ a := by simpa using h1
  have hT' : t ≤ 2 ^ 200 := by simpa using hT
  have m : (d + 1) * t ≤ 2 ^ a * 2 ^ 200 := Nat.mul_le_mul h1' hT'
  rw [Nat.pow_add]
  have e : ((d : Int) * (t : Int)) = ((d * t : Nat) : Int) := by simp
  have e2 : (d + 1) * t = d * t + t := by rw [Nat.add_mul, Nat.one_mul]
  rw [e]
  omega
theorem p10_60 : ((10 : Int) ^ (60 : Int).toNat).natAbs ≤ 2 ^ 200 := by decide
theorem cut63 {xs : List V} (h : xs.length ≤ 63) : cutV xs none (some 63) = xs := by
  unfold cutV
  rw [HT.sIx_none, show HT.sIx xs.length xs.length (some 63) = min 63 xs.length from HT.sIx_nat xs.length xs.length 63, Nat.min_eq_right h]
  show List.take (xs.length - 0) (List.drop 0 xs) = xs
  rw [List.drop_zero, Nat.sub_zero, List.take_length]
section
variable {P : Program} {w : World} {K : PySem.W.Frag} {mg : Str → Option Value} {base : Heap}
def spRng (K : PySem.W.Frag) : Sp := fun vs H Q _ => ∃ (a : Addr) (ns : List Int), vs = [.ref a] ∧ SqL K H a (ns.map V.int) ∧ ns.length ≤ 63 ∧ ∀ l seed H', H l = none → Same H H' → Rng H' l seed 0 → Q (.ref l) H'
theorem ok_lawrng {f : Addr} {fd : FuncData} (F : Fun K "_law_rng" "_law_rng" s_lawrng f fd) (B : Bi mg) : FnOk P w K mg base CX0 1 f fd ["script"] (spRng K) := by
  refine F.ok sc_lawrng (fun vs H Q E h => ?_) (fun cdv A outer s H vs Q E hr h => ?_)
  · obtain ⟨a, ns, rfl, _⟩ := h
    rfl
  · obtain ⟨a, ns, rfl, hS, hn, q⟩ := h
    refine ⟨_, (pss_cons (ps_asg (pe_tup (pa_cons pe_int (pa_cons pe_int pa_nil))) (pg_tup rfl (pgs_cons (pg_name (i := 1) sc_lawrng.nd rfl (Or.inl rfl)) (pgs_cons (pg_name (i := 2) sc_lawrng.nd rfl (Or.inl rfl)) pgs_nil))))
 (pss_cons (ps_for PassesOwn.never rfl (pi_list (pe_slice sl_list (pv 0) po_none (po_some pe_int))) (pg_name (i := 3) sc_lawrng.nd rfl (Or.inl rfl))
 (pss_cons (ps_set (i := 4) sc_lawrng.nd rfl (Or.inl rfl) (pe_callB (id := "abs") call_abs (by rfl) B.n_abs (by decide +kernel) (pa_cons (pv 3) pa_nil)))
 (pss_cons (ps_if (pt_cmpR op_ge (pv 4) (pe_op op_pow pe_int pe_int) (nomark _))
 (pss_one (ps_set (i := 1) sc_lawrng.nd rfl (Or.inl rfl) (pe_op op_add (pe_op op_mulW (pv 1) (pe_op op_pow pe_int pe_int)) (pe_op op_mod (pv 4) (pe_op op_pow pe_int pe_int)))))
 pss_nil)
 (pss_one (ps_set (i := 2) sc_lawrng.nd rfl (Or.inl rfl) (pe_op op_mod (pe_op op_add (pe_op op_add (pe_op op_mul (pv 2) pe_int) (pe_op op_mod (pv 3) pe_int)) pe_int) pe_int))))))
 (pss_one (ps_ret (pe_lst (pa_cons (pv 1) (pa_cons (pv 2) (pa_cons pe_int pa_nil)))))))), ?_⟩
    refine ⟨(by show 2 ≤ sizeLine; exact Nat.le_of_lt (small1000 (by decide))), fun t0 ht0 => ⟨t0, [.int 0, .int 88675123], rfl, .inl (.inl upd_same), rfl, _, _, rfl, _, _, rfl, rfl, ?_⟩⟩
    have sm0 := same_new (o := .tup [.int 0, .int 88675123]) ht0
    refine ⟨_, rfl, 63, rfl, a, _, rfl, sm0.seq hS, fun p hp => ?_⟩
    rw [cut63 (by rw [List.length_map]; exact hn)]
    refine ⟨p, rfl, ⟨_, SqL.of upd_same⟩, for_list (K := K) (a := p) (xs := ns.map V.int) (fun i σ H' => Same (upd (upd H t0 (.tup [.int 0, .int 88675123])) p (.lst (ns.map V.int))) H' ∧ i ≤ 63 ∧ ∃ dg seed y3 y4, σ = [some (.ref a), some (.int dg), some (.int seed), y3, y4] ∧ 0 ≤ dg ∧ dg.natAbs < 2 ^ (200 * i + 1) ∧ 0 ≤ seed ∧ seed < 2305843009213693951)
      ⟨Same.refl _, by decide, 0, 88675123, none, none, rfl, by decide, by decide, by decide, by decide⟩ (fun i σ H' _ h => SqL.of (h.1 _ _ upd_same)) ?_ ?_⟩
    · rintro i x σ H' hi ⟨sm, h63, dg, seed, y3, y4, rfl, d0, d1, s0, s1⟩
      have hil : i < ns.length := by
        have := (List.getElem?_eq_some_iff.mp hi).1
        rwa [List.length_map] at this
      obtain ⟨c, hc, rfl⟩ := map_at hi
      refine ⟨_, rfl, c, rfl, ?_⟩
      generalize (if c < 0 then -c else c) = far
      have t0 : 0 ≤ (seed * 1000003 + c % 2305843009213693921 + 7) % 2305843009213693951 := Int.emod_nonneg _ (by decide)
      have t1 : (seed * 1000003 + c % 2305843009213693921 + 7) % 2305843009213693951 < 2305843009213693951 := Int.emod_lt_of_pos _ (by decide)
      have r0 : 0 ≤ far % 10 ^ (60 : Int).toNat := Int.emod_nonneg _ (by decide)
      have r1 : far % 10 ^ (60 : Int).toNat < 10 ^ (60 : Int).toNat := Int.emod_lt_of_pos _ (by decide)
      obtain ⟨g0, g1⟩ := growD d0 d1 r0 r1 p10_60
      refine ⟨_, rfl, 10, 18, rfl, rfl, ⟨by decide, by decide, by decide⟩, _, _, rfl, rfl, _, rfl, ite2 (fun _ => ?_) (fun _ => ?_)⟩
      · refine ⟨_, rfl, 10, 60, rfl, rfl, ⟨by decide, by decide, by decide⟩, dg, _, rfl, rfl, wide_mul d1 (show ((10 : Int) ^ (60 : Int).toNat).natAbs < 2 ^ 200 by decide) (by omega) (by decide) (by omega), _, rfl, 10, 60, rfl, rfl, ⟨by decide, by decide, by decide⟩, far, _, rfl, rfl, (by decide : (0 : Int) < 10 ^ (60 : Int).toNat), _, _, rfl, rfl, ?_⟩
        refine ⟨_, rfl, seed, 1000003, rfl, rfl, .inr ⟨by decide, by decide⟩, _, rfl, c, _, rfl, rfl, (by decide : (0 : Int) < 2305843009213693921), _, _, rfl, rfl, _, 7, rfl, rfl, _, _, rfl, rfl, (by decide : (0 : Int) < 2305843009213693951), ?_⟩
        exact ⟨sm, by omega, _, _, _, _, rfl, g0, g1, t0, t1⟩
      · refine ⟨_, rfl, seed, 1000003, rfl, rfl, .inr ⟨by decide, by decide⟩, _, rfl, c, _, rfl, rfl, (by decide : (0 : Int) < 2305843009213693921), _, _, rfl, rfl, _, 7, rfl, rfl, _, _, rfl, rfl, (by decide : (0 : Int) < 2305843009213693951), ?_⟩
        exact ⟨sm, by omega, _, _, _, _, rfl, d0, Nat.lt_of_lt_of_le d1 (Nat.pow_le_pow_right (by decide) (by omega)), t0, t1⟩
    · rintro σ H' ⟨sm, h63, dg, seed, y3, y4, rfl, d0, d1, s0, s1⟩
      refine ⟨_, rfl, _, rfl, (by show 3 ≤ sizeLine; exact Nat.le_of_lt (small1000 (by decide))), fun l hl => ?_⟩
      have s2 := (sm0.trans (same_new (o := .lst (ns.map V.int)) hp)).trans sm
      exact q l seed _ (s2.free hl) (s2.trans (same_new hl)) ⟨⟨dg, upd_same⟩, s0, s1, Int.le_refl 0⟩
end
section
variable {P : Program} {w : World} {K : PySem.W.Frag} {mg : Str → Option Value} {base : Heap}
def spDraw : Sp := fun vs H Q _ => ∃ (l : Addr) (seed cnt limit : Int), vs = [.ref l, .int limit] ∧ Rng H l seed cnt ∧ cnt < 1000000 ∧ 0 < limit ∧ limit.natAbs < 2 ^ 700 ∧
  ∀ z cnt' H', 0 ≤ z → z < limit → Rng H' l seed cnt' → cnt' ≤ cnt + 1 → Keep1 H H' l → Q (.int z) H'
theorem ok_lawdraw {f : Addr} {fd : FuncData} (F : Fun K "_law_draw" "_law_draw" s_lawdraw f fd) : FnOk P w K mg base CX0 1 f fd ["rng", "limit"] spDraw := by
  refine F.ok sc_lawdraw (fun vs H Q E h => ?_) (fun cdv A outer s H vs Q E hr h => ?_)
  · obtain ⟨l, seed, cnt, limit, rfl, _⟩ := h
    rfl
  · obtain ⟨l, seed, cnt, limit, rfl, S, hc, hm, hw, q⟩ := h
    refine ⟨_, (pss_cons (ps_if (pt_cmpR op_gt (pe_ix (r := rIxL K) ix_list (pv 0) pe_int (fun _ _ => rfl)) pe_int (nomark _))
 (pss_cons (ps_set (i := 2) sc_lawdraw.nd rfl (Or.inl rfl) (pe_op op_mod (pe_ix (r := rIxL K) ix_list (pv 0) pe_int (fun _ _ => rfl)) (pv 1)))
 (pss_cons (ps_asg (pe_op op_fdivW (pe_ix (r := rIxL K) ix_list (pv 0) pe_int (fun _ _ => rfl)) (pv 1)) (pg_sub (pv 0) pe_int set_list))
 (pss_one (ps_ret (pv 2)))))
 pss_nil)
 (pss_cons (ps_asg (pe_op op_add (pe_ix (r := rIxL K) ix_list (pv 0) pe_int (fun _ _ => rfl)) pe_int) (pg_sub (pv 0) pe_int set_list))
 (pss_cons (ps_set (i := 3) sc_lawdraw.nd rfl (Or.inl rfl) (pe_op op_mod (pe_op op_powW (pe_op op_add (pe_ix (r := rIxL K) ix_list (pv 0) pe_int (fun _ _ => rfl)) (pe_op op_mul pe_int (pe_ix (r := rIxL K) ix_list (pv 0) pe_int (fun _ _ => rfl)))) pe_int) pe_int))
 (pss_cons (ps_set (i := 3) sc_lawdraw.nd rfl (Or.inl rfl) (pe_op op_mod (pe_op op_powW (pe_op op_add (pv 3) (pe_op op_mul pe_int (pe_ix (r := rIxL K) ix_list (pv 0) pe_int (fun _ _ => rfl)))) pe_int) pe_int))
 (pss_one (ps_ret (pe_op op_mod (pe_op op_fdiv (pv 3) pe_int) (pv 1)))))))), ?_⟩
    have s0 := S.s0
    have s1 := S.s1
    have c0 := S.c0
    obtain ⟨dg, hl⟩ := S.ob
    refine ⟨_, rfl, l, _, 0, _, rfl, rfl, SqL.of hl, rfl, dg, 0, rfl, rfl, _, rfl, ite2 (fun c1 => ?_) (fun c1 => ?_)⟩
    · refine ⟨_, rfl, l, _, 0, _, rfl, rfl, SqL.of hl, rfl, _, rfl, dg, limit, rfl, rfl, hm, ?_⟩
      refine ⟨_, rfl, l, _, 0, _, rfl, rfl, SqL.of hl, rfl, _, rfl, dg, limit, rfl, rfl, wide_div hm hw (by decide) (by decide), ?_⟩
      refine ⟨_, rfl, l, _, 0, 0, rfl, rfl, hl, rfl, _, rfl, ?_⟩
      exact q _ cnt _ (Int.emod_nonneg _ (by omega)) (Int.emod_lt_of_pos _ hm) ⟨⟨dg / limit, upd_same⟩, s0, s1, c0⟩ (by omega) Keep1.set
    · refine ⟨_, rfl, l, _, 2, _, rfl, rfl, SqL.of hl, rfl, cnt, 1, rfl, rfl, _, rfl, l, _, 2, 2, rfl, rfl, hl, rfl, ?_⟩
      have hl3 : (upd H l (.lst [.int dg, .int seed, .int (cnt + 1)])) l = some (.lst [.int dg, .int seed, .int (cnt + 1)]) := upd_same
      have b1 : (seed + 998244353 * (cnt + 1)).natAbs < 2 ^ 63 := by omega
      refine ⟨_, rfl, l, _, 1, _, rfl, rfl, SqL.of hl3, rfl, _, rfl, l, _, 2, _, rfl, rfl, SqL.of hl3, rfl, 998244353, cnt + 1, rfl, rfl, .inl ⟨by decide, by decide⟩, seed, _, rfl, rfl, _, 3, rfl, rfl, powW_of (by decide) b1 (by decide) (by decide), _, _, rfl, rfl, (by decide : (0 : Int) < 162259276829213363391578010288127), ?_⟩
      have p0 : 0 ≤ (seed + 998244353 * (cnt + 1)) ^ (3 : Int).toNat % 162259276829213363391578010288127 := Int.emod_nonneg _ (by decide)
      have p1 : (seed + 998244353 * (cnt + 1)) ^ (3 : Int).toNat % 162259276829213363391578010288127 < 162259276829213363391578010288127 := Int.emod_lt_of_pos _ (by decide)
      have b2 : ((seed + 998244353 * (cnt + 1)) ^ (3 : Int).toNat % 162259276829213363391578010288127 + 32452843 * (cnt + 1)).natAbs < 2 ^ 110 := by
        generalize (seed + 998244353 * (cnt + 1)) ^ (3 : Int).toNat % 162259276829213363391578010288127 = y at p0 p1
        omega
      refine ⟨_, rfl, _, rfl, l, _, 2, _, rfl, rfl, SqL.of hl3, rfl, 32452843, cnt + 1, rfl, rfl, .inl ⟨by decide, by decide⟩, _, _, rfl, rfl, _, 3, rfl, rfl, powW_of (by decide) b2 (by decide) (by decide), _, _, rfl, rfl, (by decide : (0 : Int) < 170141183460469231731687303715884105727), ?_⟩
      refine ⟨_, rfl, _, 1048576, rfl, rfl, ⟨by decide, by decide⟩, _, rfl, _, limit, rfl, rfl, hm, ?_⟩
      exact q _ (cnt + 1) _ (Int.emod_nonneg _ (by omega)) (Int.emod_lt_of_pos _ hm) ⟨⟨dg, hl3⟩, s0, s1, by omega⟩ (by omega) Keep1.set
end
theorem Rng.free {H H' : Hp} {l p : Addr} {seed cnt : Int} (k : Keep1 H H' l) (S : Rng H' l seed cnt) (h : H' p = none) : H p = none := by
  obtain ⟨dg, hl⟩ := S.ob
  cases e : H p with
  | none => rfl
  | some o =>
    have := k p o e (fun z => by rw [z, hl] at h; cases h)
    rw [h] at this
    cases this
theorem Rng.ne {H : Hp} {l p : Addr} {seed cnt : Int} (S : Rng H l seed cnt) (h : H p = none) : p ≠ l := fun z => by
  obtain ⟨dg, hl⟩ := S.ob
  rw [z, hl] at h
  cases h
theorem Rng.upd {H : Hp} {l p : Addr} {seed cnt : Int} {o : HO} (S : Rng H l seed cnt) (h : p ≠ l) : Rng (upd H p o) l seed cnt :=
  let ⟨dg, hl⟩ := S.ob
  ⟨⟨dg, by rw [upd_ne h.symm]; exact hl⟩, S.s0, S.s1, S.c0⟩
theorem nth_of {xs : List Int} {z : Int} (h0 : 0 ≤ z) (h : z < xs.length) : ∃ k, k ∈ xs ∧ atI (xs.map V.int) z = some (.int k) := by
  have lt : z.toNat < xs.length := by omega
  refine ⟨xs[z.toNat], List.getElem_mem lt, at_of (j := z.toNat) (by omega) ?_⟩
  rw [List.getElem?_map, List.getElem?_eq_getElem lt]
  rfl
theorem lim10 {i : Int} (h : i.natAbs ≤ 10 ^ 31) : i.natAbs < 2 ^ 700 := Nat.lt_of_le_of_lt h (by decide)
section
variable {P : Program} {w : World} {K : PySem.W.Frag} {mg : Str → Option Value} {base : Heap} {c fI : Nat → Addr} {qn : Nat → Str} {cB : Addr}
def spList : Sp := fun vs H Q _ => ∃ (l : Addr) (seed cnt M g : Int), vs = [.ref l, .int M, .int g] ∧ 0 ≤ M ∧ M ≤ 12 ∧ 3 ≤ g ∧ g ≤ 1000000 ∧ Rng H l seed cnt ∧ cnt < 500000 ∧
  ∀ p ks cnt' H', H p = none → Rng H' l seed cnt' → cnt' ≤ cnt + 80 → Keep1 H H' l → H' p = some (.lst (List.map V.int ks)) → ks.length ≤ 12 → (∀ k ∈ ks, 2 ≤ k ∧ k ≤ 1000000) → Q (.ref p) H'
theorem ok_lawlist {f : Addr} {fd : FuncData} (F : Fun K "_law_list" "_law_list" s_lawlist f fd) (B : Bi mg) (D_lawdraw : Df P w K mg base 1 "_law_draw" ["rng", "limit"] spDraw) : FnOk P w K mg base CX0 2 f fd ["rng", "most", "greatest"] spList := by
  refine F.ok sc_lawlist (fun vs H Q E h => ?_) (fun cdv A outer s H vs Q E hr h => ?_)
  · obtain ⟨l, seed, cnt, M, g, rfl, _⟩ := h
    rfl
  · obtain ⟨l, seed, cnt, M, g, rfl, M0, M1, g0, g1, S, hc, q⟩ := h
    refine ⟨_, (pss_cons (ps_par (i := 3) (j := 4) (by rfl) sc_lawlist.nd rfl rfl (by decide) rfl rfl (pa_cons (pe_lst pa_nil) (pa_cons (pe_callD D_lawdraw (hr.mono (by omega)) (by rfl) (pa_cons (pv 0) (pa_cons pe_int pa_nil))) pa_nil)) (by rfl))
 (pss_cons (ps_for PassesOwn.never rfl (pi_range1 (by rfl) B.n_range (pa_cons (pe_callD D_lawdraw (hr.mono (by omega)) (by rfl) (pa_cons (pv 0) (pa_cons (pe_op op_add (pv 1) pe_int) pa_nil))) pa_nil)) (pg_name (i := 5) sc_lawlist.nd rfl (Or.inl rfl))
 (pss_cons (ps_set (i := 6) sc_lawlist.nd rfl (Or.inl rfl) (pe_lst (pa_cons (pe_op op_add pe_int (pe_callD D_lawdraw (hr.mono (by omega)) (by rfl) (pa_cons (pv 0) (pa_cons pe_int pa_nil)))) (pa_cons (pe_ix (r := rIxL K) ix_list (pe_op op_cat (pv 3) (pe_lst (pa_cons pe_int pa_nil))) pe_int (fun _ _ => rfl)) (pa_cons (pe_callB (id := "max") (call_max2 rfl) (by rfl) B.n_max (by decide +kernel) (pa_cons pe_int (pa_cons (pe_op op_sub (pv 2) (pe_callD D_lawdraw (hr.mono (by omega)) (by rfl) (pa_cons (pv 0) (pa_cons pe_int pa_nil)))) pa_nil))) pa_nil)))))
 (pss_cons (ps_expr (pe_bm PySem.F.plainAttrs_list PySem.F.slot_list_append PySem.F.type_list_append mt_append (pv 6) (pa_cons (pe_op op_add pe_int (pe_callD D_lawdraw (hr.mono (by omega)) (by rfl) (pa_cons (pv 0) (pa_cons (pe_op op_sub (pv 2) pe_int) pa_nil)))) pa_nil)))
 (pss_one (ps_expr (pe_bm PySem.F.plainAttrs_list PySem.F.slot_list_insert PySem.F.type_list_insert mt_insert (pv 3) (pa_cons pe_int (pa_cons (pe_ix (r := rIxL K) ix_list (pv 6) (pe_ix (r := rIxL K) ix_list (pe_lst (pa_cons (pv 4) (pa_cons (pe_callD D_lawdraw (hr.mono (by omega)) (by rfl) (pa_cons (pv 0) (pa_cons pe_int pa_nil))) pa_nil))) (pe_callD D_lawdraw (hr.mono (by omega)) (by rfl) (pa_cons (pv 0) (pa_cons pe_int pa_nil))) (fun _ _ => rfl)) (fun _ _ => rfl)) pa_nil))))))))
 (pss_one (ps_ret (pv 3))))), ?_⟩
    refine ⟨Nat.zero_le _, fun p hp => ⟨_, rfl, l, seed, cnt, 4, rfl, S.same (same_new hp), by omega, by decide, by decide, fun kind cnt1 H1 d0 d1 S1 hc1 k1 => ⟨_, _, rfl, ?_⟩⟩⟩
    have npl := S.ne hp
    have gp1 := k1 _ _ upd_same npl
    have k01 : Keep1 H H1 l := (Keep1.of (same_new hp)).trans k1
    refine ⟨_, rfl, _, rfl, M, 1, rfl, rfl, l, seed, cnt1, M + 1, rfl, S1, by omega, by omega, lim10 (by omega), fun m cnt2 H2 m0 m1 S2 hc2 k2 => ?_⟩
    refine ⟨m, rfl, by omega, by omega, for_range (lo := 0) (n := m.toNat) (fun i σ H' => ∃ ks cnt' y5 y6, σ = [some (.ref l), some (.int M), some (.int g), some (.ref p), some (.int kind), y5, y6] ∧ Rng H' l seed cnt' ∧ cnt' ≤ cnt + 2 + 6 * i ∧ Keep1 H H' l ∧ H' p = some (.lst (List.map V.int ks)) ∧ ks.length = i ∧ ∀ k ∈ ks, 2 ≤ k ∧ k ≤ 1000000)
      ⟨[], cnt2, none, none, rfl, S2, by omega, k01.trans k2, k2 _ _ gp1 npl, rfl, fun k z => nomatch z⟩ ?_ ?_⟩
    · rintro i σ H3 hi ⟨ks, cnt3, y5, y6, rfl, S3, hc3, k3, gp3, lk, hk⟩
      -- some
      refine ⟨_, rfl, l, seed, cnt3, 4, rfl, S3, by omega, by decide, by decide, fun z4 cnt4 H4 z40 z41 S4 hc4 k4 => ⟨2, z4, rfl, rfl, ?_⟩⟩
      have gp4 := k4 _ _ gp3 npl
      refine ⟨_, rfl, Nat.le_of_lt (small1000 (show 1 ≤ 1000 by decide)), fun t5 ht5 => ?_⟩
      have gp5 := same_new (o := .lst [.int 2]) ht5 _ _ gp4
      obtain ⟨fst, fm, fa⟩ := nth_of (xs := ks ++ [2]) (z := 0) (Int.le_refl 0) (by rw [List.length_append]; show (0 : Int) < ((ks.length + 1 : Nat) : Int); omega)
      rw [List.map_append] at fa
      have fb : 2 ≤ fst ∧ fst ≤ 1000000 := by
        rcases List.mem_append.mp fm with z | z
        · exact hk fst z
        · rw [List.mem_singleton.mp z]
          decide
      refine ⟨p, t5, _, _, rfl, rfl, gp5, upd_same, Nat.le_of_lt (small1000 (by rw [List.length_map]; show ks.length + 1 ≤ 1000; omega)), fun t6 ht6 => ⟨t6, _, 0, .int fst, rfl, rfl, SqL.of upd_same, fa, ?_⟩⟩
      have s46 := (same_new (o := .lst [.int 2]) ht5).trans (same_new (o := .lst (ks.map V.int ++ [.int 2])) ht6)
      generalize (upd (upd H4 t5 (.lst [.int 2])) t6 (.lst (ks.map V.int ++ [.int 2]))) = H6 at s46 ⊢
      have S6 := S4.same s46
      refine ⟨_, rfl, _, rfl, l, seed, cnt4, 3, rfl, S6, by omega, by decide, by decide, fun z7 cnt7 H7 z70 z71 S7 hc7 k7 => ⟨g, z7, rfl, rfl, 2, g - z7, rfl, ?_⟩⟩
      obtain ⟨mx, emx⟩ : ∃ mx, mx = (if g - z7 > 2 then g - z7 else 2) := ⟨_, rfl⟩
      have mb : 2 ≤ mx ∧ mx ≤ 1000000 := by
        subst emx
        split <;> omega
      rw [← emx]
      refine ⟨Nat.le_of_lt (small1000 (show 3 ≤ 1000 by decide)), fun t8 ht8 => ?_⟩
      have n8l := S7.ne ht8
      have S8 := S7.same (same_new (o := .lst [.int (2 + z4), .int fst, .int mx]) ht8)
      refine ⟨_, rfl, .inl ⟨rfl, _, SqL.of upd_same⟩, _, rfl, _, rfl, g, 1, rfl, rfl, l, seed, cnt7, g - 1, rfl, S8, by omega, by omega, lim10 (by omega), fun z9 cnt9 H9 z90 z91 S9 hc9 k9 => ?_⟩
      have g89 := k9 _ _ upd_same n8l
      refine ⟨2, z9, rfl, rfl, t8, _, _, rfl, rfl, g89, small1000 (show 3 ≤ 1000 by decide), ?_⟩
      have np8 : p ≠ t8 := ne_of_none (k7 _ _ (s46 _ _ gp4) npl) ht8
      have gp9 := k9 _ _ (same_new ht8 _ _ (k7 _ _ (s46 _ _ gp4) npl)) npl
      have gp10 : (upd H9 t8 (.lst ([.int (2 + z4), .int fst, .int mx] ++ [.int (2 + z9)]))) p = some (.lst (ks.map V.int)) := by rw [upd_ne np8]; exact gp9
      have g810 : (upd H9 t8 (.lst ([.int (2 + z4), .int fst, .int mx] ++ [.int (2 + z9)]))) t8 = some (.lst ([2 + z4, fst, mx, 2 + z9].map V.int)) := upd_same
      have S10 := S9.upd (o := .lst ([.int (2 + z4), .int fst, .int mx] ++ [.int (2 + z9)])) n8l
      have hp8 : H t8 = none := Rng.free ((k3.trans k4).trans ((Keep1.of s46).trans k7)) S7 ht8
      have k10 : Keep1 H (upd H9 t8 (.lst ([.int (2 + z4), .int fst, .int mx] ++ [.int (2 + z9)]))) l := fun b o e nb => by
        rw [upd_ne (ne_of_none e hp8)]
        exact k9 _ _ (same_new ht8 _ _ (k7 _ _ (s46 _ _ (k4 _ _ (k3 _ _ e nb) nb)) nb)) nb
      generalize (upd H9 t8 (.lst ([.int (2 + z4), .int fst, .int mx] ++ [.int (2 + z9)]))) = H10 at gp10 g810 S10 k10 ⊢
      -- found.insert(0, ..)
      refine ⟨_, rfl, .inl ⟨rfl, _, SqL.of gp10⟩, _, rfl, _, rfl, _, rfl, l, seed, cnt9, 4, rfl, S10, by omega, by decide, by decide, fun z11 cnt11 H11 z110 z111 S11 hc11 k11 => ?_⟩
      refine ⟨Nat.le_of_lt (small1000 (show 2 ≤ 1000 by decide)), fun t12 ht12 => ?_⟩
      have n12 := S11.ne ht12
      refine ⟨_, rfl, l, seed, cnt11, 2, rfl, S11.same (same_new ht12), by omega, by decide, by decide, fun z13 cnt13 H13 z130 z131 S13 hc13 k13 => ?_⟩
      obtain ⟨j, jm, ja⟩ := nth_of (xs := [kind, z11]) (z := z13) z130 z131
      have jb : 0 ≤ j ∧ j < 4 := by
        rcases List.mem_cons.mp jm with z | z
        · omega
        · have := List.mem_singleton.mp z
          omega
      obtain ⟨k, km, ka⟩ := nth_of (xs := [2 + z4, fst, mx, 2 + z9]) (z := j) jb.1 jb.2
      have kb : 2 ≤ k ∧ k ≤ 1000000 := by
        simp at km
        omega
      have k1013 := (k11.trans (Keep1.of (same_new (o := .lst [.int kind, .int z11]) ht12))).trans k13
      have gp13 := k1013 _ _ gp10 npl
      refine ⟨t12, _, z13, .int j, rfl, rfl, SqL.of (k13 _ _ upd_same n12), ja, t8, _, j, .int k, rfl, rfl, SqL.of (k1013 _ _ g810 n8l), ka, p, _, 0, .int k, rfl, rfl, gp13, (by rw [List.length_map]; exact small1000 (by omega)), Int.le_refl 0, by decide, ?_⟩
      refine ⟨k :: ks, cnt13, _, _, rfl, S13.upd npl, by omega, fun b o e nb => ?_, ?_, by rw [List.length_cons, lk], fun x hx => ?_⟩
      · rw [upd_ne (ne_of_none e hp)]
        exact k1013 _ _ (k10 _ _ e nb) nb
      · rw [upd_same]
        rfl
      · rcases List.mem_cons.mp hx with z | z
        · rw [z]
          exact kb
        · exact hk x z
    · rintro σ H3 ⟨ks, cnt3, y5, y6, rfl, S3, hc3, k3, gp3, lk, hk⟩
      exact ⟨_, rfl, q p ks cnt3 H3 hp S3 (by omega) k3 gp3 (by omega) hk⟩
end
end Sq
set_option Elab.async false
set_option linter.all false
set_option maxRecDepth 100000
set_option maxHeartbeats 8000000
set_option exponentiation.threshold 2000
namespace Sq
open PySem PySem.Spec PyProof.Rows L2
section
variable {P : Program} {w : World} {K : PySem.W.Frag} {mg : Str → Option Value} {base : Heap}
/-! ### the checks -/
def spCheckList (K : PySem.W.Frag) : Sp := fun vs H Q _ => ∃ (a : Addr) (ks : List Int), vs = [.ref a] ∧ SqL K H a (ks.map V.int) ∧ (∀ k ∈ ks, 2 ≤ k) ∧ ∀ H', Same H H' → Q .non H'
theorem ok_checklist {f : Addr} {fd : FuncData} (F : Fun K "check_list" "check_list" s_checklist f fd) (B : Bi mg) : FnOk P w K mg base CX0 1 f fd ["replacements"] (spCheckList K) := by
  refine F.ok sc_checklist (fun vs H Q E h => ?_) (fun cdv A outer s H vs Q E hr h => ?_)
  · obtain ⟨a, ks, rfl, _⟩ := h
    rfl
  · obtain ⟨a, ks, rfl, hS, hk, q⟩ := h
    refine ⟨_, (pss_one (ps_for PassesOwn.never rfl (pi_enum (by rfl) B.n_enumerate (pa_cons (pv 0) pa_nil)) (pg_tup rfl (pgs_cons (pg_name (i := 1) sc_checklist.nd rfl (Or.inl rfl)) (pgs_cons (pg_name (i := 2) sc_checklist.nd rfl (Or.inl rfl)) pgs_nil)))
 (pss_one (ps_if (pt_cmpR op_lt (pv 2) pe_int (nomark _))
 (pss_one ps_never)
 pss_nil)))), ?_⟩
    refine ⟨_, rfl, a, ks.map V.int, rfl, hS, for_it walk_enum (fun i σ H' => Same H H' ∧ ∃ y z, σ = [some (.ref a), y, z]) ⟨Same.refl H, none, none, rfl⟩ (fun i σ H' _ h => h.1.seq hS) ?_ ?_⟩
    · rintro i σ H' v H2 hi ⟨sm, y, z, rfl⟩ ⟨T, x1, x2, rfl, nT, rfl, e1, e2⟩
      obtain ⟨k, hk', rfl⟩ := map_at e2
      cases e1
      refine ⟨T, _, rfl, .inl (.inl upd_same), rfl, _, _, rfl, _, _, rfl, rfl, ?_⟩
      refine ⟨_, rfl, _, _, rfl, rfl, _, rfl, ite2 (fun c => ?_) (fun c => ?_)⟩
      · have := hk k (List.mem_of_getElem? hk')
        have c' : k < 2 := of_decide_eq_true c
        omega
      · exact ⟨sm.trans (same_new nT), _, _, rfl⟩
    · rintro σ H' ⟨sm, y, z, rfl⟩
      exact q H' sm
end
section
variable {P : Program} {w : World} {K : PySem.W.Frag} {mg : Str → Option Value} {base : Heap} {c fI : Nat → Addr} {qn : Nat → Str} {cB : Addr}
def spOnceS : Sp := fun vs H Q _ => ∃ (n k : Int), vs = [.int n, .int k] ∧ 2 ≤ k ∧ k < 1073741824 ∧ ∀ H', Same H H' → Q (.int (once n k)) H'
theorem ok_lengthafterone {f : Addr} {fd : FuncData} (F : Fun K "length_after_one" "length_after_one" s_lengthafterone f fd) (B : Bi mg) : FnOk P w K mg base CX0 1 f fd ["length", "number"] spOnceS := by
  refine F.ok sc_lengthafterone (fun vs H Q E h => ?_) (fun cdv A outer s H vs Q E hr h => ?_)
  · obtain ⟨n, k, rfl, _⟩ := h
    rfl
  · obtain ⟨n, k, rfl, k1, k2, q⟩ := h
    refine ⟨_, (pss_cons (ps_asg (pe_callB (id := "divmod") call_divmod (by rfl) B.n_divmod (by decide +kernel) (pa_cons (pv 0) (pa_cons (pv 1) pa_nil))) (pg_tup rfl (pgs_cons (pg_name (i := 2) sc_lengthafterone.nd rfl (Or.inl rfl)) (pgs_cons (pg_name (i := 3) sc_lengthafterone.nd rfl (Or.inl rfl)) pgs_nil))))
 (pss_one (ps_ret (pe_op op_add (pv 2) (pv 3))))), ?_⟩
    refine ⟨_, rfl, _, rfl, n, k, rfl, ⟨by omega, k2⟩, fun p hp => ?_⟩
    exact ⟨p, _, rfl, .inl (.inl upd_same), rfl, _, _, rfl, _, _, rfl, rfl, _, rfl, _, rfl, _, _, rfl, rfl, q _ (same_new hp)⟩
def spSqzS (K : PySem.W.Frag) : Sp := fun vs H Q _ => ∃ (n : Int) (a : Addr) (ks : List Int), vs = [.int n, .ref a] ∧ SqL K H a (ks.map V.int) ∧ Rpl ks ∧ ∀ H', Same H H' → Q (.int (sq n ks)) H'
theorem ok_lengthafter {f : Addr} {fd : FuncData} (F : Fun K "length_after" "length_after" s_lengthafter f fd) (D_lengthafterone : Df P w K mg base 1 "length_after_one" ["length", "number"] spOnceS) : FnOk P w K mg base CX0 2 f fd ["length", "replacements"] (spSqzS K) := by
  refine F.ok sc_lengthafter (fun vs H Q E h => ?_) (fun cdv A outer s H vs Q E hr h => ?_)
  · obtain ⟨n, a, ks, rfl, _⟩ := h
    rfl
  · obtain ⟨n, a, ks, rfl, hS, hk, q⟩ := h
    refine ⟨_, (pss_cons (ps_set (i := 2) sc_lengthafter.nd rfl (Or.inl rfl) (pv 0))
 (pss_cons (ps_for PassesOwn.never rfl (pi_list (pv 1)) (pg_name (i := 3) sc_lengthafter.nd rfl (Or.inl rfl))
 (pss_one (ps_set (i := 2) sc_lengthafter.nd rfl (Or.inl rfl) (pe_callD D_lengthafterone (hr.mono (by omega)) (by rfl) (pa_cons (pv 2) (pa_cons (pv 3) pa_nil))))))
 (pss_one (ps_ret (pv 2))))), ?_⟩
    refine ⟨_, rfl, _, rfl, a, rfl, ⟨_, hS⟩, for_list (K := K) (a := a) (xs := ks.map V.int) (fun i σ H' => Same H H' ∧ ∃ y, σ = [some (.int n), some (.ref a), some (.int (sq n (ks.take i))), y]) ⟨Same.refl H, none, rfl⟩ (fun i σ H' _ h => h.1.seq hS) ?_ ?_⟩
    · rintro i x σ H' hi ⟨sm, y, rfl⟩
      obtain ⟨k, e, rfl⟩ := map_at hi
      have hm := hk k (List.mem_of_getElem? e)
      refine ⟨_, rfl, _, rfl, _, k, rfl, hm.1, hm.2, fun H'' s2 => ⟨sm.trans s2, some (.int k), ?_⟩⟩
      rw [List.take_add_one, e]
      show _ = [_, _, some (V.int (sq n (ks.take i ++ [k]))), _]
      rw [sq_concat]
      rfl
    · rintro σ H' ⟨sm, y, rfl⟩
      rw [List.length_map, List.take_length]
      exact ⟨_, rfl, q _ sm⟩
end
theorem z1 : 1 ≤ sizeLine := Nat.le_of_lt (small1000 (by decide))
section
variable {P : Program} {w : World} {K : PySem.W.Frag} {mg : Str → Option Value} {base : Heap}
def spCheckChr : Sp := fun vs H Q _ => ∃ b : Str, vs = [.str b] ∧ b.length = 1 ∧ Q .non H
theorem ok_checkcharacter {f : Addr} {fd : FuncData} (F : Fun K "check_character" "check_character" s_checkcharacter f fd) (B : Bi mg) : FnOk P w K mg base CX0 1 f fd ["character"] spCheckChr := by
  refine F.ok sc_checkcharacter (fun vs H Q E h => ?_) (fun cdv A outer s H vs Q E hr h => ?_)
  · obtain ⟨b, rfl, _⟩ := h
    rfl
  · obtain ⟨b, rfl, hb, q⟩ := h
    refine ⟨_, (pss_one (ps_if (PW.pt (pw_or (pt_not (pt_val (pe_callB (id := "isinstance") call_isi (by rfl) B.n_isinstance (by decide +kernel) (pa_cons (pv 0) (pa_cons (pe_bltn (v := .ty "str") (by rfl) B.n_str (by decide +kernel) rfl) pa_nil))))) (pw_or1 (pt_cmpR op_ne (pe_callB (id := "len") call_len_str (by rfl) B.n_len (by decide +kernel) (pa_cons (pv 0) pa_nil)) pe_int (nomark _)))))
 (pss_one ps_never)
 pss_nil)), ?_⟩
    have h1 : (b.length : Int) = 1 := by omega
    refine ⟨_, rfl, _, _, _, _, true, rfl, .ty _, (.base (.str b)), kit_ty (by decide +kernel), _, rfl, iteF ?_⟩
    refine ⟨_, rfl, b, rfl, by rw [hb]; exact z1, rfl, _, rfl, ?_⟩
    rw [h1, show (!decide (V.int 1 = V.int 1)) = false by rw [decide_eq_true rfl]; rfl]
    exact iteF q
/-- how often a character stands before each other one, and at the end -/
def lbw (b : Nat) : List Nat → Int → List Int
  | [], r => [r]
  | x :: xs, r => if x = b then lbw b xs (r + 1) else r :: lbw b xs 0
theorem lbw_cons (b x : Nat) (xs : List Nat) (r : Int) : lbw b (x :: xs) r = if x = b then lbw b xs (r + 1) else r :: lbw b xs 0 := rfl
theorem lbw_len (b : Nat) : ∀ (xs : List Nat) (r : Int), (lbw b xs r).length = (xs.filter fun x => decide (x ≠ b)).length + 1
  | [], _ => rfl
  | x :: xs, r => by
    unfold lbw
    by_cases c : x = b
    · rw [if_pos c, lbw_len b xs, List.filter_cons, if_neg (by rw [decide_eq_false (fun z => z c)]; exact Bool.false_ne_true)]
    · rw [if_neg c, List.length_cons, lbw_len b xs, List.filter_cons, if_pos (decide_eq_true c)]
      rfl
theorem lbw_mem (b : Nat) : ∀ (xs : List Nat) (r : Int), 0 ≤ r → ∀ k ∈ lbw b xs r, 0 ≤ k ∧ k ≤ r + xs.length
  | [], r, h, k, hk => by
    rw [List.mem_singleton.mp hk]
    exact ⟨h, by simp⟩
  | x :: xs, r, h, k, hk => by
    unfold lbw at hk
    rw [List.length_cons]
    by_cases c : x = b
    · rw [if_pos c] at hk
      have := lbw_mem b xs (r + 1) (by omega) k hk
      omega
    · rw [if_neg c] at hk
      rcases List.mem_cons.mp hk with e | hk
      · omega
      · have := lbw_mem b xs 0 (by decide) k hk
        omega
def spBetween : Sp := fun vs H Q _ => ∃ (x : Str) (b : Nat), vs = [.str x, .str ⟨#[b]⟩] ∧ x.length ≤ 4000 ∧ ∀ p H', H p = none → Same H H' → H' p = some (.lst ((lbw b x.cps.toList 0).map V.int)) → Q (.ref p) H'
theorem ok_between {f : Addr} {fd : FuncData} (F : Fun K "lengths_between" "lengths_between" s_lengthsbetween f fd) (B : Bi mg) : FnOk P w K mg base CX0 1 f fd ["text", "character"] spBetween := by
  refine F.ok sc_lengthsbetween (fun vs H Q E h => ?_) (fun cdv A outer s H vs Q E hr h => ?_)
  · obtain ⟨x, b, rfl, _⟩ := h
    rfl
  · obtain ⟨x, b, rfl, hx, q⟩ := h
    refine ⟨_, (pss_cons (ps_set (i := 2) sc_lengthsbetween.nd rfl (Or.inl rfl) (pe_lst pa_nil))
 (pss_cons (ps_set (i := 3) sc_lengthsbetween.nd rfl (Or.inl rfl) pe_int)
 (pss_cons (ps_for PassesOwn.never rfl (pi_str (pv 0)) (pg_name (i := 4) sc_lengthsbetween.nd rfl (Or.inl rfl))
 (pss_one (ps_if (pt_cmpR op_eq (pv 4) (pv 1) (nomark _))
 (pss_one (ps_aug (i := 3) sc_lengthsbetween.nd rfl (Or.inl rfl) pe_int ip_add))
 (pss_cons (ps_expr (pe_bm PySem.F.plainAttrs_list PySem.F.slot_list_append PySem.F.type_list_append mt_append (pv 2) (pa_cons (pv 3) pa_nil)))
 (pss_one (ps_set (i := 3) sc_lengthsbetween.nd rfl (Or.inl rfl) pe_int))))))
 (pss_cons (ps_expr (pe_bm PySem.F.plainAttrs_list PySem.F.slot_list_append PySem.F.type_list_append mt_append (pv 2) (pa_cons (pv 3) pa_nil)))
 (pss_one (ps_ret (pv 2))))))), ?_⟩
    have szl : sizeLine = 16777216 := sizeLine_eq
    refine ⟨Nat.zero_le _, fun p hp => ?_⟩
    have tl : x.cps.toList.length = x.length := rfl
    have fin : ∀ (H' : Hp) (acc : List Int) (r : Int) (rest : List Nat), Same H (wo H' p) → H' p = some (.lst (acc.map V.int)) → acc ++ lbw b rest r = lbw b x.cps.toList 0 → rest = [] → acc.length < sizeLine ∧ Q (.ref p) (upd H' p (.lst (acc.map V.int ++ [.int r]))) := fun H' acc r rest s1 g e er => by
      subst er
      have e' : acc ++ [r] = lbw b x.cps.toList 0 := e
      have l1 := congrArg List.length e'
      have l2 := lbw_len b x.cps.toList 0
      have l3 := List.length_filter_le (fun x => decide (x ≠ b)) x.cps.toList
      rw [List.length_append, List.length_singleton] at l1
      refine ⟨by omega, q p _ hp (fun a o e => ?_) ?_⟩
      · have ne : a ≠ p := fun z => by rw [z, hp] at e; cases e
        rw [upd_ne ne]
        exact wo_same _ _ (s1 _ _ e)
      · rw [upd_same, ← e', List.map_append]
        rfl
    refine ⟨_, rfl, x, rfl, for_it walk_str (fun i σ H' => ∃ acc r y, σ = [some (.str x), some (.str ⟨#[b]⟩), some (.ref p), some (.int r), y] ∧ Same H (wo H' p) ∧ H' p = some (.lst (acc.map V.int)) ∧ acc ++ lbw b (x.cps.toList.drop i) r = lbw b x.cps.toList 0)
      ⟨[], 0, none, rfl, by rw [wo_upd]; exact same_wo (Same.refl _) hp, upd_same, rfl⟩ (fun _ _ _ _ _ => trivial) ?_ ?_⟩
    · rintro i v σ H1 H2 hi ⟨acc, r, y, rfl, s1, g, e⟩ ⟨rfl, ch, ec, rfl⟩
      have ec' : x.cps.toList[i]? = some ch := by rw [Array.getElem?_toList]; exact ec
      have ed : x.cps.toList.drop i = ch :: x.cps.toList.drop (i + 1) := by
        obtain ⟨_, ee⟩ := List.getElem?_eq_some_iff.mp ec'
        rw [List.drop_eq_getElem_cons (by exact hi), ee]
      rw [ed] at e
      refine ⟨_, rfl, _, rfl, rfl, _, rfl, ite2 (fun c1 => ?_) (fun c1 => ?_)⟩
      · have cb : ch = b := by
          have h := of_decide_eq_true c1
          injection h with h
          injection h with h
          injection h with h
          injection h
        rw [lbw_cons, if_pos cb] at e
        exact ⟨_, rfl, _, _, rfl, rfl, acc, r + 1, _, rfl, s1, g, e⟩
      · have cb : ch ≠ b := fun z => c1 (by rw [z]; exact decide_eq_true rfl)
        rw [lbw_cons, if_neg cb] at e
        have l1 := congrArg List.length e
        rw [List.length_append, List.length_cons, lbw_len, lbw_len] at l1
        have l3 := List.length_filter_le (fun x => decide (x ≠ b)) x.cps.toList
        refine ⟨_, rfl, .inl ⟨rfl, _, SqL.of g⟩, _, rfl, p, _, _, rfl, rfl, g, by rw [List.length_map]; omega, acc ++ [r], 0, _, rfl, ?_, ?_, ?_⟩
        · rw [wo_upd]
          exact s1
        · rw [upd_same, List.map_append]
          rfl
        · rw [List.append_assoc]
          exact e
    · rintro σ H' ⟨acc, r, y, rfl, s1, g, e⟩
      obtain ⟨l, q1⟩ := fin H' acc r _ s1 g e (by simp)
      exact ⟨_, rfl, .inl ⟨rfl, _, SqL.of g⟩, _, rfl, p, _, _, rfl, rfl, g, by rw [List.length_map]; exact l, _, rfl, q1⟩
end
open StrLaws (replL replL_nil replL_hit replL_miss replace_list)
def kvF (xs : List Int) (f : Int → Int) : List (Key × V) := xs.map fun x => (.inl x, .int (f x))
theorem valV_kvF (f : Int → Int) (k : Int) : ∀ xs : List Int, valV (kvF xs f) (.inl k) = if k ∈ xs then some (.int (f k)) else none
  | [] => rfl
  | x :: xs => by
    show valV ((.inl x, .int (f x)) :: kvF xs f) (.inl k) = _
    by_cases c : x = k
    · subst c
      rw [valV_pos rfl, if_pos (List.mem_cons_self ..)]
    · rw [valV_neg (by intro z; cases z; exact c rfl), valV_kvF f k xs]
      by_cases m : k ∈ xs
      · rw [if_pos m, if_pos (List.mem_cons_of_mem _ m)]
      · rw [if_neg m, if_neg (by
          intro z
          rcases List.mem_cons.mp z with z | z
          · exact c z.symm
          · exact m z)]
theorem kvF_put (f : Int → Int) {xs : List Int} {y : Int} (h : y ∉ xs) : putK (kvF xs f) (.inl y) (.int (f y)) = kvF (xs ++ [y]) f := by
  rw [putK_new _ (by rw [valV_kvF, if_neg h])]
  unfold kvF
  rw [List.map_append]
  rfl
theorem nodup_take {xs : List Int} (h : xs.Nodup) {i : Nat} {y : Int} (e : xs[i]? = some y) : y ∉ xs.take i := fun z => by
  have h2 : (xs.take i ++ xs.drop i).Nodup := by rw [List.take_append_drop]; exact h
  have m : y ∈ xs.drop i := by
    obtain ⟨hi, ei⟩ := List.getElem?_eq_some_iff.mp e
    rw [List.drop_eq_getElem_cons hi, ei]
    exact List.mem_cons_self ..
  exact (List.nodup_append.mp h2).2.2 y z y m rfl
theorem once_le_self {k n : Int} (hk : 2 ≤ k) (h0 : 0 ≤ n) : once n k ≤ n := by
  unfold once
  have a := Int.mul_ediv_add_emod n k
  have b : 0 ≤ n / k := Int.ediv_nonneg h0 (by omega)
  have d : n / k ≤ k * (n / k) := by
    have := Int.mul_le_mul_of_nonneg_right (show (1 : Int) ≤ k by omega) b
    omega
  omega
theorem sq_le_self : ∀ (ks : List Int) (n : Int), (∀ k ∈ ks, 2 ≤ k) → 0 ≤ n → sq n ks ≤ n
  | [], n, _, _ => Int.le_refl n
  | k :: r, n, h, h0 => by
    have h2 := h k List.mem_cons_self
    have i := sq_le_self r (once n k) (fun x hx => h x (List.mem_cons_of_mem _ hx)) (once_nonneg h2 h0)
    have j := once_le_self h2 h0
    show sq (once n k) r ≤ n
    omega
/-- a text with all runs of b squeezed; r: how many of b stand before -/
def sqT (b : Nat) (ks : List Int) : List Nat → Int → List Nat
  | [], r => List.replicate (sq r ks).toNat b
  | x :: xs, r => if x = b then sqT b ks xs (r + 1) else List.replicate (sq r ks).toNat b ++ x :: sqT b ks xs 0
theorem sqT_cons (b : Nat) (ks : List Int) (x : Nat) (xs : List Nat) (r : Int) : sqT b ks (x :: xs) r = if x = b then sqT b ks xs (r + 1) else List.replicate (sq r ks).toNat b ++ x :: sqT b ks xs 0 := rfl
/-- the others, each as a text, and an empty one -/
def oth (b : Nat) (xs : List Nat) : List (List Nat) := (xs.filter fun x => decide (x ≠ b)).map (fun c => [c]) ++ [[]]
theorem oth_len (b : Nat) (xs : List Nat) : (oth b xs).length = (xs.filter fun x => decide (x ≠ b)).length + 1 := by
  unfold oth
  rw [List.length_append, List.length_map]
  rfl
theorem sqT_zip (b : Nat) (ks : List Int) : ∀ (xs : List Nat) (r : Int), (((lbw b xs r).zip (oth b xs)).map fun p => List.replicate (sq p.1 ks).toNat b ++ p.2).flatten = sqT b ks xs r
  | [], r => by
    show (List.replicate (sq r ks).toNat b ++ []) ++ [] = List.replicate (sq r ks).toNat b
    rw [List.append_nil, List.append_nil]
  | x :: xs, r => by
    rw [lbw_cons, sqT_cons]
    by_cases c : x = b
    · rw [if_pos c, if_pos c]
      have e : oth b (x :: xs) = oth b xs := by
        unfold oth
        rw [List.filter_cons, if_neg (by rw [decide_eq_false (fun z => z c)]; exact Bool.false_ne_true)]
      rw [e]
      exact sqT_zip b ks xs (r + 1)
    · rw [if_neg c, if_neg c]
      have e : oth b (x :: xs) = [x] :: oth b xs := by
        unfold oth
        rw [List.filter_cons, if_pos (decide_eq_true c)]
        rfl
      rw [e, List.zip_cons_cons, List.map_cons, List.flatten_cons, sqT_zip b ks xs 0, List.append_assoc]
      rfl
theorem repl_one (b : Nat) : ∀ l : List Nat, replL [b] [] l = l.filter fun x => decide (x ≠ b)
  | [] => replL_nil
  | x :: l => by
    by_cases c : x = b
    · rw [replL_hit (List.cons_ne_nil b []) (by rw [c]; rfl), List.filter_cons, if_neg (by rw [decide_eq_false (fun z => z c)]; exact Bool.false_ne_true)]
      exact repl_one b l
    · rw [replL_miss (y := [b]) (z := []) (c := x) (r := l) (fun z => c (Option.some.inj (congrArg List.head? z))), List.filter_cons, if_pos (decide_eq_true c), repl_one b l]
theorem repl_chr (x : Str) (b : Nat) : (Txt.replace x ⟨#[b]⟩ "").cps.toList = x.cps.toList.filter fun y => decide (y ≠ b) := by
  rw [replace_list (by exact Nat.le_refl 1)]
  exact repl_one b _
theorem oth_short {b : Nat} {xs o : List Nat} (h : o ∈ oth b xs) : o.length ≤ 1 := by
  unfold oth at h
  rcases List.mem_append.mp h with z | z
  · obtain ⟨c, _, rfl⟩ := List.mem_map.mp z
    exact Nat.le_refl _
  · rw [List.mem_singleton.mp z]
    exact Nat.zero_le _
theorem joinL_flat : ∀ ps : List (List Nat), TL.joinL [] ps = ps.flatten
  | [] => rfl
  | [p] => (List.append_nil p).symm
  | p :: q :: r => by
    show p ++ ([] ++ TL.joinL [] (q :: r)) = p ++ (q :: r).flatten
    rw [joinL_flat (q :: r), List.nil_append]
theorem mul_fold (b : Nat) : ∀ (k : Nat) (acc : Array Nat), ((List.replicate k #[b]).foldl (· ++ ·) acc).toList = acc.toList ++ List.replicate k b
  | 0, acc => (List.append_nil _).symm
  | k + 1, acc => by
    rw [List.replicate_succ, List.foldl_cons, mul_fold b k, Array.toList_append, List.append_assoc]
    rfl
theorem mul_chr (b : Nat) {n : Int} (h0 : 0 ≤ n) : _root_.PySem.Txt.mul ⟨#[b]⟩ n = SX.S (List.replicate n.toNat b) := by
  unfold _root_.PySem.Txt.mul
  split
  · rw [show n.toNat = 0 by omega]
    rfl
  · split
    · rename_i h1 h2
      have e : n = 1 := by
        rcases Bool.or_eq_true_iff.mp h2 with z | z
        · exact eq_of_beq z
        · cases z
      rw [e]
      rfl
    · refine TL.ext_tl ?_
      show ((List.replicate n.toNat #[b]).foldl (· ++ ·) #[]).toList = _
      rw [mul_fold]
      rfl
theorem mul_chr_ok (b : Nat) {n : Int} (h0 : 0 ≤ n) (h1 : n ≤ 4000) : _root_.PySem.MulOk ⟨#[b]⟩ n := by
  have l1 : (⟨#[b]⟩ : Str).length = 1 := rfl
  unfold _root_.PySem.MulOk
  rw [l1]
  refine ⟨?_, fun c _ => ?_, fun c _ => ?_⟩
  · rw [decide_eq_false (by omega), decide_eq_false (by omega)]
    rfl
  · have : (1 : Int) ≤ (2 ^ 63 - 1) / n := Int.le_ediv_of_mul_le (by omega) (by omega)
    show ¬ ((1 : Int) > (2 ^ 63 - 1) / n)
    omega
  · have szl : sizeLine = 16777216 := sizeLine_eq
    exact decide_eq_false (by omega)
theorem sqT_len {b : Nat} {ks : List Int} (h : ∀ k ∈ ks, 2 ≤ k) : ∀ (xs : List Nat) (r : Int), 0 ≤ r → ((sqT b ks xs r).length : Int) ≤ r + xs.length
  | [], r, h0 => by
    show ((List.replicate (sq r ks).toNat b).length : Int) ≤ r + 0
    rw [List.length_replicate]
    have := sq_le_self ks r h h0
    omega
  | x :: xs, r, h0 => by
    rw [sqT_cons, List.length_cons]
    by_cases c : x = b
    · rw [if_pos c]
      have := sqT_len (b := b) h xs (r + 1) (by omega)
      omega
    · rw [if_neg c, List.length_append, List.length_replicate, List.length_cons]
      have a := sq_le_self ks r h h0
      have b := sqT_len (b := b) h xs 0 (by decide)
      omega
theorem sq_low : ∀ {ks : List Int} (n : Int), (∀ k ∈ ks, 2 ≤ k) → 0 ≤ n → 0 ≤ sq n ks
  | [], n, _, h0 => h0
  | k :: r, n, h, h0 => sq_low (ks := r) (once n k) (fun x hx => h x (List.mem_cons_of_mem _ hx)) (once_nonneg (h k List.mem_cons_self) h0)
section
variable {P : Program} {w : World} {K : PySem.W.Frag} {mg : Str → Option Value} {base : Heap}
def spSqT (K : PySem.W.Frag) : Sp := fun vs H Q _ => ∃ (x : Str) (b : Nat) (a : Addr) (ks : List Int), vs = [.str x, .str ⟨#[b]⟩, .ref a] ∧ SqL K H a (ks.map V.int) ∧ Rpl ks ∧ x.length ≤ 3000 ∧ ∀ H', Same H H' → Q (.str ⟨(sqT b ks x.cps.toList 0).toArray⟩) H'
theorem ok_squeezetext {f : Addr} {fd : FuncData} (F : Fun K "squeeze_text" "squeeze_text" s_squeezetext f fd) (B : Bi mg) (D_checkcharacter : Df P w K mg base 1 "check_character" ["character"] spCheckChr) (D_checklist : Df P w K mg base 1 "check_list" ["replacements"] (spCheckList K))
    (D_lengthsbetween : Df P w K mg base 1 "lengths_between" ["text", "character"] spBetween) (D_lengthafter : Df P w K mg base 2 "length_after" ["length", "replacements"] (spSqzS K)) : FnT P w K mg base 4 f fd ["text", "character", "replacements"] 1 (spSqT K) := by
  refine fnt_of F sc_squeezetext (fun vs H Q E h => ?_) (y := "character") rfl rfl (fun cdv A outer s H us vs Q c u0 hr h rv tkn hu Ce => ?_)
  · obtain ⟨x, b, a, ks, rfl, _⟩ := h
    rfl
  · obtain ⟨x, b, a, ks, rfl, hS, hk, hx, q⟩ := h
    obtain ⟨tb, rfl⟩ : ∃ tb, u0 = .str ⟨#[b]⟩ tb := by
      obtain ⟨u, e, t, et⟩ := rv.get (i := 1) rfl
      rw [e] at hu
      exact ⟨t, (Option.some.inj hu).symm.trans et⟩
    have good := tkn _ _ hu rfl
    refine ⟨_, jrs_cons (jst_expr (je_callD Ce D_checkcharacter (hr.mono (by omega)) (by rfl) (ja_cons (jv 1) ja_nil)))
      (jrs_cons (jst_expr (je_callD Ce D_checklist (hr.mono (by omega)) (by rfl) (ja_cons (jv 2) ja_nil)))
      (jrs_cons (jst_set (i := 3) Ce (by decide) sc_squeezetext.nd rfl (Or.inl rfl) (je_callD Ce D_lengthsbetween (hr.mono (by omega)) (by rfl) (ja_cons (jv 0) (ja_cons (jv 1) ja_nil))))
      (jrs_cons (jst_set (i := 4) Ce (by decide) sc_squeezetext.nd rfl (Or.inr rfl) (je_dc Ce (own := [("length", 6)]) (g := gName 6) rfl sc_squeezetext.nd (ji_list (je_callB (id := "sorted") (r := rSortedSetI w) (cj_sortedSetI rfl) (by rfl) B.n_sorted (by decide +kernel) (ja_cons (je_callTy (T := "set") (r := rSetL K w) (cj_setL rfl) (by rfl) B.n_set (by decide +kernel) (ja_cons (jv 3) ja_nil)) ja_nil)))
        (blkOk_by (own := [("length", 6)]) (N := ["text", "character", "replacements", "lengths", "after", "others", "length", "other"]) (sc := defScope s_squeezetext) (by decide +kernel)) (fun _ _ _ _ _ => (pg_name (i := 6) sc_squeezetext.nd rfl (Or.inl rfl))) (fun _ _ _ _ _ => pts_nil) (fun _ _ _ _ _ => (pv 6)) (fun _ _ _ _ _ => (pe_callD D_lengthafter (hr.mono (by omega)) (by rfl) (pa_cons (pv 6) (pa_cons (pv 2) pa_nil))))))
      (jrs_set (i := 5) sc_squeezetext.nd rfl (Or.inl rfl) (jr_op op_cat (jr_callTy (T := "list") (call_listStr rfl) (by rfl) B.n_list (by decide +kernel) (jr_rep (i := 0) rfl (Or.inl rfl) rfl Ce.is good rfl)) (pe_lst (pa_cons pe_str pa_nil)))
      (pss_one (ps_ret (pe_join pe_str (pe_lc (own := [("length", 6), ("other", 7)]) (g := gTup K 2 (gCons (gName 6) (gCons (gName 7) gNil))) rfl sc_squeezetext.nd (pi_zip (by rfl) B.n_zip (pa_cons (pv 3) (pa_cons (pv 5) pa_nil))) (blkOk_by (own := [("length", 6), ("other", 7)]) (N := ["text", "character", "replacements", "lengths", "after", "others", "length", "other"]) (sc := defScope s_squeezetext) (by decide +kernel)) (fun _ _ _ _ _ => (pg_tup rfl (pgs_cons (pg_name (i := 6) sc_squeezetext.nd rfl (Or.inl rfl)) (pgs_cons (pg_name (i := 7) sc_squeezetext.nd rfl (Or.inl rfl)) pgs_nil)))) (fun _ _ _ _ _ => pts_nil) (fun _ _ _ _ _ => (pe_op op_add_str (pe_op op_mulS (pv 1) (pe_dget (hu_of hr) (pv 4) (pv 6) (fun _ _ => rfl))) (pv 7))))))))))), ?_⟩
    have szl : sizeLine = 16777216 := sizeLine_eq
    have xl : x.cps.toList.length = x.length := rfl
    obtain ⟨ls, els⟩ : ∃ ls, ls = lbw b x.cps.toList 0 := ⟨_, rfl⟩
    have lsl : ls.length = (x.cps.toList.filter fun x => decide (x ≠ b)).length + 1 := by rw [els, lbw_len]
    have fl := List.length_filter_le (fun x => decide (x ≠ b)) x.cps.toList
    have lsm : ∀ k ∈ ls, 0 ≤ k ∧ k ≤ x.length := fun k hk => by
      rw [els] at hk
      have := lbw_mem b _ 0 (by decide) k hk
      omega
    refine ⟨_, rfl, ⟨#[b]⟩, rfl, rfl, ?_⟩
    refine ⟨_, rfl, a, ks, rfl, hS, hk.two, fun H1 s1 => ?_⟩
    refine ⟨_, rfl, _, rfl, x, b, rfl, by omega, fun p H2 hp s2 gp => ?_⟩
    rw [← els] at gp
    refine ⟨_, rfl, p, ls, rfl, SqL.of gp, by omega, fun ps m hps lm im => ?_⟩
    refine ⟨ps, _, m, rfl, upd_same, by omega, fun ns pl asc mem len hpl => ?_⟩
    have s3 := (same_new (o := SetO w ps (fun j => decide (j ∈ ls)) m) hps).trans (same_new (o := .lst (ns.map V.int)) hpl)
    have hS3 := s3.seq (s2.seq (s1.seq hS))
    have gpl := upd_same (H := upd H2 ps (SetO w ps (fun j => decide (j ∈ ls)) m)) (a := pl) (o := .lst (ns.map V.int))
    have gp3 := s3 _ _ gp
    generalize upd (upd H2 ps (SetO w ps (fun j => decide (j ∈ ls)) m)) pl (.lst (ns.map V.int)) = H3 at s3 hS3 gpl gp3
    refine ⟨pl, rfl, ⟨_, SqL.of gpl⟩, fun D hD => walkL (K := K) (a := pl) (xs := ns.map V.int) (fun i H' => Same H3 H' ∧ H' D = some (.dK (kvF (ns.take i) fun l => sq l ks))) ⟨same_new hD, upd_same⟩ (fun i H' _ h => SqL.of (h.1 _ _ gpl)) ?_ ?_⟩
    · rintro i v H4 hi ⟨s4, gD⟩
      obtain ⟨y, hy, rfl⟩ := map_at hi
      have il := (List.getElem?_eq_some_iff.mp hy).1
      refine ⟨rfl, _, rfl, _, rfl, _, rfl, y, a, ks, rfl, s4.seq hS3, hk, fun H5 s5 => ⟨_, .inl y, rfl, s5 _ _ gD, ?_, fun c o e => ?_, ?_⟩⟩
      · unfold kvF
        rw [List.length_map, List.length_take]
        omega
      · rw [upd_ne (ne_of_none e hD)]
        exact s5 _ _ (s4 _ _ e)
      · rw [upd_same, kvF_put (fun l => sq l ks) (nodup_take (asc_nodup asc) hy), List.take_add_one, hy]
        rfl
    · rintro H4 ⟨s4, gD⟩
      rw [List.length_map, List.take_length] at gD
      have gp4 := s4 _ _ gp3
      have look : ∀ l ∈ ls, valV (kvF ns fun l => sq l ks) (.inl l) = some (.int (sq l ks)) := fun l hl => by
        rw [valV_kvF, if_pos ((mem l).mpr (decide_eq_true hl))]
      obtain ⟨os, eos⟩ : ∃ os, os = oth b x.cps.toList := ⟨_, rfl⟩
      have osl : os.length = ls.length := by rw [eos, oth_len, lsl]
      refine ⟨x, rfl, by show x.length + (x.length + 1) * 0 ≤ 16777216; omega, ?_⟩
      have er := repl_chr x b
      refine ⟨_, rfl, ?_, fun q1 hq1 => ?_⟩
      · show (Txt.replace x ⟨#[b]⟩ "").cps.toList.length ≤ sizeLine
        exact Nat.le_trans (Nat.le_of_eq (congrArg List.length er)) (Nat.le_trans fl (by omega))
      have sg : signsV (Txt.replace x ⟨#[b]⟩ "") = (x.cps.toList.filter fun y => decide (y ≠ b)).map fun c => V.str ⟨#[c]⟩ := by
        unfold signsV
        rw [← er]
      have sl : (x.cps.toList.filter fun y => decide (y ≠ b)).length + 1 ≤ sizeLine := by
        have := fl
        omega
      have eo : ((x.cps.toList.filter fun y => decide (y ≠ b)).map fun c => V.str ⟨#[c]⟩) ++ [V.str ""] = (os.map SX.S).map V.str := by
        rw [eos]
        unfold oth
        rw [List.map_append, List.map_append, List.map_map, List.map_map]
        rfl
      refine ⟨z1, fun q2 hq2 => ⟨q1, q2, (x.cps.toList.filter fun y => decide (y ≠ b)).map fun c => V.str ⟨#[c]⟩, [V.str ""], rfl, rfl, ?_, upd_same, by rw [List.length_map]; exact sl, fun r hr => ?_⟩⟩
      · refine same_new hq2 _ _ ?_
        rw [upd_same, sg]
      have s5 := ((same_new (o := .lst (signsV (Txt.replace x ⟨#[b]⟩ ""))) hq1).trans (same_new (o := .lst [V.str ""]) hq2)).trans (same_new (o := .lst (((x.cps.toList.filter fun y => decide (y ≠ b)).map fun c => V.str ⟨#[c]⟩) ++ [V.str ""])) hr)
      have gr := upd_same (H := upd (upd H4 q1 (.lst (signsV (Txt.replace x ⟨#[b]⟩ "")))) q2 (.lst [V.str ""])) (a := r) (o := .lst (((x.cps.toList.filter fun y => decide (y ≠ b)).map fun c => V.str ⟨#[c]⟩) ++ [V.str ""]))
      generalize upd (upd (upd H4 q1 (.lst (signsV (Txt.replace x ⟨#[b]⟩ "")))) q2 (.lst [V.str ""])) r (.lst (((x.cps.toList.filter fun y => decide (y ≠ b)).map fun c => V.str ⟨#[c]⟩) ++ [V.str ""])) = H5 at s5 gr
      rw [eo] at gr
      have gp5 := s5 _ _ gp4
      have gD5 := s5 _ _ gD
      obtain ⟨f, ef⟩ : ∃ f : Int × List Nat → List Nat, f = fun p => List.replicate (sq p.1 ks).toNat b ++ p.2 := ⟨_, rfl⟩
      have zl : (ls.zip os).length = ls.length := by rw [List.length_zip, osl, Nat.min_self]
      refine ⟨⟨_, rfl⟩, _, rfl, _, rfl, p, r, ls.map V.int, (os.map SX.S).map V.str, rfl, SqL.of gp5, SqL.of gr, fun E hE => lc_it (walk_zip (K := K) (a := p) (b := r) (xs := ls.map V.int) (ys := (os.map SX.S).map V.str) (n := ls.length) (by rw [List.length_map, List.length_map, List.length_map, osl, Nat.min_self]))
        (fun i H' => Same H5 (wo H' E) ∧ H' E = some (.lst (((((ls.zip os).take i).map f).map SX.S).map V.str)))
        ⟨by rw [wo_upd]; exact same_wo (Same.refl _) hE, upd_same⟩ (fun i H' _ h => ⟨SqL.of (wo_same _ _ (h.1 _ _ gp5)), SqL.of (wo_same _ _ (h.1 _ _ gr))⟩) ?_ ?_⟩
      · rintro i v H6 H7 hi ⟨s6, gE⟩ ⟨T, x1, x2, rfl, nT, rfl, e1, e2⟩
        have e1' : (ls.map V.int)[i]? = some x1 := e1
        have e2' : ((os.map SX.S).map V.str)[i]? = some x2 := e2
        obtain ⟨l, hl, rfl⟩ := map_at e1'
        obtain ⟨o, ho, rfl⟩ : ∃ o, os[i]? = some o ∧ x2 = .str (SX.S o) := by
          rw [List.getElem?_map, List.getElem?_map] at e2'
          cases z : os[i]? with
          | none => rw [z] at e2'; cases e2'
          | some o => rw [z] at e2'; exact ⟨o, rfl, (Option.some.inj e2').symm⟩
        have lm := lsm l (List.mem_of_getElem? hl)
        have sl0 := sq_low l hk.two lm.1
        have sl1 := sq_le_self ks l hk.two lm.1
        have ol : o.length ≤ 1 := oth_short (by rw [← eos]; exact List.mem_of_getElem? ho)
        have s6' : Same H5 H6 := s6.trans wo_same
        have gD7 := same_new (o := .tup [V.int l, .str (SX.S o)]) nT _ _ (s6' _ _ gD5)
        have gE7 := same_new (o := .tup [V.int l, .str (SX.S o)]) nT _ _ gE
        have nTE : E ≠ T := ne_of_none gE nT
        have dg := DGet.k (k := .inl l) gD7
        rw [look l (List.mem_of_getElem? hl)] at dg
        have mc := mul_chr b sl0
        refine ⟨T, _, rfl, .inl (.inl upd_same), rfl, _, _, rfl, _, _, rfl, rfl, rfl, _, rfl, _, rfl, _, rfl, D, _, rfl, dg, ⟨#[b]⟩, sq l ks, rfl, rfl, mul_chr_ok b sl0 (by omega), _, rfl, _, _, rfl, rfl, ?_, _, gE7, ?_, ?_, ?_⟩
        · rw [mc, SX.S_len, SX.S_len, List.length_replicate]
          omega
        · rw [List.length_map, List.length_map, List.length_map, List.length_take]
          omega
        · rw [wo_upd]
          intro z o' e
          have g := s6 z o' e
          have nz : z ≠ E := fun y => by rw [y, wo_self] at g; cases g
          rw [wo_ne nz] at g ⊢
          exact same_new nT _ _ g
        · rw [upd_same, mc, SX.S_cat, List.take_add_one]
          have ez : (ls.zip os)[i]? = some (l, o) := List.getElem?_zip_eq_some.mpr ⟨hl, ho⟩
          rw [ez, List.map_append, List.map_append, List.map_append, ef]
          rfl
      · rintro H6 ⟨s6, gE⟩
        rw [show (ls.zip os).take ls.length = ls.zip os from List.take_of_length_le (by rw [zl]; exact Nat.le_refl _)] at gE
        have fz : ((ls.zip os).map f).flatten = sqT b ks x.cps.toList 0 := by rw [ef, els, eos]; exact sqT_zip b ks _ 0
        have tl := sqT_len (b := b) hk.two x.cps.toList 0 (by decide)
        refine ⟨"", E, ((ls.zip os).map f).map SX.S, rfl, rfl, .inl (SqL.of gE), ?_, ?_⟩
        · have e : ((((ls.zip os).map f).map SX.S).map fun y => y.length) = ((ls.zip os).map f).map List.length := by
            rw [List.map_map]
            exact List.map_congr_left fun y _ => SX.S_len y
          show _ + _ * 0 ≤ 16777216
          rw [e, ← List.length_flatten, fz]
          omega
        · have ej : Txt.join "" (((ls.zip os).map f).map SX.S) = ⟨(sqT b ks x.cps.toList 0).toArray⟩ := by
            have j := SX.join_S [] ((ls.zip os).map f)
            rw [joinL_flat, fz] at j
            exact j
          rw [ej]
          exact q _ ((((s1.trans s2).trans s3).trans s4).trans (s5.trans (s6.trans wo_same)))
end
end Sq
set_option Elab.async false
set_option linter.all false
set_option maxRecDepth 100000
set_option maxHeartbeats 8000000
set_option exponentiation.threshold 2000
namespace Sq
open PySem PySem.Spec PyProof.Rows L2
section
variable {P : Program} {w : World} {K : PySem.W.Frag} {mg : Str → Option Value} {base : Heap} {c fI : Nat → Addr} {qn : Nat → Str} {cB : Addr}
/-! ### the checks that raise -/
def spCheckNumberX (c : Nat → Addr) : Sp := fun vs H Q E => ∃ (n l : Int), vs = [.int n, .int l] ∧ (l ≤ n → Q .non H) ∧ (n < l → Wish E (c 1) (.int n) H)
theorem ok_xchecknumber {f : Addr} {fd : FuncData} (F : Fun K "check_number" "check_number" s_checknumber f fd) (Z : Errs P K mg c fI qn cB) : FnOk P w K mg base (L2.CX P w) 1 f fd ["number", "least"] (spCheckNumberX c) := by
  refine F.okX sc_checknumber (fun vs H Q E h => ?_) (fun cdv A outer s H vs Q E hr h => ?_)
  · obtain ⟨n, l, rfl, _⟩ := h
    rfl
  · obtain ⟨n, l, rfl, q, e⟩ := h
    refine ⟨_, (pss_one (ps_if (pt_cmpR op_lt (pv 0) (pv 1) (nomark _))
 (pss_one (ps_raise rfl takesX (pmk_er (Z.er 1 (by decide)).2 Z.g1 hr (by rfl) (pv 0))))
 pss_nil)), ?_⟩
    refine ⟨_, rfl, _, rfl, _, _, rfl, rfl, _, rfl, ite2 (fun c => ?_) (fun c => ?_)⟩
    · exact ⟨_, rfl, e (of_decide_eq_true c)⟩
    · exact q (by have : ¬ n < l := fun z => c (decide_eq_true z); omega)
def spCheckListX (K : PySem.W.Frag) (c : Nat → Addr) : Sp := fun vs H Q E => ∃ (a : Addr) (ks : List Int), vs = [.ref a] ∧ SqL K H a (ks.map V.int) ∧ (lowAt ks = none → ∀ H', Same H H' → Q .non H') ∧ (∀ j : Nat, lowAt ks = some j → ∀ H', Same H H' → Wish E (c 0) (.int (j : Int)) H')
theorem ok_xchecklist {f : Addr} {fd : FuncData} (F : Fun K "check_list" "check_list" s_checklist f fd) (B : Bi mg) (Z : Errs P K mg c fI qn cB) : FnOk P w K mg base (L2.CX P w) 1 f fd ["replacements"] (spCheckListX K c) := by
  refine F.okX sc_checklist (fun vs H Q E h => ?_) (fun cdv A outer s H vs Q E hr h => ?_)
  · obtain ⟨a, ks, rfl, _⟩ := h
    rfl
  · obtain ⟨a, ks, rfl, hS, q, e⟩ := h
    refine ⟨_, (pss_one (ps_for ownsX rfl (pi_enum (by rfl) B.n_enumerate (pa_cons (pv 0) pa_nil)) (pg_tup rfl (pgs_cons (pg_name (i := 1) sc_checklist.nd rfl (Or.inl rfl)) (pgs_cons (pg_name (i := 2) sc_checklist.nd rfl (Or.inl rfl)) pgs_nil)))
 (pss_one (ps_if (pt_cmpR op_lt (pv 2) pe_int (nomark _))
 (pss_one (ps_raise rfl takesX (pmk_er (Z.er 0 (by decide)).2 Z.g0 hr (by rfl) (pv 1))))
 pss_nil)))), ?_⟩
    refine ⟨_, rfl, a, _, rfl, hS, for_it walk_enum (fun i σ H' => Same H H' ∧ (∀ k ∈ ks.take i, 2 ≤ k) ∧ ∃ y1 y2, σ = [some (.ref a), y1, y2]) ⟨Same.refl H, (fun k z => by simp at z), none, none, rfl⟩ (fun i σ H' _ h => h.1.seq hS) ?_ ?_⟩
    · rintro i x σ H' H2 hi ⟨sm, up, y1, y2, rfl⟩ ⟨T, u, v, rfl, hT, rfl, e1, e2⟩
      cases e1
      obtain ⟨k, hk, rfl⟩ := map_at e2
      have sm2 := sm.trans (same_new (o := .tup [.int (i : Int), .int k]) hT)
      obtain ⟨la, lb⟩ := lowAt_take ks i up
      refine ⟨T, _, rfl, .inl (.inl upd_same), rfl, _, _, rfl, _, _, rfl, rfl, ?_⟩
      refine ⟨_, rfl, _, 2, rfl, rfl, _, rfl, ite2 (fun c => ?_) (fun c => ?_)⟩
      · exact ⟨_, rfl, e i (la k hk (of_decide_eq_true c)) _ sm2⟩
      · refine ⟨sm2, fun x hx => ?_, _, _, rfl⟩
        rw [List.take_add_one, hk] at hx
        rcases List.mem_append.mp hx with z | z
        · exact up x z
        · have := List.mem_singleton.mp z
          have : ¬ k < 2 := fun z => c (decide_eq_true z)
          omega
    · rintro σ H' ⟨sm, up, y1, y2, rfl⟩
      exact q ((lowAt_take ks ks.length (by rw [List.length_map] at up; exact up)).2 (Nat.le_refl _)) H' sm
end
section
variable {P : Program} {w : World} {K : PySem.W.Frag} {mg : Str → Option Value} {base : Heap} {c fI : Nat → Addr} {qn : Nat → Str} {cB : Addr}
def spSqueezedX (K : PySem.W.Frag) (c : Nat → Addr) : Sp := fun vs H Q E => ∃ (n : Int) (a : Addr) (ks : List Int), vs = [.int n, .ref a] ∧ SqL K H a (ks.map V.int) ∧ (0 ≤ n → lowAt ks = none → Rpl ks ∧ ∀ H', Same H H' → Q (.int (sq n ks)) H') ∧
  (n < 0 → Wish E (c 1) (.int n) H) ∧ (0 ≤ n → ∀ j : Nat, lowAt ks = some j → ∀ H', Same H H' → Wish E (c 0) (.int (j : Int)) H')
theorem ok_xsqueezed {f : Addr} {fd : FuncData} (F : Fun K "squeezed" "squeezed" s_squeezed f fd) (X_checknumber : Dx P w K mg base 1 "check_number" ["number", "least"] (spCheckNumberX c)) (X_checklist : Dx P w K mg base 1 "check_list" ["replacements"] (spCheckListX K c))
    (D_lengthafter : Df P w K mg base 2 "length_after" ["length", "replacements"] (spSqzS K)) : FnOk P w K mg base (L2.CX P w) 3 f fd ["length", "replacements"] (spSqueezedX K c) := by
  refine F.okX sc_squeezed (fun vs H Q E h => ?_) (fun cdv A outer s H vs Q E hr h => ?_)
  · obtain ⟨n, a, ks, rfl, _⟩ := h
    rfl
  · obtain ⟨n, a, ks, rfl, hS, q, e1, e2⟩ := h
    refine ⟨_, (pss_cons (ps_expr (pe_callX X_checknumber takesX (hr.mono (by omega)) (by rfl) (pa_cons (pv 0) (pa_cons pe_int pa_nil))))
 (pss_cons (ps_expr (pe_callX X_checklist takesX (hr.mono (by omega)) (by rfl) (pa_cons (pv 1) pa_nil)))
 (pss_one (ps_ret (pe_callD D_lengthafter (hr.mono (by omega)) (by rfl) (pa_cons (pv 0) (pa_cons (pv 1) pa_nil))))))), ?_⟩
    refine ⟨_, rfl, n, 0, rfl, fun h0 => ?_, e1⟩
    refine ⟨_, rfl, a, ks, rfl, hS, fun ok H1 s1 => ?_, e2 h0⟩
    obtain ⟨rk, q2⟩ := q h0 ok
    exact ⟨_, rfl, _, rfl, n, a, ks, rfl, s1.seq hS, rk, fun H2 s2 => q2 _ (s1.trans s2)⟩
end
section
variable {P : Program} {w : World} {K : PySem.W.Frag} {mg : Str → Option Value} {base : Heap} {c fI : Nat → Addr} {qn : Nat → Str} {cB : Addr}
def oneSign : V → Bool
  | .str z => decide (z.length = 1)
  | _ => false
/-- what kinds of values are passed as a character -/
inductive SignV (H : Hp) : V → Prop where
  | str (z : Str) : z.length ≤ 1000 → SignV H (.str z)
  | non : SignV H .non
  | int (i : Int) : SignV H (.int i)
  | bl (b : Bool) : SignV H (.bl b)
  | lst (a : Addr) (xs : List V) : H a = some (.lst xs) → SignV H (.ref a)
  | tup (a : Addr) (xs : List V) : H a = some (.tup xs) → SignV H (.ref a)
def spCheckChar (c : Nat → Addr) : Sp := fun vs H Q E => ∃ x : V, vs = [x] ∧ SignV H x ∧ (oneSign x = true → Q .non H) ∧ (oneSign x = false → Wish E (c 2) x H)
theorem ok_xcheckcharacter {f : Addr} {fd : FuncData} (F : Fun K "check_character" "check_character" s_checkcharacter f fd) (B : Bi mg) (Z : Errs P K mg c fI qn cB) : FnOk P w K mg base (L2.CX P w) 1 f fd ["character"] (spCheckChar c) := by
  refine F.okX sc_checkcharacter (fun vs H Q E h => ?_) (fun cdv A outer s H vs Q E hr h => ?_)
  · obtain ⟨x, rfl, _⟩ := h
    rfl
  · obtain ⟨x, rfl, hk, q, e⟩ := h
    refine ⟨_, (pss_one (ps_if (PW.pt (pw_or (pt_not (pt_val (pe_callB (id := "isinstance") call_isi (by rfl) B.n_isinstance (by decide +kernel) (pa_cons (pv 0) (pa_cons (pe_bltn (v := .ty "str") (by rfl) B.n_str (by decide +kernel) rfl) pa_nil))))) (pw_or1 (pt_cmpR op_ne (pe_callB (id := "len") call_len_str (by rfl) B.n_len (by decide +kernel) (pa_cons (pv 0) pa_nil)) pe_int (nomark _)))))
 (pss_one (ps_raise rfl takesX (pmk_er (Z.er 2 (by decide)).2 Z.g2 hr (by rfl) (pv 0))))
 pss_nil)), ?_⟩
    cases hk with
    | str z hz =>
      refine ⟨_, rfl, _, _, _, _, true, rfl, .ty _, (.base (.str z)), kit_ty (by decide +kernel), _, rfl, iteF ?_⟩
      refine ⟨_, rfl, z, rfl, Nat.le_of_lt (small1000 hz), rfl, _, rfl, ?_⟩
      by_cases o : z.length = 1
      · exact iteNS (congrArg V.int (by omega)) (q (decide_eq_true o))
      · rw [decide_eq_false (fun z' => o (by injection z' with z'; omega))]
        exact iteT ⟨_, rfl, e (decide_eq_false o)⟩
    | non => exact ⟨_, rfl, _, _, _, _, false, rfl, .ty _, (.base .non), kit_ty (by decide +kernel), _, rfl, iteT ⟨_, rfl, e rfl⟩⟩
    | int i => exact ⟨_, rfl, _, _, _, _, false, rfl, .ty _, (.base (.int i)), kit_ty (by decide +kernel), _, rfl, iteT ⟨_, rfl, e rfl⟩⟩
    | bl b => exact ⟨_, rfl, _, _, _, _, false, rfl, .ty _, (.base (.bl b)), kit_ty (by decide +kernel), _, rfl, iteT ⟨_, rfl, e rfl⟩⟩
    | lst a xs ha => exact ⟨_, rfl, _, _, _, _, false, rfl, .ty _, (.base (.lst ha)), kit_ty (by decide +kernel), _, rfl, iteT ⟨_, rfl, e rfl⟩⟩
    | tup a xs ha => exact ⟨_, rfl, _, _, _, _, false, rfl, .ty _, (.base (.tup ha)), kit_ty (by decide +kernel), _, rfl, iteT ⟨_, rfl, e rfl⟩⟩
end
section
variable {P : Program} {w : World} {K : PySem.W.Frag} {mg : Str → Option Value} {base : Heap} {c fI : Nat → Addr} {qn : Nat → Str} {cB : Addr}
/-- where the arguments are wrong -/
def spSqueezeBad (K : PySem.W.Frag) (c : Nat → Addr) : Sp := fun vs H Q E => ∃ (t : Str) (x : V) (a : Addr) (ks : List Int), vs = [.str t, x, .ref a] ∧ SignV H x ∧ SqL K H a (ks.map V.int) ∧ (oneSign x = false → Wish E (c 2) x H) ∧
  (oneSign x = true → ∀ j : Nat, lowAt ks = some j → ∀ H', Same H H' → Wish E (c 0) (.int (j : Int)) H') ∧ (oneSign x = true → lowAt ks = none → False)
theorem ok_squeezebad {f : Addr} {fd : FuncData} (F : Fun K "squeeze_text" "squeeze_text" s_squeezetext f fd) (X_checkcharacter : Dx P w K mg base 1 "check_character" ["character"] (spCheckChar c)) (X_checklist : Dx P w K mg base 1 "check_list" ["replacements"] (spCheckListX K c)) : FnOk P w K mg base (L2.CX P w) 3 f fd ["text", "character", "replacements"] (spSqueezeBad K c) := by
  refine F.okX sc_squeezetext (fun vs H Q E h => ?_) (fun cdv A outer s H vs Q E hr h => ?_)
  · obtain ⟨t, x, a, ks, rfl, _⟩ := h
    rfl
  · obtain ⟨t, x, a, ks, rfl, hx, hS, e1, e2, no⟩ := h
    refine ⟨_, (pss_cons (ps_expr (pe_callX X_checkcharacter takesX (hr.mono (by omega)) (by rfl) (pa_cons (pv 1) pa_nil))) (pss_cons (ps_expr (pe_callX X_checklist takesX (hr.mono (by omega)) (by rfl) (pa_cons (pv 2) pa_nil))) pss_no)), ?_⟩
    refine ⟨_, rfl, x, rfl, hx, fun one => ?_, e1⟩
    exact ⟨_, rfl, a, ks, rfl, hS, fun ok H1 s1 => no one ok, e2 one⟩
end
section
variable {P : Program} {w : World} {K : PySem.W.Frag} {mg : Str → Option Value} {base : Heap} {c fI : Nat → Addr} {qn : Nat → Str} {cB : Addr}
def spStages (K : PySem.W.Frag) (c : Nat → Addr) : SpF := fun vs H Q E => ∃ (n : Int) (a : Addr) (ks : List Int), vs = [.int n, .ref a] ∧ SqL K H a (ks.map V.int) ∧ (0 ≤ n → lowAt ks = none → ∀ H', Same H H' → Q (.int n) H') ∧
  (n < 0 → Wish E (c 1) (.int n) H) ∧ (0 ≤ n → ∀ j : Nat, lowAt ks = some j → ∀ H', Same H H' → Wish E (c 0) (.int (j : Int)) H')
theorem ok_stages {f : Addr} {fd : FuncData} (F : Fun K "stages" "stages" s_stages f fd) (X_checknumber : Dx P w K mg base 1 "check_number" ["number", "least"] (spCheckNumberX c)) (X_checklist : Dx P w K mg base 1 "check_list" ["replacements"] (spCheckListX K c)) :
    GFn1 P w K mg base 2 f fd ["length", "replacements"] (spStages K c) := by
  obtain ⟨oc, od, kV, doc, pm, an, cdv, ct, osl, rfl, lk, hcd⟩ := F.ex
  refine gfn1_of (k := 1) (name := "stages") (qual := "stages") lk hcd sc_stages (fun vs H Q E h => ?_) (fun _ => rfl) (fun A outer s H vs Q E pn hr h => ?_)
  · obtain ⟨n, a, ks, rfl, _⟩ := h
    rfl
  · obtain ⟨n, a, ks, rfl, hS, q, e1, e2⟩ := h
    refine ⟨_, _, _, (ps_expr (pe_callX X_checknumber takes_gcx (hr.mono (by omega)) (by rfl) (pa_cons (pv 0) (pa_cons pe_int pa_nil)))), (ps_expr (pe_callX X_checklist takes_gcx (hr.mono (by omega)) (by rfl) (pa_cons (pv 1) pa_nil))), (pv 0), ?_⟩
    refine ⟨_, rfl, n, 0, rfl, fun h0 => ?_, e1⟩
    refine ⟨_, rfl, a, ks, rfl, hS, fun ok H1 s1 => ?_, e2 h0⟩
    exact ⟨_, rfl, q h0 ok H1 s1⟩
end
end Sq
set_option Elab.async false
set_option linter.all false
set_option maxRecDepth 100000
set_option maxHeartbeats 8000000
set_option exponentiation.threshold 2000
namespace Sq
open PySem PySem.Spec PyProof.Rows L2
/-- what error is due: its class, its value -/
def dueN (many : Int) (ks : List Int) : Option (Nat × V) := if many < 0 then some (1, .int many) else (lowAt ks).map fun j => (0, .int (j : Int))
def dueC (x : V) (ks : List Int) : Option (Nat × V) := if oneSign x = false then some (2, x) else (lowAt ks).map fun j => (0, .int (j : Int))
def nmK (i : Nat) : Str := ["list", "number", "character"].getD i "list"
theorem dueN_neg {many : Int} {ks : List Int} (h : many < 0) : dueN many ks = some (1, .int many) := if_pos h
theorem dueN_low {many : Int} {ks : List Int} {j : Nat} (h : 0 ≤ many) (e : lowAt ks = some j) : dueN many ks = some (0, .int (j : Int)) := by
  unfold dueN
  rw [if_neg (by omega), e]
  rfl
theorem dueN_ok {many : Int} {ks : List Int} (h : 0 ≤ many) (e : lowAt ks = none) : dueN many ks = none := by
  unfold dueN
  rw [if_neg (by omega), e]
  rfl
theorem dueC_chr {x : V} {ks : List Int} (h : oneSign x = false) : dueC x ks = some (2, x) := if_pos h
theorem dueC_low {x : V} {ks : List Int} {j : Nat} (h : oneSign x = true) (e : lowAt ks = some j) : dueC x ks = some (0, .int (j : Int)) := by
  unfold dueC
  rw [if_neg (by rw [h]; exact fun z => nomatch z), e]
  rfl
theorem dueC_ok {x : V} {ks : List Int} (h : oneSign x = true) (e : lowAt ks = none) : dueC x ks = none := by
  unfold dueC
  rw [if_neg (by rw [h]; exact fun z => nomatch z), e]
  rfl
def bsK (i : Nat) : List Bool := [decide (i = 1), decide (i = 0), decide (i = 2)]
theorem bsK_one {i : Nat} (h : i < 3) : (bsK i).count true = 1 := by
  have : i = 0 ∨ i = 1 ∨ i = 2 := by omega
  rcases this with rfl | rfl | rfl <;> decide
theorem bsK_at {i : Nat} (h : i < 3) : ∃ j : Nat, ((bsK i).map V.bl)[j]? = some (.bl true) ∧ (∀ (m : Nat) (z : V), m < j → ((bsK i).map V.bl)[m]? = some z → eqV z (.bl true) = false) ∧ ([V.str "number", V.str "list", V.str "character"])[j]? = some (.str (nmK i)) := by
  have : i = 0 ∨ i = 1 ∨ i = 2 := by omega
  rcases this with rfl | rfl | rfl
  · exact ⟨1, rfl, fun m z hm e => by
      have : m = 0 := by omega
      subst this
      cases e
      rfl, rfl⟩
  · exact ⟨0, rfl, fun m z hm e => absurd hm (Nat.not_lt_zero _), rfl⟩
  · exact ⟨2, rfl, fun m z hm e => by
      have : m = 0 ∨ m = 1 := by omega
      rcases this with rfl | rfl <;> cases e <;> rfl, rfl⟩
theorem wish_keep {K : PySem.W.Frag} {cBv : Value} {i : Nat} {ts : Addr → Value → Option Addr → TS} {Wout : WX} {D : Ends} {C : Addr} {v : V} {Hc : Hp} {σ : L2.St} (m : PySem.W.exmOne K (.ref C) cBv = some true)
    (h : ∀ p d, Hc d = none → (upd Hc d (exd d [(("value" : Str), v)])) p = none → ts p (.ref C) (some d) { nx := fun σ' H' => D.nx (σ'.set i none) (upd H' p (exq p C (some d))), rt := fun v' H' => D.rt v' (upd H' p (exq p C (some d))), bk := fun σ' H' => D.bk (σ'.set i none) (upd H' p (exq p C (some d))), ct := fun σ' H' => D.ct (σ'.set i none) (upd H' p (exq p C (some d))) } (σ.set i (some (.ref p))) (upd Hc d (exd d [(("value" : Str), v)]))) :
    Wish (WE (wKeep K cBv i ts Wout D) σ) C v Hc := fun d hd => ⟨true, m, fun _ => ⟨C, rfl, fun p hp => h p d hd hp⟩, fun z => nomatch z⟩
section
variable {P : Program} {w : World} {K : PySem.W.Frag} {mg : Str → Option Value} {base : Heap} {c fI : Nat → Addr} {qn : Nat → Str} {cB : Addr}
def FewK (ks : List Int) : Prop := ∀ k ∈ ks, k < 1073741824
/-- squeeze_text isn't called with good arguments, it is -/
def Away (way : Int) (x : V) (ks : List Int) : Prop := (0 ≤ way ∧ way < 3) ∨ oneSign x = false ∨ lowAt ks ≠ none
def Near (way : Int) (x : V) (ks : List Int) : Prop := ¬ (0 ≤ way ∧ way < 3) ∧ oneSign x = true ∧ lowAt ks = none
def spToldG (K : PySem.W.Frag) (G : Int → V → List Int → Prop) : Sp := fun vs H Q _ => ∃ (way many : Int) (a : Addr) (ks : List Int) (x : V), vs = [.int way, .int many, .ref a, x] ∧ SqL K H a (ks.map V.int) ∧ FewK ks ∧ SignV H x ∧ G way x ks ∧
  ((if 0 ≤ way ∧ way < 3 then dueN many ks else dueC x ks) = none → ∀ H', Same H H' → Q .non H') ∧
  (∀ i v, (if 0 ≤ way ∧ way < 3 then dueN many ks else dueC x ks) = some (i, v) → ∀ p H', H p = none → Same H H' → H' p = some (.lst [.str (nmK i), v]) → Q (.ref p) H')
abbrev spTold (K : PySem.W.Frag) : Sp := spToldG K fun _ _ _ => True
theorem told_or {K : PySem.W.Frag} {vs : List V} {H : Hp} {Q : VK} {E : XK} (h : spTold K vs H Q E) : spToldG K Away vs H Q E ∨ spToldG K Near vs H Q E := by
  obtain ⟨way, many, a, ks, x, rfl, hS, sm, hx, _, q0, q1⟩ := h
  by_cases c : Away way x ks
  · exact .inl ⟨way, many, a, ks, x, rfl, hS, sm, hx, c, q0, q1⟩
  · refine .inr ⟨way, many, a, ks, x, rfl, hS, sm, hx, ⟨fun z => c (.inl z), ?_, ?_⟩, q0, q1⟩
    · cases e : oneSign x with
      | true => rfl
      | false => exact absurd (.inr (.inl e)) c
    · cases e : lowAt ks with
      | none => rfl
      | some j => exact absurd (.inr (.inr (by rw [e]; exact fun z => nomatch z))) c
theorem ok_lawtold {f : Addr} {fd : FuncData} (F : Fun K "_law_told" "_law_told" s_lawtold f fd) (B : Bi mg) (Z : Errs P K mg c fI qn cB) (Z2 : Errs2 K c cB)
    (X_squeezed : Dx P w K mg base 3 "squeezed" ["length", "replacements"] (spSqueezedX K c)) {g1 g2 : List Value → List Value → List Value} (XK_squeezed : Dxk P w K mg base 3 "squeezed" ["length", "replacements"] ["replacements", "length"] g1 (fun _ zs => zs.reverse) (spSqueezedX K c))
    (X1_stages : Dx1 P w K mg base 2 "stages" ["length", "replacements"] (spStages K c)) (X_squeezetext : Dx P w K mg base 3 "squeeze_text" ["text", "character", "replacements"] (spSqueezeBad K c))
    (XK_squeezetext : Dxk P w K mg base 3 "squeeze_text" ["text", "character", "replacements"] ["character", "replacements", "text"] g2 (fun _ zs => match zs with | [x, y, z] => [z, x, y] | _ => []) (spSqueezeBad K c)) :
    FnOk P w K mg base CX0 5 f fd ["way", "many", "some", "sign"] (spToldG K Away) := by
  refine F.ok sc_lawtold (fun vs H Q E h => ?_) (fun cdv A outer s H vs Q E hr h => ?_)
  · obtain ⟨way, many, a, ks, x, rfl, _⟩ := h
    rfl
  · obtain ⟨way, many, a, ks, x, rfl, hS, sm, hx, away, q0, q1⟩ := h
    refine ⟨_, (pss_cons (ps_set (i := 4) sc_lawtold.nd rfl (Or.inl rfl) pe_non)
 (pss_cons (ps_try_keep (i := 6) rfl rfl rfl sc_lawtold.nd rfl rfl ⟨by rfl, by decide, .inl Z.g5⟩ takes0 (fun W_ pn_ xe_ tk_ own_ => (pss_one (ps_if (pt_cmpR op_eq (pv 0) pe_int (nomark _))
 (pss_one (ps_expr (pe_callX X_squeezed tk_ (hr.mono (by omega)) (by rfl) (pa_cons (pv 1) (pa_cons (pv 2) pa_nil)))))
 (pss_one (ps_if (pt_cmpR op_eq (pv 0) pe_int (nomark _))
 (pss_one (ps_expr (pe_callXK XK_squeezed tk_ (hr.mono (by omega)) (by rfl) (pk_cons (pv 2) (pk_cons (pv 1) pk_nil)))))
 (pss_one (ps_if (pt_cmpR op_eq (pv 0) pe_int (nomark _))
 (pss_one (ps_firstD (i := 5) (K0 := K) rfl X1_stages tk_ (hr.mono (by omega)) (by rfl) (pa_cons (pv 1) (pa_cons (pv 2) pa_nil)) own_ sc_lawtold.nd rfl (Or.inl rfl) (Or.inr rfl)))
 (pss_one (ps_if (pt_cmpR op_eq (pv 0) pe_int (nomark _))
 (pss_one (ps_expr (pe_callX X_squeezetext tk_ (hr.mono (by omega)) (by rfl) (pa_cons pe_str (pa_cons (pv 3) (pa_cons (pv 2) pa_nil))))))
 (pss_one (ps_expr (pe_callXK XK_squeezetext tk_ (hr.mono (by omega)) (by rfl) (pk_cons (pv 3) (pk_cons (pv 2) (pk_cons pe_str pk_nil)))))))))))))))
 (fun a_ oe_ cls_ d_ pn_ hz_ hf_ => (pss_one (ps_set (i := 4) sc_lawtold.nd rfl (Or.inl rfl) (pv 6)))))
 (pss_cons (ps_if (pt_cmpR op_isN (pv 4) pe_non (nomark _))
 (pss_one (ps_ret pe_non))
 pss_nil)
 (pss_cons (ps_set (i := 7) sc_lawtold.nd rfl (Or.inl rfl) (pe_lst (pa_cons (pe_callB (id := "isinstance") call_isiQ (by rfl) B.n_isinstance (by decide +kernel) (pa_cons (pv 4) (pa_cons (pe_glob (v := .ref _) (by rfl) Z.g1 rfl) pa_nil))) (pa_cons (pe_callB (id := "isinstance") call_isiQ (by rfl) B.n_isinstance (by decide +kernel) (pa_cons (pv 4) (pa_cons (pe_glob (v := .ref _) (by rfl) Z.g0 rfl) pa_nil))) pa_nil))))
 (pss_cons (ps_expr (pe_bm PySem.F.plainAttrs_list PySem.F.slot_list_append PySem.F.type_list_append mt_append (pv 7) (pa_cons (pe_callB (id := "isinstance") call_isiQ (by rfl) B.n_isinstance (by decide +kernel) (pa_cons (pv 4) (pa_cons (pe_glob (v := .ref _) (by rfl) Z.g2 rfl) pa_nil))) pa_nil)))
 (pss_cons (ps_if (PW.pt (pw_or (pt_val (pe_callB (id := "isinstance") call_isiQT (by rfl) B.n_isinstance (by decide +kernel) (pa_cons (pv 4) (pa_cons (pe_tup (pa_cons (pe_glob (v := .ref _) (by rfl) Z.g3 rfl) (pa_cons (pe_glob (v := .ref _) (by rfl) Z.g4 rfl) pa_nil))) pa_nil)))) (pw_or1 (pt_not (pt_val (pe_callB (id := "isinstance") call_isiQ (by rfl) B.n_isinstance (by decide +kernel) (pa_cons (pv 4) (pa_cons (pe_bltn (v := .ty "ValueError") (by rfl) B.n_ValueError (by decide +kernel) rfl) pa_nil))))))))
 (pss_one (ps_ret pe_str))
 pss_nil)
 (pss_one (ps_ret (pe_ifExp (pt_cmpR op_eq (pe_bm PySem.F.plainAttrs_list PySem.F.slot_list_count PySem.F.type_list_count mt_countB (pv 7) (pa_cons pe_bl pa_nil)) pe_int (nomark _)) (pe_lst (pa_cons (pe_ix (r := rIxL K) ix_list (pe_lst (pa_cons pe_str (pa_cons pe_str (pa_cons pe_str pa_nil)))) (pe_bm PySem.F.plainAttrs_list PySem.F.slot_list_index PySem.F.type_list_index mt_index (pv 7) (pa_cons pe_bl pa_nil)) (fun _ _ => rfl)) (pa_cons (pe_qv (pv 4)) pa_nil))) pe_str))))))))), ?_⟩
    obtain ⟨ex, eex⟩ : ∃ ex, ex = (if 0 ≤ way ∧ way < 3 then dueN many ks else dueC x ks) := ⟨_, rfl⟩
    rw [← eex] at q0 q1
    refine tellSeq (fun σ2 H2 => σ2 = [some (.int way), some (.int many), some (.ref a), some x, some .non, none, none, none] ∧ H = H2) (fun N hN => hN _ _ ⟨rfl, rfl⟩) (fun σ0 H0 h0 => ?_)
    obtain ⟨rfl, rfl⟩ := h0
    refine tellSeq (fun σ2 H2 => (ex = none ∧ ∃ y5, σ2 = [some (.int way), some (.int many), some (.ref a), some x, some .non, y5, none, none] ∧ Same H H2) ∨
      (∃ (i : Nat) (v : V) (p d : Addr) (y5 : Option V), ex = some (i, v) ∧ i < 3 ∧ σ2 = [some (.int way), some (.int many), some (.ref a), some x, some (.ref p), y5, none, none] ∧ CaughtAt H2 p d (c i) v ∧ Same H H2)) (fun N hN => ?_) (fun σ2 H2 h => ?_)
    · have er : ∀ (i : Nat) (v : V) (Hc : Hp) (p d : Addr) (y5 : Option V), ex = some (i, v) → i < 3 → Same H Hc → Hc d = none → (upd Hc d (exd d [(("value" : Str), v)])) p = none →
          N [some (.int way), some (.int many), some (.ref a), some x, some (.ref p), y5, none, none] (upd (upd Hc d (exd d [(("value" : Str), v)])) p (exq p (c i) (some d))) := fun i v Hc p d y5 e1 e2 s1 hd hp => by
        have ndp : d ≠ p := ne_of_none upd_same hp
        exact hN _ _ (.inr ⟨i, v, p, d, y5, e1, e2, rfl, ⟨upd_same, by rw [upd_ne ndp, upd_same]⟩, (s1.trans (same_new hd)).trans (same_new hp)⟩)
      have okN : ∀ (H' : Hp) (y5 : Option V), ex = none → Same H H' → N [some (.int way), some (.int many), some (.ref a), some x, some .non, y5, none, none] H' := fun H' y5 e1 s1 => hN _ _ (.inl ⟨e1, y5, rfl, s1⟩)
      refine ⟨_, rfl, rfl, _, rfl, ite2 (fun cw => ?_) (fun cw => ?_)⟩
      · have ew : way = 0 := V.int.inj (of_decide_eq_true cw)
        have e : ex = dueN many ks := by rw [eex, if_pos (by omega)]
        refine ⟨_, rfl, _, rfl, many, a, ks, rfl, hS, fun h0 ok => ⟨fun k hk => ⟨lowAt_none ok k hk, sm k hk⟩, fun H' s' => okN _ _ (e.trans (dueN_ok h0 ok)) s'⟩, fun hneg => wish_keep (Z2.ma 1 (by decide)) fun p d hd hp => ⟨_, rfl, er 1 _ H p d _ (e.trans (dueN_neg hneg)) (by decide) (Same.refl _) hd hp⟩,
          fun h0 j hj H' s' => wish_keep (Z2.ma 0 (by decide)) fun p d hd hp => ⟨_, rfl, er 0 _ H' p d _ (e.trans (dueN_low h0 hj)) (by decide) s' hd hp⟩⟩
      refine ⟨_, rfl, rfl, _, rfl, ite2 (fun cw1 => ?_) (fun cw1 => ?_)⟩
      · have ew : way = 1 := V.int.inj (of_decide_eq_true cw1)
        have e : ex = dueN many ks := by rw [eex, if_pos (by omega)]
        refine ⟨_, rfl, _, rfl, rfl, many, a, ks, rfl, hS, fun h0 ok => ⟨fun k hk => ⟨lowAt_none ok k hk, sm k hk⟩, fun H' s' => okN _ _ (e.trans (dueN_ok h0 ok)) s'⟩, fun hneg => wish_keep (Z2.ma 1 (by decide)) fun p d hd hp => ⟨_, rfl, er 1 _ H p d _ (e.trans (dueN_neg hneg)) (by decide) (Same.refl _) hd hp⟩,
          fun h0 j hj H' s' => wish_keep (Z2.ma 0 (by decide)) fun p d hd hp => ⟨_, rfl, er 0 _ H' p d _ (e.trans (dueN_low h0 hj)) (by decide) s' hd hp⟩⟩
      refine ⟨_, rfl, rfl, _, rfl, ite2 (fun cw2 => ?_) (fun cw2 => ?_)⟩
      · have ew : way = 2 := V.int.inj (of_decide_eq_true cw2)
        have e : ex = dueN many ks := by rw [eex, if_pos (by omega)]
        refine ⟨_, rfl, _, rfl, many, a, ks, rfl, hS, fun h0 ok H' s' => okN _ _ (e.trans (dueN_ok h0 ok)) s', fun hneg d hd => ⟨wish_keep (Z2.ma 1 (by decide)) (fun p d hd hp => ⟨_, rfl, er 1 _ H p d _ (e.trans (dueN_neg hneg)) (by decide) (Same.refl _) hd hp⟩) d hd, Z2.st 1 (by decide)⟩,
          fun h0 j hj H' s' d hd => ⟨wish_keep (Z2.ma 0 (by decide)) (fun p d hd hp => ⟨_, rfl, er 0 _ H' p d _ (e.trans (dueN_low h0 hj)) (by decide) s' hd hp⟩) d hd, Z2.st 0 (by decide)⟩⟩
      have nw : ¬ (0 ≤ way ∧ way < 3) := fun z => by
        have a0 : way ≠ 0 := fun e => cw (decide_eq_true (congrArg V.int e))
        have a1 : way ≠ 1 := fun e => cw1 (decide_eq_true (congrArg V.int e))
        have a2 : way ≠ 2 := fun e => cw2 (decide_eq_true (congrArg V.int e))
        omega
      have e : ex = dueC x ks := by rw [eex, if_neg nw]
      have far : oneSign x = true → lowAt ks = none → False := fun h1 h2 => by
        rcases away with z | z | z
        · exact nw z
        · rw [h1] at z
          cases z
        · exact z h2
      refine ⟨_, rfl, rfl, _, rfl, ite2 (fun cw3 => ?_) (fun cw3 => ?_)⟩
      · refine ⟨_, rfl, _, rfl, "a   b", x, a, ks, rfl, hx, hS, fun ho => wish_keep (Z2.ma 2 (by decide)) fun p d hd hp => ⟨_, rfl, er 2 _ H p d _ (e.trans (dueC_chr ho)) (by decide) (Same.refl _) hd hp⟩,
          fun ho j hj H' s' => wish_keep (Z2.ma 0 (by decide)) fun p d hd hp => ⟨_, rfl, er 0 _ H' p d _ (e.trans (dueC_low ho hj)) (by decide) s' hd hp⟩, fun ho ok => far ho ok⟩
      · refine ⟨_, rfl, _, rfl, rfl, "", x, a, ks, rfl, hx, hS, fun ho => wish_keep (Z2.ma 2 (by decide)) fun p d hd hp => ⟨_, rfl, er 2 _ H p d _ (e.trans (dueC_chr ho)) (by decide) (Same.refl _) hd hp⟩,
          fun ho j hj H' s' => wish_keep (Z2.ma 0 (by decide)) fun p d hd hp => ⟨_, rfl, er 0 _ H' p d _ (e.trans (dueC_low ho hj)) (by decide) s' hd hp⟩, fun ho ok => far ho ok⟩
    · rcases h with ⟨e0, y5, rfl, s2⟩ | ⟨i, v, p, d, y5, e0, hi, rfl, at_, s2⟩
      · exact ⟨_, rfl, rfl, _, rfl, ite2 (fun _ => q0 e0 _ s2) (fun c => absurd (decide_eq_true rfl) c)⟩
      have hi5 : i < 5 := by omega
      have T := Z.ex i hi5
      refine ⟨_, rfl, rfl, _, rfl, ite2 (fun c => by cases of_decide_eq_true c) (fun _ => ?_)⟩
      refine ⟨_, rfl, p, d, c i, v, _, _, _, rfl, .own _, at_, T, Z.is i 1 hi5 (by decide), ?_⟩
      refine ⟨_, rfl, p, d, c i, v, _, _, _, rfl, .own _, at_, T, Z.is i 0 hi5 (by decide), Nat.le_of_lt (small1000 (show 2 ≤ 1000 by decide)), fun r hr0 => ?_⟩
      have npr := ne_of_none at_.1 hr0
      have ndr := ne_of_none at_.2 hr0
      have at3 := at_.same (same_new (o := .lst [.bl (decide (i = 1)), .bl (decide (i = 0))]) hr0)
      refine ⟨_, rfl, .inl ⟨rfl, _, SqL.of upd_same⟩, _, rfl, p, d, c i, v, _, _, _, rfl, .own _, at3, T, Z.is i 2 hi5 (by decide), r, _, _, rfl, rfl, upd_same, small1000 (show 2 ≤ 1000 by decide), ?_⟩
      obtain ⟨H4, eH4⟩ : ∃ H4, H4 = upd (upd H2 r (.lst [.bl (decide (i = 1)), .bl (decide (i = 0))])) r (.lst ([.bl (decide (i = 1)), .bl (decide (i = 0))] ++ [.bl (decide (i = 2))])) := ⟨_, rfl⟩
      have at4 : CaughtAt H4 p d (c i) v := by
        subst eH4
        exact ⟨by rw [upd_ne npr, upd_ne npr]; exact at_.1, by rw [upd_ne ndr, upd_ne ndr]; exact at_.2⟩
      have g4 : H4 r = some (.lst ((bsK i).map V.bl)) := by
        subst eH4
        exact upd_same
      have s4 : Same H2 H4 := fun b o e => by
        subst eH4
        rw [upd_ne (ne_of_none e hr0), upd_ne (ne_of_none e hr0)]
        exact e
      rw [← eH4]
      clear eH4
      refine ⟨_, rfl, Nat.le_of_lt (small1000 (show 2 ≤ 1000 by decide)), fun tp htp => ⟨p, d, c i, tp, v, [.ref (c 3), .ref (c 4)], [.ref (c 3), .ref (c 4)], false, rfl, upd_same, .cons (.own _) (.cons (.own _) .nil), at4.same (same_new htp), T, ?_, _, rfl, iteF ?_⟩⟩
      · have k3 := Z.is i 3 hi5 (by decide)
        have k4 := Z.is i 4 hi5 (by decide)
        rw [decide_eq_false (by omega)] at k3 k4
        show PySem.W.kitAny K (.ref (c i)) [.ref (c 3), .ref (c 4)] = some false
        unfold PySem.W.kitAny
        rw [k3]
        show PySem.W.kitAny K (.ref (c i)) [.ref (c 4)] = some false
        unfold PySem.W.kitAny
        rw [k4]
        rfl
      have at5 := at4.same (same_new (o := .tup [.ref (c 3), .ref (c 4)]) htp)
      have g5 := same_new (o := .tup [.ref (c 3), .ref (c 4)]) htp _ _ g4
      have s5 := (s2.trans s4).trans (same_new (o := .tup [.ref (c 3), .ref (c 4)]) htp)
      generalize (upd H4 tp (.tup [.ref (c 3), .ref (c 4)])) = H5 at at5 g5 s5 ⊢
      refine ⟨_, rfl, p, d, c i, v, _, _, _, rfl, .ty _, at5, T, Z.isV i hi5, _, rfl, iteF ?_⟩
      obtain ⟨j, j1, j2, j3⟩ := bsK_at hi
      refine ⟨_, rfl, .inl ⟨rfl, _, SqL.of g5⟩, r, bsK i, true, rfl, rfl, SqL.of g5, rfl, _, rfl, ite2 (fun _ => ?_) (fun c => ?_)⟩
      · refine ⟨Nat.le_of_lt (small1000 (show 3 ≤ 1000 by decide)), fun t ht => ?_⟩
        refine ⟨_, rfl, .inl ⟨rfl, _, SqL.of (same_new ht _ _ g5)⟩, r, _, .bl true, j, .bl true, rfl, rfl, SqL.of (same_new ht _ _ g5), rfl, rfl, j1, rfl, j2, ?_⟩
        refine ⟨t, _, (j : Int), .str (nmK i), rfl, rfl, SqL.of upd_same, at_of rfl j3, ?_⟩
        refine ⟨_, rfl, p, d, c i, v, rfl, at5.same (same_new ht), Z.xf i hi5, Z2.nv i hi5, Nat.le_of_lt (small1000 (show 2 ≤ 1000 by decide)), fun u hu => ?_⟩
        exact q1 i v e0 u _ ((s5.trans (same_new ht)).free hu) ((s5.trans (same_new ht)).trans (same_new hu)) upd_same
      · exact absurd (decide_eq_true (congrArg V.int (by rw [bsK_one hi]; rfl))) c
end
end Sq
set_option Elab.async false
set_option linter.all false
set_option maxRecDepth 100000
set_option maxHeartbeats 8000000
set_option exponentiation.threshold 2000
namespace Sq
open PySem PySem.Spec PyProof.Rows L2
def dN (many : Int) (ks : List Int) : PyData := if many < 0 then .list [.str "number", .int many] else match lowAt ks with
  | some j => .list [.str "list", .int (j : Int)]
  | none => .none
def dC (x : V) (dx : PyData) (ks : List Int) : PyData := if oneSign x = false then .list [.str "character", dx] else match lowAt ks with
  | some j => .list [.str "list", .int (j : Int)]
  | none => .none
def dW (ks : List Int) : PyData := match lowAt ks with
  | some j => .list [.str "list", .int (j : Int)]
  | none => .none
theorem dN_neg {many : Int} {ks : List Int} (h : many < 0) : dN many ks = .list [.str "number", .int many] := if_pos h
theorem dN_pos {many : Int} {ks : List Int} (h : ¬ many < 0) : dN many ks = dW ks := if_neg h
theorem dC_chr {x : V} {dx : PyData} {ks : List Int} (h : oneSign x = false) : dC x dx ks = .list [.str "character", dx] := if_pos h
theorem dC_one {x : V} {dx : PyData} {ks : List Int} (h : oneSign x = true) : dC x dx ks = dW ks := if_neg (by rw [h]; exact fun z => nomatch z)
theorem dW_none {ks : List Int} (h : lowAt ks = none) : dW ks = .none := by
  unfold dW
  rw [h]
theorem dW_some {ks : List Int} {j : Nat} (h : lowAt ks = some j) : dW ks = .list [.str "list", .int (j : Int)] := by
  unfold dW
  rw [h]
end Sq
set_option Elab.async false
set_option linter.all false
set_option maxRecDepth 100000
set_option maxHeartbeats 8000000
set_option exponentiation.threshold 2000
namespace Sq
open PySem PySem.Spec PyProof.Rows L2
theorem due_dN {K : PySem.W.Frag} {H : Hp} {many : Int} {ks : List Int} : match dueN many ks with
    | none => dN many ks = .none
    | some (i, v) => ∃ dv, dN many ks = .list [.str (nmK i), dv] ∧ Dp K H v dv := by
  by_cases h : many < 0
  · rw [dueN_neg h, dN_neg h]
    exact ⟨_, rfl, .int _⟩
  · rw [dN_pos h]
    cases e : lowAt ks with
    | none =>
      rw [dueN_ok (by omega) e, dW_none e]
    | some j =>
      rw [dueN_low (by omega) e, dW_some e]
      exact ⟨_, rfl, .int _⟩
theorem due_dC {K : PySem.W.Frag} {H : Hp} {x : V} {dx : PyData} {ks : List Int} (hx : Dp K H x dx) : match dueC x ks with
    | none => dC x dx ks = .none
    | some (i, v) => ∃ dv, dC x dx ks = .list [.str (nmK i), dv] ∧ Dp K H v dv := by
  cases h : oneSign x with
  | false =>
    rw [dueC_chr h, dC_chr h]
    exact ⟨_, rfl, hx⟩
  | true =>
    rw [dC_one h]
    cases e : lowAt ks with
    | none =>
      rw [dueC_ok h e, dW_none e]
    | some j =>
      rw [dueC_low h e, dW_some e]
      exact ⟨_, rfl, .int _⟩
def dsT (many : Int) (x : V) (dx : PyData) (ks : List Int) : List PyData := [dN many ks, dN many ks, dN many ks, dC x dx ks, dC x dx ks]
theorem due_all {K : PySem.W.Frag} {H : Hp} {many : Int} {x : V} {dx : PyData} {ks : List Int} {j : Nat} (hx : Dp K H x dx) (hj : j < 5) : ∃ d, (dsT many x dx ks)[j]? = some d ∧
    match (if 0 ≤ (0 + (j : Int)) ∧ (0 + (j : Int)) < 3 then dueN many ks else dueC x ks) with
    | none => d = .none
    | some (i, v) => ∃ dv, d = .list [.str (nmK i), dv] ∧ Dp K H v dv := by
  have : j = 0 ∨ j = 1 ∨ j = 2 ∨ j = 3 ∨ j = 4 := by omega
  rcases this with e | e | e | e | e <;> subst e
  · exact ⟨_, rfl, due_dN⟩
  · exact ⟨_, rfl, due_dN⟩
  · exact ⟨_, rfl, due_dN⟩
  · exact ⟨_, rfl, due_dC hx⟩
  · exact ⟨_, rfl, due_dC hx⟩
theorem gd_list : Gd 60 (.str "list") := ⟨rfl, rfl, by decide, by decide +kernel, by decide +kernel⟩
theorem gd_number : Gd 60 (.str "number") := ⟨rfl, rfl, by decide, by decide +kernel, by decide +kernel⟩
theorem gd_character : Gd 60 (.str "character") := ⟨rfl, rfl, by decide, by decide +kernel, by decide +kernel⟩
theorem gd_non : Gd 60 .none := ⟨rfl, rfl, by decide, by decide +kernel, by decide +kernel⟩
theorem gdW {ks : List Int} (h : ks.length ≤ 20) : Gd 200 (dW ks) ∧ (dW ks).depth ≤ 1 := by
  cases e : lowAt ks with
  | none =>
    rw [dW_none e]
    exact ⟨gd_non.le (by decide), Nat.zero_le _⟩
  | some j =>
    rw [dW_some e]
    have := (lowAt_some e).1
    exact ⟨(GdA.cons gd_list (Nat.zero_le _) (GdA.cons (gd_int (i := (j : Int)) (by omega)) (Nat.zero_le _) GdA.nil)).list.le (by decide), Nat.le_refl _⟩
theorem gdN {many : Int} {ks : List Int} (h : ks.length ≤ 20) (hm : many.natAbs < 10 ^ 31) : Gd 200 (dN many ks) ∧ (dN many ks).depth ≤ 3 := by
  by_cases c : many < 0
  · rw [dN_neg c]
    exact ⟨(GdA.cons gd_number (Nat.zero_le _) (GdA.cons (gd_int hm) (Nat.zero_le _) GdA.nil)).list.le (by decide), (by decide : 1 ≤ 3)⟩
  · rw [dN_pos c]
    exact ⟨(gdW h).1, Nat.le_trans (gdW h).2 (by decide)⟩
theorem gdC {x : V} {dx : PyData} {ks : List Int} (h : ks.length ≤ 20) (g : Gd 60 dx) (d : dx.depth ≤ 1) : Gd 200 (dC x dx ks) ∧ (dC x dx ks).depth ≤ 3 := by
  cases c : oneSign x with
  | false =>
    rw [dC_chr c]
    refine ⟨(GdA.cons gd_character (Nat.zero_le _) (GdA.cons g (Nat.le_trans d (by decide)) GdA.nil)).list.le (by decide), ?_⟩
    exact Nat.succ_le_succ (Nat.max_le.mpr ⟨Nat.zero_le _, Nat.max_le.mpr ⟨Nat.le_trans d (by decide), Nat.zero_le _⟩⟩)
  | true =>
    rw [dC_one c]
    exact ⟨(gdW h).1, Nat.le_trans (gdW h).2 (by decide)⟩
theorem gdT {many : Int} {x : V} {dx : PyData} {ks : List Int} (h : ks.length ≤ 20) (hm : many.natAbs < 10 ^ 31) (g : Gd 60 dx) (d : dx.depth ≤ 1) : Gd 100000 (.list (dsT many x dx ks)) := by
  have n := gdN (many := many) h hm
  have c := gdC (x := x) h g d
  exact (GdA.cons n.1 n.2 (GdA.cons n.1 n.2 (GdA.cons n.1 n.2 (GdA.cons c.1 c.2 (GdA.cons c.1 c.2 GdA.nil))))).list.le (by decide)
end Sq
set_option Elab.async false
set_option linter.all false
set_option maxRecDepth 100000
set_option maxHeartbeats 8000000
set_option exponentiation.threshold 2000
namespace Sq
open PySem PySem.Spec PyProof.Rows L2
section
variable {P : Program} {w : World} {K : PySem.W.Frag} {mg : Str → Option Value} {base : Heap}
/-- two numbers are compared -/
def rEqI : R2 := fun x y H Q => ∃ i j : Int, x = .int i ∧ y = .int j ∧ Q (.bl (i == j)) H
theorem ow_eqI {X : Cx} {Θ : Shared → Prop} : OpW X Θ (compareOp .Eq) rEqI := by
  intro pins s σ H x y v u Q I θ rx ry h
  obtain ⟨i, j, rfl, rfl, q⟩ := h
  obtain ⟨t1, rfl⟩ := rx
  obtain ⟨t2, rfl⟩ := ry
  exact eq_int ⟨θ, .bl _, H, I, rfl, q⟩
theorem perm_tkn : ∀ (ws : List Value) (m : Nat), ws.length = (["character", "replacements", "text"] : List Str).length → Tkn 0 ws m → Tkn 1 ((fun _ (ws : List Value) => match ws with | [x, y, z] => [z, x, y] | _ => []) ([] : List Value) ws) m := fun ws m hl h => by
  match ws, hl with
  | [a, b, c], _ => exact h
theorem ok_toldgood {f : Addr} {fd : FuncData} (F : Fun K "_law_told" "_law_told" s_lawtold f fd)
    (T_squeezetext : DfT P w K mg base 4 "squeeze_text" ["text", "character", "replacements"] 1 (spSqT K))
    (K_squeezetext : DkT P w K mg base 4 "squeeze_text" ["text", "character", "replacements"] ["character", "replacements", "text"] (fun _ zs => match zs with | [x, y, z] => [z, x, y] | _ => []) 0 1 (spSqT K)) :
    FnT P w K mg base 5 f fd ["way", "many", "some", "sign"] 3 (spToldG K Near) := by
  refine fnt_ofL F sc_lawtold (fun vs H Q E h => ?_) (y := "sign") rfl rfl (fun cdv A outer s H us vs Q u0 hr h rv tkn hu => ?_)
  · obtain ⟨way, many, a, ks, x, rfl, _⟩ := h
    rfl
  · obtain ⟨way, many, a, ks, x, rfl, hS, sm, hx, near, q0, q1⟩ := h
    have good : Tkn 0 [u0] s.toks := fun b t e one => tkn b t (hu.trans e) one
    have cl : ∀ pn, Clo ((cxOf CX0 P w K mg base ["way", "many", "some", "sign", "caught", "one", "e", "flags"] "_law_told" (defScope s_lawtold) f cdv A outer s H E0).nox.tr pn fun _ _ => False) ["sign"] (fun s' => Raw (cxOf CX0 P w K mg base ["way", "many", "some", "sign", "caught", "one", "e", "flags"] "_law_told" (defScope s_lawtold) f cdv A outer s H E0).nox "sign" u0 s' ∧ s.toks ≤ s'.toks) := fun pn => (clo_raw (X := (cxOf CX0 P w K mg base ["way", "many", "some", "sign", "caught", "one", "e", "flags"] "_law_told" (defScope s_lawtold) f cdv A outer s H E0).nox.tr pn fun _ _ => False) rfl).and clo_n
    have cl0 : Clo (cxOf CX0 P w K mg base ["way", "many", "some", "sign", "caught", "one", "e", "flags"] "_law_told" (defScope s_lawtold) f cdv A outer s H E0).nox ["sign"] (fun s' => Raw (cxOf CX0 P w K mg base ["way", "many", "some", "sign", "caught", "one", "e", "flags"] "_law_told" (defScope s_lawtold) f cdv A outer s H E0).nox "sign" u0 s' ∧ s.toks ≤ s'.toks) := (clo_raw rfl).and clo_n
    have kn : ∀ pn, Known ((cxOf CX0 P w K mg base ["way", "many", "some", "sign", "caught", "one", "e", "flags"] "_law_told" (defScope s_lawtold) f cdv A outer s H E0).nox.tr pn fun _ _ => False) (fun s' => Raw (cxOf CX0 P w K mg base ["way", "many", "some", "sign", "caught", "one", "e", "flags"] "_law_told" (defScope s_lawtold) f cdv A outer s H E0).nox "sign" u0 s' ∧ s.toks ≤ s'.toks) "sign" := fun pn => known_local (X := (cxOf CX0 P w K mg base ["way", "many", "some", "sign", "caught", "one", "e", "flags"] "_law_told" (defScope s_lawtold) f cdv A outer s H E0).nox.tr pn fun _ _ => False) rfl good
    refine ⟨_, (wu_cons (ws_set (i := 4) cl0 (by decide) sc_lawtold.nd rfl (Or.inl rfl) we_non) (wu_cons (ws_tryc (fun pn => (wss_one (ws_if (wt_cmp ow_eqI (wv 0) (we_int (cl pn)) (by rfl)) wss_no (wss_one (ws_if (wt_cmp ow_eqI (wv 0) (we_int (cl pn)) (by rfl)) wss_no (wss_one (ws_if (wt_cmp ow_eqI (wv 0) (we_int (cl pn)) (by rfl)) wss_no (wss_one (ws_if (wt_cmp ow_eqI (wv 0) (we_int (cl pn)) (by rfl)) (wss_one (ws_expr (we_callT (cl pn) T_squeezetext (hr.mono (by omega)) (by rfl) (wx_skip (we_str (cl pn)) (wx_name (i := 3) (kn pn) rfl (Or.inl rfl) (wa_cons (wv 2) wa_nil)))))) (wss_one (ws_expr (we_callTK (cl pn) K_squeezetext (hr.mono (by omega)) (by rfl) (wy_name (i := 3) (kn pn) rfl (Or.inl rfl) (wk_cons (wv 2) (wk_cons (we_str (cl pn)) wk_nil)))))))))))))))) (wu_ps (pss_cons (ps_if (pt_cmpR op_isN (pv 4) pe_non (nomark _)) (pss_one (ps_ret pe_non)) pss_nil) pss_no)))), ?_⟩
    obtain ⟨z, rfl, hz⟩ : ∃ z : Str, x = .str z ∧ z.length = 1 := by
      cases x with
      | str z => exact ⟨z, rfl, of_decide_eq_true near.2.1⟩
      | _ => cases near.2.1
    obtain ⟨b, rfl⟩ : ∃ b, z = ⟨#[b]⟩ := by
      obtain ⟨⟨l⟩⟩ := z
      match l, hz with
      | [b], _ => exact ⟨b, rfl⟩
    have rk : Rpl ks := fun k hk => ⟨lowAt_none near.2.2 k hk, sm k hk⟩
    have e0 : (if 0 ≤ way ∧ way < 3 then dueN many ks else dueC (.str ⟨#[b]⟩) ks) = none := by
      rw [if_neg near.1]
      exact dueC_ok near.2.1 near.2.2
    have n0 : way ≠ 0 := fun e => near.1 (by omega)
    have n1 : way ≠ 1 := fun e => near.1 (by omega)
    have n2 : way ≠ 2 := fun e => near.1 (by omega)
    have no : ∀ {k : Int}, way ≠ k → (way == k) = false := fun {k} h => by
      rw [beq_eq_false_iff_ne]
      exact h
    refine ⟨_, rfl, _, _, rfl, rfl, _, rfl, ?_⟩
    rw [no n0]
    refine iteF ⟨_, rfl, _, _, rfl, rfl, _, rfl, ?_⟩
    rw [no n1]
    refine iteF ⟨_, rfl, _, _, rfl, rfl, _, rfl, ?_⟩
    rw [no n2]
    refine iteF ⟨_, rfl, _, _, rfl, rfl, _, rfl, ite2 (fun _ => ?_) (fun _ => ?_)⟩
    · refine ⟨_, rfl, _, rfl, "a   b", b, a, ks, rfl, hS, rk, by decide +kernel, fun H' s' => ?_⟩
      exact ⟨_, rfl, rfl, _, rfl, iteT (q0 e0 _ s')⟩
    · refine ⟨_, rfl, _, rfl, rfl, "", b, a, ks, rfl, hS, rk, by decide +kernel, fun H' s' => ?_⟩
      exact ⟨_, rfl, rfl, _, rfl, iteT (q0 e0 _ s')⟩
end
end Sq
set_option Elab.async false
set_option linter.all false
set_option maxRecDepth 100000
set_option maxHeartbeats 8000000
set_option exponentiation.threshold 2000
namespace Sq
open PySem PySem.Spec PyProof.Rows L2
/-- what a drawn sign is -/
structure Sg (K : PySem.W.Frag) (H : Hp) (x : V) (dx : PyData) : Prop where
  v : SignV H x
  dp : Dp K H x dx
  gd : Gd 60 dx
  dep : dx.depth ≤ 1
  shp : SeqAt.shaped dx = true
  one : (([PyData.str " ", PyData.str "a"]).any fun z => PyData.eqv z dx) = oneSign x
theorem SignV.same {H H' : Hp} {x : V} (s : Same H H') (h : SignV H x) : SignV H' x := by
  cases h with
  | str z hz => exact .str z hz
  | non => exact .non
  | int i => exact .int i
  | bl b => exact .bl b
  | lst a xs ha => exact .lst a xs (s _ _ ha)
  | tup a xs ha => exact .tup a xs (s _ _ ha)
theorem Sg.same {K : PySem.W.Frag} {H H' : Hp} {x : V} {dx : PyData} (s : Same H H') (h : Sg K H x dx) : Sg K H' x dx := ⟨h.v.same s, Dp.same s h.dp, h.gd, h.dep, h.shp, h.one⟩
theorem sign_at {K : PySem.W.Frag} {H : Hp} {tl tt : Addr} {z : Nat} (hl : H tl = some (.lst [.str "a"])) (ht : H tt = some (.tup [.str "a"])) (h1 : z < 10) :
    ∃ x dx, (([.str " ", .str "a", .str "", .str "ab", .str "  ", .non, .int 3, .ref tl, .ref tt, .bl true] : List V))[z]? = some x ∧ Sg K H x dx ∧ (2 ≤ z → ∀ y : Str, x = .str y → y.length ≠ 1) := by
  have : z = 0 ∨ z = 1 ∨ z = 2 ∨ z = 3 ∨ z = 4 ∨ z = 5 ∨ z = 6 ∨ z = 7 ∨ z = 8 ∨ z = 9 := by omega
  rcases this with e | e | e | e | e | e | e | e | e | e <;> subst e
  · exact ⟨_, .str " ", rfl, ⟨.str _ (by decide), .str _, ⟨rfl, rfl, by decide, by decide +kernel, by decide +kernel⟩, by decide, by decide +kernel, by decide +kernel⟩, fun z => absurd z (by decide)⟩
  · exact ⟨_, .str "a", rfl, ⟨.str _ (by decide), .str _, ⟨rfl, rfl, by decide, by decide +kernel, by decide +kernel⟩, by decide, by decide +kernel, by decide +kernel⟩, fun z => absurd z (by decide)⟩
  · exact ⟨_, .str "", rfl, ⟨.str _ (by decide), .str _, ⟨rfl, rfl, by decide, by decide +kernel, by decide +kernel⟩, by decide, by decide +kernel, by decide +kernel⟩, fun _ y e => by injection e with e; rw [← e]; decide +kernel⟩
  · exact ⟨_, .str "ab", rfl, ⟨.str _ (by decide), .str _, ⟨rfl, rfl, by decide, by decide +kernel, by decide +kernel⟩, by decide, by decide +kernel, by decide +kernel⟩, fun _ y e => by injection e with e; rw [← e]; decide +kernel⟩
  · exact ⟨_, .str "  ", rfl, ⟨.str _ (by decide), .str _, ⟨rfl, rfl, by decide, by decide +kernel, by decide +kernel⟩, by decide, by decide +kernel, by decide +kernel⟩, fun _ y e => by injection e with e; rw [← e]; decide +kernel⟩
  · exact ⟨_, .none, rfl, ⟨.non, .non, ⟨rfl, rfl, by decide, by decide +kernel, by decide +kernel⟩, by decide, by decide +kernel, by decide +kernel⟩, fun _ y e => nomatch e⟩
  · exact ⟨_, .int 3, rfl, ⟨.int _, .int _, ⟨by decide +kernel, rfl, by decide, by decide +kernel, by decide +kernel⟩, by decide, by decide +kernel, by decide +kernel⟩, fun _ y e => nomatch e⟩
  · exact ⟨_, .list [.str "a"], rfl, ⟨.lst _ _ hl, .lst (SqL.of hl) (.cons (.str _) .nil), ⟨by decide +kernel, rfl, by decide, by decide +kernel, by decide +kernel⟩, by decide, by decide +kernel, by show _ = false; decide +kernel⟩, fun _ y e => nomatch e⟩
  · exact ⟨_, .tuple [.str "a"], rfl, ⟨.tup _ _ ht, .tup (.inl (.inl ht)) (.cons (.str _) .nil), ⟨by decide +kernel, rfl, by decide, by decide +kernel, by decide +kernel⟩, by decide, by decide +kernel, by show _ = false; decide +kernel⟩, fun _ y e => nomatch e⟩
  · exact ⟨_, .bool true, rfl, ⟨.bl _, .bl _, ⟨by decide +kernel, rfl, by decide, by decide +kernel, by decide +kernel⟩, by decide, by decide +kernel, by decide +kernel⟩, fun _ y e => nomatch e⟩
section
variable {P : Program} {w : World} {K : PySem.W.Frag} {mg : Str → Option Value} {base : Heap} {c fI : Nat → Addr} {qn : Nat → Str} {cB : Addr}
abbrev lawN : List Str := ["script", "rng", "lap", "some", "turn", "many", "sign", "kept", "low", "wrong", "first", "late", "spot", "one", "way"]
def spLaw (K : PySem.W.Frag) : Sp := fun vs H Q _ => ∃ (a : Addr) (ns : List Int), vs = [.ref a] ∧ SqL K H a (ns.map V.int) ∧ ns.length ≤ 63 ∧ ∀ H', Q (.bl true) H'
theorem ok_law {f : Addr} {fd : FuncData} (F : Fun K "law" "law" s_law f fd) (B : Bi mg) (D_lawrng : Df P w K mg base 1 "_law_rng" ["script"] (spRng K)) (D_lawdraw : Df P w K mg base 1 "_law_draw" ["rng", "limit"] spDraw)
    (D_lawlist : Df P w K mg base 2 "_law_list" ["rng", "most", "greatest"] spList) (D_lawtold : Df P w K mg base 5 "_law_told" ["way", "many", "some", "sign"] (spToldG K Away)) (T_lawtold : DfT P w K mg base 5 "_law_told" ["way", "many", "some", "sign"] 3 (spTold K)) : Top P w K mg base 8 f fd "script" (spLaw K) := by
  refine atTop F sc_law ⟨rfl, by decide, by decide⟩ (fun vs H Q E h => ?_) (fun cdv outer s0_ H vs Q E hr h => ?_)
  · obtain ⟨a, ns, rfl, _⟩ := h
    rfl
  · obtain ⟨a, ns, rfl, hS, hn, q⟩ := h
    obtain ⟨c, hc⟩ := cell_has (n := s0_.heap.objs.size + 1) (x := "sign") (show (defScope s_law).names.lookup ("sign" : Str) = some NameKind.cell from rfl)
    have Ce : Cel (cxOf CX0 P w K mg base lawN "law" (defScope s_law) f cdv callerA outer s0_ H E).nox "sign" c := ⟨hc, rfl⟩
    have quiet : (cxOf CX0 P w K mg base lawN "law" (defScope s_law) f cdv callerA outer s0_ H E).nox.A.guards = some [] := rfl
    refine ⟨_, (pss_cons (ps_set (i := 1) sc_law.nd rfl (Or.inl rfl) (pe_callD D_lawrng (hr.mono (by omega)) (by rfl) (pa_cons (pv 0) pa_nil)))
 (pss_cons (ps_for PassesOwn.never rfl (pi_range1 (by rfl) B.n_range (pa_cons (pe_op op_add pe_int (pe_callB (id := "min") (call_min2 rfl) (by rfl) B.n_min (by decide +kernel) (pa_cons pe_int (pa_cons (pe_callB (id := "len") (r := rLenK K) call_lenK (by rfl) B.n_len (by decide +kernel) (pa_cons (pv 0) pa_nil)) pa_nil)))) pa_nil)) (pg_name (i := 2) sc_law.nd rfl (Or.inl rfl))
 (pss_cons (ps_set (i := 3) sc_law.nd rfl (Or.inr rfl) (pe_callD D_lawlist (hr.mono (by omega)) (by rfl) (pa_cons (pv 1) (pa_cons pe_int (pa_cons pe_int pa_nil)))))
 (pss_cons (ps_for PassesOwn.never rfl (pi_range1 (by rfl) B.n_range (pa_cons (pe_ix (r := rIxL K) ix_list (pe_lst (pa_cons pe_int (pa_cons pe_int (pa_cons pe_int (pa_cons pe_int pa_nil))))) (pe_callD D_lawdraw (hr.mono (by omega)) (by rfl) (pa_cons (pv 1) (pa_cons pe_int pa_nil))) (fun _ _ => rfl)) pa_nil)) (pg_name (i := 4) sc_law.nd rfl (Or.inl rfl))
 (pss_one (ps_expr (pe_bm PySem.F.plainAttrs_list PySem.F.slot_list_insert PySem.F.type_list_insert mt_insert (pv 3) (pa_cons (pe_callD D_lawdraw (hr.mono (by omega)) (by rfl) (pa_cons (pv 1) (pa_cons (pe_op op_add (pe_callB (id := "len") (r := rLenK K) call_lenK (by rfl) B.n_len (by decide +kernel) (pa_cons (pv 3) pa_nil)) pe_int) pa_nil))) (pa_cons (pe_ix (r := rIxL K) ix_list (pe_lst (pa_cons pe_int (pa_cons pe_int (pa_cons (pe_un un_neg pe_int) (pa_cons (pe_op op_sub pe_int (pe_callD D_lawdraw (hr.mono (by omega)) (by rfl) (pa_cons (pv 1) (pa_cons (pe_op op_pow pe_int pe_int) pa_nil)))) pa_nil))))) (pe_callD D_lawdraw (hr.mono (by omega)) (by rfl) (pa_cons (pv 1) (pa_cons pe_int pa_nil))) (fun _ _ => rfl)) pa_nil))))))
 (pss_gives (i := 5) sc_law.nd rfl (Or.inr rfl) (peg_ix (r := rIxL K) ix_list (pe_lst (pa_cons (pe_callD D_lawdraw (hr.mono (by omega)) (by rfl) (pa_cons (pv 1) (pa_cons pe_int pa_nil))) (pa_cons (pe_un un_neg pe_int) (pa_cons (pe_op op_sub pe_int (pe_callD D_lawdraw (hr.mono (by omega)) (by rfl) (pa_cons (pv 1) (pa_cons (pe_op op_pow pe_int pe_int) pa_nil)))) (pa_cons pe_int pa_nil))))) (peg_call D_lawdraw (hr.mono (by omega)) (by rfl) (pv 1)) (fun _ _ => rfl))
 (pn_signL (i := 6) sc_law.nd rfl rfl Ce (pa_cons pe_str (pa_cons pe_str (pa_cons pe_str (pa_cons pe_non (pa_cons pe_int (pa_cons (pe_lst (pa_cons pe_str pa_nil)) (pa_cons (pe_tup (pa_cons pe_str pa_nil)) (pa_cons pe_bl pa_nil)))))))) (pe_callD D_lawdraw (hr.mono (by omega)) (by rfl) (pa_cons (pv 1) (pa_cons pe_int pa_nil))) (fun _ _ => rfl) (fun u0 n good n1 =>
 (jrs_consK (jks_of (jst_par (i := 7) (j := 8) Ce (by decide) (by decide) rfl sc_law.nd rfl rfl (by decide) rfl rfl (ja_cons (je_callB (id := "repr") (cj_reprV quiet hr.units) (by rfl) B.n_repr (by decide +kernel) (ja_cons (je_lst (ja_cons (jv 3) (ja_cons (jv 6) ja_nil))) ja_nil)) (ja_cons (je_lc Ce (own := [("spot", 12), ("one", 13)]) (g := gTup K 2 (gCons (gName 12) (gCons (gName 13) gNil))) rfl sc_law.nd (ji_enum (by rfl) B.n_enumerate (ja_cons (jv 3) ja_nil)) (blkOk_by (own := [("spot", 12), ("one", 13)]) (N := lawN) (sc := defScope s_law) (by decide +kernel)) (fun _ _ _ _ _ => (pg_tup rfl (pgs_cons (pg_name (i := 12) sc_law.nd rfl (Or.inl rfl)) (pgs_cons (pg_name (i := 13) sc_law.nd rfl (Or.inl rfl)) pgs_nil)))) (fun _ _ _ _ _ => pts_one (pt_cmpR op_lt (pv 13) pe_int (nomark _))) (fun _ _ _ _ _ => (pv 12))) ja_nil)) (by rfl)))
 (jrs_consK (jks_set (i := 9) Ce (by decide) sc_law.nd rfl (Or.inl rfl) (jk_ifx (jkt_cmp (oj_neD hr.units) (jk_of (jv 8)) (jk_lst jka_nil) (by rfl)) (jk_lst (jka_cons (jk_of je_str) (jka_cons (jk_ixP (jk_of (jv 8)) (jk_of je_int) (fun _ _ => rfl)) jka_nil))) (jk_of je_non)))
 (jrs_consK (jks_set (i := 10) Ce (by decide) sc_law.nd rfl (Or.inl rfl) (jk_ifx (jkt_cmp oj_lt (jk_of (jv 5)) (jk_of je_int) (by rfl)) (jk_lst (jka_cons (jk_of je_str) (jka_cons (jk_of (jv 5)) jka_nil))) (jk_of (jv 9))))
 (jrs_consK (jks_set (i := 11) Ce (by decide) sc_law.nd rfl (Or.inl rfl) (jk_ifx (jkt_cmp (r := rInD K) (oj_inD (room65 hr)) (jk_of (jv 6)) (jk_lst (jka_cons (jk_of je_str) (jka_cons (jk_of je_str) jka_nil))) (by rfl)) (jk_of (jv 9)) (jk_lst (jka_cons (jk_of je_str) (jka_cons (jk_of (jv 6)) jka_nil)))))
 (jrs_ifcmp op_ne (jr_callB (id := "repr") (call_reprV rfl hr.units) (by rfl) B.n_repr (by decide +kernel) (jr_lcK Ce (own := [("way", 14)]) (g := gName 14) rfl sc_law.nd (ji_range1 (by rfl) B.n_range (ja_cons je_int ja_nil)) (blkOk_by (own := [("way", 14)]) (N := lawN) (sc := defScope s_law) (by decide +kernel)) (fun _ _ _ _ _ => (pg_name (i := 14) sc_law.nd rfl (Or.inl rfl))) (fun _ _ _ _ _ => pts_nil) (fun s H C k fp =>
   we_callT ((clo_cell (y := "sign") (by show some ((List.lookup ("sign" : Str) (cellsFrom (s0_.heap.objs.size + 1) (defScope s_law).names [])).getD 0) = some c; rw [hc]; rfl)).and clo_n) T_lawtold (hr.mono (by omega)) (by rfl) (wx_skip (wv 14) (wx_skip (wv 5) (wx_skip (wv 3) (wx_name (i := 6) (known_cell (y := "sign") rfl (by show some ((List.lookup ("sign" : Str) (cellsFrom (s0_.heap.objs.size + 1) (defScope s_law).names [])).getD 0) = some c; rw [hc]; rfl) good) rfl (by first | exact Or.inl rfl | exact Or.inr (Or.inl rfl) | exact Or.inr (Or.inr rfl)) wa_nil)))))))
   (pe_callB (id := "repr") (call_reprV rfl hr.units) (by rfl) B.n_repr (by decide +kernel) (pa_cons (pe_op op_cat (pe_op op_rep (pe_lst (pa_cons (pv 10) pa_nil)) pe_int) (pe_op op_rep (pe_lst (pa_cons (pv 11) pa_nil)) pe_int)) pa_nil)) (nomark _)
   (pss_one (ps_ret pe_bl))
   (pss_one (ps_if (pt_cmpR op_ne (pe_callB (id := "repr") (call_reprV rfl hr.units) (by rfl) B.n_repr (by decide +kernel) (pa_cons (pe_lst (pa_cons (pv 3) (pa_cons (pv 6) pa_nil))) pa_nil)) (pv 7) (nomark _)) (pss_one (ps_ret pe_bl)) pss_nil))
   pss_nil)))))))))))
 (pss_one (ps_ret (pe_and (pe_cmpR (op_eqD hr.units) (pe_callD D_lawtold (hr.mono (by omega)) (by rfl) (pa_cons pe_int (pa_cons (pe_un un_neg pe_int) (pa_cons (pe_lst (pa_cons pe_int pa_nil)) (pa_cons pe_str pa_nil))))) (pe_lst (pa_cons pe_str (pa_cons (pe_un un_neg pe_int) pa_nil))) (nomark _)) (pe_one (pe_cmpR (op_eqD hr.units) (pe_callD D_lawtold (hr.mono (by omega)) (by rfl) (pa_cons pe_int (pa_cons pe_int (pa_cons (pe_lst (pa_cons pe_int pa_nil)) (pa_cons pe_str pa_nil))))) (pe_lst (pa_cons pe_str (pa_cons pe_str pa_nil))) (nomark _)))))))), ?_⟩
    refine ⟨_, rfl, a, ns, rfl, hS, hn, fun l seed H1 hl s1 S1 => ?_⟩
    refine ⟨_, rfl, a, _, rfl, .inl (s1.seq hS), 12, _, rfl, 6, _, rfl, rfl, ?_⟩
    rw [List.length_map]
    have hN : 6 + (if (ns.length : Int) < 12 then (ns.length : Int) else 12) ≤ 18 ∧ 0 ≤ 6 + (if (ns.length : Int) < 12 then (ns.length : Int) else 12) := by
      split <;> omega
    obtain ⟨N, eN⟩ : ∃ N, N = 6 + (if (ns.length : Int) < 12 then (ns.length : Int) else 12) := ⟨_, rfl⟩
    rw [← eN] at hN
    have z2 : 2 ≤ sizeLine := Nat.le_of_lt (small1000 (by decide))
    have z1 : 1 ≤ sizeLine := Nat.le_of_lt (small1000 (by decide))
    refine ⟨N, by subst eN; rfl, by omega, by omega, for_range (lo := 0) (n := N.toNat) (fun i σ H' => ∃ cnt y2 y3 y4 y5 y6 y7 y8 y9 y10 y11 y12 y13 y14, σ = [some (.ref a), some (.ref l), y2, y3, y4, y5, y6, y7, y8, y9, y10, y11, y12, y13, y14] ∧ Rng H' l seed cnt ∧ cnt ≤ 120 * i)
      ⟨0, none, none, none, none, none, none, none, none, none, none, none, none, none, rfl, S1, by omega⟩ ?_ ?_⟩
    · rintro i σ H2 hi ⟨cnt, y2, y3, y4, y5, y6, y7, y8, y9, y10, y11, y12, y13, y14, rfl, S2, hc2⟩
      -- some
      refine ⟨_, rfl, l, seed, cnt, 8, 60, rfl, by decide, by decide, by decide, by decide, S2, by omega, fun p ks cnt1 H3 hp S3 hc3 k3 gp lk hk => ?_⟩
      have npl : p ≠ l := S2.ne hp
      -- low ones put in
      refine ⟨Nat.le_of_lt (small1000 (show 4 ≤ 1000 by decide)), fun t ht => ?_⟩
      refine ⟨_, rfl, l, seed, cnt1, 4, rfl, S3.same (same_new ht), by omega, by decide, by decide, fun z cnt4 H4 z0 z1' S4 hc4 k4 => ?_⟩
      have gp4 := k4 _ _ (same_new ht _ _ gp) npl
      obtain ⟨m, mm, ma⟩ := nth_of (xs := [0, 0, 1, 2]) (z := z) z0 z1'
      have mb : 0 ≤ m ∧ m ≤ 2 := by
        simp at mm
        omega
      refine ⟨t, _, z, .int m, rfl, rfl, SqL.of (k4 _ _ upd_same (S3.ne ht)), ma, m, rfl, by omega, by omega, ?_⟩
      refine for_range (lo := 0) (n := m.toNat) (fun j σ H' => ∃ ks cnt' y4, σ = [some (.ref a), some (.ref l), some (.int (0 + (i : Int))), some (.ref p), y4, y5, y6, y7, y8, y9, y10, y11, y12, y13, y14] ∧ Rng H' l seed cnt' ∧ cnt' ≤ cnt + 81 + 4 * j ∧ H' p = some (.lst (List.map V.int ks)) ∧ ks.length ≤ 12 + j ∧ ∀ k ∈ ks, -1000000000000000000000000000000 < k ∧ k ≤ 1000000)
        ⟨ks, cnt4, y4, rfl, S4, by omega, gp4, by omega, fun k h => by have := hk k h; omega⟩ ?_ ?_
      · clear lk hk gp gp4 S4 hc4 k4 y4 ks
        rintro j σ H5 hj ⟨ks, cnt5, y4, rfl, S5, hc5, gp5, lk, hk⟩
        have j2 : j < 2 := by omega
        refine ⟨_, rfl, .inl ⟨rfl, _, SqL.of gp5⟩, _, rfl, _, rfl, p, _, rfl, .inl (SqL.of gp5), _, 1, rfl, rfl, l, seed, cnt5, _, rfl, S5, by omega, by rw [List.length_map]; omega, by rw [List.length_map]; omega, fun za cnt6 H6 za0 za1 S6 hc6 k6 => ?_⟩
        have gp6 := k6 _ _ gp5 npl
        refine ⟨1, rfl, _, rfl, 10, 29, rfl, rfl, ⟨by decide, by decide, by decide⟩, l, seed, cnt6, _, rfl, S6, by omega, by decide, by decide, fun zb cnt7 H7 zb0 zb1 S7 hc7 k7 => ⟨0, zb, rfl, rfl, Nat.le_of_lt (small1000 (show 4 ≤ 1000 by decide)), fun t8 ht8 => ?_⟩⟩
        refine ⟨_, rfl, l, seed, cnt7, 4, rfl, S7.same (same_new ht8), by omega, by decide, by decide, fun zc cnt8 H8 zc0 zc1 S8 hc8 k8 => ?_⟩
        have e29 : (10 : Int) ^ (29 : Int).toNat = 100000000000000000000000000000 := by decide
        obtain ⟨y, ym, ya⟩ := nth_of (xs := [1, 0, -1, 0 - zb]) (z := zc) zc0 zc1
        have yb : -1000000000000000000000000000000 < y ∧ y ≤ 1000000 := by
          rw [e29] at zb1
          simp at ym
          omega
        have gp8 := k8 _ _ (same_new ht8 _ _ (k7 _ _ gp6 npl)) npl
        refine ⟨t8, _, zc, .int y, rfl, rfl, SqL.of (k8 _ _ upd_same (S7.ne ht8)), ya, p, _, za, .int y, rfl, rfl, gp8, (by rw [List.length_map]; exact small1000 (by omega)), za0, (by rw [List.length_map] at za1; omega), ?_⟩
        refine ⟨ks.take za.toNat ++ [y] ++ ks.drop za.toNat, cnt8, _, rfl, S8.upd npl, by omega, ?_, ?_, fun k h => ?_⟩
        · rw [upd_same, List.map_append, List.map_append, List.map_take, List.map_drop]
          rfl
        · rw [List.length_append, List.length_append, List.length_take, List.length_drop]
          show min za.toNat ks.length + 1 + (ks.length - za.toNat) ≤ 12 + (j + 1)
          omega
        · rcases List.mem_append.mp h with h | h
          · rcases List.mem_append.mp h with h | h
            · exact hk k (List.mem_of_mem_take h)
            · rw [List.mem_singleton.mp h]
              exact yb
          · exact hk k (List.mem_of_mem_drop h)
      · clear lk hk gp gp4 S4 hc4 k4 y4 ks
        rintro σ H5 ⟨ks, cnt5, y4, rfl, S5, hc5, gp5, lk, hk⟩
        have hc5' : cnt5 ≤ cnt + 89 := by omega
        have lk' : ks.length ≤ 20 := by omega
        -- many
        refine ⟨_, rfl, l, seed, cnt5, 99, rfl, S5, by omega, by decide, by decide, fun za cnt6 H6 za0 za1 S6 hc6 k6 => ⟨1, rfl, _, rfl, 10, 30, rfl, rfl, ⟨by decide, by decide, by decide⟩, l, seed, cnt6, _, rfl, S6, by omega, by decide, by decide, fun zb cnt7 H7 zb0 zb1 S7 hc7 k7 => ⟨0, zb, rfl, rfl, Nat.le_of_lt (small1000 (show 4 ≤ 1000 by decide)), fun t8 ht8 => ?_⟩⟩⟩
        refine ⟨_, rfl, l, seed, cnt7, 4, rfl, S7.same (same_new ht8), by omega, by decide, by decide, fun zc cnt8 H8 zc0 zc1 S8 hc8 k8 => ?_⟩
        have e30 : (10 : Int) ^ (30 : Int).toNat = 1000000000000000000000000000000 := by decide
        obtain ⟨many, mm2, ma2⟩ := nth_of (xs := [za, -1, 0 - zb, 0]) (z := zc) zc0 zc1
        have mb2 : many.natAbs < 10 ^ 31 := by
          rw [e30] at zb1
          simp at mm2
          omega
        refine ⟨t8, _, zc, .int many, rfl, rfl, SqL.of (k8 _ _ upd_same (S7.ne ht8)), ma2, ?_⟩
        have gp8 := k8 _ _ (same_new ht8 _ _ (k7 _ _ (k6 _ _ gp5 npl) npl)) npl
        -- sign
        refine ⟨z1, fun tl htl => ⟨z1, fun tt htt => ⟨Nat.le_of_lt (small1000 (show 10 ≤ 1000 by decide)), ?_⟩⟩⟩
        have s89 := (same_new (o := .lst [.str "a"]) htl).trans (same_new (o := .tup [.str "a"]) htt)
        refine ⟨_, rfl, l, seed, cnt8, 10, rfl, S8.same s89, by omega, by decide, by decide, fun zd cnt9 H9 zd0 zd1 S9 hc9 k9 => ?_⟩
        obtain ⟨jd, rfl⟩ := Int.eq_ofNat_of_zero_le zd0
        have nl : tl ≠ l := S8.ne htl
        have ntt : tt ≠ l := (S8.same (same_new (o := .lst [.str "a"]) htl)).ne htt
        obtain ⟨x, dx, xa, sg, short⟩ := sign_at (K := K) (H := H9) (k9 _ _ (same_new htt _ _ upd_same) nl) (k9 _ _ upd_same ntt) (show jd < 10 by omega)
        refine ⟨jd, x, rfl, xa, short, ?_⟩
        have gp9 := k9 _ _ (s89 _ _ gp8) npl
        -- kept, low
        have hk31 : ∀ k ∈ ks, k.natAbs < 10 ^ 31 := fun k h => by
          have := hk k h
          omega
        obtain ⟨gi, di⟩ := gda_ints ks hk31
        have gKS : Gd (122 * ks.length) (.list (ks.map PyData.int)) := gi.list
        have dKS : (PyData.list (ks.map PyData.int)).depth ≤ 3 := Nat.le_trans (Nat.add_le_add_right di 1) (by decide)
        have gPair := (GdA.cons gKS dKS (GdA.cons sg.gd (Nat.le_trans sg.dep (by decide)) GdA.nil)).list
        have wPair : 122 * ks.length + 1 + (60 + 1 + 0) ≤ 100000 := by omega
        have shPair : ∀ H' t', Same H9 H' → H' t' = some (.lst [.ref p, x]) → Shown K H' (.ref t') (.list [.list (ks.map PyData.int), dx]) := fun H' t' s' e' => gPair.shown wPair (.lst (SqL.of e') (.cons (.lst (SqL.of (s' _ _ gp9)) (dp_ints ks)) (.cons (Dp.same s' sg.dp) .nil)))
        refine ⟨_, rfl, _, rfl, z2, fun t ht => ⟨.ref t, .list [.list (ks.map PyData.int), dx], rfl, shPair _ _ (same_new ht) upd_same, ?_⟩⟩
        have gpt := same_new (o := .lst [.ref p, x]) ht _ _ gp9
        have sgt := sg.same (same_new (o := .lst [.ref p, x]) ht)
        have St := S9.same (same_new (o := .lst [.ref p, x]) ht)
        have s9t := same_new (o := .lst [.ref p, x]) ht
        generalize upd H9 t (.lst [.ref p, x]) = Ht at gpt sgt St s9t ⊢
        refine ⟨_, rfl, p, _, rfl, SqL.of gpt, fun D hD => lc_it walk_enum (fun i H' => Same Ht H' ∧ H' D = some (.lst ((lowIx ks i).map V.int))) ⟨same_new hD, upd_same⟩ (fun i H' _ h => h.1.seq (SqL.of gpt)) ?_ ?_⟩
        · rintro m v H' H2 hm ⟨sm, hDD⟩ ⟨T, x1, x2, rfl, nT, rfl, e1, e2⟩
          obtain ⟨k, hk', rfl⟩ := map_at e2
          cases e1
          have nDT : D ≠ T := ne_of_none hDD nT
          refine ⟨T, _, rfl, .inl (.inl upd_same), rfl, _, _, rfl, _, _, rfl, rfl, rfl, ?_⟩
          have em : ks.getD m 2 = k := by rw [List.getD_eq_getElem?_getD, hk']; rfl
          refine ⟨_, rfl, _, _, rfl, rfl, _, rfl, ite2 (fun c => ?_) (fun c => ?_)⟩
          · have c' : k < 2 := of_decide_eq_true c
            refine ⟨_, rfl, _, same_new nT _ _ hDD, by rw [List.length_map]; exact small1000 (by have := lowIx_len ks m; rw [List.length_map] at hm; omega), fun b o z => ?_, ?_⟩
            · rw [upd_ne (ne_of_none z hD)]
              exact same_new nT _ _ (sm _ _ z)
            · rw [upd_same, lowIx_succ, if_pos (by rw [em]; exact c'), List.map_append]
              rfl
          · refine ⟨sm.trans (same_new nT), ?_⟩
            rw [lowIx_succ, if_neg (by rw [em]; exact fun z => c (decide_eq_true z))]
            exact same_new nT _ _ hDD
        · rintro Hc ⟨sc, hDD⟩
          rw [List.length_map] at hDD
          have gpc := sc _ _ gpt
          have sgc := sgt.same sc
          have Sc := St.same sc
          have s9c := s9t.trans sc
          clear gpt sgt St s9t sc
          -- wrong
          refine ⟨_, _, rfl, ?_⟩
          obtain ⟨KS, eKS⟩ : ∃ KS, KS = (PyData.list [.list (ks.map PyData.int), dx]).shown := ⟨_, rfl⟩
          rw [← eKS]
          refine tellNx (fun σ2 H2 => ∃ v, σ2 = [some (.ref a), some (.ref l), some (.int (0 + (i : Int))), some (.ref p), y4, some (.int many), some x, some (.str KS), some (.ref D), some v, y10, y11, y12, y13, y14] ∧ Same Hc H2 ∧ Dp K H2 v (dW ks)) (fun N hN => ?_) (fun σ2 H2 h => ?_)
          · refine ⟨_, rfl, Nat.zero_le _, fun t6 ht6 => ⟨.list ((lowIx ks ks.length).map PyData.int), .list [], .lst (SqL.of (same_new ht6 _ _ hDD)) (dp_ints _), .lst (SqL.of upd_same) .nil, shaped_ints _, rfl, _, rfl, ?_⟩⟩
            cases eL : lowAt ks with
            | none =>
              rw [low_none eL]
              exact iteF (hN _ _ ⟨.non, rfl, same_new ht6, by rw [dW_none eL]; exact .non⟩)
            | some j =>
              obtain ⟨r, er⟩ := low_some eL
              rw [er] at hDD ⊢
              refine iteT ⟨_, rfl, D, _, 0, .int (j : Int), rfl, rfl, SqL.of (same_new ht6 _ _ hDD), rfl, z2, fun u hu => hN _ _ ⟨.ref u, rfl, (same_new ht6).trans (same_new hu), by rw [dW_some eL]; exact .lst (SqL.of upd_same) (.cons (.str _) (.cons (.int _) .nil))⟩⟩
          · obtain ⟨w, rfl, s2, dw⟩ := h
            have gpc := s2 _ _ gpc
            have sgc := sgc.same s2
            have Sc := Sc.same s2
            have s9c := s9c.trans s2
            clear hDD s2
            -- first
            refine tellSeq (fun σ3 H3 => ∃ v, σ3 = [some (.ref a), some (.ref l), some (.int (0 + (i : Int))), some (.ref p), y4, some (.int many), some x, some (.str KS), some (.ref D), some w, some v, y11, y12, y13, y14] ∧ Same H2 H3 ∧ Dp K H3 v (dN many ks)) (fun N hN => ?_) (fun σ3 H3 h => ?_)
            · refine ⟨_, rfl, _, _, rfl, rfl, _, rfl, ite2 (fun c => ?_) (fun c => ?_)⟩
              · have c' : many < 0 := of_decide_eq_true c
                exact ⟨_, rfl, z2, fun u hu => hN _ _ ⟨.ref u, rfl, same_new hu, by rw [dN_neg c']; exact .lst (SqL.of upd_same) (.cons (.str _) (.cons (.int _) .nil))⟩⟩
              · have c' : ¬ many < 0 := fun z => c (decide_eq_true z)
                exact ⟨_, rfl, hN _ _ ⟨w, rfl, Same.refl _, by rw [dN_pos c']; exact dw⟩⟩
            obtain ⟨vf, rfl, s3, df⟩ := h
            have gpc := s3 _ _ gpc
            have sgc := sgc.same s3
            have Sc := Sc.same s3
            have s9c := s9c.trans s3
            have dw := Dp.same s3 dw
            clear s3
            -- late
            refine tellSeq (fun σ4 H4 => ∃ v, σ4 = [some (.ref a), some (.ref l), some (.int (0 + (i : Int))), some (.ref p), y4, some (.int many), some x, some (.str KS), some (.ref D), some w, some vf, some v, y12, y13, y14] ∧ Same H3 H4 ∧ Dp K H4 v (dC x dx ks)) (fun N hN => ?_) (fun σ4 H4 h => ?_)
            · refine ⟨_, rfl, z2, fun t8 ht8 => ⟨dx, [.str " ", .str "a"], Dp.same (same_new ht8) sgc.dp, .lst (SqL.of upd_same) (.cons (.str _) (.cons (.str _) .nil)), sgc.shp, by decide +kernel, _, rfl, ?_⟩⟩
              rw [sgc.one]
              cases eO : oneSign x with
              | true => exact iteT ⟨_, rfl, hN _ _ ⟨w, rfl, same_new ht8, by rw [dC_one eO]; exact Dp.same (same_new ht8) dw⟩⟩
              | false => exact iteF ⟨_, rfl, z2, fun u hu => hN _ _ ⟨.ref u, rfl, (same_new ht8).trans (same_new hu), by rw [dC_chr eO]; exact .lst (SqL.of upd_same) (.cons (.str _) (.cons (Dp.same ((same_new ht8).trans (same_new hu)) sgc.dp) .nil))⟩⟩
            obtain ⟨vl, rfl, s4, dl⟩ := h
            have gpc := s4 _ _ gpc
            have sgc := sgc.same s4
            have Sc := Sc.same s4
            have s9c := s9c.trans s4
            have df := Dp.same s4 df
            clear s4 dw
            have sm : FewK ks := fun k h => by
              have := (hk k h).2
              omega
            refine ⟨5, rfl, by decide, by decide, fun D2 hD2 => lc_range (lo := 0) (n := 5) (fun j H' => Same H4 (wo H' D2) ∧ ∃ vs, H' D2 = some (.lst vs) ∧ vs.length ≤ j ∧ DpAll K (wo H' D2) vs ((dsT many x dx ks).take j)) ⟨by rw [wo_upd]; exact same_wo (Same.refl _) hD2, [], upd_same, Nat.le_refl _, .nil⟩ ?_ ?_⟩
            · rintro j Hj hj ⟨sj, vs, hv, vl_, dv⟩
              have s4j := sj.trans wo_same
              obtain ⟨d, hd, hm⟩ := due_all (K := K) (many := many) (ks := ks) (Dp.same sj sgc.dp) hj
              have et : (dsT many x dx ks).take (j + 1) = (dsT many x dx ks).take j ++ [d] := by rw [List.take_add_one, hd]; rfl
              have fin : ∀ H2 y, Same Hj H2 → Dp K (wo H2 D2) y d → ∃ acc, H2 D2 = some (.lst acc) ∧ acc.length < sizeLine ∧ Same H4 (wo (upd H2 D2 (.lst (acc ++ [y]))) D2) ∧ ∃ vs, upd H2 D2 (.lst (acc ++ [y])) D2 = some (.lst vs) ∧ vs.length ≤ j + 1 ∧ DpAll K (wo (upd H2 D2 (.lst (acc ++ [y]))) D2) vs ((dsT many x dx ks).take (j + 1)) := fun H2 y s2 dy => by
                refine ⟨vs, s2 _ _ hv, small1000 (by omega), ?_, vs ++ [y], upd_same, by rw [List.length_append]; exact Nat.succ_le_succ vl_, ?_⟩
                · rw [wo_upd]
                  exact sj.trans (same_wo (wo_same.trans s2) wo_self)
                · rw [wo_upd, et]
                  exact dp_snoc dy (DpAll.same (same_wo (wo_same.trans s2) wo_self) dv)
              refine ⟨rfl, _, rfl, _, rfl, _, rfl, _, rfl, 0 + (j : Int), many, p, ks, x, rfl, SqL.of (s4j _ _ gpc), sm, SignV.same s4j sgc.v, trivial, fun e H2 s2 => ?_, fun ii v e p2 H2 hp2 s2 g2 => ?_⟩
              · rw [e] at hm
                exact fin H2 _ s2 (by rw [hm]; exact .non)
              · rw [e] at hm
                obtain ⟨dv, rfl, h2⟩ := hm
                have np : p2 ≠ D2 := fun z => by
                  subst z
                  rw [hv] at hp2
                  cases hp2
                exact fin H2 _ s2 (.lst (SqL.of (by rw [wo_ne np]; exact g2)) (.cons (.str _) (.cons (Dp.same (same_wo (wo_same.trans s2) wo_self) h2) .nil)))
            · rintro H5 ⟨s5, vs, hv, _, dv⟩
              have s45 := s5.trans wo_same
              have dvs := DpAll.same wo_same dv
              have gT := gdT (x := x) lk' mb2 sgc.gd sgc.dep
              refine ⟨.ref D2, .list (dsT many x dx ks), rfl, gT.shown (Nat.le_refl _) (.lst (SqL.of hv) dvs), ?_⟩
              refine ⟨_, rfl, z1, fun u hu => ⟨u, 3, _, rfl, rfl, upd_same, by decide, by decide, Nat.le_of_lt (small1000 (show 3 ≤ 1000 by decide)), fun u2 hu2 => ?_⟩⟩
              refine ⟨_, rfl, z1, fun u3 hu3 => ⟨u3, 2, _, rfl, rfl, upd_same, by decide, by decide, Nat.le_of_lt (small1000 (show 2 ≤ 1000 by decide)), fun u4 hu4 => ?_⟩⟩
              refine ⟨u2, u4, _, _, rfl, rfl, same_new hu4 _ _ (same_new hu3 _ _ upd_same), upd_same, Nat.le_of_lt (small1000 (show 5 ≤ 1000 by decide)), fun u5 hu5 => ?_⟩
              have s5u := (((((s45.trans (same_new hu)).trans (same_new hu2)).trans (same_new hu3)).trans (same_new hu4)).trans (same_new (o := .lst ((List.replicate (Int.toNat 3) [vf]).flatten ++ (List.replicate (Int.toNat 2) [vl]).flatten)) hu5))
              refine ⟨.ref u5, .list (dsT many x dx ks), rfl, gT.shown (Nat.le_refl _) (.lst (SqL.of upd_same) (.cons (Dp.same s5u df) (.cons (Dp.same s5u df) (.cons (Dp.same s5u df) (.cons (Dp.same s5u dl) (.cons (Dp.same s5u dl) .nil)))))), ?_⟩
              refine ⟨rfl, _, rfl, iteNS rfl ?_⟩
              have s9u := s9c.trans s5u
              have Su := Sc.same s5u
              refine ⟨_, rfl, _, rfl, z2, fun t7 ht7 => ⟨.ref t7, .list [.list (ks.map PyData.int), dx], rfl, shPair _ _ (s9u.trans (same_new ht7)) upd_same, _, rfl, ?_⟩⟩
              rw [← eKS]
              refine ⟨rfl, _, rfl, iteNS rfl ?_⟩
              exact ⟨cnt9, _, _, _, _, _, _, _, _, _, _, _, _, _, rfl, Su.same (same_new ht7), by omega⟩
    · rintro σ H2 ⟨cnt, y2, y3, y4, y5, y6, y7, y8, y9, y10, y11, y12, y13, y14, rfl, S2, hc2⟩
      have w1 : (if (0 : Int) ≤ 0 ∧ (0 : Int) < 3 then dueN (-1) [1] else dueC (.str "") [1]) = some (1, .int (-1)) := by
        rw [if_pos (by decide)]
        exact dueN_neg (by decide)
      have w2 : (if (0 : Int) ≤ 3 ∧ (3 : Int) < 3 then dueN 0 [1] else dueC (.str "xx") [1]) = some (2, .str "xx") := by
        rw [if_neg (by decide)]
        exact dueC_chr (by decide +kernel)
      have sm1 : FewK [1] := fun k h => by
        rw [List.mem_singleton.mp h]
        decide
      refine ⟨1, rfl, z1, fun u hu => ⟨0, -1, u, [1], .str "", rfl, SqL.of upd_same, sm1, .str _ (by decide), .inl ⟨by decide, by decide⟩, fun e => (by rw [w1] at e; cases e), fun i v e p H3 hp s3 g3 => ?_⟩⟩
      rw [w1] at e
      cases e
      refine ⟨1, rfl, z2, fun u2 hu2 => ⟨.list [.str "number", .int (-1)], .list [.str "number", .int (-1)], .lst (SqL.of (same_new hu2 _ _ g3)) (.cons (.str _) (.cons (.int _) .nil)), .lst (SqL.of upd_same) (.cons (.str _) (.cons (.int _) .nil)), by decide +kernel, by decide +kernel, _, rfl, ?_⟩⟩
      rw [show PyData.eqv (.list [.str "number", .int (-1)]) (.list [.str "number", .int (-1)]) = true by decide +kernel]
      refine iteT ⟨z1, fun u3 hu3 => ⟨3, 0, u3, [1], .str "xx", rfl, SqL.of upd_same, sm1, .str _ (by decide), .inr (.inl (by decide +kernel)), fun e => (by rw [w2] at e; cases e), fun i v e p4 H4 hp4 s4 g4 => ?_⟩⟩
      rw [w2] at e
      cases e
      refine ⟨z2, fun u5 hu5 => ⟨.list [.str "character", .str "xx"], .list [.str "character", .str "xx"], .lst (SqL.of (same_new hu5 _ _ g4)) (.cons (.str _) (.cons (.str _) .nil)), .lst (SqL.of upd_same) (.cons (.str _) (.cons (.str _) .nil)), by decide +kernel, by decide +kernel, ?_⟩⟩
      rw [show PyData.eqv (.list [.str "character", .str "xx"]) (.list [.str "character", .str "xx"]) = true by decide +kernel]
      exact q _
end
end Sq
set_option Elab.async false
set_option linter.all false
set_option maxRecDepth 100000
set_option maxHeartbeats 2000000
namespace Sq
open PySem PySem.Spec PyProof.Rows L2
theorem kb_squeezed {K : PySem.W.Frag} {f : Addr} {fd : FuncData} (F : Fun K "squeezed" "squeezed" s_squeezed f fd) : KBn K fd ["length", "replacements"] 0 ["replacements", "length"] (fun _ ws => ws.reverse) (fun _ zs => zs.reverse) :=
  kbn_mk F _ _ _ (fun _ h => vals_rev h) fun _ _ _ _ _ _ ws hl => match ws, hl with | [_, _], _ => rfl
theorem kb_squeezetext {K : PySem.W.Frag} {f : Addr} {fd : FuncData} (F : Fun K "squeeze_text" "squeeze_text" s_squeezetext f fd) : KBn K fd ["text", "character", "replacements"] 0 ["character", "replacements", "text"] (fun _ ws => match ws with | [x, y, z] => [z, x, y] | _ => []) (fun _ zs => match zs with | [x, y, z] => [z, x, y] | _ => []) :=
  kbn_mk F _ _ _ (fun _ h => by
    cases h with
    | nil => exact .nil
    | cons a h =>
      cases h with
      | nil => exact .nil
      | cons b h =>
        cases h with
        | nil => exact .nil
        | cons c h =>
          cases h with
          | nil => exact .cons c (.cons a (.cons b .nil))
          | cons d h => exact .nil) fun _ _ _ _ _ _ ws hl => match ws, hl with | [_, _, _], _ => rfl
end Sq
set_option Elab.async false
set_option linter.all false
set_option maxRecDepth 100000
set_option maxHeartbeats 4000000
namespace Sq
open PySem PySem.Spec PyProof.Rows L2
theorem all_mk {l : PySem.W.OpenLaw} {w : World} {K : PySem.W.Frag} {h : Heap} {mg : Str → Option Value} {fa : Addr} (X : K.In h) (G : h.Ns mainGlobals mg) (hfa : mg "law" = some (.ref fa))
    {f_checklist : Addr} {od_checklist an_checklist : Option Addr} {sl_checklist : Array (Option Value)} {oc_checklist kV_checklist dc_checklist pm_checklist cd_checklist ct_checklist : Value}
    (a_checklist : PySem.W.nsIn K mainGlobals "check_list" = some (some (.ref f_checklist)))
    (l_checklist : K.lookup f_checklist = some ⟨oc_checklist, od_checklist, .func (PySem.W.fnOf "check_list" "check_list" (defArgs s_checklist) (defBody s_checklist) (defScope s_checklist) .none kV_checklist dc_checklist pm_checklist an_checklist cd_checklist ct_checklist), sl_checklist⟩)
    (c_checklist : PySem.W.codeIn K cd_checklist "check_list" = true) (k_checklist : PySem.W.keepIn K (.ref f_checklist) = true)
    {f_checknumber : Addr} {od_checknumber an_checknumber : Option Addr} {sl_checknumber : Array (Option Value)} {oc_checknumber kV_checknumber dc_checknumber pm_checknumber cd_checknumber ct_checknumber : Value}
    (a_checknumber : PySem.W.nsIn K mainGlobals "check_number" = some (some (.ref f_checknumber)))
    (l_checknumber : K.lookup f_checknumber = some ⟨oc_checknumber, od_checknumber, .func (PySem.W.fnOf "check_number" "check_number" (defArgs s_checknumber) (defBody s_checknumber) (defScope s_checknumber) .none kV_checknumber dc_checknumber pm_checknumber an_checknumber cd_checknumber ct_checknumber), sl_checknumber⟩)
    (c_checknumber : PySem.W.codeIn K cd_checknumber "check_number" = true) (k_checknumber : PySem.W.keepIn K (.ref f_checknumber) = true)
    {f_checkcharacter : Addr} {od_checkcharacter an_checkcharacter : Option Addr} {sl_checkcharacter : Array (Option Value)} {oc_checkcharacter kV_checkcharacter dc_checkcharacter pm_checkcharacter cd_checkcharacter ct_checkcharacter : Value}
    (a_checkcharacter : PySem.W.nsIn K mainGlobals "check_character" = some (some (.ref f_checkcharacter)))
    (l_checkcharacter : K.lookup f_checkcharacter = some ⟨oc_checkcharacter, od_checkcharacter, .func (PySem.W.fnOf "check_character" "check_character" (defArgs s_checkcharacter) (defBody s_checkcharacter) (defScope s_checkcharacter) .none kV_checkcharacter dc_checkcharacter pm_checkcharacter an_checkcharacter cd_checkcharacter ct_checkcharacter), sl_checkcharacter⟩)
    (c_checkcharacter : PySem.W.codeIn K cd_checkcharacter "check_character" = true) (k_checkcharacter : PySem.W.keepIn K (.ref f_checkcharacter) = true)
    {f_squeezed : Addr} {od_squeezed an_squeezed : Option Addr} {sl_squeezed : Array (Option Value)} {oc_squeezed kV_squeezed dc_squeezed pm_squeezed cd_squeezed ct_squeezed : Value}
    (a_squeezed : PySem.W.nsIn K mainGlobals "squeezed" = some (some (.ref f_squeezed)))
    (l_squeezed : K.lookup f_squeezed = some ⟨oc_squeezed, od_squeezed, .func (PySem.W.fnOf "squeezed" "squeezed" (defArgs s_squeezed) (defBody s_squeezed) (defScope s_squeezed) .none kV_squeezed dc_squeezed pm_squeezed an_squeezed cd_squeezed ct_squeezed), sl_squeezed⟩)
    (c_squeezed : PySem.W.codeIn K cd_squeezed "squeezed" = true) (k_squeezed : PySem.W.keepIn K (.ref f_squeezed) = true)
    {f_squeezetext : Addr} {od_squeezetext an_squeezetext : Option Addr} {sl_squeezetext : Array (Option Value)} {oc_squeezetext kV_squeezetext dc_squeezetext pm_squeezetext cd_squeezetext ct_squeezetext : Value}
    (a_squeezetext : PySem.W.nsIn K mainGlobals "squeeze_text" = some (some (.ref f_squeezetext)))
    (l_squeezetext : K.lookup f_squeezetext = some ⟨oc_squeezetext, od_squeezetext, .func (PySem.W.fnOf "squeeze_text" "squeeze_text" (defArgs s_squeezetext) (defBody s_squeezetext) (defScope s_squeezetext) .none kV_squeezetext dc_squeezetext pm_squeezetext an_squeezetext cd_squeezetext ct_squeezetext), sl_squeezetext⟩)
    (c_squeezetext : PySem.W.codeIn K cd_squeezetext "squeeze_text" = true) (k_squeezetext : PySem.W.keepIn K (.ref f_squeezetext) = true)
    {f_stages : Addr} {od_stages an_stages : Option Addr} {sl_stages : Array (Option Value)} {oc_stages kV_stages dc_stages pm_stages cd_stages ct_stages : Value}
    (a_stages : PySem.W.nsIn K mainGlobals "stages" = some (some (.ref f_stages)))
    (l_stages : K.lookup f_stages = some ⟨oc_stages, od_stages, .func (PySem.W.fnOf "stages" "stages" (defArgs s_stages) (defBody s_stages) (defScope s_stages) .none kV_stages dc_stages pm_stages an_stages cd_stages ct_stages), sl_stages⟩)
    (c_stages : PySem.W.codeIn K cd_stages "stages" = true) (k_stages : PySem.W.keepIn K (.ref f_stages) = true)
    {f_lengthafter : Addr} {od_lengthafter an_lengthafter : Option Addr} {sl_lengthafter : Array (Option Value)} {oc_lengthafter kV_lengthafter dc_lengthafter pm_lengthafter cd_lengthafter ct_lengthafter : Value}
    (a_lengthafter : PySem.W.nsIn K mainGlobals "length_after" = some (some (.ref f_lengthafter)))
    (l_lengthafter : K.lookup f_lengthafter = some ⟨oc_lengthafter, od_lengthafter, .func (PySem.W.fnOf "length_after" "length_after" (defArgs s_lengthafter) (defBody s_lengthafter) (defScope s_lengthafter) .none kV_lengthafter dc_lengthafter pm_lengthafter an_lengthafter cd_lengthafter ct_lengthafter), sl_lengthafter⟩)
    (c_lengthafter : PySem.W.codeIn K cd_lengthafter "length_after" = true) (k_lengthafter : PySem.W.keepIn K (.ref f_lengthafter) = true)
    {f_lengthafterone : Addr} {od_lengthafterone an_lengthafterone : Option Addr} {sl_lengthafterone : Array (Option Value)} {oc_lengthafterone kV_lengthafterone dc_lengthafterone pm_lengthafterone cd_lengthafterone ct_lengthafterone : Value}
    (a_lengthafterone : PySem.W.nsIn K mainGlobals "length_after_one" = some (some (.ref f_lengthafterone)))
    (l_lengthafterone : K.lookup f_lengthafterone = some ⟨oc_lengthafterone, od_lengthafterone, .func (PySem.W.fnOf "length_after_one" "length_after_one" (defArgs s_lengthafterone) (defBody s_lengthafterone) (defScope s_lengthafterone) .none kV_lengthafterone dc_lengthafterone pm_lengthafterone an_lengthafterone cd_lengthafterone ct_lengthafterone), sl_lengthafterone⟩)
    (c_lengthafterone : PySem.W.codeIn K cd_lengthafterone "length_after_one" = true) (k_lengthafterone : PySem.W.keepIn K (.ref f_lengthafterone) = true)
    {f_lengthsbetween : Addr} {od_lengthsbetween an_lengthsbetween : Option Addr} {sl_lengthsbetween : Array (Option Value)} {oc_lengthsbetween kV_lengthsbetween dc_lengthsbetween pm_lengthsbetween cd_lengthsbetween ct_lengthsbetween : Value}
    (a_lengthsbetween : PySem.W.nsIn K mainGlobals "lengths_between" = some (some (.ref f_lengthsbetween)))
    (l_lengthsbetween : K.lookup f_lengthsbetween = some ⟨oc_lengthsbetween, od_lengthsbetween, .func (PySem.W.fnOf "lengths_between" "lengths_between" (defArgs s_lengthsbetween) (defBody s_lengthsbetween) (defScope s_lengthsbetween) .none kV_lengthsbetween dc_lengthsbetween pm_lengthsbetween an_lengthsbetween cd_lengthsbetween ct_lengthsbetween), sl_lengthsbetween⟩)
    (c_lengthsbetween : PySem.W.codeIn K cd_lengthsbetween "lengths_between" = true) (k_lengthsbetween : PySem.W.keepIn K (.ref f_lengthsbetween) = true)
    {f_lawrng : Addr} {od_lawrng an_lawrng : Option Addr} {sl_lawrng : Array (Option Value)} {oc_lawrng kV_lawrng dc_lawrng pm_lawrng cd_lawrng ct_lawrng : Value}
    (a_lawrng : PySem.W.nsIn K mainGlobals "_law_rng" = some (some (.ref f_lawrng)))
    (l_lawrng : K.lookup f_lawrng = some ⟨oc_lawrng, od_lawrng, .func (PySem.W.fnOf "_law_rng" "_law_rng" (defArgs s_lawrng) (defBody s_lawrng) (defScope s_lawrng) .none kV_lawrng dc_lawrng pm_lawrng an_lawrng cd_lawrng ct_lawrng), sl_lawrng⟩)
    (c_lawrng : PySem.W.codeIn K cd_lawrng "_law_rng" = true) (k_lawrng : PySem.W.keepIn K (.ref f_lawrng) = true)
    {f_lawdraw : Addr} {od_lawdraw an_lawdraw : Option Addr} {sl_lawdraw : Array (Option Value)} {oc_lawdraw kV_lawdraw dc_lawdraw pm_lawdraw cd_lawdraw ct_lawdraw : Value}
    (a_lawdraw : PySem.W.nsIn K mainGlobals "_law_draw" = some (some (.ref f_lawdraw)))
    (l_lawdraw : K.lookup f_lawdraw = some ⟨oc_lawdraw, od_lawdraw, .func (PySem.W.fnOf "_law_draw" "_law_draw" (defArgs s_lawdraw) (defBody s_lawdraw) (defScope s_lawdraw) .none kV_lawdraw dc_lawdraw pm_lawdraw an_lawdraw cd_lawdraw ct_lawdraw), sl_lawdraw⟩)
    (c_lawdraw : PySem.W.codeIn K cd_lawdraw "_law_draw" = true) (k_lawdraw : PySem.W.keepIn K (.ref f_lawdraw) = true)
    {f_lawlist : Addr} {od_lawlist an_lawlist : Option Addr} {sl_lawlist : Array (Option Value)} {oc_lawlist kV_lawlist dc_lawlist pm_lawlist cd_lawlist ct_lawlist : Value}
    (a_lawlist : PySem.W.nsIn K mainGlobals "_law_list" = some (some (.ref f_lawlist)))
    (l_lawlist : K.lookup f_lawlist = some ⟨oc_lawlist, od_lawlist, .func (PySem.W.fnOf "_law_list" "_law_list" (defArgs s_lawlist) (defBody s_lawlist) (defScope s_lawlist) .none kV_lawlist dc_lawlist pm_lawlist an_lawlist cd_lawlist ct_lawlist), sl_lawlist⟩)
    (c_lawlist : PySem.W.codeIn K cd_lawlist "_law_list" = true) (k_lawlist : PySem.W.keepIn K (.ref f_lawlist) = true)
    {f_lawtold : Addr} {od_lawtold an_lawtold : Option Addr} {sl_lawtold : Array (Option Value)} {oc_lawtold kV_lawtold dc_lawtold pm_lawtold cd_lawtold ct_lawtold : Value}
    (a_lawtold : PySem.W.nsIn K mainGlobals "_law_told" = some (some (.ref f_lawtold)))
    (l_lawtold : K.lookup f_lawtold = some ⟨oc_lawtold, od_lawtold, .func (PySem.W.fnOf "_law_told" "_law_told" (defArgs s_lawtold) (defBody s_lawtold) (defScope s_lawtold) .none kV_lawtold dc_lawtold pm_lawtold an_lawtold cd_lawtold ct_lawtold), sl_lawtold⟩)
    (c_lawtold : PySem.W.codeIn K cd_lawtold "_law_told" = true) (k_lawtold : PySem.W.keepIn K (.ref f_lawtold) = true)
    {f_law : Addr} {od_law an_law : Option Addr} {sl_law : Array (Option Value)} {oc_law kV_law dc_law pm_law cd_law ct_law : Value}
    (a_law : PySem.W.nsIn K mainGlobals "law" = some (some (.ref f_law)))
    (l_law : K.lookup f_law = some ⟨oc_law, od_law, .func (PySem.W.fnOf "law" "law" (defArgs s_law) (defBody s_law) (defScope s_law) .none kV_law dc_law pm_law an_law cd_law ct_law), sl_law⟩)
    (c_law : PySem.W.codeIn K cd_law "law" = true) (k_law : PySem.W.keepIn K (.ref f_law) = true)
    (z_len : PySem.W.nsIn K mainGlobals "len" = some none)
    (z_min : PySem.W.nsIn K mainGlobals "min" = some none)
    (z_max : PySem.W.nsIn K mainGlobals "max" = some none)
    (z_abs : PySem.W.nsIn K mainGlobals "abs" = some none)
    (z_range : PySem.W.nsIn K mainGlobals "range" = some none)
    (z_isinstance : PySem.W.nsIn K mainGlobals "isinstance" = some none)
    (z_repr : PySem.W.nsIn K mainGlobals "repr" = some none)
    (z_enumerate : PySem.W.nsIn K mainGlobals "enumerate" = some none)
    (z_reversed : PySem.W.nsIn K mainGlobals "reversed" = some none)
    (z_sorted : PySem.W.nsIn K mainGlobals "sorted" = some none)
    (z_bool : PySem.W.nsIn K mainGlobals "bool" = some none)
    (z_int : PySem.W.nsIn K mainGlobals "int" = some none)
    (z_str : PySem.W.nsIn K mainGlobals "str" = some none)
    (z_list : PySem.W.nsIn K mainGlobals "list" = some none)
    (z_tuple : PySem.W.nsIn K mainGlobals "tuple" = some none)
    (z_set : PySem.W.nsIn K mainGlobals "set" = some none)
    (z_sum : PySem.W.nsIn K mainGlobals "sum" = some none)
    (z_zip : PySem.W.nsIn K mainGlobals "zip" = some none)
    (z_all : PySem.W.nsIn K mainGlobals "all" = some none)
    (z_any : PySem.W.nsIn K mainGlobals "any" = some none)
    (z_ValueError : PySem.W.nsIn K mainGlobals "ValueError" = some none)
    (z_divmod : PySem.W.nsIn K mainGlobals "divmod" = some none)
    {CB : Addr} (aCB : PySem.W.nsIn K mainGlobals "SqueezeError" = some (some (.ref CB))) (iCB : PySem.W.isClsIn K CB = true) (tCB : PySem.W.typeIn K (.ref CB) = some (.type "type"))
    (third : PySem.W.nsIn K cStatics "thirdparty.any" = some none) (zSup : PySem.W.nsIn K mainGlobals "super" = some none) (hTop : (l.prog.main.scope.names.lookup ("super" : Str)).isSome = false)
    (spC : PySem.W.specialIn K (.builtin "object.__class__") "__get__" = some (some (.builtin "getset_descriptor.__get__"))) (tkC : PySem.W.takesIn K (.builtin "object.__class__") = some true)
    {C0 I0 N0 cda0 cc0 : Addr} {nm0 qn0 msg0 file0 : Str} {bs0 sub0 : List Value} {sn0 : List Str} {ab0 : Bool} {col0 : Option Bool} {dd0 od0 an0 cdd0 cld0 : Option Addr} {ka0 kb0 kc0 kd0 ke0 : Option Value}
    {oc0 doc0 pm0 ct0 ccl0 cl0 : Value} {osl0 ccs0 csl0 : Array (Option Value)} {vs0 : Array Value} {tf0 : Tok} {j0 : Nat} {p0_1 p0_2 q0_0 q0_1 q0_2 q0_3 q0_4 q0_5 r0_1 r0_2 r0_3 r0_4 : Pos}
    (aC0 : PySem.W.nsIn K mainGlobals "InvalidList" = some (some (.ref C0)))
    (xL0 : K.lookup C0 = some (excClassObj nm0 qn0 C0 N0 bs0 [.ref CB, .type "ValueError", .type "Exception", .type "BaseException", .type "object"] true sn0 sub0 ab0 col0 dd0 ka0 kb0 kc0 kd0 ke0 "ValueError.__new__"))
    (sa0 : PySem.W.findIn K (.ref C0) "__setattr__" = some (some (.builtin "object.__setattr__")))
    (nv0 : PySem.W.findIn K (.ref C0) "value" = some none)
    (iC0 : PySem.W.findIn K (.ref C0) "__init__" = some (some (.ref I0)))
    (tI0 : PySem.W.typeIn K (.ref I0) = some (.type "function"))
    (kC0 : PySem.W.keepIn K (.ref C0) = true)
    (eC0 : PySem.W.subIn K (.ref C0) (.type "BaseException") = some true)
    (vC0 : PySem.W.subIn K (.ref C0) (.type "ValueError") = some true)
    (tC0 : PySem.W.typeIn K (.ref C0) = some (.type "type"))
    (mC0 : PySem.W.mroIn K C0 (.ref C0) = some true)
    (su0 : PySem.W.ks_superIn K C0 C0 "__init__" = some (some (.builtin "ValueError.__init__")))
    (fI0 : K.lookup I0 = some ⟨oc0, od0, .func (PySem.W.ksFn "__init__" "InvalidList.__init__" (SqX.xA p0_1 p0_2) (SqX.xB msg0 j0 q0_0 q0_1 q0_2 q0_3 q0_4 q0_5 r0_1 r0_2 r0_3 r0_4) SqX.xS .none .none doc0 pm0 an0 (.ref cda0) ct0 cc0), osl0⟩)
    (cI0 : PySem.W.codeIn K (.ref cda0) "InvalidList.__init__" = true)
    (lc0 : K.lookup cda0 = some ⟨ccl0, cdd0, .fields vs0, ccs0⟩)
    (vf0 : vs0[2]? = some (.str file0 tf0))
    (mf0 : ((l.prog.main.file : Str) == file0) = true)
    (lk0 : K.lookup cc0 = some ⟨cl0, cld0, .cell (some (.ref C0)), csl0⟩)
    (ln0 : (q0_2.endLine == q0_4.line) = true)
    (ga0 : PySem.W.findIn K (.ref C0) "__getattribute__" = some (some (.builtin "BaseException.__getattribute__")))
    (gg0 : PySem.W.findIn K (.ref C0) "__getattr__" = some none)
    (hd0 : PySem.W.hasDictIn K C0 = true)
    (ha0 : PySem.W.findIn K (.ref C0) "__class__" = some (some (.builtin "object.__class__")))
    (mo0 : PySem.W.mroIn K C0 (.type "object") = some true)
    (ic0 : PySem.W.isClsIn K C0 = true)
    (sB0 : PySem.W.subIn K (.ref C0) (.ref CB) = some true)
    {C1 I1 N1 cda1 cc1 : Addr} {nm1 qn1 msg1 file1 : Str} {bs1 sub1 : List Value} {sn1 : List Str} {ab1 : Bool} {col1 : Option Bool} {dd1 od1 an1 cdd1 cld1 : Option Addr} {ka1 kb1 kc1 kd1 ke1 : Option Value}
    {oc1 doc1 pm1 ct1 ccl1 cl1 : Value} {osl1 ccs1 csl1 : Array (Option Value)} {vs1 : Array Value} {tf1 : Tok} {j1 : Nat} {p1_1 p1_2 q1_0 q1_1 q1_2 q1_3 q1_4 q1_5 r1_1 r1_2 r1_3 r1_4 : Pos}
    (aC1 : PySem.W.nsIn K mainGlobals "InvalidNumber" = some (some (.ref C1)))
    (xL1 : K.lookup C1 = some (excClassObj nm1 qn1 C1 N1 bs1 [.ref CB, .type "ValueError", .type "Exception", .type "BaseException", .type "object"] true sn1 sub1 ab1 col1 dd1 ka1 kb1 kc1 kd1 ke1 "ValueError.__new__"))
    (sa1 : PySem.W.findIn K (.ref C1) "__setattr__" = some (some (.builtin "object.__setattr__")))
    (nv1 : PySem.W.findIn K (.ref C1) "value" = some none)
    (iC1 : PySem.W.findIn K (.ref C1) "__init__" = some (some (.ref I1)))
    (tI1 : PySem.W.typeIn K (.ref I1) = some (.type "function"))
    (kC1 : PySem.W.keepIn K (.ref C1) = true)
    (eC1 : PySem.W.subIn K (.ref C1) (.type "BaseException") = some true)
    (vC1 : PySem.W.subIn K (.ref C1) (.type "ValueError") = some true)
    (tC1 : PySem.W.typeIn K (.ref C1) = some (.type "type"))
    (mC1 : PySem.W.mroIn K C1 (.ref C1) = some true)
    (su1 : PySem.W.ks_superIn K C1 C1 "__init__" = some (some (.builtin "ValueError.__init__")))
    (fI1 : K.lookup I1 = some ⟨oc1, od1, .func (PySem.W.ksFn "__init__" "InvalidNumber.__init__" (SqX.xA p1_1 p1_2) (SqX.xB msg1 j1 q1_0 q1_1 q1_2 q1_3 q1_4 q1_5 r1_1 r1_2 r1_3 r1_4) SqX.xS .none .none doc1 pm1 an1 (.ref cda1) ct1 cc1), osl1⟩)
    (cI1 : PySem.W.codeIn K (.ref cda1) "InvalidNumber.__init__" = true)
    (lc1 : K.lookup cda1 = some ⟨ccl1, cdd1, .fields vs1, ccs1⟩)
    (vf1 : vs1[2]? = some (.str file1 tf1))
    (mf1 : ((l.prog.main.file : Str) == file1) = true)
    (lk1 : K.lookup cc1 = some ⟨cl1, cld1, .cell (some (.ref C1)), csl1⟩)
    (ln1 : (q1_2.endLine == q1_4.line) = true)
    (ga1 : PySem.W.findIn K (.ref C1) "__getattribute__" = some (some (.builtin "BaseException.__getattribute__")))
    (gg1 : PySem.W.findIn K (.ref C1) "__getattr__" = some none)
    (hd1 : PySem.W.hasDictIn K C1 = true)
    (ha1 : PySem.W.findIn K (.ref C1) "__class__" = some (some (.builtin "object.__class__")))
    (mo1 : PySem.W.mroIn K C1 (.type "object") = some true)
    (ic1 : PySem.W.isClsIn K C1 = true)
    (sB1 : PySem.W.subIn K (.ref C1) (.ref CB) = some true)
    {C2 I2 N2 cda2 cc2 : Addr} {nm2 qn2 msg2 file2 : Str} {bs2 sub2 : List Value} {sn2 : List Str} {ab2 : Bool} {col2 : Option Bool} {dd2 od2 an2 cdd2 cld2 : Option Addr} {ka2 kb2 kc2 kd2 ke2 : Option Value}
    {oc2 doc2 pm2 ct2 ccl2 cl2 : Value} {osl2 ccs2 csl2 : Array (Option Value)} {vs2 : Array Value} {tf2 : Tok} {j2 : Nat} {p2_1 p2_2 q2_0 q2_1 q2_2 q2_3 q2_4 q2_5 r2_1 r2_2 r2_3 r2_4 : Pos}
    (aC2 : PySem.W.nsIn K mainGlobals "InvalidCharacter" = some (some (.ref C2)))
    (xL2 : K.lookup C2 = some (excClassObj nm2 qn2 C2 N2 bs2 [.ref CB, .type "ValueError", .type "Exception", .type "BaseException", .type "object"] true sn2 sub2 ab2 col2 dd2 ka2 kb2 kc2 kd2 ke2 "ValueError.__new__"))
    (sa2 : PySem.W.findIn K (.ref C2) "__setattr__" = some (some (.builtin "object.__setattr__")))
    (nv2 : PySem.W.findIn K (.ref C2) "value" = some none)
    (iC2 : PySem.W.findIn K (.ref C2) "__init__" = some (some (.ref I2)))
    (tI2 : PySem.W.typeIn K (.ref I2) = some (.type "function"))
    (kC2 : PySem.W.keepIn K (.ref C2) = true)
    (eC2 : PySem.W.subIn K (.ref C2) (.type "BaseException") = some true)
    (vC2 : PySem.W.subIn K (.ref C2) (.type "ValueError") = some true)
    (tC2 : PySem.W.typeIn K (.ref C2) = some (.type "type"))
    (mC2 : PySem.W.mroIn K C2 (.ref C2) = some true)
    (su2 : PySem.W.ks_superIn K C2 C2 "__init__" = some (some (.builtin "ValueError.__init__")))
    (fI2 : K.lookup I2 = some ⟨oc2, od2, .func (PySem.W.ksFn "__init__" "InvalidCharacter.__init__" (SqX.xA p2_1 p2_2) (SqX.xB msg2 j2 q2_0 q2_1 q2_2 q2_3 q2_4 q2_5 r2_1 r2_2 r2_3 r2_4) SqX.xS .none .none doc2 pm2 an2 (.ref cda2) ct2 cc2), osl2⟩)
    (cI2 : PySem.W.codeIn K (.ref cda2) "InvalidCharacter.__init__" = true)
    (lc2 : K.lookup cda2 = some ⟨ccl2, cdd2, .fields vs2, ccs2⟩)
    (vf2 : vs2[2]? = some (.str file2 tf2))
    (mf2 : ((l.prog.main.file : Str) == file2) = true)
    (lk2 : K.lookup cc2 = some ⟨cl2, cld2, .cell (some (.ref C2)), csl2⟩)
    (ln2 : (q2_2.endLine == q2_4.line) = true)
    (ga2 : PySem.W.findIn K (.ref C2) "__getattribute__" = some (some (.builtin "BaseException.__getattribute__")))
    (gg2 : PySem.W.findIn K (.ref C2) "__getattr__" = some none)
    (hd2 : PySem.W.hasDictIn K C2 = true)
    (ha2 : PySem.W.findIn K (.ref C2) "__class__" = some (some (.builtin "object.__class__")))
    (mo2 : PySem.W.mroIn K C2 (.type "object") = some true)
    (ic2 : PySem.W.isClsIn K C2 = true)
    (sB2 : PySem.W.subIn K (.ref C2) (.ref CB) = some true)
    {C3 I3 N3 cda3 cc3 : Addr} {nm3 qn3 msg3 file3 : Str} {bs3 sub3 : List Value} {sn3 : List Str} {ab3 : Bool} {col3 : Option Bool} {dd3 od3 an3 cdd3 cld3 : Option Addr} {ka3 kb3 kc3 kd3 ke3 : Option Value}
    {oc3 doc3 pm3 ct3 ccl3 cl3 : Value} {osl3 ccs3 csl3 : Array (Option Value)} {vs3 : Array Value} {tf3 : Tok} {j3 : Nat} {p3_1 p3_2 q3_0 q3_1 q3_2 q3_3 q3_4 q3_5 r3_1 r3_2 r3_3 r3_4 : Pos}
    (aC3 : PySem.W.nsIn K mainGlobals "NothingToUndo" = some (some (.ref C3)))
    (xL3 : K.lookup C3 = some (excClassObj nm3 qn3 C3 N3 bs3 [.ref CB, .type "ValueError", .type "Exception", .type "BaseException", .type "object"] true sn3 sub3 ab3 col3 dd3 ka3 kb3 kc3 kd3 ke3 "ValueError.__new__"))
    (sa3 : PySem.W.findIn K (.ref C3) "__setattr__" = some (some (.builtin "object.__setattr__")))
    (nv3 : PySem.W.findIn K (.ref C3) "value" = some none)
    (iC3 : PySem.W.findIn K (.ref C3) "__init__" = some (some (.ref I3)))
    (tI3 : PySem.W.typeIn K (.ref I3) = some (.type "function"))
    (kC3 : PySem.W.keepIn K (.ref C3) = true)
    (eC3 : PySem.W.subIn K (.ref C3) (.type "BaseException") = some true)
    (vC3 : PySem.W.subIn K (.ref C3) (.type "ValueError") = some true)
    (tC3 : PySem.W.typeIn K (.ref C3) = some (.type "type"))
    (mC3 : PySem.W.mroIn K C3 (.ref C3) = some true)
    (su3 : PySem.W.ks_superIn K C3 C3 "__init__" = some (some (.builtin "ValueError.__init__")))
    (fI3 : K.lookup I3 = some ⟨oc3, od3, .func (PySem.W.ksFn "__init__" "NothingToUndo.__init__" (SqX.xA p3_1 p3_2) (SqX.xB msg3 j3 q3_0 q3_1 q3_2 q3_3 q3_4 q3_5 r3_1 r3_2 r3_3 r3_4) SqX.xS .none .none doc3 pm3 an3 (.ref cda3) ct3 cc3), osl3⟩)
    (cI3 : PySem.W.codeIn K (.ref cda3) "NothingToUndo.__init__" = true)
    (lc3 : K.lookup cda3 = some ⟨ccl3, cdd3, .fields vs3, ccs3⟩)
    (vf3 : vs3[2]? = some (.str file3 tf3))
    (mf3 : ((l.prog.main.file : Str) == file3) = true)
    (lk3 : K.lookup cc3 = some ⟨cl3, cld3, .cell (some (.ref C3)), csl3⟩)
    (ln3 : (q3_2.endLine == q3_4.line) = true)
    (ga3 : PySem.W.findIn K (.ref C3) "__getattribute__" = some (some (.builtin "BaseException.__getattribute__")))
    (gg3 : PySem.W.findIn K (.ref C3) "__getattr__" = some none)
    (hd3 : PySem.W.hasDictIn K C3 = true)
    (ha3 : PySem.W.findIn K (.ref C3) "__class__" = some (some (.builtin "object.__class__")))
    (mo3 : PySem.W.mroIn K C3 (.type "object") = some true)
    (ic3 : PySem.W.isClsIn K C3 = true)
    (sB3 : PySem.W.subIn K (.ref C3) (.ref CB) = some true)
    {C4 I4 N4 cda4 cc4 : Addr} {nm4 qn4 msg4 file4 : Str} {bs4 sub4 : List Value} {sn4 : List Str} {ab4 : Bool} {col4 : Option Bool} {dd4 od4 an4 cdd4 cld4 : Option Addr} {ka4 kb4 kc4 kd4 ke4 : Option Value}
    {oc4 doc4 pm4 ct4 ccl4 cl4 : Value} {osl4 ccs4 csl4 : Array (Option Value)} {vs4 : Array Value} {tf4 : Tok} {j4 : Nat} {p4_1 p4_2 q4_0 q4_1 q4_2 q4_3 q4_4 q4_5 r4_1 r4_2 r4_3 r4_4 : Pos}
    (aC4 : PySem.W.nsIn K mainGlobals "Unreadable" = some (some (.ref C4)))
    (xL4 : K.lookup C4 = some (excClassObj nm4 qn4 C4 N4 bs4 [.ref CB, .type "ValueError", .type "Exception", .type "BaseException", .type "object"] true sn4 sub4 ab4 col4 dd4 ka4 kb4 kc4 kd4 ke4 "ValueError.__new__"))
    (sa4 : PySem.W.findIn K (.ref C4) "__setattr__" = some (some (.builtin "object.__setattr__")))
    (nv4 : PySem.W.findIn K (.ref C4) "value" = some none)
    (iC4 : PySem.W.findIn K (.ref C4) "__init__" = some (some (.ref I4)))
    (tI4 : PySem.W.typeIn K (.ref I4) = some (.type "function"))
    (kC4 : PySem.W.keepIn K (.ref C4) = true)
    (eC4 : PySem.W.subIn K (.ref C4) (.type "BaseException") = some true)
    (vC4 : PySem.W.subIn K (.ref C4) (.type "ValueError") = some true)
    (tC4 : PySem.W.typeIn K (.ref C4) = some (.type "type"))
    (mC4 : PySem.W.mroIn K C4 (.ref C4) = some true)
    (su4 : PySem.W.ks_superIn K C4 C4 "__init__" = some (some (.builtin "ValueError.__init__")))
    (fI4 : K.lookup I4 = some ⟨oc4, od4, .func (PySem.W.ksFn "__init__" "Unreadable.__init__" (SqX.xA p4_1 p4_2) (SqX.xB msg4 j4 q4_0 q4_1 q4_2 q4_3 q4_4 q4_5 r4_1 r4_2 r4_3 r4_4) SqX.xS .none .none doc4 pm4 an4 (.ref cda4) ct4 cc4), osl4⟩)
    (cI4 : PySem.W.codeIn K (.ref cda4) "Unreadable.__init__" = true)
    (lc4 : K.lookup cda4 = some ⟨ccl4, cdd4, .fields vs4, ccs4⟩)
    (vf4 : vs4[2]? = some (.str file4 tf4))
    (mf4 : ((l.prog.main.file : Str) == file4) = true)
    (lk4 : K.lookup cc4 = some ⟨cl4, cld4, .cell (some (.ref C4)), csl4⟩)
    (ln4 : (q4_2.endLine == q4_4.line) = true)
    (ga4 : PySem.W.findIn K (.ref C4) "__getattribute__" = some (some (.builtin "BaseException.__getattribute__")))
    (gg4 : PySem.W.findIn K (.ref C4) "__getattr__" = some none)
    (hd4 : PySem.W.hasDictIn K C4 = true)
    (ha4 : PySem.W.findIn K (.ref C4) "__class__" = some (some (.builtin "object.__class__")))
    (mo4 : PySem.W.mroIn K C4 (.type "object") = some true)
    (ic4 : PySem.W.isClsIn K C4 = true)
    (sB4 : PySem.W.subIn K (.ref C4) (.ref CB) = some true)
    (s0_0 : PySem.W.subIn K (.ref C0) (.ref C0) = some true)
    (s0_1 : PySem.W.subIn K (.ref C0) (.ref C1) = some false)
    (s0_2 : PySem.W.subIn K (.ref C0) (.ref C2) = some false)
    (s0_3 : PySem.W.subIn K (.ref C0) (.ref C3) = some false)
    (s0_4 : PySem.W.subIn K (.ref C0) (.ref C4) = some false)
    (s1_0 : PySem.W.subIn K (.ref C1) (.ref C0) = some false)
    (s1_1 : PySem.W.subIn K (.ref C1) (.ref C1) = some true)
    (s1_2 : PySem.W.subIn K (.ref C1) (.ref C2) = some false)
    (s1_3 : PySem.W.subIn K (.ref C1) (.ref C3) = some false)
    (s1_4 : PySem.W.subIn K (.ref C1) (.ref C4) = some false)
    (s2_0 : PySem.W.subIn K (.ref C2) (.ref C0) = some false)
    (s2_1 : PySem.W.subIn K (.ref C2) (.ref C1) = some false)
    (s2_2 : PySem.W.subIn K (.ref C2) (.ref C2) = some true)
    (s2_3 : PySem.W.subIn K (.ref C2) (.ref C3) = some false)
    (s2_4 : PySem.W.subIn K (.ref C2) (.ref C4) = some false)
    (s3_0 : PySem.W.subIn K (.ref C3) (.ref C0) = some false)
    (s3_1 : PySem.W.subIn K (.ref C3) (.ref C1) = some false)
    (s3_2 : PySem.W.subIn K (.ref C3) (.ref C2) = some false)
    (s3_3 : PySem.W.subIn K (.ref C3) (.ref C3) = some true)
    (s3_4 : PySem.W.subIn K (.ref C3) (.ref C4) = some false)
    (s4_0 : PySem.W.subIn K (.ref C4) (.ref C0) = some false)
    (s4_1 : PySem.W.subIn K (.ref C4) (.ref C1) = some false)
    (s4_2 : PySem.W.subIn K (.ref C4) (.ref C2) = some false)
    (s4_3 : PySem.W.subIn K (.ref C4) (.ref C3) = some false)
    (s4_4 : PySem.W.subIn K (.ref C4) (.ref C4) = some true)
    (eCB : PySem.W.subIn K (.ref CB) (.type "BaseException") = some true) (hdB : PySem.W.hasDictIn K CB = true)
    (st0 : PySem.W.subIn K (.ref C0) (.type "StopIteration") = some false)
    (st1 : PySem.W.subIn K (.ref C1) (.type "StopIteration") = some false)
    (st2 : PySem.W.subIn K (.ref C2) (.type "StopIteration") = some false)
    (st3 : PySem.W.subIn K (.ref C3) (.type "StopIteration") = some false)
    (st4 : PySem.W.subIn K (.ref C4) (.type "StopIteration") = some false)
    : ∃ fd : FuncData, (∀ (s : Shared) (v : Value), BindsTo s fd ⟨[v], []⟩ [("script", v)]) ∧ ∀ base : Heap, K.In base → base.Ns mainGlobals mg → Top l.prog w K mg base 8 fa fd "script" (spLaw K) := by
  have e := hfa.symm.trans (PySem.W.mg_of X G a_law)
  cases e
  have B : Bi mg := ⟨PySem.W.mg_none_of X G z_len, PySem.W.mg_none_of X G z_min, PySem.W.mg_none_of X G z_max, PySem.W.mg_none_of X G z_abs, PySem.W.mg_none_of X G z_range, PySem.W.mg_none_of X G z_isinstance, PySem.W.mg_none_of X G z_repr, PySem.W.mg_none_of X G z_enumerate, PySem.W.mg_none_of X G z_reversed, PySem.W.mg_none_of X G z_sorted, PySem.W.mg_none_of X G z_bool, PySem.W.mg_none_of X G z_int, PySem.W.mg_none_of X G z_str, PySem.W.mg_none_of X G z_list, PySem.W.mg_none_of X G z_tuple, PySem.W.mg_none_of X G z_set, PySem.W.mg_none_of X G z_sum, PySem.W.mg_none_of X G z_zip, PySem.W.mg_none_of X G z_all, PySem.W.mg_none_of X G z_any, PySem.W.mg_none_of X G z_ValueError, PySem.W.mg_none_of X G z_divmod⟩
  have F_checklist := fun_mk (st := s_checklist) l_checklist c_checklist k_checklist
  have b_checklist := F_checklist.binds (ps := ["replacements"]) fun _ _ _ _ _ _ us hl => match us, hl with | [_], _ => rfl
  have g_checklist := PySem.W.mg_of X G a_checklist
  have F_checknumber := fun_mk (st := s_checknumber) l_checknumber c_checknumber k_checknumber
  have b_checknumber := F_checknumber.binds (ps := ["number", "least"]) fun _ _ _ _ _ _ us hl => match us, hl with | [_, _], _ => rfl
  have g_checknumber := PySem.W.mg_of X G a_checknumber
  have F_checkcharacter := fun_mk (st := s_checkcharacter) l_checkcharacter c_checkcharacter k_checkcharacter
  have b_checkcharacter := F_checkcharacter.binds (ps := ["character"]) fun _ _ _ _ _ _ us hl => match us, hl with | [_], _ => rfl
  have g_checkcharacter := PySem.W.mg_of X G a_checkcharacter
  have F_squeezed := fun_mk (st := s_squeezed) l_squeezed c_squeezed k_squeezed
  have b_squeezed := F_squeezed.binds (ps := ["length", "replacements"]) fun _ _ _ _ _ _ us hl => match us, hl with | [_, _], _ => rfl
  have g_squeezed := PySem.W.mg_of X G a_squeezed
  have F_squeezetext := fun_mk (st := s_squeezetext) l_squeezetext c_squeezetext k_squeezetext
  have b_squeezetext := F_squeezetext.binds (ps := ["text", "character", "replacements"]) fun _ _ _ _ _ _ us hl => match us, hl with | [_, _, _], _ => rfl
  have g_squeezetext := PySem.W.mg_of X G a_squeezetext
  have F_stages := fun_mk (st := s_stages) l_stages c_stages k_stages
  have b_stages := F_stages.binds (ps := ["length", "replacements"]) fun _ _ _ _ _ _ us hl => match us, hl with | [_, _], _ => rfl
  have g_stages := PySem.W.mg_of X G a_stages
  have F_lengthafter := fun_mk (st := s_lengthafter) l_lengthafter c_lengthafter k_lengthafter
  have b_lengthafter := F_lengthafter.binds (ps := ["length", "replacements"]) fun _ _ _ _ _ _ us hl => match us, hl with | [_, _], _ => rfl
  have g_lengthafter := PySem.W.mg_of X G a_lengthafter
  have F_lengthafterone := fun_mk (st := s_lengthafterone) l_lengthafterone c_lengthafterone k_lengthafterone
  have b_lengthafterone := F_lengthafterone.binds (ps := ["length", "number"]) fun _ _ _ _ _ _ us hl => match us, hl with | [_, _], _ => rfl
  have g_lengthafterone := PySem.W.mg_of X G a_lengthafterone
  have F_lengthsbetween := fun_mk (st := s_lengthsbetween) l_lengthsbetween c_lengthsbetween k_lengthsbetween
  have b_lengthsbetween := F_lengthsbetween.binds (ps := ["text", "character"]) fun _ _ _ _ _ _ us hl => match us, hl with | [_, _], _ => rfl
  have g_lengthsbetween := PySem.W.mg_of X G a_lengthsbetween
  have F_lawrng := fun_mk (st := s_lawrng) l_lawrng c_lawrng k_lawrng
  have b_lawrng := F_lawrng.binds (ps := ["script"]) fun _ _ _ _ _ _ us hl => match us, hl with | [_], _ => rfl
  have g_lawrng := PySem.W.mg_of X G a_lawrng
  have F_lawdraw := fun_mk (st := s_lawdraw) l_lawdraw c_lawdraw k_lawdraw
  have b_lawdraw := F_lawdraw.binds (ps := ["rng", "limit"]) fun _ _ _ _ _ _ us hl => match us, hl with | [_, _], _ => rfl
  have g_lawdraw := PySem.W.mg_of X G a_lawdraw
  have F_lawlist := fun_mk (st := s_lawlist) l_lawlist c_lawlist k_lawlist
  have b_lawlist := F_lawlist.binds (ps := ["rng", "most", "greatest"]) fun _ _ _ _ _ _ us hl => match us, hl with | [_, _, _], _ => rfl
  have g_lawlist := PySem.W.mg_of X G a_lawlist
  have F_lawtold := fun_mk (st := s_lawtold) l_lawtold c_lawtold k_lawtold
  have b_lawtold := F_lawtold.binds (ps := ["way", "many", "some", "sign"]) fun _ _ _ _ _ _ us hl => match us, hl with | [_, _, _, _], _ => rfl
  have g_lawtold := PySem.W.mg_of X G a_lawtold
  have F_law := fun_mk (st := s_law) l_law c_law k_law
  exact ⟨_, fun s v => .of_eq rfl, fun base _ _ => by
    have bmV : PySem.HandSPX.refsVE [.ref CB, .type "ValueError", .type "Exception", .type "BaseException", .type "object"] = true := (show PySem.HandSPX.refsVE [.type "ValueError", .type "Exception", .type "BaseException", .type "object"] = true by decide +kernel)
    have neB : ∀ C : Addr, PySem.W.subIn K (.ref C) (.ref CB) = some true → C = CB → true = true := fun _ _ _ => rfl
    have Er0 : SqX.Er K l.prog C0 I0 "InvalidList.__init__" := ⟨⟨_, _, _, _, _, _, _, _, _, _, _, _, _, _, _, xL0, bmV⟩, sa0, nv0, iC0, tI0, kC0, eC0, vC0, tC0, mC0, su0, third, zSup, hTop, ⟨_, _, _, _, _, _, _, _, _, _, _, _, _, _, _, _, _, _, _, _, _, _, _, _, _, _, _, _, _, _, _, _, fI0, cI0, lc0, vf0, mf0, lk0, ln0⟩⟩
    have Ex0 : ExcC K C0 := ⟨ga0, gg0, eC0, hd0, ha0, spC, tkC, mo0⟩
    have Xf0 : XfC K C0 := ⟨ga0, gg0, eC0, hd0⟩
    have Er1 : SqX.Er K l.prog C1 I1 "InvalidNumber.__init__" := ⟨⟨_, _, _, _, _, _, _, _, _, _, _, _, _, _, _, xL1, bmV⟩, sa1, nv1, iC1, tI1, kC1, eC1, vC1, tC1, mC1, su1, third, zSup, hTop, ⟨_, _, _, _, _, _, _, _, _, _, _, _, _, _, _, _, _, _, _, _, _, _, _, _, _, _, _, _, _, _, _, _, fI1, cI1, lc1, vf1, mf1, lk1, ln1⟩⟩
    have Ex1 : ExcC K C1 := ⟨ga1, gg1, eC1, hd1, ha1, spC, tkC, mo1⟩
    have Xf1 : XfC K C1 := ⟨ga1, gg1, eC1, hd1⟩
    have Er2 : SqX.Er K l.prog C2 I2 "InvalidCharacter.__init__" := ⟨⟨_, _, _, _, _, _, _, _, _, _, _, _, _, _, _, xL2, bmV⟩, sa2, nv2, iC2, tI2, kC2, eC2, vC2, tC2, mC2, su2, third, zSup, hTop, ⟨_, _, _, _, _, _, _, _, _, _, _, _, _, _, _, _, _, _, _, _, _, _, _, _, _, _, _, _, _, _, _, _, fI2, cI2, lc2, vf2, mf2, lk2, ln2⟩⟩
    have Ex2 : ExcC K C2 := ⟨ga2, gg2, eC2, hd2, ha2, spC, tkC, mo2⟩
    have Xf2 : XfC K C2 := ⟨ga2, gg2, eC2, hd2⟩
    have Er3 : SqX.Er K l.prog C3 I3 "NothingToUndo.__init__" := ⟨⟨_, _, _, _, _, _, _, _, _, _, _, _, _, _, _, xL3, bmV⟩, sa3, nv3, iC3, tI3, kC3, eC3, vC3, tC3, mC3, su3, third, zSup, hTop, ⟨_, _, _, _, _, _, _, _, _, _, _, _, _, _, _, _, _, _, _, _, _, _, _, _, _, _, _, _, _, _, _, _, fI3, cI3, lc3, vf3, mf3, lk3, ln3⟩⟩
    have Ex3 : ExcC K C3 := ⟨ga3, gg3, eC3, hd3, ha3, spC, tkC, mo3⟩
    have Xf3 : XfC K C3 := ⟨ga3, gg3, eC3, hd3⟩
    have Er4 : SqX.Er K l.prog C4 I4 "Unreadable.__init__" := ⟨⟨_, _, _, _, _, _, _, _, _, _, _, _, _, _, _, xL4, bmV⟩, sa4, nv4, iC4, tI4, kC4, eC4, vC4, tC4, mC4, su4, third, zSup, hTop, ⟨_, _, _, _, _, _, _, _, _, _, _, _, _, _, _, _, _, _, _, _, _, _, _, _, _, _, _, _, _, _, _, _, fI4, cI4, lc4, vf4, mf4, lk4, ln4⟩⟩
    have Ex4 : ExcC K C4 := ⟨ga4, gg4, eC4, hd4, ha4, spC, tkC, mo4⟩
    have Xf4 : XfC K C4 := ⟨ga4, gg4, eC4, hd4⟩
    have ne : ∀ {i j : Nat} {A B : Addr}, PySem.W.subIn K (.ref A) (.ref A) = some true → PySem.W.subIn K (.ref A) (.ref B) = some false → A = B → false = true := fun a b e => by subst e; rw [a] at b; cases b
    have Z : Errs l.prog K mg (fun n => [C0, C1, C2, C3, C4].getD n C0) (fun n => [I0, I1, I2, I3, I4].getD n I0) (fun n => (["InvalidList.__init__", "InvalidNumber.__init__", "InvalidCharacter.__init__", "NothingToUndo.__init__", "Unreadable.__init__"] : List Str).getD n "InvalidList.__init__") CB := {
      er := fun n hn => match n, hn with | 0, _ => ⟨trivial, Er0⟩ | 1, _ => ⟨trivial, Er1⟩ | 2, _ => ⟨trivial, Er2⟩ | 3, _ => ⟨trivial, Er3⟩ | 4, _ => ⟨trivial, Er4⟩
      g0 := PySem.W.mg_of X G aC0
      g1 := PySem.W.mg_of X G aC1
      g2 := PySem.W.mg_of X G aC2
      g3 := PySem.W.mg_of X G aC3
      g4 := PySem.W.mg_of X G aC4
      g5 := PySem.W.mg_of X G aCB
      is := fun n m hn hm => match n, m, hn, hm with | 0, 0, _, _ => kit_own ic0 tC0 s0_0 (fun _ => rfl) | 0, 1, _, _ => kit_own ic1 tC1 s0_1 (ne (i := 0) (j := 0) s0_0 s0_1) | 0, 2, _, _ => kit_own ic2 tC2 s0_2 (ne (i := 0) (j := 0) s0_0 s0_2) | 0, 3, _, _ => kit_own ic3 tC3 s0_3 (ne (i := 0) (j := 0) s0_0 s0_3) | 0, 4, _, _ => kit_own ic4 tC4 s0_4 (ne (i := 0) (j := 0) s0_0 s0_4) | 1, 0, _, _ => kit_own ic0 tC0 s1_0 (ne (i := 0) (j := 0) s1_1 s1_0) | 1, 1, _, _ => kit_own ic1 tC1 s1_1 (fun _ => rfl) | 1, 2, _, _ => kit_own ic2 tC2 s1_2 (ne (i := 0) (j := 0) s1_1 s1_2) | 1, 3, _, _ => kit_own ic3 tC3 s1_3 (ne (i := 0) (j := 0) s1_1 s1_3) | 1, 4, _, _ => kit_own ic4 tC4 s1_4 (ne (i := 0) (j := 0) s1_1 s1_4) | 2, 0, _, _ => kit_own ic0 tC0 s2_0 (ne (i := 0) (j := 0) s2_2 s2_0) | 2, 1, _, _ => kit_own ic1 tC1 s2_1 (ne (i := 0) (j := 0) s2_2 s2_1) | 2, 2, _, _ => kit_own ic2 tC2 s2_2 (fun _ => rfl) | 2, 3, _, _ => kit_own ic3 tC3 s2_3 (ne (i := 0) (j := 0) s2_2 s2_3) | 2, 4, _, _ => kit_own ic4 tC4 s2_4 (ne (i := 0) (j := 0) s2_2 s2_4) | 3, 0, _, _ => kit_own ic0 tC0 s3_0 (ne (i := 0) (j := 0) s3_3 s3_0) | 3, 1, _, _ => kit_own ic1 tC1 s3_1 (ne (i := 0) (j := 0) s3_3 s3_1) | 3, 2, _, _ => kit_own ic2 tC2 s3_2 (ne (i := 0) (j := 0) s3_3 s3_2) | 3, 3, _, _ => kit_own ic3 tC3 s3_3 (fun _ => rfl) | 3, 4, _, _ => kit_own ic4 tC4 s3_4 (ne (i := 0) (j := 0) s3_3 s3_4) | 4, 0, _, _ => kit_own ic0 tC0 s4_0 (ne (i := 0) (j := 0) s4_4 s4_0) | 4, 1, _, _ => kit_own ic1 tC1 s4_1 (ne (i := 0) (j := 0) s4_4 s4_1) | 4, 2, _, _ => kit_own ic2 tC2 s4_2 (ne (i := 0) (j := 0) s4_4 s4_2) | 4, 3, _, _ => kit_own ic3 tC3 s4_3 (ne (i := 0) (j := 0) s4_4 s4_3) | 4, 4, _, _ => kit_own ic4 tC4 s4_4 (fun _ => rfl)
      isB := fun n hn => match n, hn with | 0, _ => kit_own iCB tCB sB0 (fun _ => rfl) | 1, _ => kit_own iCB tCB sB1 (fun _ => rfl) | 2, _ => kit_own iCB tCB sB2 (fun _ => rfl) | 3, _ => kit_own iCB tCB sB3 (fun _ => rfl) | 4, _ => kit_own iCB tCB sB4 (fun _ => rfl)
      isV := fun n hn => match n, hn with | 0, _ => kit_base (by decide +kernel) vC0 | 1, _ => kit_base (by decide +kernel) vC1 | 2, _ => kit_base (by decide +kernel) vC2 | 3, _ => kit_base (by decide +kernel) vC3 | 4, _ => kit_base (by decide +kernel) vC4
      ex := fun n hn => match n, hn with | 0, _ => Ex0 | 1, _ => Ex1 | 2, _ => Ex2 | 3, _ => Ex3 | 4, _ => Ex4
      xf := fun n hn => match n, hn with | 0, _ => Xf0 | 1, _ => Xf1 | 2, _ => Xf2 | 3, _ => Xf3 | 4, _ => Xf4 }
    have Z2 : Errs2 K (fun n => [C0, C1, C2, C3, C4].getD n C0) CB := {
      ma := fun n hn => match n, hn with | 0, _ => PySem.W.exm_ref eCB hdB tCB sB0 | 1, _ => PySem.W.exm_ref eCB hdB tCB sB1 | 2, _ => PySem.W.exm_ref eCB hdB tCB sB2 | 3, _ => PySem.W.exm_ref eCB hdB tCB sB3 | 4, _ => PySem.W.exm_ref eCB hdB tCB sB4
      st := fun n hn => match n, hn with | 0, _ => st0 | 1, _ => st1 | 2, _ => st2 | 3, _ => st3 | 4, _ => st4
      nv := fun n hn => match n, hn with | 0, _ => nv0 | 1, _ => nv1 | 2, _ => nv2 | 3, _ => nv3 | 4, _ => nv4 }
    have D_checklist : Df l.prog w K mg base 1 "check_list" ["replacements"] (spCheckList K) := .mk' F_checklist (ok_checklist F_checklist B) g_checklist b_checklist
    have D_checkcharacter : Df l.prog w K mg base 1 "check_character" ["character"] spCheckChr := .mk' F_checkcharacter (ok_checkcharacter F_checkcharacter B) g_checkcharacter b_checkcharacter
    have D_lengthsbetween : Df l.prog w K mg base 1 "lengths_between" ["text", "character"] spBetween := .mk' F_lengthsbetween (ok_between F_lengthsbetween B) g_lengthsbetween b_lengthsbetween
    have D_lengthafterone : Df l.prog w K mg base 1 "length_after_one" ["length", "number"] spOnceS := .mk' F_lengthafterone (ok_lengthafterone F_lengthafterone B) g_lengthafterone b_lengthafterone
    have D_lengthafter : Df l.prog w K mg base 2 "length_after" ["length", "replacements"] (spSqzS K) := .mk' F_lengthafter (ok_lengthafter F_lengthafter D_lengthafterone) g_lengthafter b_lengthafter
    have Y_squeezetext := ok_squeezetext (P := l.prog) (w := w) (mg := mg) (base := base) F_squeezetext B D_checkcharacter D_checklist D_lengthsbetween D_lengthafter
    have T_squeezetext : DfT l.prog w K mg base 4 "squeeze_text" ["text", "character", "replacements"] 1 (spSqT K) := ⟨⟨_, _, Y_squeezetext, g_squeezetext, k_squeezetext, b_squeezetext⟩⟩
    have K_squeezetext : DkT l.prog w K mg base 4 "squeeze_text" ["text", "character", "replacements"] ["character", "replacements", "text"] (fun _ zs => match zs with | [x, y, z] => [z, x, y] | _ => []) 0 1 (spSqT K) := ⟨⟨_, _, _, Y_squeezetext, g_squeezetext, k_squeezetext, kb_squeezetext F_squeezetext, perm_tkn⟩⟩
    have X_checknumber : Dx l.prog w K mg base 1 "check_number" ["number", "least"] (spCheckNumberX (fun n => [C0, C1, C2, C3, C4].getD n C0)) := .mk' F_checknumber (ok_xchecknumber F_checknumber Z) g_checknumber b_checknumber
    have X_checklist : Dx l.prog w K mg base 1 "check_list" ["replacements"] (spCheckListX K (fun n => [C0, C1, C2, C3, C4].getD n C0)) := .mk' F_checklist (ok_xchecklist F_checklist B Z) g_checklist b_checklist
    have X_checkcharacter : Dx l.prog w K mg base 1 "check_character" ["character"] (spCheckChar (fun n => [C0, C1, C2, C3, C4].getD n C0)) := .mk' F_checkcharacter (ok_xcheckcharacter F_checkcharacter B Z) g_checkcharacter b_checkcharacter
    have O_squeezed := ok_xsqueezed (P := l.prog) (w := w) (mg := mg) (base := base) F_squeezed X_checknumber X_checklist D_lengthafter
    have O_squeezetext := ok_squeezebad (P := l.prog) (w := w) (mg := mg) (base := base) F_squeezetext X_checkcharacter X_checklist
    have O_stages := ok_stages (P := l.prog) (w := w) (mg := mg) (base := base) F_stages X_checknumber X_checklist
    have D_lawrng : Df l.prog w K mg base 1 "_law_rng" ["script"] (spRng K) := .mk' F_lawrng (ok_lawrng F_lawrng B) g_lawrng b_lawrng
    have D_lawdraw : Df l.prog w K mg base 1 "_law_draw" ["rng", "limit"] spDraw := .mk' F_lawdraw (ok_lawdraw F_lawdraw) g_lawdraw b_lawdraw
    have D_lawlist : Df l.prog w K mg base 2 "_law_list" ["rng", "most", "greatest"] spList := .mk' F_lawlist (ok_lawlist F_lawlist B D_lawdraw) g_lawlist b_lawlist
    have O_lawtold := ok_lawtold (P := l.prog) (w := w) (mg := mg) (base := base) F_lawtold B Z Z2 (.mk' F_squeezed O_squeezed g_squeezed b_squeezed) ⟨⟨_, _, O_squeezed, g_squeezed, F_squeezed.kp, kb_squeezed F_squeezed⟩⟩ ⟨⟨_, _, O_stages, g_stages, F_stages.kp, b_stages⟩⟩ (.mk' F_squeezetext O_squeezetext g_squeezetext b_squeezetext) ⟨⟨_, _, O_squeezetext, g_squeezetext, F_squeezetext.kp, kb_squeezetext F_squeezetext⟩⟩
    have D_lawtold : Df l.prog w K mg base 5 "_law_told" ["way", "many", "some", "sign"] (spToldG K Away) := .mk' F_lawtold O_lawtold g_lawtold b_lawtold
    have Y_lawtold := FnT.or (sp := spTold K) (FnT.of (j := 3) O_lawtold) (ok_toldgood (P := l.prog) (w := w) (mg := mg) (base := base) F_lawtold T_squeezetext K_squeezetext) (fun _ _ _ _ h => told_or h)
    have T_lawtold : DfT l.prog w K mg base 5 "_law_told" ["way", "many", "some", "sign"] 3 (spTold K) := ⟨⟨_, _, Y_lawtold, g_lawtold, k_lawtold, b_lawtold⟩⟩
    exact ok_law F_law B D_lawrng D_lawdraw D_lawlist D_lawtold T_lawtold⟩
end Sq
open PySem PySem.W PyProof.Rows
set_option maxRecDepth 100000 in
set_option maxHeartbeats 0 in
theorem PySem.Challenge.cw_squeezelists_k04_errors_of_squeezing_holds : PySem.Challenge.rw_squeezelists_k04_errors_of_squeezing.Holds := by
  w_on; o_law; k_head; (case hw => w_witness2)
  k_fill
  refine Sq.walkAt (l := PySem.Challenge.rw_squeezelists_k04_errors_of_squeezing) (n := 63) (k := 8) (x := "script") (sp := fun w => Sq.spLaw _) rfl (by decide) rfl (fun w h Y => PySem.W.kIn_of Y) ?F (fun _ _ a ns hl _ hS => ⟨a, ns, rfl, hS, hl, fun _ => rfl⟩)
  case F =>
    intro w mg fa h KX G hmg
    refine' Sq.all_mk KX G hmg ?a_checklist ?l_checklist ?c_checklist ?k_checklist ?a_checknumber ?l_checknumber ?c_checknumber ?k_checknumber ?a_checkcharacter ?l_checkcharacter ?c_checkcharacter ?k_checkcharacter ?a_squeezed ?l_squeezed ?c_squeezed ?k_squeezed ?a_squeezetext ?l_squeezetext ?c_squeezetext ?k_squeezetext ?a_stages ?l_stages ?c_stages ?k_stages ?a_lengthafter ?l_lengthafter ?c_lengthafter ?k_lengthafter ?a_lengthafterone ?l_lengthafterone ?c_lengthafterone ?k_lengthafterone ?a_lengthsbetween ?l_lengthsbetween ?c_lengthsbetween ?k_lengthsbetween ?a_lawrng ?l_lawrng ?c_lawrng ?k_lawrng ?a_lawdraw ?l_lawdraw ?c_lawdraw ?k_lawdraw ?a_lawlist ?l_lawlist ?c_lawlist ?k_lawlist ?a_lawtold ?l_lawtold ?c_lawtold ?k_lawtold ?a_law ?l_law ?c_law ?k_law ?z_len ?z_min ?z_max ?z_abs ?z_range ?z_isinstance ?z_repr ?z_enumerate ?z_reversed ?z_sorted ?z_bool ?z_int ?z_str ?z_list ?z_tuple ?z_set ?z_sum ?z_zip ?z_all ?z_any ?z_ValueError ?z_divmod ?aCB ?iCB ?tCB ?third ?zSup ?hTop ?spC ?tkC ?aC0 ?xL0 ?sa0 ?nv0 ?iC0 ?tI0 ?kC0 ?eC0 ?vC0 ?tC0 ?mC0 ?su0 ?fI0 ?cI0 ?lc0 ?vf0 ?mf0 ?lk0 ?ln0 ?ga0 ?gg0 ?hd0 ?ha0 ?mo0 ?ic0 ?sB0 ?aC1 ?xL1 ?sa1 ?nv1 ?iC1 ?tI1 ?kC1 ?eC1 ?vC1 ?tC1 ?mC1 ?su1 ?fI1 ?cI1 ?lc1 ?vf1 ?mf1 ?lk1 ?ln1 ?ga1 ?gg1 ?hd1 ?ha1 ?mo1 ?ic1 ?sB1 ?aC2 ?xL2 ?sa2 ?nv2 ?iC2 ?tI2 ?kC2 ?eC2 ?vC2 ?tC2 ?mC2 ?su2 ?fI2 ?cI2 ?lc2 ?vf2 ?mf2 ?lk2 ?ln2 ?ga2 ?gg2 ?hd2 ?ha2 ?mo2 ?ic2 ?sB2 ?aC3 ?xL3 ?sa3 ?nv3 ?iC3 ?tI3 ?kC3 ?eC3 ?vC3 ?tC3 ?mC3 ?su3 ?fI3 ?cI3 ?lc3 ?vf3 ?mf3 ?lk3 ?ln3 ?ga3 ?gg3 ?hd3 ?ha3 ?mo3 ?ic3 ?sB3 ?aC4 ?xL4 ?sa4 ?nv4 ?iC4 ?tI4 ?kC4 ?eC4 ?vC4 ?tC4 ?mC4 ?su4 ?fI4 ?cI4 ?lc4 ?vf4 ?mf4 ?lk4 ?ln4 ?ga4 ?gg4 ?hd4 ?ha4 ?mo4 ?ic4 ?sB4 ?s0_0 ?s0_1 ?s0_2 ?s0_3 ?s0_4 ?s1_0 ?s1_1 ?s1_2 ?s1_3 ?s1_4 ?s2_0 ?s2_1 ?s2_2 ?s2_3 ?s2_4 ?s3_0 ?s3_1 ?s3_2 ?s3_3 ?s3_4 ?s4_0 ?s4_1 ?s4_2 ?s4_3 ?s4_4 ?eCB ?hdB ?st0 ?st1 ?st2 ?st3 ?st4
    (case a_checklist => k_is); (case l_checklist => k_is); (case c_checklist => k_is); (case k_checklist => k_is); (case a_checknumber => k_is); (case l_checknumber => k_is); (case c_checknumber => k_is); (case k_checknumber => k_is); (case a_checkcharacter => k_is); (case l_checkcharacter => k_is); (case c_checkcharacter => k_is); (case k_checkcharacter => k_is); (case a_squeezed => k_is); (case l_squeezed => k_is); (case c_squeezed => k_is); (case k_squeezed => k_is); (case a_squeezetext => k_is); (case l_squeezetext => k_is); (case c_squeezetext => k_is); (case k_squeezetext => k_is); (case a_stages => k_is); (case l_stages => k_is); (case c_stages => k_is); (case k_stages => k_is); (case a_lengthafter => k_is); (case l_lengthafter => k_is); (case c_lengthafter => k_is); (case k_lengthafter => k_is); (case a_lengthafterone => k_is); (case l_lengthafterone => k_is); (case c_lengthafterone => k_is); (case k_lengthafterone => k_is); (case a_lengthsbetween => k_is); (case l_lengthsbetween => k_is); (case c_lengthsbetween => k_is); (case k_lengthsbetween => k_is); (case a_lawrng => k_is); (case l_lawrng => k_is); (case c_lawrng => k_is); (case k_lawrng => k_is); (case a_lawdraw => k_is); (case l_lawdraw => k_is); (case c_lawdraw => k_is); (case k_lawdraw => k_is); (case a_lawlist => k_is); (case l_lawlist => k_is); (case c_lawlist => k_is); (case k_lawlist => k_is); (case a_lawtold => k_is); (case l_lawtold => k_is); (case c_lawtold => k_is); (case k_lawtold => k_is); (case a_law => k_is); (case l_law => k_is); (case c_law => k_is); (case k_law => k_is); (case z_len => k_is); (case z_min => k_is); (case z_max => k_is); (case z_abs => k_is); (case z_range => k_is); (case z_isinstance => k_is); (case z_repr => k_is); (case z_enumerate => k_is); (case z_reversed => k_is); (case z_sorted => k_is); (case z_bool => k_is); (case z_int => k_is); (case z_str => k_is); (case z_list => k_is); (case z_tuple => k_is); (case z_set => k_is); (case z_sum => k_is); (case z_zip => k_is); (case z_all => k_is); (case z_any => k_is); (case z_ValueError => k_is); (case z_divmod => k_is); (case aCB => k_is); (case iCB => k_is); (case tCB => k_is); (case third => k_is); (case zSup => k_is); (case hTop => decide +kernel); (case spC => k_is); (case tkC => k_is); (case aC0 => k_is); (case xL0 => k_is); (case sa0 => k_is); (case nv0 => k_is); (case iC0 => k_is); (case tI0 => k_is); (case kC0 => k_is); (case eC0 => k_is); (case vC0 => k_is); (case tC0 => k_is); (case mC0 => k_is); (case su0 => ks_is); (case fI0 => k_is); (case cI0 => k_is); (case lc0 => k_is); (case vf0 => rfl); (case mf0 => decide +kernel); (case lk0 => k_is); (case ln0 => rfl); (case ga0 => k_is); (case gg0 => k_is); (case hd0 => k_is); (case ha0 => k_is); (case mo0 => k_is); (case ic0 => k_is); (case sB0 => k_is); (case aC1 => k_is); (case xL1 => k_is); (case sa1 => k_is); (case nv1 => k_is); (case iC1 => k_is); (case tI1 => k_is); (case kC1 => k_is); (case eC1 => k_is); (case vC1 => k_is); (case tC1 => k_is); (case mC1 => k_is); (case su1 => ks_is); (case fI1 => k_is); (case cI1 => k_is); (case lc1 => k_is); (case vf1 => rfl); (case mf1 => decide +kernel); (case lk1 => k_is); (case ln1 => rfl); (case ga1 => k_is); (case gg1 => k_is); (case hd1 => k_is); (case ha1 => k_is); (case mo1 => k_is); (case ic1 => k_is); (case sB1 => k_is); (case aC2 => k_is); (case xL2 => k_is); (case sa2 => k_is); (case nv2 => k_is); (case iC2 => k_is); (case tI2 => k_is); (case kC2 => k_is); (case eC2 => k_is); (case vC2 => k_is); (case tC2 => k_is); (case mC2 => k_is); (case su2 => ks_is); (case fI2 => k_is); (case cI2 => k_is); (case lc2 => k_is); (case vf2 => rfl); (case mf2 => decide +kernel); (case lk2 => k_is); (case ln2 => rfl); (case ga2 => k_is); (case gg2 => k_is); (case hd2 => k_is); (case ha2 => k_is); (case mo2 => k_is); (case ic2 => k_is); (case sB2 => k_is); (case aC3 => k_is); (case xL3 => k_is); (case sa3 => k_is); (case nv3 => k_is); (case iC3 => k_is); (case tI3 => k_is); (case kC3 => k_is); (case eC3 => k_is); (case vC3 => k_is); (case tC3 => k_is); (case mC3 => k_is); (case su3 => ks_is); (case fI3 => k_is); (case cI3 => k_is); (case lc3 => k_is); (case vf3 => rfl); (case mf3 => decide +kernel); (case lk3 => k_is); (case ln3 => rfl); (case ga3 => k_is); (case gg3 => k_is); (case hd3 => k_is); (case ha3 => k_is); (case mo3 => k_is); (case ic3 => k_is); (case sB3 => k_is); (case aC4 => k_is); (case xL4 => k_is); (case sa4 => k_is); (case nv4 => k_is); (case iC4 => k_is); (case tI4 => k_is); (case kC4 => k_is); (case eC4 => k_is); (case vC4 => k_is); (case tC4 => k_is); (case mC4 => k_is); (case su4 => ks_is); (case fI4 => k_is); (case cI4 => k_is); (case lc4 => k_is); (case vf4 => rfl); (case mf4 => decide +kernel); (case lk4 => k_is); (case ln4 => rfl); (case ga4 => k_is); (case gg4 => k_is); (case hd4 => k_is); (case ha4 => k_is); (case mo4 => k_is); (case ic4 => k_is); (case sB4 => k_is); (case s0_0 => k_is); (case s0_1 => k_is); (case s0_2 => k_is); (case s0_3 => k_is); (case s0_4 => k_is); (case s1_0 => k_is); (case s1_1 => k_is); (case s1_2 => k_is); (case s1_3 => k_is); (case s1_4 => k_is); (case s2_0 => k_is); (case s2_1 => k_is); (case s2_2 => k_is); (case s2_3 => k_is); (case s2_4 => k_is); (case s3_0 => k_is); (case s3_1 => k_is); (case s3_2 => k_is); (case s3_3 => k_is); (case s3_4 => k_is); (case s4_0 => k_is); (case s4_1 => k_is); (case s4_2 => k_is); (case s4_3 => k_is); (case s4_4 => k_is); (case eCB => k_is); (case hdB => k_is); (case st0 => k_is); (case st1 => k_is); (case st2 => k_is); (case st3 => k_is); (case st4 => k_is)
