import PyProof.Rows.All
import Wide.All
import OpenK.AllK
import Wide.FinOn
import HandS.ForMost
import HandS.IsInst
import HandS.Walk
import HandS.Defaults
import HandS.RaiseMore
import HandS.Wide
import HandS.Exc
import HandS.ExcOwn
import HandS.ExcInit
import HandS.ExcSuper
import KE.KExcSuper
import HandS.ExcValue
import HandS.ExcIs
import HandS.ExcField
import HandS.GenList
import HandS.WordsExc
import HandS.HotCalls
import HandS.Comp
import HandS.Deep
import HandS.Text
import HandS.StrMore
import HandS.Property
import HandS.MakeKw
import HandS.MakeKwOnly
import HandS.Style
import HandS.GenBody
import HandS.GenYield
import PyProof.GenComp
import PyProof.ForAny
import HandS.Strs
import HandS.SetBool
import HandS.SuiteRaise
import HandS.Iter
import PyProof.FactsSeq
import HandS.Replace
import HandS.GenOver
import HandS.Words
import HandS.WideBits
import HandS.SortInts
import HandS.Set
import HandS.SetFor
import HandS.Zip
import HandS.DictComp
import KE.GoesMore
import PyProof.LongRange
import HandS.More
import HandS.FStr
import HandS.NoneIn
import HandS.ReplaceList
import HandS.Codes
import KE.DataCmp
import HandS.OwnEq
import PyProof.InstNe
import PyProof.EqKinds
import PySem.Challenge.RW_squeezelists_k21_equal_live_texts
set_option Elab.async false
set_option linter.all false
set_option maxRecDepth 100000
set_option maxHeartbeats 2000000
/-! The layer for the laws: a def of the law run at the outermost call (where no repr is under way), repr of data, calls by keywords alone. -/
namespace Sq
open PySem PySem.Spec PyProof.Rows L2
/-! ### the law's own def, at one given surrounding -/
theorem fnAt {CX : CXT} {P : Program} {w : World} {K : PySem.W.Frag} {mg : Str → Option Value} {base : Heap} {k : Nat} {f : Addr} {nmF qualF : Str} {prm : Arguments} {bd : List Stmt} {scp : Scope}
    {dflt kwd docv pmv cdv ctv ocv : Value} {anv odv : Option Addr} {slv : Array (Option Value)} {names prs : List Str} {sp : Sp} {A : Around}
    (stands : K.lookup f = some ⟨ocv, odv, .func (PySem.W.fnOf nmF qualF prm bd scp dflt kwd docv pmv anv cdv ctv), slv⟩)
    (code : PySem.W.codeIn K cdv qualF = true) (sc : FnScope names prs scp)
    (count : ∀ vs H Q E, sp vs H Q E → vs.length = prs.length)
    (inner : ∀ (outer : List Env) (s : Shared) (H : Hp) (vs : List V) (Q : VK) (E : XK), Room k (A.deeper (envOfC qualF scp s.heap.objs.size f cdv)) → sp vs H Q E →
      ∃ t, PSs (cxOf CX P w K mg base names qualF scp f cdv A outer s H E) bd t ∧ t { nx := fun _ H' => Q .non H', rt := Q } (start names vs) H)
    {outer : List Env} {s : Shared} {H : Hp} {ag : Args} {us : List Value} {vs : List V} {Q : VK} {E : XK}
    (room : Room (k + 1) A) (entry : Env0 P w K mg base A outer s H)
    (bound : BindsTo s (PySem.W.fnOf nmF qualF prm bd scp dflt kwd docv pmv anv cdv ctv) ag (prs.zip us)) (rel : Vals vs us) (wish : sp vs H Q E) :
    codeAny (model P w) A (.call (.ref f) ag) (CR CX outer P w H s Q E) s := by
  have written : K.In s.heap := entry.mod.kin.keeps (fun b o e => (entry.bs b o e).1)
  have roomy : s.heap.NoLimit := entry.mod.nolimit.keeps (fun b o e => (entry.bs b o e).1)
  refine codeAny_call_function room.depth (written _ _ stands) rfl sc.co sc.gen rfl (PySem.W.codeRec_of written code) (bound _ _ _ _ ?_)
  refine wpAny_newFunctionEnv_cells sc.kind ?kinds ?body
  case kinds =>
    rintro ⟨n, v⟩ hn
    have inP := (List.of_mem_zip hn).1
    cases sc.par n inP with
    | inl q => exact Or.inl q
    | inr q => exact Or.inr ⟨q, PySem.W.cellsFrom_some _ _ _ (Or.inl q)⟩
  case body =>
    intro env eqn s1 fresh
    subst eqn
    refine ⟨roomy.keeps fresh.toInCall.keep, codeAny_func ?_⟩
    obtain ⟨t, steps, holds⟩ := inner outer s H vs Q E (room.deeper _) wish
    have inv := inv_start (CX := CX) (mg := mg) (base := base) (E := E) sc room.hd entry (count _ _ _ _ wish) rel fresh
    refine wpAny_mono (steps.run [] s1 (start names vs) H _ inv holds) ?_ (fun _ _ q => q)
    intro flow s' got
    cases flow with
    | ret u =>
      obtain ⟨v, σ', H', J, rv, q⟩ := got
      exact ⟨v, H', J.os, J.bare, J.base, J.hok, rv, q⟩
    | next =>
      obtain ⟨σ', H', J, q⟩ := got
      exact ⟨V.non, H', J.os, J.bare, J.base, J.hok, rfl, q⟩
    | brk => exact got.elim fun _ h => h.elim fun _ h => False.elim h.2
    | cont => exact got.elim fun _ h => h.elim fun _ h => False.elim h.2
/-- what the top's def promises at the outermost call alone -/
def Top (P : Program) (w : World) (K : PySem.W.Frag) (mg : Str → Option Value) (base : Heap) (k : Nat) (f : Addr) (fd : FuncData) (x : Str) (sp : Sp) : Prop :=
  ∀ (s : Shared) (H : Hp) (ag : Args) (u : Value) (v : V) (Q : VK), Env0 P w K mg base callerA [] s H → BindsTo s fd ag [(x, u)] → RelV v u → sp [v] H Q (fun _ _ _ => False) →
    codeAny (model P w) callerA (.call (.ref f) ag) (CR CX0 [] P w H s Q (fun _ _ _ => False)) s
theorem atTop {P : Program} {w : World} {K : PySem.W.Frag} {mg : Str → Option Value} {base : Heap} {k : Nat} {f : Addr} {fd : FuncData} {x y qual : Str} {st : Stmt} {names : List Str} {sp : Sp}
    (F : Fun K y qual st f fd) (sc : FnScope names [x] (defScope st)) (room : Room (k + 1) callerA) (count : ∀ vs H Q E, sp vs H Q E → vs.length = 1)
    (inner : ∀ (cdv : Value) (outer : List Env) (s : Shared) (H : Hp) (vs : List V) (Q : VK) (E : XK), Room k (callerA.deeper (envOfC qual (defScope st) s.heap.objs.size f cdv)) → sp vs H Q E →
      ∃ t, PSs (cxOf CX0 P w K mg base names qual (defScope st) f cdv callerA outer s H E).nox (defBody st) t ∧ t { nx := fun _ H' => Q .non H', rt := Q } (start names vs) H) :
    Top P w K mg base k f fd x sp := by
  intro s H ag u v Q e0 hb hv hs
  obtain ⟨oc, od, kV, doc, pm, an, cdv, ct, osl, rfl, lk, hcd⟩ := F.ex
  refine fnAt (us := [u]) (vs := [v]) lk hcd sc count (fun outer s' H' vs' Q' E' room' wish => ?_) room e0 hb (.cons hv .nil) hs
  obtain ⟨t, h, q⟩ := inner cdv outer s' H' vs' Q' E' room' wish
  exact ⟨t, h.nox, q⟩
/-- from the def's promise at the outermost call to the row's claim about that call -/
theorem lawAt {P : Program} {w : World} {K : PySem.W.Frag} {mg mb : Str → Option Value} {k : Nat} {fa a : Addr} {fd : FuncData} {x : Str} {sp : Sp} {s₁ : Shared} {cells : List Value} {nums : List Int}
    (inK : K.In s₁.heap) (nsM : s₁.heap.Ns mainGlobals mg) (nsB : s₁.heap.Ns builtinsNs mb) (boot : ∀ y : Str, y ≠ "__name__" → mb y = bootBuiltins y) (lim : s₁.heap.NoLimit) (gens : s₁.gens = #[])
    (script : s₁.heap.get? a = some { cls := .type "list", data := .seq cells.toArray }) (are : IntsAre cells nums) (few : nums.length ≤ sizeLine)
    (main : ∀ base : Heap, K.In base → base.Ns mainGlobals mg → Top P w K mg base k fa fd x sp) (binds : ∀ (s : Shared) (u : Value), BindsTo s fd ⟨[u], []⟩ [(x, u)])
    (told : ∀ H : Hp, Only H → SqL K H a (nums.map V.int) → sp [.ref a] H (fun v _ => v = .bl true) fun _ _ _ => False) :
    codeAny (model P w) callerA (.call (.ref fa) ⟨[.ref a], []⟩) (fun r s' => r = .ok (.ret (.bool true)) ∧ OldK s₁.heap s'.heap ∧ s'.os = s₁.os ∧ AllBare s'.gens) s₁ := by
  have rel := vals_ints are
  have same := are.length
  suffices goal : ∀ H : Hp, Only H → SqL K H a (nums.map V.int) → HOk P w H s₁.heap → (∀ b o, H b = some o → b = a ∧ K.lookup a = none) →
      codeAny (model P w) callerA (.call (.ref fa) ⟨[.ref a], []⟩) (fun r s' => r = .ok (.ret (.bool true)) ∧ OldK s₁.heap s'.heap ∧ s'.os = s₁.os ∧ AllBare s'.gens) s₁ by
    cases look : K.lookup a with
    | some o =>
      have here := inK a o look
      rw [script] at here
      cases here
      exact goal (fun _ => none) (fun _ => Or.inl rfl) (Or.inr ⟨_, cells.toArray, _, look, rfl, rfl, rfl, (by rw [List.size_toArray, same]; exact few), (by simpa using rel)⟩) (fun b u z => by cases (show (none : Option HO) = some u from z)) (fun b o z => by cases (show (none : Option HO) = some o from z))
    | none =>
      let Ha : Hp := fun b => if b = a then some (.frz { cls := .type "list", data := .seq cells.toArray } (.lst (nums.map V.int))) else none
      have at_a : Ha a = some (.frz { cls := .type "list", data := .seq cells.toArray } (.lst (nums.map V.int))) := if_pos rfl
      have off : ∀ b o, Ha b = some o → b = a := fun b o z => by
        by_cases hb : b = a
        · exact hb
        · rw [show Ha b = none from if_neg hb] at z
          cases z
      refine goal Ha (fun b => ?_) (Or.inl (Or.inr ⟨_, at_a⟩)) (fun b u z => ?_) (fun b o z => ⟨off b o z, look⟩)
      · by_cases hb : b = a
        · exact Or.inr ⟨_, _, if_pos hb⟩
        · exact Or.inl (if_neg hb)
      · obtain rfl := off b u z
        rw [at_a] at z
        cases z
        exact ⟨script, by rw [List.length_map]; exact few, cells, _, rel, script⟩
  intro H only seq hok apart
  have free : ∀ {b : Addr} {o : Obj}, s₁.heap.get? b = some o → (∀ u, H b = some u → False) → (hidT s₁.heap H).get? b = some o := fun {b o} e n =>
    hidT_get e (by
      cases q : H b with
      | none => rfl
      | some u => exact (n u q).elim)
  have nsH : ∀ {b : Addr} {m : Str → Option Value}, s₁.heap.Ns b m → (hidT s₁.heap H).Ns b m := by
    rintro b m ⟨o, es, ep, e, d, r⟩
    refine ⟨o, es, ep, free e fun u z => ?_, d, r⟩
    obtain ⟨rfl, _⟩ := apart b u z
    rw [script] at e
    cases e
    cases (show Data.seq cells.toArray _ = Data.dict es ep from d)
  have kH : K.In (hidT s₁.heap H) := fun b o e => free (inK b o e) fun u z => by
    obtain ⟨rfl, n⟩ := apart b u z
    rw [n] at e
    cases e
  have mod : Mod K mg (hidT s₁.heap H) := ⟨kH, nsH nsM, ⟨mb, nsH nsB, boot⟩, let ⟨mc, h1, h2⟩ := lim; ⟨mc, nsH h1, h2⟩⟩
  have entry : Env0 P w K mg (hidT s₁.heap H) callerA [] s₁ H :=
    ⟨rfl, mod, fun b o e => of_hidT e, Nat.le_of_eq (hidT_size _ _), trivial, fun b hb => absurd (show b ∈ ([] : List Addr) from hb) (by simp), hok, .of_eq gens⟩
  refine codeAny_mono (main _ kH (nsH nsM) s₁ H ⟨[.ref a], []⟩ (.ref a) (.ref a) _ entry (binds s₁ (.ref a)) rfl (told H only seq)) ?_
  intro r s' got
  match r, got with
  | .ok (.ret u), got =>
    obtain ⟨v, H', os, bare, un, hok', rv, q⟩ := got
    obtain rfl : v = .bl true := q
    obtain rfl : u = Value.bool true := rv
    refine ⟨rfl, OldK.of_keep fun b o e => ?_, os, bare⟩
    rcases only b with z | ⟨ob, xs, z⟩
    · exact un.keep b o e z (by intro y; exact absurd (show b ∈ ([] : List Addr) from y) (by simp)) (by simp)
    · obtain ⟨e1, _⟩ := hok b _ z
      obtain ⟨e2, _⟩ := hok' b _ (un.frzs b ob _ z)
      rw [e] at e1
      cases e1
      exact e2
/-- the goal that k_head leaves, from the law's promise at the outermost call -/
theorem walkAt {l : PySem.W.OpenLaw} {n k : Nat} {q : Program} {loose : List Str} {XP : (Str → Option Value) → Heap → Prop} {YP : World → Heap → Prop} {d : DefRec} {K : Params → PySem.W.Frag} {sp : World → Sp} {x : Str}
    (most : l.most = some n) (line : n ≤ sizeLine) (plain : d.params.defaults = []) (inK : ∀ (w : World) (h : Heap), YP w h → (K w.params).In h)
    (F : ∀ (w : World) (mg : Str → Option Value) (fa : Addr) (h : Heap), (K w.params).In h → h.Ns mainGlobals mg → mg d.name = some (.ref fa) →
      ∃ fd : FuncData, (∀ (s : Shared) (u : Value), BindsTo s fd ⟨[u], []⟩ [(x, u)]) ∧ ∀ base : Heap, (K w.params).In base → base.Ns mainGlobals mg → Top l.prog w (K w.params) mg base k fa fd x (sp w))
    (told : ∀ (w : World) (H : Hp) (a : Addr) (ns : List Int), ns.length ≤ n → Only H → SqL (K w.params) H a (ns.map V.int) → sp w [.ref a] H (fun v _ => v = .bl true) fun _ _ _ => False) :
    PySem.W.WalkO q loose XP YP l.row.toRowW d [] (fun f vs => PySem.call f vs) := by
  refine Att.attach_call most plain ?_
  intro w s₀ s₁ mg mb fa o pm cd doc a vs ns G Y ho hd hcd hmg hobj hints hlen hg
  obtain ⟨fd, hb, hF⟩ := F w mg fa _ (inK w _ Y) G.T.g hmg
  exact lawAt (inK w _ Y) G.T.g G.T.b G.T.builtins G.T.nolimit hg hobj hints (Nat.le_trans hlen line) hF hb fun H hO hS => told w H a ns hlen hO hS
/-! ### repr of data, where no repr is under way -/
/-! ### f(k = v, ..): keywords alone -/
end Sq
namespace Sq
open PySem PySem.Spec PyProof.Rows L2
/-- what a caller wants of a def of the text: it stands at its name and keeps its promise -/
structure Df (P : Program) (w : World) (K : PySem.W.Frag) (mg : Str → Option Value) (base : Heap) (k : Nat) (x : Str) (ps : List Str) (sp : Sp) : Prop where
  ex : ∃ f fd, FnOk P w K mg base CX0 k f fd ps sp ∧ mg x = some (.ref f) ∧ PySem.W.keepIn K (.ref f) = true ∧ Binds K fd ps []
section
variable {X : Cx} {k : Nat} {ps : List Str} {sp : Sp} {x : Str} {p pos : Pos} {e : Expr} {es : List Expr} {t : TA}
theorem pe_callD (D : Df X.prog X.w X.K X.mg X.base k x ps sp) (hr : Room k X.A) (hg : Gl X x) (ha : PA X (e :: es) t) (hdb : (x == ("__debug__" : Str)) = false := by decide)
    (he : starEach (e :: es) X.env = (false, eval e X.env) :: starEach es X.env := by rfl) (hpl : (backTo pos (starEach es X.env)).any (·.1) = false := by rfl) :
    PE X (.Call (.Name x p) (e :: es) [] pos) (tCall sp [] E0 t) := by
  obtain ⟨f, fd, F, g, kp, b⟩ := D.ex
  exact pe_call F hr hg g kp b .nil pass0 ha hdb he hpl
end
section
variable {P : Program} {w : World} {K : PySem.W.Frag} {mg : Str → Option Value} {base : Heap}
/-- a def without defaults, from its place in the text and its promise -/
theorem Df.mk' {k : Nat} {x : Str} {st : Stmt} {ps : List Str} {sp : Sp} {f : Addr} {fd : FuncData} (F : Fun K x x st f fd) (G : FnOk P w K mg base CX0 k f fd ps sp) (g : mg x = some (.ref f)) (b : Binds K fd ps []) : Df P w K mg base k x ps sp :=
  ⟨⟨f, fd, G, g, F.kp, b⟩⟩
end
end Sq
set_option Elab.async false
set_option linter.all false
set_option maxRecDepth 100000
set_option maxHeartbeats 2000000
/-! Own errors whose __init__ says super().__init__(..) and stores its argument as value. -/
namespace SqX
open PySem PySem.W PySem.Calls PyProof.Rows PySem.HandSPX
def xA (p1 p2 : Pos) : Arguments := { posonlyargs := [], args := [{ arg := "self", annotation := none, pos := p1 }, { arg := "value", annotation := none, pos := p2 }], vararg := none, kwonlyargs := [], kw_defaults := [], kwarg := none, defaults := [] }
def xB (msg : Str) (j : Nat) (q0 q1 q2 q3 q4 q5 r1 r2 r3 r4 : Pos) : List Stmt :=
  [.Expr (.Call (.Attribute (.Call (.Name "super" q0) [] [] q1) "__init__" q2) [.Constant (.str msg) j q3] [] q4) q5, .Assign [.Attribute (.Name "self" r1) "value" r2] (.Name "value" r3) r4]
def xS : Scope := { kind := .function, names := [(PySem.Str.ofString "self", .local), (PySem.Str.ofString "value", .local), (PySem.Str.ofString "__class__", .free), (PySem.Str.ofString "super", .globalImplicit)], isGenerator := false, isCoroutine := false, more := [] }
/-- what the written part says of such a class at C, of its __init__ at fI -/
structure Er (K : Frag) (prog : Program) (C fI : Addr) (q : Str) : Prop where
  cls : ∃ nm qn N bs bm sn sub ab col dd k0 k1 k2 k3 k5, K.lookup C = some (excClassObj nm qn C N bs bm true sn sub ab col dd k0 k1 k2 k3 k5 "ValueError.__new__") ∧ refsVE bm = true
  sa : findIn K (.ref C) "__setattr__" = some (some (.builtin "object.__setattr__"))
  noV : findIn K (.ref C) "value" = some none
  iC : findIn K (.ref C) "__init__" = some (some (.ref fI))
  tC : typeIn K (.ref fI) = some (.type "function")
  kC : keepIn K (.ref C) = true
  exC : subIn K (.ref C) (.type "BaseException") = some true
  veC : subIn K (.ref C) (.type "ValueError") = some true
  tyC : typeIn K (.ref C) = some (.type "type")
  mC : mroIn K C (.ref C) = some true
  suC : ks_superIn K C C "__init__" = some (some (.builtin "ValueError.__init__"))
  third : nsIn K cStatics "thirdparty.any" = some none
  super : nsIn K mainGlobals "super" = some none
  top : (prog.main.scope.names.lookup ("super" : Str)).isSome = false
  fn : ∃ (oc : Value) (od : Option Addr) (doc pm : Value) (an : Option Addr) (ct : Value) (osl : Array (Option Value)) (cda cc : Addr) (msg : Str) (j : Nat) (p1 p2 q0 q1 q2 q3 q4 q5 r1 r2 r3 r4 : Pos) (ccl : Value) (cdd : Option Addr) (vs : Array Value) (ccs : Array (Option Value)) (file : Str) (tf : Tok) (cl : Value) (cld : Option Addr) (csl : Array (Option Value)),
    K.lookup fI = some ⟨oc, od, .func (ksFn "__init__" q (xA p1 p2) (xB msg j q0 q1 q2 q3 q4 q5 r1 r2 r3 r4) xS .none .none doc pm an (.ref cda) ct cc), osl⟩ ∧ codeIn K (.ref cda) q = true ∧
    K.lookup cda = some ⟨ccl, cdd, .fields vs, ccs⟩ ∧ vs[2]? = some (.str file tf) ∧ ((prog.main.file : Str) == file) = true ∧ K.lookup cc = some ⟨cl, cld, .cell (some (.ref C)), csl⟩ ∧ (q2.endLine == q4.line) = true
/-- what __init__ leaves of a fresh exception at x -/
structure Inited (h h' : Heap) (x C dx t1 : Addr) (v : Value) : Prop where
  keep : ∀ b o, b ≠ x → h.get? b = some o → h'.get? b = some o
  obj : h'.get? x = some { cls := .ref C, dict := some dx, data := .fields #[.ref t1, .none, .none, .none, .bool false, .none] }
  dbig : h.objs.size ≤ dx
  dne : dx ≠ x
  ns : h'.Ns1 dx (fun y => if y = "value" then some v else none)
theorem one_size (v : Value) : [v].length ≤ sizeLine := by
  rw [sizeLine_eq]
  exact (by decide : 1 ≤ 16777216)
theorem call_is {o e : Expr} {name : Str} {apos pos : Pos} {env : Env} (hline : (apos.endLine == pos.line) = true) (he : starEach [e] env = [(false, eval e env)]) :
    eval (.Call (.Attribute o name apos) [e] [] pos) env = (do
      let ov ← attributeBase o name env (eval o env)
      standAt apos.atName
      let (f, first) ← holding [ov] (getMethod ov name (do return (← importBound o env).getD true))
      callWith pos f first (backTo pos (starEach [e] env)) []) := by
  rw [arm_eval_Call]
  have hf : methodCallForm 1 (backTo pos (starEach [e] env)) (backToKw pos (keywordEach [] env)) = true := by
    rw [he]
    rfl
  have hp : methodCallPos true o env apos pos = pure pos := by
    unfold methodCallPos
    simp [hline]
  refine congrArg _ (funext fun ov => congrArg _ (funext fun _ => ?_))
  show methodCall o name apos pos env ov 1 (backTo pos (starEach [e] env)) (backToKw pos (keywordEach [] env)) = _
  unfold methodCall
  rw [hf, hp]
  rfl
/-- the bound ValueError.__init__ called: the args are laid anew -/
theorem call_mw {prog : Program} {w : World} {A : Around} {E : Value → Shared → Prop} {h : Heap} {g : Array GenState} {d : Drawn} {t : Nat} {os : OsState}
    {nm qn : Str} {C N : Addr} {bs bm : List Value} {hdct : Bool} {sn : List Str} {sub : List Value} {ab : Bool} {col : Option Bool} {dd : Option Addr} {k0 k1 k2 k3 k5 : Option Value} {u e t0 : Addr} {rest : List Value} {Q : Value → Shared → Prop}
    (atC : h.get? C = some (excClassObj nm qn C N bs bm hdct sn sub ab col dd k0 k1 k2 k3 k5 "ValueError.__new__")) (atE : h.get? e = some (excO C t0)) (atU : h.get? u = some (kxs_mw "ValueError.__init__" e)) (line : rest.length ≤ sizeLine)
    (fin : ∀ h' t1, (∀ b o, b ≠ e → h.get? b = some o → h'.get? b = some o) → h'.get? e = some (excO C t1) → Q .none ⟨h', g, d, t, os⟩) :
    wpAny (model prog w) A (call (.ref u) rest) Q E ⟨h, g, d, t, os⟩ := by
  refine wpAny_call (codeAny_of_tree ?_)
  show wpAny _ A.in1 (callAny (.ref u) ⟨rest, []⟩) _ _ _
  simp only [callAny]
  refine wpAny_bind (wpAny_load atU ?_)
  simp only [kxs_mw, show (Value.type "method-wrapper" == Value.type "method" || Value.type "method-wrapper" == Value.type "builtin_function_or_method" || Value.type "method-wrapper" == Value.type "method-wrapper") = true by decide, if_true]
  refine W.KFB.if_so (by decide) ?_
  refine wpAny_bind (ESX.check_bound F.excBase_ValueError atC atE rfl ?_)
  refine wpAny_bind (wpAny_pure (wpAny_pure ?_))
  refine ⟨Code.quiet_builtin _ (by decide +kernel), codeAny_builtin F.excBase_ValueError.initEntry ?_⟩
  rw [Around.under_plainId F.excBase_ValueError.init.plain _]
  wp_walk
  refine fin _ h.objs.size (fun b o nb hb => ?_) ?_
  · exact (Heap.get?_update_other _ _ (Ne.symm nb)).trans (Heap.get?_push_of_some _ hb)
  · exact (Heap.get?_update_self _ (Heap.get?_push_of_some _ atE) rfl).trans rfl
section
variable {prog : Program} {w : World} {A : Around} {E : Value → Shared → Prop} {R : Result → Shared → Prop} {s : Shared} {K : Frag} {mg : Str → Option Value} {base : Heap} {C fI : Addr} {q : Str}
theorem init (T : Er K prog C fI q) {x t0 : Addr} {v : Value} {args : Args} (X : K.In s.heap) (hg : s.heap.Ns mainGlobals mg) (hlim : s.heap.NoLimit) {mb : Str → Option Value} (hb : s.heap.Ns builtinsNs mb) (boot : ∀ y : Str, y ≠ "__name__" → mb y = bootBuiltins y)
    (hx : s.heap.get? x = some (excO C t0)) (hnx : K.lookup x = none) (hroom : A.depth < recursionLimit)
    (hargs : ∀ fd : FuncData, (∃ p1 p2 bd doc pm an cda ct cc, fd = ksFn "__init__" q (xA p1 p2) bd xS .none .none doc pm an (.ref cda) ct cc) → BindsTo s fd args [("self", .ref x), ("value", v)])
    (hq : ∀ h' tk dx t1, Inited s.heap h' x C dx t1 v → R (.ok (.ret .none)) { s with heap := h', toks := tk }) :
    codeAny (model prog w) A (.call (.ref fI) args) R s := by
  obtain ⟨oc, od, doc, pm, an, ct, osl, cda, cc, msg, j, p1, p2, q0, q1, q2, q3, q4, q5, r1, r2, r3, r4, ccl, cdd, vs, ccs, file, tf, cl, cld, csl, ho, hcd, hcode, hvs, hfile, hcell, hline⟩ := T.fn
  obtain ⟨nm, qn, N, bs, bm, sn, sub, ab, col, dd, k0, k1, k2, k3, k5, hC, hbm⟩ := T.cls
  have hcl : clsIn K C = some { name := nm, bases := bs, mro := .ref C :: bm, ns := N, qualname := qn, hasDict := true, slotNames := sn, subclasses := sub, abstract := ab, collection := col, hasDel := false } := by unfold clsIn; rw [hC] <;> rfl
  refine ks_codeAny_call_defAt (fd := ksFn "__init__" q (xA p1 p2) (xB msg j q0 q1 q2 q3 q4 q5 r1 r2 r3 r4) xS .none .none doc pm an (.ref cda) ct cc) (binds := [("self", .ref x), ("value", v)]) hroom (X _ _ ho) rfl hlim (codeRec_of X hcd) rfl
    (hargs _ ⟨_, _, _, _, _, _, _, _, _, rfl⟩) (show ∀ x ∈ xS.names, x.2 ≠ .cell by decide) (fun y hy => ?loc) (fun h₁ hns k => ?_)
  case loc =>
    rcases List.mem_cons.mp hy with rfl | hy
    · exact (show xS.names.lookup ("self" : Str) = some .local by decide)
    · obtain rfl := List.mem_singleton.mp hy
      exact (show xS.names.lookup ("value" : Str) = some .local by decide)
  have X₁ : K.In h₁ := X.keeps k
  have hx₁ := k _ _ hx
  obtain ⟨hh, g, d, t, os⟩ := s
  show _root_.PySem.wpAt _ _ _ (execs (xB msg j q0 q1 q2 q3 q4 q5 r1 r2 r3 r4) _) _ _ _
  refine ks_wpAt_execs_cons (ks_wpAt_Expr_any (ks_wpAt_MethodCall ?_ (call_is hline rfl)))
  obtain ⟨oD, hD1, hD2⟩ : ∃ oD, h₁.get? C = some oD ∧ ∃ cdD, oD.data = .cls cdD := ⟨_, X₁ _ _ hC, _, rfl⟩
  obtain ⟨cdD, hD2⟩ := hD2
  have I₁ : InstAt h₁ x (excO C t0) C none := ⟨hx₁, rfl, rfl, trivial⟩
  refine ks_wpAt_super_base (f := fI) (cc := cda) rfl rfl rfl rfl (X₁ _ _ ho) rfl rfl rfl (X₁ _ _ hcode) rfl hvs hfile T.top ?_
  refine ks_loadName_global rfl rfl (loadGlobal_builtin (hg.keeps k) (mg_none_of X hg T.super) (hb.keeps k) ((boot _ (by decide +kernel)).trans (by decide +kernel)) ⟨rfl, ?_⟩)
  refine wpAny_loadName_free rfl rfl rfl ⟨_, X₁ _ _ hcell, rfl⟩ ?_
  refine wpAny_loadName_local (v := .ref x) rfl rfl hns rfl ?_
  refine ks_wpAny_isType_cls hD1 hD2 ⟨rfl, ?_⟩
  refine ks_wpAny_call_super hD1 hD2 I₁.at_ I₁.cls (fun c e => by cases e) (looks_mroIn X₁ T.mC) (fun h₂ e₂ k₂ => ?_)
  have X₂ : K.In h₂ := X₁.keeps k₂
  have hx₂ := k₂ _ _ hx₁
  have I₂ : InstAt h₂ x (excO C t0) C none := ⟨hx₂, rfl, rfl, trivial⟩
  have al := T.suC
  unfold ks_superIn at al
  rw [hcl] at al
  refine kxs_getMethod kxs_ValueError e₂ (looks_opaque X₂ T.third) (l₀ := .ref C :: bm) ((looks_clsIn X₂ hcl).andThen .now) rfl X₂ al (I₂.type.andThen (looks_subIn X₂ T.veC)) (ks_ne X₂ I₂ hcl) (by decide) ?_
  have k₃ : ∀ b o, h₂.get? b = some o → (h₂.push (kxs_mw "ValueError.__init__" x)).get? b = some o := fun b o e => Heap.get?_push_of_some _ e
  have hu : (h₂.push (kxs_mw "ValueError.__init__" x)).get? h₂.objs.size = some (kxs_mw "ValueError.__init__" x) := Heap.get?_push_at rfl rfl
  refine kxs_callWith (i := "ValueError.__init__") (x := x) rfl (evalArgs_plain ?_)
  refine Calls.spliced_cons ?_
  show wpAny _ _ (eval (.Constant (.str msg) j q3) _) _ _ _
  refine Calls.Constant_str ?_
  refine Calls.spliced_nil ⟨hu, ?_⟩
  refine call_mw (k₃ _ _ (X₂ _ _ hC)) (k₃ _ _ hx₂) hu (one_size _) (fun h₄ t1 k₄ hx₄ => ?_)
  have kk : ∀ b o, b ≠ x → hh.get? b = some o → h₄.get? b = some o := fun b o nb e => k₄ b o nb (k₃ _ _ (k₂ _ _ (k _ _ e)))
  have X₄ : K.In h₄ := fun a o e => kk a o (fun z => by rw [z, hnx] at e; cases e) (X a o e)
  have nx : hh.objs.size ≠ x := fun z => by
    have := Heap.lt_size hx
    rw [← z] at this
    exact absurd this (Nat.lt_irrefl _)
  have ns₄ : h₄.Ns hh.objs.size (fun y => List.lookup y [(("self" : Str), Value.ref x), ("value", v)].reverse) :=
    hns.at fun o e => k₄ _ _ nx (k₃ _ _ (k₂ _ _ e))
  -- self.value = value
  refine ks_wpAt_execs_cons (wpAt_of_wpAny (plainObj_wpAny_Assign_Attribute ?_))
  refine wpAny_Name (wpAny_loadName_local (v := v) rfl rfl ns₄ rfl ?_) (by decide)
  refine wpAny_Name (wpAny_loadName_local (v := .ref x) rfl rfl ns₄ rfl ?_) (by decide)
  refine set_plain X₄ (ox := excO C t1) (od := none) ⟨hx₄, rfl, rfl, trivial⟩ T.sa ?_
  refine exc_osa X₄ hx₄ hcl (show refsVE (.ref C :: bm) = true from hbm) rfl T.noV (fun h₅ tk₅ dx k₅ dn dne hx₅ hn₅ => ?_)
  have big : hh.objs.size ≤ dx := by
    have l1 : hh.objs.size < h₁.objs.size := hns.lt
    have l2 : h₁.objs.size < h₂.objs.size := Heap.lt_size e₂
    have nu : h₂.objs.size ≠ x := Nat.ne_of_gt (Heap.lt_size hx₂)
    have l4 : h₂.objs.size < h₄.objs.size := Heap.lt_size (k₄ _ _ nu hu)
    have l5 : h₄.objs.size ≤ dx := dn
    exact Nat.le_trans (Nat.le_of_lt (Nat.lt_trans l1 (Nat.lt_trans l2 l4))) l5
  refine wpAt_of_wpAny (wpAny_execs_nil ?_)
  exact hq h₅ tk₅ dx t1 ⟨fun b o nb e => k₅ b o nb (kk b o nb e), hx₅, big, dne, hn₅⟩
end
end SqX
set_option Elab.async false
set_option linter.all false
set_option maxRecDepth 100000
set_option maxHeartbeats 2000000
namespace SqX
open PySem PySem.W PySem.Calls PyProof.Rows PySem.HandSPX
/-- a new error at e, its dict at d -/
structure New (h h' : Heap) (e C d t1 : Addr) (v : Value) : Prop where
  keep : ∀ b o, h.get? b = some o → h'.get? b = some o
  big : h.objs.size ≤ e
  obj : h'.get? e = some { cls := .ref C, dict := some d, data := .fields #[.ref t1, .none, .none, .none, .bool false, .none] }
  dbig : h.objs.size ≤ d
  dne : d ≠ e
  ns : h'.Ns1 d (fun y => if y = "value" then some v else none)
section
variable {prog : Program} {w : World} {A : Around} {E : Value → Shared → Prop} {R : Result → Shared → Prop} {K : Frag} {mg mb : Str → Option Value} {C fI : Addr} {q : Str}
theorem bind2 {s : Shared} {q : Str} {x v : Value} : ∀ fd : FuncData, (∃ p1 p2 bd doc pm an cda ct cc, fd = ksFn "__init__" q (xA p1 p2) bd xS .none .none doc pm an (.ref cda) ct cc) → BindsTo s fd ⟨[x, v], []⟩ [("self", x), ("value", v)] := by
  rintro fd ⟨p1, p2, bd, doc, pm, an, cda, ct, cc, rfl⟩
  exact BindsTo.of_eq (by first | rfl | with_unfolding_all rfl)
theorem made {s : Shared} (T : Er K prog C fI q) {v : Value} (X : K.In s.heap) (hg : s.heap.Ns mainGlobals mg) (hlim : s.heap.NoLimit) (hb : s.heap.Ns builtinsNs mb) (boot : ∀ y : Str, y ≠ "__name__" → mb y = bootBuiltins y)
    (hroom : A.depth + 1 < recursionLimit)
    (fin : ∀ h' tk e d t1, New s.heap h' e C d t1 v → R (.ok (.ret (.ref e))) { s with heap := h', toks := tk }) :
    codeAny (model prog w) A (.call (.ref C) ⟨[v], []⟩) R s := by
  obtain ⟨nm, qn, N, bs, bm, sn, sub, ab, col, dd, k0, k1, k2, k3, k5, hC, hbm⟩ := T.cls
  obtain ⟨hp, g, dr, tk, os⟩ := s
  have k : ∀ b o, hp.get? b = some o → ((hp.push (kdv_tup [v])).push (excO C hp.objs.size)).get? b = some o := fun b o e => Heap.get?_push_of_some _ (Heap.get?_push_of_some _ e)
  have atE : ((hp.push (kdv_tup [v])).push (excO C hp.objs.size)).get? (hp.objs.size + 1) = some (excO C hp.objs.size) := by heap_get
  have off : K.lookup (hp.objs.size + 1) = none := by
    cases e : K.lookup (hp.objs.size + 1) with
    | none => rfl
    | some o => exact absurd (Nat.lt_of_succ_lt (Heap.lt_size (X _ _ e))) (Nat.lt_irrefl _)
  refine call_own F.excBase_ValueError (fun Y => refsVE_contains Y bm hbm) (X _ _ hC) (looks_findIn X T.iC) (fun self => bind_fn X self T.tC) (one_size v) ?_
  refine init (s := ⟨(hp.push (kdv_tup [v])).push (excO C hp.objs.size), g, dr, tk, os⟩) T (X.keeps k) (hg.keeps k) (hlim.keeps k) (hb.keeps k) boot atE off (show A.depth + 1 < recursionLimit from hroom) bind2 ?_
  rintro h' tk' dx t1 ⟨kp, ob, dn, dne, ns⟩
  have old : ∀ b o, hp.get? b = some o → h'.get? b = some o := fun b o e => kp b o (Nat.ne_of_lt (Nat.lt_succ_of_lt (Heap.lt_size e))) (k b o e)
  have z : hp.objs.size + 1 + 1 ≤ dx := by
    first
      | (simpa only [Heap.size_push] using dn)
      | exact dn
      | (have y := dn; rw [Heap.size_push, Heap.size_push] at y; exact y)
  exact ⟨rfl, fin h' tk' (hp.objs.size + 1) dx t1 ⟨old, Nat.le_succ _, ob, Nat.le_trans (Nat.le_trans (Nat.le_succ _) (Nat.le_succ _)) z, dne, ns⟩⟩
end
end SqX
set_option Elab.async false
set_option linter.all false
set_option maxRecDepth 100000
set_option maxHeartbeats 4000000
/-! The same by keyword. -/
set_option Elab.async false
set_option linter.all false
set_option maxRecDepth 100000
set_option maxHeartbeats 2000000
/-! Own errors as values of the layer: made by position and by name, isinstance of them, their value. -/
namespace Sq
open PySem PySem.Spec PyProof.Rows L2
/-- an error of the class at C stands at a, its dict at d; it holds v -/
def ErrAt (H : Hp) (a d C : Addr) (v : V) : Prop := H a = some (exo a C (some d)) ∧ H d = some (exd d [(("value" : Str), v)])
theorem ErrAt.same {H H' : Hp} {a d C : Addr} {v : V} (s : Same H H') (e : ErrAt H a d C v) : ErrAt H' a d C v := ⟨s _ _ e.1, s _ _ e.2⟩
end Sq
set_option Elab.async false
set_option linter.all false
set_option maxRecDepth 100000
set_option maxHeartbeats 2000000
set_option Elab.async false
set_option linter.all false
set_option maxRecDepth 100000
set_option maxHeartbeats 2000000
/-! Own errors raised; a caught one kept behind its suite. -/
namespace Sq
open PySem PySem.Spec PyProof.Rows L2
/-- an error that was raised: its class and its dict are known -/
def exq (a C : Addr) (d : Option Addr) : HO := .ext fun h => ∃ (oe : Obj) (vs : Array Value), h.get? a = some oe ∧ Zc (.ref C) d oe ∧ oe.data = .fields vs
end Sq
set_option Elab.async false
set_option linter.all false
set_option maxRecDepth 100000
set_option maxHeartbeats 4000000
/-! try: .. except X as n: suite, where the caught error is still known behind it. -/
namespace Sq
open PySem PySem.Spec PyProof.Rows L2
/-! ### what is asked of a caught error -/
/-- an error of the class at C was caught at a, its dict at d; it holds v -/
def CaughtAt (H : Hp) (a d C : Addr) (v : V) : Prop := H a = some (exq a C (some d)) ∧ H d = some (exd d [(("value" : Str), v)])
theorem CaughtAt.same {H H' : Hp} {a d C : Addr} {v : V} (s : Same H H') (e : CaughtAt H a d C v) : CaughtAt H' a d C v := ⟨s _ _ e.1, s _ _ e.2⟩
end Sq
set_option Elab.async false
set_option linter.all false
set_option maxRecDepth 100000
set_option maxHeartbeats 2000000
/-! A walk that is left at its first item: for x in g(..): break. -/
set_option Elab.async false
set_option linter.all false
set_option maxRecDepth 100000
set_option maxHeartbeats 2000000
/-! Calls that may raise. -/
namespace Sq
open PySem PySem.Spec PyProof.Rows L2
structure Dx (P : Program) (w : World) (K : PySem.W.Frag) (mg : Str → Option Value) (base : Heap) (k : Nat) (x : Str) (ps : List Str) (sp : Sp) : Prop where
  ex : ∃ f fd, FnOk P w K mg base (L2.CX P w) k f fd ps sp ∧ mg x = some (.ref f) ∧ PySem.W.keepIn K (.ref f) = true ∧ Binds K fd ps []
theorem Dx.mk' {P : Program} {w : World} {K : PySem.W.Frag} {mg : Str → Option Value} {base : Heap} {k : Nat} {x : Str} {st : Stmt} {ps : List Str} {sp : Sp} {f : Addr} {fd : FuncData} (F : Fun K x x st f fd) (G : FnOk P w K mg base (L2.CX P w) k f fd ps sp) (g : mg x = some (.ref f)) (b : Binds K fd ps []) : Dx P w K mg base k x ps sp :=
  ⟨⟨f, fd, G, g, F.kp, b⟩⟩
end Sq
set_option Elab.async false
set_option linter.all false
set_option maxRecDepth 100000
set_option maxHeartbeats 4000000
/-! A def called within an except suite: walks over lists, pairs unpacked, comprehensions, the handled error asked. -/
namespace Sq
open PySem PySem.Spec PyProof.Rows L2 HotX L2H
/-! ### hot contexts -/
/-- wherever the context's invariant holds an error is handled whose context is None -/
def HotW (X : Cx) : Prop := ∀ (pins : List (Addr × Obj)) (σ : L2.St) (H : Hp) (s : Shared), Inv X pins σ H s → ∃ x1, HotAt X.A x1 s.heap
theorem HotC.w {X : Cx} (c : HotC X) : HotW X := fun _ _ _ _ I => c.at I
end Sq
set_option Elab.async false
set_option linter.all false
set_option maxRecDepth 100000
set_option maxHeartbeats 4000000
/-! A def of the law called within an except suite with the caught error. -/
namespace Sq
open PySem PySem.Spec PyProof.Rows L2 HotX L2H
/-- what a def promises there: e the handled error, its class, its dict -/
abbrev SpZ := Addr → Value → Option Addr → Sp
structure FnHZ (P : Program) (w : World) (K : PySem.W.Frag) (mg : Str → Option Value) (base : Heap) (CX : CXT) (k : Nat) (f : Addr) (fd : FuncData) (ps : List Str) (sp : SpZ) : Prop where
  len : ∀ a c d vs H Q E, sp a c d vs H Q E → vs.length = ps.length
  run : ∀ (A : Around) (outer : List Env) (s : Shared) (H : Hp) (args : Args) (us : List Value) (vs : List V) (Q : VK) (E : XK) (p : Addr × Obj) (cls : Value) (d : Option Addr), RoomH k A → Hot1 A p → L2N.Zn cls d p.2 → PinOk outer H s p → Env0 P w K mg base A outer s H → BindsTo s fd args (ps.zip us) → Vals vs us → sp p.1 cls d vs H Q E →
    codeAny (model P w) A (.call (.ref f) args) (CR CX outer P w H s Q E) s
/-- it stands at its name -/
structure Dz (P : Program) (w : World) (K : PySem.W.Frag) (mg : Str → Option Value) (base : Heap) (k : Nat) (x : Str) (ps : List Str) (sp : SpZ) : Prop where
  ex : ∃ f fd, FnHZ P w K mg base CX0 k f fd ps sp ∧ mg x = some (.ref f) ∧ PySem.W.keepIn K (.ref f) = true ∧ Binds K fd ps []
/-! ### what is asked of the handled error -/
end Sq
set_option Elab.async false
set_option linter.all false
set_option maxRecDepth 100000
set_option maxHeartbeats 4000000
/-! Calls that may raise, where the error's context is known to be None. -/
namespace Sq
open PySem PySem.Spec PyProof.Rows L2
structure Dn (P : Program) (w : World) (K : PySem.W.Frag) (mg : Str → Option Value) (base : Heap) (k : Nat) (x : Str) (ps : List Str) (sp : Sp) : Prop where
  ex : ∃ f fd, FnOk P w K mg base (L2N.CX P w) k f fd ps sp ∧ mg x = some (.ref f) ∧ PySem.W.keepIn K (.ref f) = true ∧ Binds K fd ps []
theorem Dn.mk' {P : Program} {w : World} {K : PySem.W.Frag} {mg : Str → Option Value} {base : Heap} {k : Nat} {x : Str} {st : Stmt} {ps : List Str} {sp : Sp} {f : Addr} {fd : FuncData} (F : Fun K x x st f fd) (G : FnOk P w K mg base (L2N.CX P w) k f fd ps sp) (g : mg x = some (.ref f)) (b : Binds K fd ps []) : Dn P w K mg base k x ps sp :=
  ⟨⟨f, fd, G, g, F.kp, b⟩⟩
theorem Dz.mk' {P : Program} {w : World} {K : PySem.W.Frag} {mg : Str → Option Value} {base : Heap} {k : Nat} {x : Str} {st : Stmt} {ps : List Str} {sp : SpZ} {f : Addr} {fd : FuncData} (F : Fun K x x st f fd) (G : FnHZ P w K mg base CX0 k f fd ps sp) (g : mg x = some (.ref f)) (b : Binds K fd ps []) : Dz P w K mg base k x ps sp :=
  ⟨⟨f, fd, G, g, F.kp, b⟩⟩
end Sq
set_option Elab.async false
set_option linter.all false
set_option maxRecDepth 100000
set_option maxHeartbeats 2000000
/-! Data read off the layer's heap. -/
namespace Sq
open PySem PySem.Spec PyProof.Rows L2
theorem same_new {H : Hp} {p : Addr} {o : HO} (h : H p = none) : Same H (upd H p o) := fun b x e => by
  rw [upd_ne (ne_of_none e h)]
  exact e
theorem map_at {ks : List Int} {i : Nat} {x : V} (h : (ks.map V.int)[i]? = some x) : ∃ k, ks[i]? = some k ∧ V.int k = x := by
  rw [List.getElem?_map] at h
  exact Option.map_eq_some_iff.mp h
/-! ### data of ints and short lists -/
mutual
def il : PyData → Bool
  | .int _ => true
  | .list xs => decide (xs.length ≤ 1000) && ilAll xs
  | _ => false
def ilAll : List PyData → Bool
  | [] => true
  | x :: xs => il x && ilAll xs
end
mutual
theorem Dp.same {K : PySem.W.Frag} {H H' : Hp} (s : Same H H') : ∀ {d : PyData} {x : V}, Dp K H x d → Dp K H' x d
  | .none, _, .non => .non
  | .bool b, _, .bl _ => .bl b
  | .int i, _, .int _ => .int i
  | .str x, _, .str _ => .str x
  | .list ds, _, .lst h a => .lst (s.seq h) (DpAll.same s a)
  | .tuple ds, _, .tup h a => .tup (by
      rcases h with (h | ⟨o, h⟩) | h
      · exact .inl (.inl (s _ _ h))
      · exact .inl (.inr ⟨o, s _ _ h⟩)
      · exact .inr h) (DpAll.same s a)
theorem DpAll.same {K : PySem.W.Frag} {H H' : Hp} (s : Same H H') : ∀ {ds : List PyData} {xs : List V}, DpAll K H xs ds → DpAll K H' xs ds
  | [], _, .nil => .nil
  | _ :: _, _, .cons h t => .cons (Dp.same s h) (DpAll.same s t)
end
/-! ### the text of a list of ints -/
end Sq
namespace Sq
open PySem PySem.Spec PyProof.Rows L2
/-! ### repr of any value whose data is known -/
structure Shown (K : PySem.W.Frag) (H : Hp) (x : V) (d : PyData) : Prop where
  dp : Dp K H x d
  sh : d.showable = true
  nd : d.hasDict = false
  dep : d.depth ≤ 40
  fit : d.shown.length ≤ sizeLine
theorem Shown.same {K : PySem.W.Frag} {H H' : Hp} {x : V} {d : PyData} (S : Shown K H x d) (s : Same H H') : Shown K H' x d := ⟨Dp.same s S.dp, S.sh, S.nd, S.dep, S.fit⟩
theorem fits40 {d : PyData} (h : d.leavesShort 40 = true) (hw : d.weight ≤ 100000) : d.shown.length ≤ sizeLine := by
  have e := PyData.shown_le 40 (by decide) d h
  rw [sizeLine_eq]
  omega
/-! ### powers of greater numbers -/
def CPowW (i j : Int) : Prop := 0 ≤ j ∧ (Builtin.Int.intBits i : Int) * j ≤ 2 ^ 27
theorem op_powW {X : Cx} : OpR X (binaryOp .Pow) (rI CPowW fun i j => .int (i ^ j.toNat)) := opI fun _ _ _ _ _ _ _ hc q => pow_int hc.1 hc.2 q
theorem powW_of {i j : Int} {m : Nat} (h0 : 0 ≤ j) (hi : i.natAbs < 2 ^ m) (hm : 0 < m) (hj : (m : Int) * j ≤ 2 ^ 27) : CPowW i j := by
  refine ⟨h0, Int.le_trans (Int.mul_le_mul_of_nonneg_right ?_ h0) hj⟩
  unfold Builtin.Int.intBits
  split
  · omega
  · have := PySem.Flt.log2_lt_of hm hi
    omega
end Sq
namespace Sq
open PySem PySem.Spec PyProof.Rows L2
def rMulS : R2 := fun x y H Q => ∃ a n, x = .str a ∧ y = .int n ∧ _root_.PySem.MulOk a n ∧ Q (.str (_root_.PySem.Txt.mul a n)) H
theorem op_mulS {X : Cx} : OpR X (binaryOp .Mult) rMulS := by
  intro pins s σ H x y v u Q I rx ry h
  obtain ⟨a, n, rfl, rfl, hok, q⟩ := h
  obtain ⟨t, rfl⟩ := rx
  obtain ⟨t', rfl⟩ := ry
  exact SB.mul hok fun t2 k => ⟨.str _, H, I.tok k, ⟨_, rfl⟩, q⟩
end Sq
set_option Elab.async false
set_option linter.all false
/-! Squeezing and reaches in plain Lean. -/
namespace Sq
def once (n k : Int) : Int := n / k + n % k
def sq (n : Int) (ks : List Int) : Int := ks.foldl once n
def rw1 (k R : Int) : Int := if k > R + 1 then R else (R + 3 - k) * k - 2
theorem once_nonneg {k n : Int} (hk : 2 ≤ k) (h0 : 0 ≤ n) : 0 ≤ once n k := by
  unfold once
  have h1 := Int.ediv_nonneg h0 (by omega : 0 ≤ k)
  have h2 := Int.emod_nonneg n (by omega : k ≠ 0)
  omega
theorem sq_concat (n : Int) (ks : List Int) (k : Int) : sq n (ks ++ [k]) = once (sq n ks) k := by
  unfold sq
  rw [List.foldl_append]
  rfl
end Sq
set_option Elab.async false
set_option linter.all false
set_option maxRecDepth 100000
set_option maxHeartbeats 2000000
/-! What the laws share: the built-in names, the error classes, low numbers, data that can be shown, keeping heaps. -/
namespace Sq
open PySem PySem.Spec PyProof.Rows L2
structure Bi (mg : Str → Option Value) : Prop where
  n_len : mg "len" = none
  n_min : mg "min" = none
  n_max : mg "max" = none
  n_abs : mg "abs" = none
  n_range : mg "range" = none
  n_isinstance : mg "isinstance" = none
  n_repr : mg "repr" = none
  n_enumerate : mg "enumerate" = none
  n_reversed : mg "reversed" = none
  n_sorted : mg "sorted" = none
  n_bool : mg "bool" = none
  n_int : mg "int" = none
  n_str : mg "str" = none
  n_list : mg "list" = none
  n_tuple : mg "tuple" = none
  n_set : mg "set" = none
  n_sum : mg "sum" = none
  n_zip : mg "zip" = none
  n_all : mg "all" = none
  n_any : mg "any" = none
  n_ValueError : mg "ValueError" = none
  n_divmod : mg "divmod" = none
/-! ### data that can be shown -/
structure Gd (n : Nat) (d : PyData) : Prop where
  sh : d.showable = true
  nd : d.hasDict = false
  dep : d.depth ≤ 4
  lf : d.leavesShort 40 = true
  wt : d.weight ≤ n
structure GdA (n : Nat) (ds : List PyData) : Prop where
  sh : PyData.showableAll ds = true
  nd : PyData.hasDictAll ds = false
  dep : PyData.depthAll ds ≤ 3
  lf : PyData.leavesShortAll 40 ds = true
  wt : PyData.weightAll ds ≤ n
theorem GdA.nil : GdA 0 [] := ⟨rfl, rfl, Nat.zero_le _, rfl, Nat.le_refl _⟩
theorem GdA.cons {n m : Nat} {d : PyData} {ds : List PyData} (h : Gd n d) (dp : d.depth ≤ 3) (t : GdA m ds) : GdA (n + 1 + m) (d :: ds) := by
  refine ⟨?_, ?_, Nat.max_le.mpr ⟨dp, t.dep⟩, ?_, ?_⟩
  · show (d.showable && PyData.showableAll ds) = true
    rw [h.sh, t.sh]; rfl
  · show (d.hasDict || PyData.hasDictAll ds) = false
    rw [h.nd, t.nd]; rfl
  · show (d.leavesShort 40 && PyData.leavesShortAll 40 ds) = true
    rw [h.lf, t.lf]; rfl
  · have a := h.wt
    have b := t.wt
    show d.weight + 1 + PyData.weightAll ds ≤ n + 1 + m
    omega
theorem GdA.list {n : Nat} {ds : List PyData} (t : GdA n ds) : Gd n (.list ds) := ⟨t.sh, t.nd, Nat.add_le_add_right t.dep 1, t.lf, t.wt⟩
theorem Gd.shown {n : Nat} {K : PySem.W.Frag} {H : Hp} {x : V} {d : PyData} (h : Gd n d) (l : n ≤ 100000) (dp : Dp K H x d) : Shown K H x d :=
  ⟨dp, h.sh, h.nd, Nat.le_trans h.dep (by decide), fits40 h.lf (Nat.le_trans h.wt l)⟩
/-! ### the low numbers -/
/-- the heap without one cell -/
def wo (H : Hp) (D : Addr) : Hp := fun b => if b = D then none else H b
theorem wo_upd {H : Hp} {D : Addr} {o : HO} : wo (upd H D o) D = wo H D := by
  funext b
  unfold wo
  by_cases h : b = D
  · rw [if_pos h, if_pos h]
  · rw [if_neg h, if_neg h, upd_ne h]
theorem wo_ne {H : Hp} {D b : Addr} (h : b ≠ D) : wo H D b = H b := by
  unfold wo
  rw [if_neg h]
theorem wo_same {H : Hp} {D : Addr} : Same (wo H D) H := fun b o e => by
  unfold wo at e
  by_cases h : b = D
  · rw [if_pos h] at e; cases e
  · rw [if_neg h] at e; exact e
theorem same_wo {G H : Hp} {D : Addr} (s : Same G H) (h : G D = none) : Same G (wo H D) := fun b o e => by
  rw [wo_ne (fun z => by subst z; rw [h] at e; cases e)]
  exact s b o e
theorem wo_self {H : Hp} {D : Addr} : wo H D D = none := by
  unfold wo
  rw [if_pos rfl]
end Sq
set_option Elab.async false
set_option linter.all false
set_option maxHeartbeats 1000000
/-! Small numbers as texts. -/
set_option Elab.async false
set_option linter.all false
set_option maxRecDepth 100000
set_option maxHeartbeats 1000000
/-! Texts of lists, read: in plain Lean, over the lists of signs. -/
set_option Elab.async false
set_option linter.all false
set_option maxRecDepth 100000
set_option maxHeartbeats 1000000
/-! What is written is read. -/
namespace Sq
open PySem PySem.Spec PyProof.Rows L2 TL
open NumText (digitsVal AllDigits)
def outL (ps : List (Nat × Nat)) : List Int := (ps.map fun p => List.replicate p.2 (p.1 : Int)).flatten
/-- neighbours differ -/
def Alt : Option Int → List (Nat × Nat) → Prop
  | _, [] => True
  | o, p :: r => o ≠ some (p.1 : Int) ∧ Alt (some (p.1 : Int)) r
end Sq
set_option Elab.async false
set_option linter.all false
set_option maxRecDepth 100000
set_option maxHeartbeats 1000000
/-! Texts of lists, written: the groups of equal neighbours, the digits of great numbers. -/
namespace Sq
open PySem PySem.Spec PyProof.Rows L2 TL
open NumText (digitsVal AllDigits)
/-- the number of the last group -/
def lastN (o : Option Int) (ps : List (Nat × Nat)) : Option Int := match ps.getLast? with
  | some p => some (p.1 : Int)
  | none => o
theorem lastN_cons (o : Option Int) (p : Nat × Nat) (ps : List (Nat × Nat)) : lastN o (p :: ps) = lastN (some (p.1 : Int)) ps := by
  unfold lastN
  cases ps with
  | nil => rfl
  | cons q r => rw [List.getLast?_cons_cons]; cases h : (q :: r).getLast? with
    | some z => rfl
    | none => simp at h
theorem alt_snoc : ∀ (ps : List (Nat × Nat)) (o : Option Int) (p : Nat × Nat), Alt o (ps ++ [p]) ↔ Alt o ps ∧ lastN o ps ≠ some (p.1 : Int)
  | [], o, p => ⟨fun h => ⟨trivial, h.1⟩, fun h => ⟨h.2, trivial⟩⟩
  | q :: r, o, p => by
    rw [lastN_cons]
    show (o ≠ some (q.1 : Int) ∧ Alt (some (q.1 : Int)) (r ++ [p])) ↔ (o ≠ some (q.1 : Int) ∧ Alt (some (q.1 : Int)) r) ∧ _
    rw [alt_snoc r]
    exact ⟨fun h => ⟨⟨h.1, h.2.1⟩, h.2.2⟩, fun h => ⟨h.1.1, h.1.2, h.2⟩⟩
/-- ks by its groups of equal neighbours -/
structure Grp (ks : List Int) (ps : List (Nat × Nat)) : Prop where
  alt : Alt none ps
  one : ∀ p ∈ ps, 1 ≤ p.2
  out : outL ps = ks
theorem outL_cons (p : Nat × Nat) (ps : List (Nat × Nat)) : outL (p :: ps) = List.replicate p.2 (p.1 : Int) ++ outL ps := rfl
theorem outL_snoc (ps : List (Nat × Nat)) (p : Nat × Nat) : outL (ps ++ [p]) = outL ps ++ List.replicate p.2 (p.1 : Int) := by
  unfold outL
  rw [List.map_append, List.flatten_append]
  simp
theorem Grp.nil : Grp [] [] := ⟨trivial, fun p h => (nomatch h), rfl⟩
/-- one more number, another one -/
theorem Grp.new {ks : List Int} {ps : List (Nat × Nat)} {k : Nat} (g : Grp ks ps) (h : lastN none ps ≠ some (k : Int)) : Grp (ks ++ [(k : Int)]) (ps ++ [(k, 1)]) := by
  refine ⟨(alt_snoc _ _ _).mpr ⟨g.alt, h⟩, fun p hp => ?_, ?_⟩
  · rcases List.mem_append.mp hp with z | z
    · exact g.one p z
    · rw [List.mem_singleton.mp z]
      exact Nat.le_refl _
  · rw [outL_snoc, g.out]
    rfl
theorem outL_head {p : Nat × Nat} {ps : List (Nat × Nat)} (h : 1 ≤ p.2) : ∃ r, outL (p :: ps) = (p.1 : Int) :: r := by
  rw [outL_cons]
  obtain ⟨m, e⟩ : ∃ m, p.2 = m + 1 := ⟨p.2 - 1, by omega⟩
  rw [e, List.replicate_succ]
  exact ⟨_, rfl⟩
theorem outL_eq_nil {ps : List (Nat × Nat)} (h : ∀ p ∈ ps, 1 ≤ p.2) (e : outL ps = []) : ps = [] := by
  cases ps with
  | nil => rfl
  | cons p r =>
    obtain ⟨s, z⟩ := outL_head (ps := r) (h p List.mem_cons_self)
    rw [z] at e
    cases e
theorem rep_cut {x : Int} {A B : List Int} : ∀ (m n : Nat), m ≤ n → List.replicate m x ++ A = List.replicate n x ++ B → A = List.replicate (n - m) x ++ B
  | 0, n, _, h => h
  | m + 1, 0, l, _ => absurd l (by omega)
  | m + 1, n + 1, l, h => by
    rw [List.replicate_succ, List.replicate_succ, List.cons_append, List.cons_append] at h
    rw [rep_cut m n (by omega) (List.cons.inj h).2, Nat.add_sub_add_right]
theorem alt_ne_head {k : Nat} {ps : List (Nat × Nat)} {B : List Int} {d : Nat} (a : Alt (some (k : Int)) ps) (o : ∀ p ∈ ps, 1 ≤ p.2) (hd : 0 < d) : outL ps ≠ List.replicate d (k : Int) ++ B := fun e => by
  obtain ⟨m, rfl⟩ : ∃ m, d = m + 1 := ⟨d - 1, by omega⟩
  rw [List.replicate_succ] at e
  cases ps with
  | nil => cases e
  | cons p r =>
    obtain ⟨s, z⟩ := outL_head (ps := r) (o p List.mem_cons_self)
    rw [z] at e
    have h := (List.cons.inj e).1
    exact a.1 (by rw [h])
theorem grp_one : ∀ (ps qs : List (Nat × Nat)) (o o' : Option Int), Alt o ps → Alt o' qs → (∀ p ∈ ps, 1 ≤ p.2) → (∀ p ∈ qs, 1 ≤ p.2) → outL ps = outL qs → ps = qs
  | [], qs, _, _, _, _, _, h2, e => (outL_eq_nil h2 e.symm).symm
  | p :: r, [], _, _, _, _, h1, _, e => outL_eq_nil h1 e
  | (k, m) :: r, (l, n) :: s, o, o', a1, a2, h1, h2, e => by
    have m1 : 1 ≤ m := h1 (k, m) List.mem_cons_self
    have n1 : 1 ≤ n := h2 (l, n) List.mem_cons_self
    have kl : (k : Int) = (l : Int) := by
      obtain ⟨x, e1⟩ := outL_head (p := (k, m)) (ps := r) m1
      obtain ⟨y, e2⟩ := outL_head (p := (l, n)) (ps := s) n1
      rw [e1, e2] at e
      exact (List.cons.inj e).1
    have kl' : k = l := Int.ofNat.inj kl
    subst kl'
    have e' : List.replicate m (k : Int) ++ outL r = List.replicate n (k : Int) ++ outL s := e
    have mn : m = n := by
      by_cases c : m < n
      · exact absurd (rep_cut m n (by omega) e') (alt_ne_head a1.2 (fun p hp => h1 p (List.mem_cons_of_mem _ hp)) (by omega))
      · by_cases c2 : n < m
        · exact absurd (rep_cut n m (by omega) e'.symm) (alt_ne_head a2.2 (fun p hp => h2 p (List.mem_cons_of_mem _ hp)) (by omega))
        · omega
    subst mn
    have e3 := rep_cut m m (Nat.le_refl _) e'
    rw [Nat.sub_self] at e3
    rw [grp_one r s _ _ a1.2 a2.2 (fun p hp => h1 p (List.mem_cons_of_mem _ hp)) (fun p hp => h2 p (List.mem_cons_of_mem _ hp)) e3]
theorem Grp.uniq {ks : List Int} {ps qs : List (Nat × Nat)} (a : Grp ks ps) (b : Grp ks qs) : ps = qs := grp_one ps qs none none a.alt b.alt a.one b.one (a.out.trans b.out.symm)
theorem Grp.mem {ks : List Int} {ps : List (Nat × Nat)} (g : Grp ks ps) : ∀ p ∈ ps, (p.1 : Int) ∈ ks := fun p hp => by
  rw [← g.out]
  unfold outL
  have h1 := g.one p hp
  exact List.mem_flatten.mpr ⟨_, List.mem_map.mpr ⟨p, hp, rfl⟩, List.mem_replicate.mpr ⟨by omega, rfl⟩⟩
theorem outL_len : ∀ (ps : List (Nat × Nat)), (outL ps).length = (ps.map (·.2)).sum
  | [] => rfl
  | p :: r => by
    rw [outL_cons, List.length_append, List.length_replicate, outL_len r]
    rfl
theorem sum_ge {ps : List (Nat × Nat)} : (∀ p ∈ ps, 1 ≤ p.2) → ps.length ≤ (ps.map (·.2)).sum ∧ ∀ p ∈ ps, p.2 ≤ (ps.map (·.2)).sum := by
  induction ps with
  | nil => exact fun _ => ⟨Nat.le_refl _, fun p hp => (nomatch hp)⟩
  | cons q r ih =>
    intro h
    obtain ⟨a, b⟩ := ih fun p hp => h p (List.mem_cons_of_mem _ hp)
    have h1 := h q List.mem_cons_self
    refine ⟨?_, fun p hp => ?_⟩
    · simp only [List.length_cons, List.map_cons, List.sum_cons]
      omega
    · simp only [List.map_cons, List.sum_cons]
      rcases List.mem_cons.mp hp with z | z
      · rw [z]; omega
      · have := b p z; omega
theorem Grp.len {ks : List Int} {ps : List (Nat × Nat)} (g : Grp ks ps) : ps.length ≤ ks.length ∧ ∀ p ∈ ps, p.2 ≤ ks.length := by
  rw [← g.out, outL_len]
  exact sum_ge g.one
/-! ### great numbers, piece by piece -/
end Sq
namespace Sq
open PySem PySem.Spec PyProof.Rows L2 TL
/-- one group's way of writing: the state of a writer that has closed the groups C and stands t signs in the next -/
structure OwnS (ks : List Int) (i : Nat) (C : List (Nat × Nat)) (t : Nat) : Prop where
  alt : Alt none C
  one : ∀ p ∈ C, 1 ≤ p.2
  nx : ∀ n, ks[i]? = some n → ks.take i = outL C ++ List.replicate t n ∧ lastN none C ≠ some n
  fin : ks[i]? = none → t = 0 ∧ outL C = ks
theorem OwnS.start (ks : List Int) : OwnS ks 0 [] 0 := ⟨trivial, fun p h => (nomatch h), fun n _ => ⟨rfl, fun z => (nomatch z)⟩, fun h => ⟨rfl, by
  cases ks with
  | nil => rfl
  | cons k r => cases h⟩⟩
theorem OwnS.same {ks : List Int} {i : Nat} {C : List (Nat × Nat)} {t : Nat} {n : Int} (h : OwnS ks i C t) (e : ks[i]? = some n) (e2 : ks[i + 1]? = some n) : OwnS ks (i + 1) C (t + 1) := by
  obtain ⟨a, b⟩ := h.nx n e
  refine ⟨h.alt, h.one, fun m hm => ?_, fun z => by rw [e2] at z; cases z⟩
  rw [e2] at hm
  cases hm
  refine ⟨?_, b⟩
  rw [List.take_add_one, e, a, List.replicate_succ', List.append_assoc]
  rfl
end Sq
set_option Elab.async false
set_option linter.all false
set_option maxRecDepth 100000
set_option maxHeartbeats 1000000
/-! What is read is written. -/
namespace Sq
open PySem PySem.Spec PyProof.Rows L2 TL
open NumText (digitsVal AllDigits)
/-! ### few digits behind each ^ -/
def isDg (c : Nat) : Bool := decide (48 ≤ c) && decide (c ≤ 57)
/-- of the two signs that stand second and third behind a ^ none is a digit -/
def Gap (l : List Nat) : Prop := ∀ i, l[i]? = some 94 → (∀ b, l[i + 2]? = some b → isDg b = false) ∧ (∀ c, l[i + 3]? = some c → isDg c = false)
theorem Gap.cons {c : Nat} {l : List Nat} (h : Gap l) (hc : c ≠ 94) : Gap (c :: l) := fun i e => by
  cases i with
  | zero => exact absurd (Option.some.inj e) hc
  | succ i => exact h i e
theorem Gap.nil : Gap [] := fun i e => (nomatch e)
end Sq
set_option Elab.async false
set_option linter.all false
set_option maxRecDepth 100000
set_option maxHeartbeats 1000000
/-! What is asked of the handled error in its suite, whatever its class. -/
set_option Elab.async false
set_option linter.all false
set_option maxRecDepth 100000
set_option maxHeartbeats 1000000
/-! A def that may raise, called where it doesn't; keywords of such a def. -/
set_option Elab.async false
set_option linter.all false
set_option maxRecDepth 100000
set_option maxHeartbeats 2000000
/-! Objects of an own class: made, their methods called, their properties read, where these may raise too. -/
namespace Sq
open PySem PySem.Spec PyProof.Rows L2
/-- a method of the class at C -/
structure Mt (CXf : CXT) (P : Program) (w : World) (K : PySem.W.Frag) (mg : Str → Option Value) (base : Heap) (k : Nat) (C : Addr) (m : Str) (ps : List Str) (sp : Sp) : Prop where
  ex : ∃ f fd, FnOk P w K mg base CXf k f fd ps sp ∧ Meth K C m f ∧ Binds K fd ps []
  cl : Cls K C
/-- a property -/
structure Pr (P : Program) (w : World) (K : PySem.W.Frag) (mg : Str → Option Value) (base : Heap) (k : Nat) (C : Addr) (m : Str) (sp : Sp) : Prop where
  ex : ∃ p g fd, PropOf K C m p g ∧ FnOk P w K mg base CX0 k g fd ["self"] sp ∧ Binds K fd ["self"] []
  cl : Cls K C
theorem at0 {X : Cx} : ∀ σ, PassesAt CX0 X σ ((fun _ => E0 : L2.St → XK) σ) := fun _ _ _ _ _ _ _ h => h.elim
end Sq
set_option Elab.async false
set_option linter.all false
set_option maxHeartbeats 1000000
/-! Two lists part at the run between their greatest origins of 1. -/
set_option Elab.async false
set_option linter.all false
set_option maxHeartbeats 1000000
/-! What parting_run returns. -/
set_option Elab.async false
set_option linter.all false
set_option maxHeartbeats 1000000
/-! A hidden list, found by questions. -/
set_option Elab.async false
set_option linter.all false
/-! A statement told apart from what follows. -/
namespace Sq
open PySem PySem.Spec PyProof.Rows L2
theorem tellNx {t u : TS} {D : Ends} {r : VK} {b c : L2.St → Hp → Prop} {σ : L2.St} {H : Hp} (T : L2.St → Hp → Prop) (h : ∀ N : L2.St → Hp → Prop, (∀ σ2 H2, T σ2 H2 → N σ2 H2) → t { D with nx := N } σ H) (hT : ∀ σ2 H2, T σ2 H2 → u D σ2 H2) : Ends.nx { nx := tSeq t u D, rt := r, bk := b, ct := c } σ H := h (u D) hT
end Sq
set_option Elab.async false
set_option linter.all false
set_option maxHeartbeats 1000000
/-! Lists of replacements in the heap; slices of them. -/
namespace Sq
open PySem PySem.Spec PyProof.Rows L2
/-- replacements, not too great -/
def Rpl (ks : List Int) : Prop := ∀ k ∈ ks, 2 ≤ k ∧ k < 1073741824
theorem Rpl.two {ks : List Int} (h : Rpl ks) : ∀ k ∈ ks, 2 ≤ k := fun k hk => (h k hk).1
/-- a list of at most n replacements -/
def RL (H : Hp) (p : Addr) (n : Nat) : Prop := ∃ ks : List Int, H p = some (.lst (ks.map V.int)) ∧ ks.length ≤ n ∧ Rpl ks
theorem RL.same {H H' : Hp} {p : Addr} {n : Nat} (h : RL H p n) (s : Same H H') : RL H' p n := by
  obtain ⟨ks, g, l, r⟩ := h
  exact ⟨ks, s _ _ g, l, r⟩
theorem cut_part (ks : List Int) (lo hi : Option Int) : ∃ ls : List Int, cutV (ks.map V.int) lo hi = ls.map V.int ∧ ls.length ≤ ks.length ∧ ∀ x ∈ ls, x ∈ ks := by
  refine ⟨(ks.drop (HT.sIx (ks.map V.int).length 0 lo)).take (HT.sIx (ks.map V.int).length (ks.map V.int).length hi - HT.sIx (ks.map V.int).length 0 lo), ?_, ?_, fun x hx => List.mem_of_mem_drop (List.mem_of_mem_take hx)⟩
  · unfold cutV
    rw [List.map_take, List.map_drop]
  · rw [List.length_take, List.length_drop]
    omega
end Sq
set_option Elab.async false
set_option linter.all false
set_option maxRecDepth 100000
set_option maxHeartbeats 2000000
/-! A def of the law that asks for a repr: run where no repr is under way. -/
namespace Sq
open PySem PySem.Spec PyProof.Rows L2
structure FnG (P : Program) (w : World) (K : PySem.W.Frag) (mg : Str → Option Value) (base : Heap) (k : Nat) (f : Addr) (fd : FuncData) (ps : List Str) (sp : Sp) : Prop where
  count : ∀ vs H Q E, sp vs H Q E → vs.length = ps.length
  go : ∀ (A : Around) (outer : List Env) (s : Shared) (H : Hp) (ag : Args) (us : List Value) (vs : List V) (Q : VK) (E : XK), Room k A → A.guards = some [] → Env0 P w K mg base A outer s H →
    BindsTo s fd ag (ps.zip us) → Vals vs us → sp vs H Q E → codeAny (model P w) A (.call (.ref f) ag) (CR CX0 outer P w H s Q E) s
structure Dgr (P : Program) (w : World) (K : PySem.W.Frag) (mg : Str → Option Value) (base : Heap) (k : Nat) (x : Str) (ps : List Str) (sp : Sp) : Prop where
  ex : ∃ f fd, FnG P w K mg base k f fd ps sp ∧ mg x = some (.ref f) ∧ PySem.W.keepIn K (.ref f) = true ∧ Binds K fd ps []
theorem Dgr.mk' {P : Program} {w : World} {K : PySem.W.Frag} {mg : Str → Option Value} {base : Heap} {k : Nat} {x : Str} {st : Stmt} {ps : List Str} {sp : Sp} {f : Addr} {fd : FuncData} (F : Fun K x x st f fd) (G : FnG P w K mg base k f fd ps sp) (g : mg x = some (.ref f)) (b : Binds K fd ps []) : Dgr P w K mg base k x ps sp :=
  ⟨⟨f, fd, G, g, F.kp, b⟩⟩
end Sq
set_option Elab.async false
set_option linter.all false
/-! The best replacements, in plain Lean. -/
namespace Sq
def low (R : Int) : Int := (R + 3) / 2
def grow (R : Int) : Int := rw1 (low R) R
def up : Nat → Int → Int
  | 0, v => v
  | n + 1, v => grow (up n v)
end Sq
set_option Elab.async false
set_option linter.all false
/-! One of each choice, by its place. -/
namespace Sq
def Full (cs : List (List Int)) : Prop := ∀ c ∈ cs, 0 < c.length
theorem Full.tl {c : List Int} {cs : List (List Int)} (h : Full (c :: cs)) : Full cs := fun x hx => h x (List.mem_cons_of_mem _ hx)
theorem Full.hd {c : List Int} {cs : List (List Int)} (h : Full (c :: cs)) : 0 < c.length := h c (List.mem_cons_self ..)
end Sq
set_option Elab.async false
set_option linter.all false
set_option maxRecDepth 100000
set_option maxHeartbeats 1000000
/-! `for` in a generator's body, with yields in its suite. -/
namespace PySem
open Sem (wp)
end PySem
namespace L2
open PySem PySem.Spec PyProof.Rows GenW
end L2
set_option Elab.async false
set_option linter.all false
set_option maxRecDepth 100000
set_option maxHeartbeats 2000000
/-! Lists of lists of ints; a walk in a generator. -/
namespace Sq
open PySem PySem.Spec PyProof.Rows L2
/-- at each of them stands its list of ints -/
def RowsAt (H : Hp) : List Addr → List (List Int) → Prop
  | [], [] => True
  | a :: as, c :: cs => H a = some (.lst (c.map V.int)) ∧ RowsAt H as cs
  | _, _ => False
theorem RowsAt.same {H H' : Hp} (s : Same H H') : ∀ {as : List Addr} {cs : List (List Int)}, RowsAt H as cs → RowsAt H' as cs
  | [], [], _ => trivial
  | _ :: _, _ :: _, h => ⟨s _ _ h.1, RowsAt.same s h.2⟩
  | [], _ :: _, h => h.elim
  | _ :: _, [], h => h.elim
theorem RowsAt.len {H : Hp} : ∀ {as : List Addr} {cs : List (List Int)}, RowsAt H as cs → as.length = cs.length
  | [], [], _ => rfl
  | _ :: _, _ :: _, h => congrArg Nat.succ (RowsAt.len h.2)
  | [], _ :: _, h => h.elim
  | _ :: _, [], h => h.elim
theorem RowsAt.get {H : Hp} : ∀ {as : List Addr} {cs : List (List Int)} {i : Nat} {c : List Int}, RowsAt H as cs → cs[i]? = some c → ∃ a, as[i]? = some a ∧ H a = some (.lst (c.map V.int))
  | _ :: _, _ :: _, 0, _, h, e => by
    cases e
    exact ⟨_, rfl, h.1⟩
  | _ :: _, _ :: _, i + 1, _, h, e => RowsAt.get (i := i) h.2 e
  | [], _ :: _, _, _, h, _ => h.elim
  | _, [], _, _, _, e => by simp at e
theorem RowsAt.upd {H : Hp} {p : Addr} {o : HO} : ∀ {as : List Addr} {cs : List (List Int)}, RowsAt H as cs → p ∉ as → RowsAt (upd H p o) as cs
  | [], [], _, _ => trivial
  | a :: _, _ :: _, h, n => ⟨by rw [upd_ne (fun z => n (by rw [z]; exact List.mem_cons_self ..))]; exact h.1, RowsAt.upd h.2 (fun z => n (List.mem_cons_of_mem _ z))⟩
  | [], _ :: _, h, _ => h.elim
  | _ :: _, [], h, _ => h.elim
end Sq
set_option Elab.async false
set_option linter.all false
set_option maxRecDepth 100000
set_option maxHeartbeats 1000000
/-! Lists of lists of ints as data. -/
namespace Sq
open PySem PySem.Spec PyProof.Rows L2
theorem eqvAll_ints : ∀ xs ys : List Int, PyData.eqvAll (xs.map PyData.int) (ys.map PyData.int) = decide (xs = ys)
  | [], [] => rfl
  | [], _ :: _ => rfl
  | _ :: _, [] => rfl
  | x :: xs, y :: ys => by
    show (PyData.eqv (.int x) (.int y) && PyData.eqvAll (xs.map PyData.int) (ys.map PyData.int)) = decide (x :: xs = y :: ys)
    rw [eqvAll_ints xs ys]
    have e : PyData.eqv (.int x) (.int y) = decide (x = y) := by
      show (x == y) = decide (x = y)
      by_cases h : x = y
      · rw [decide_eq_true h]; exact beq_iff_eq.mpr h
      · rw [decide_eq_false h]; exact beq_eq_false_iff_ne.mpr h
    rw [e]
    by_cases h1 : x = y
    · by_cases h2 : xs = ys
      · subst h1 h2
        simp
      · simp [h1, h2]
    · simp [h1]
theorem eqv_ints (xs ys : List Int) : PyData.eqv (.list (xs.map PyData.int)) (.list (ys.map PyData.int)) = decide (xs = ys) := eqvAll_ints xs ys
def rLenK (K : PySem.W.Frag) : List V → Hp → VK → Prop := fun xs H Q => ∃ p ys, xs = [V.ref p] ∧ (SqL K H p ys ∨ SqT K H p ys) ∧ Q (V.int (ys.length : Nat)) H
theorem call_lenK {X : Cx} : CallR X (.builtin "len") (rLenK X.K) := call_len_seq
/-- kept by what turns the source alone -/
theorem RowsAt.keep {H H' : Hp} {l d : Addr} (k : ∀ b o, H b = some o → b ≠ l → b ≠ d → H' b = some o) : ∀ {as : List Addr} {cs : List (List Int)}, RowsAt H as cs → l ∉ as → d ∉ as → RowsAt H' as cs
  | [], [], _, _, _ => trivial
  | a :: _, _ :: _, h, n1, n2 => ⟨k _ _ h.1 (fun z => n1 (by rw [z]; exact List.mem_cons_self ..)) (fun z => n2 (by rw [z]; exact List.mem_cons_self ..)), RowsAt.keep k h.2 (fun z => n1 (List.mem_cons_of_mem _ z)) (fun z => n2 (List.mem_cons_of_mem _ z))⟩
  | [], _ :: _, h, _, _ => h.elim
  | _ :: _, [], h, _, _ => h.elim
end Sq
set_option Elab.async false
set_option linter.all false
set_option maxRecDepth 100000
set_option maxHeartbeats 4000000
/-! {e for a in xs for b in ys}, e an int: over the library's rules of the same with a list. -/
set_option Elab.async false
set_option linter.all false
set_option maxHeartbeats 1000000
/-! Choices counted: the longest run after a replacement, and how many choices are good. -/
namespace Sq
def la (L k : Int) : Int := if k > L then L else (L + 1) / k + k - 2
/-- 2, 3, .., g -/
def cand (g : Int) : List Int := (List.range (g - 1).toNat).map fun i : Nat => 2 + (i : Int)
def cnt (g : Int) : Nat → Int → Nat
  | 0, L => if L ≤ 1 then 1 else 0
  | n + 1, L => ((cand g).map fun k => cnt g n (la L k)).sum
end Sq
set_option Elab.async false
set_option linter.all false
set_option maxRecDepth 100000
set_option maxHeartbeats 1000000
/-! Walks with an open step; members without doubles; the lengths by place. -/
namespace Sq
open PySem PySem.Spec PyProof.Rows L2
theorem walkL {K : PySem.W.Frag} {a : Addr} {xs : List V} {Qd : Hp → Prop} {St : V → Hp → (Hp → Prop) → Prop} {H0 : Hp} (Pv : Nat → Hp → Prop) (h0 : Pv 0 H0) (hl : ∀ i H, i ≤ xs.length → Pv i H → SqL K H a xs)
    (hs : ∀ i x H, xs[i]? = some x → Pv i H → St x H (Pv (i + 1))) (hd : ∀ H, Pv xs.length H → Qd H) :
    ∃ W : Nat → Nat → Hp → Prop, (∃ m, W 0 m H0) ∧ ∀ i m H, W i m H → ((Itl K a).stop i H ∧ Qd H) ∨ ((Itl K a).go i H ∧ ∃ Nx : Hp → Prop, (∀ H', Nx H' → ∃ m', m' < m ∧ W (i + 1) m' H') ∧ ∀ x H', (Itl K a).yld i H x H' → St x H' Nx) := by
  refine ⟨fun i m H => m = xs.length - i ∧ i ≤ xs.length ∧ Pv i H, ⟨_, rfl, Nat.zero_le _, h0⟩, ?_⟩
  rintro i m H ⟨rfl, le, p⟩
  have there := hl i H le p
  by_cases lt : i < xs.length
  · exact .inr ⟨⟨xs, xs[i], there, List.getElem?_eq_getElem lt⟩, Pv (i + 1), fun H' p' => ⟨xs.length - (i + 1), by omega, rfl, lt, p'⟩, fun x H' y => by
      obtain ⟨rfl, e⟩ := y
      exact hs i x _ (e xs there) p⟩
  · obtain rfl : i = xs.length := by omega
    exact .inl ⟨⟨xs, there, Nat.le_refl _⟩, hd H p⟩
/-! ### without doubles -/
/-! ### the lengths by place -/
structure Lens (n : Nat) (g L : Int) (i : Nat) (rows : List (List Int)) : Prop where
  len : rows.length = i + 1
  zero : rows[0]? = some [L]
  asc : ∀ (p : Nat) (r : List Int), rows[p]? = some r → r.Pairwise (· < ·)
  mem : ∀ (p : Nat) (r : List Int), rows[p]? = some r → ∀ x ∈ r, 0 ≤ x ∧ x ≤ L
  next : ∀ (p : Nat) (r r' : List Int), rows[p]? = some r → rows[p + 1]? = some r' → ∀ x, x ∈ r' ↔ (∃ l ∈ r, ∃ k, 2 ≤ k ∧ k ≤ g ∧ x = la l k) ∧ x ≤ up (n - (p + 1)) 1
  short : L < 63 ∨ ∀ (p : Nat) (r : List Int), rows[p]? = some r → r.length ≤ 6
theorem Lens.start {n : Nat} {g L : Int} (h0 : 0 ≤ L) : Lens n g L 0 [[L]] where
  len := rfl
  zero := rfl
  asc := fun p r e => by
    match p, e with
    | 0, e => cases e; exact List.pairwise_singleton _ _
  mem := fun p r e x hx => by
    match p, e with
    | 0, e =>
      cases e
      rw [List.mem_singleton.mp hx]
      exact ⟨h0, Int.le_refl _⟩
  next := fun p r r' e e' => by
    match p, e' with
    | 0, e' => cases e'
    | p + 1, e' => cases e'
  short := .inr fun p r e => by
    match p, e with
    | 0, e => cases e; exact (show 1 ≤ 6 by decide)
theorem asc_nodup {ns : List Int} (h : ns.Pairwise (· < ·)) : ns.Nodup := List.Pairwise.imp (fun {a b} z e => by omega) h
end Sq
set_option Elab.async false
set_option linter.all false
set_option maxRecDepth 100000
set_option maxHeartbeats 2000000
/-! Generators that live beside their consumer: what stands, seen from either side. -/
set_option Elab.async false
set_option linter.all false
set_option maxRecDepth 100000
set_option maxHeartbeats 2000000
set_option Elab.async false
set_option linter.all false
set_option maxRecDepth 100000
set_option maxHeartbeats 1000000
/-! Counting: how many lengths up to a limit become one that is told. -/
set_option Elab.async false
set_option linter.all false
set_option maxRecDepth 100000
set_option maxHeartbeats 1000000
/-! A dict of limits, each with how often it counts: what it says of a length. -/
namespace Sq
open PySem PySem.Spec PyProof.Rows L2
/-! ### dicts from ints to ints -/
def one (b : Bool) : Int := if b = true then 1 else 0
/-! ### counts -/
end Sq
set_option Elab.async false
set_option linter.all false
set_option maxRecDepth 100000
set_option maxHeartbeats 1000000
/-! One replacement more: the next dict of limits. -/
set_option Elab.async false
set_option linter.all false
set_option maxRecDepth 100000
set_option maxHeartbeats 1000000
/-! a <= b <= c <= d as a test; the number of all origins. -/
set_option Elab.async false
set_option linter.all false
set_option maxRecDepth 100000
set_option maxHeartbeats 1000000
/-! The number of all origins, replacement by replacement. -/
set_option Elab.async false
set_option linter.all false
set_option maxRecDepth 100000
set_option maxHeartbeats 1000000
/-! yield from a list. -/
namespace L2
open PySem PySem.Spec PyProof.Rows GenW
end L2
set_option Elab.async false
set_option linter.all false
set_option maxRecDepth 100000
set_option maxHeartbeats 2000000
namespace Sq
open PySem PySem.Spec PyProof.Rows L2 GenW
structure GEndL where
  nx : Nat → Hp → L2.St → Hp → Prop
  rt : Nat → Hp → VK
  bk : Nat → Hp → L2.St → Hp → Prop := fun _ _ _ _ => False
  ct : Nat → Hp → L2.St → Hp → Prop := fun _ _ _ _ => False
def GEndL.at (D : GEndL) (i : Nat) (Hb : Hp) : Ends := { nx := D.nx i Hb, rt := D.rt i Hb, bk := D.bk i Hb, ct := D.ct i Hb }
end Sq
set_option Elab.async false
set_option linter.all false
set_option maxRecDepth 100000
set_option maxHeartbeats 2000000
set_option Elab.async false
set_option linter.all false
set_option maxRecDepth 100000
set_option maxHeartbeats 2000000
set_option Elab.async false
set_option linter.all false
set_option maxRecDepth 100000
set_option maxHeartbeats 2000000
/-! Code that leaves the generators' table as it is. -/
set_option Elab.async false
set_option linter.all false
set_option maxRecDepth 100000
set_option maxHeartbeats 2000000
/-! for x in g(e, ..): body, where g is a generator def that lives beside its consumer. -/
set_option Elab.async false
set_option linter.all false
set_option maxRecDepth 100000
set_option maxHeartbeats 2000000
set_option Elab.async false
set_option linter.all false
set_option maxRecDepth 100000
set_option maxHeartbeats 2000000
/-! More code that leaves the generators' table as it is: calls of defs, operators, tuples, enumerate. -/
set_option Elab.async false
set_option linter.all false
set_option maxRecDepth 100000
set_option maxHeartbeats 2000000
/-! Methods called by keywords: one value by place, the rest by name. -/
set_option Elab.async false
set_option linter.all false
set_option maxRecDepth 100000
set_option maxHeartbeats 2000000
/-! A def that may raise, called by keywords. -/
set_option Elab.async false
set_option linter.all false
set_option maxRecDepth 100000
set_option maxHeartbeats 2000000
/-! sorted of a set of ints, any number of members. -/
namespace Sq
open PySem PySem.Spec PyProof.Rows L2
theorem set_sorted {P : Program} {w : World} {A : Around} {E : Value → Shared → Prop} {s : Shared} {a : Addr} {S : Int → Bool} {n : Nat} {Q : Value → Shared → Prop} (R : SetR w s.heap a S n) (quiet : A.handled = none) (few : n ≤ sizeLine)
    (fin : ∀ s' p (got : List Value) (ep : Nat) (ns : List Int), (∀ b o, s.heap.get? b = some o → s'.heap.get? b = some o) → s'.gens = s.gens → s'.os = s.os → s.heap.objs.size ≤ p → s'.heap.get? p = some (seqObj "list" got.toArray ep) →
      IntsAre got ns → ns.Pairwise (· < ·) → (∀ k, k ∈ ns ↔ S k = true) → ns.length = n → Q (.ref p) s') : wpAny (model P w) A (call (.builtin "sorted") [.ref a]) Q E s := by
  obtain ⟨o, es, ep, t, get, exact', data, good, once, mem, bound, fits, size, ris, led⟩ := R
  apply Calls.call_function_entry kind_sorted plain_sorted entry_sorted (args_sorted1 _)
  unfold Builtin.«sorted»
  apply wpAny_bind (m := checkCount "sorted" 1 1 _)
  apply wpAny_pure
  apply wpAny_bind
  refine collect_set (A := A.in1) quiet ⟨o, get, exact'.1, data⟩ fits bound ris led fun s1 vs kept grown gens os perm => ?_
  have len : vs.length = n := by
    rw [perm.length_eq, List.length_map, Array.length_toList]
    exact size
  have areInts : IntsAre vs (vs.map Builtin.Re.reRawOf) := ints_of vs fun v hv => by
    obtain ⟨e, he, q⟩ := List.mem_map.mp (perm.mem_iff.mp hv)
    obtain ⟨k, tk, h1, _⟩ := good e he
    exact ⟨k, tk, q ▸ h1⟩
  have keys : (vs.map Builtin.Re.reRawOf).Perm (es.toList.map keyOf) := by
    have := perm.map Builtin.Re.reRawOf
    rwa [List.map_map] at this
  apply wpAny_bind
  refine wpAny_newList ?_ (by omega)
  have fresh : (s1.heap.push (seqObj "list" vs.toArray 0)).get? s1.heap.objs.size = some (seqObj "list" vs.toArray 0) := Heap.get?_push_size _ rfl
  apply wpAny_bind
  apply wpAny_holding
  refine wpAny_call_entry slot_list_sort ⟨_, fresh, rfl⟩ entry_list_sort ?_ (args_list_sort _)
  refine SrtO.list_sort_ord SrtO.swo_int fresh (by omega) (fun two => SrtO.ints_sortable areInts two) fun out up stable => ⟨_, rfl, ?_⟩
  obtain ⟨i1, i2, i3⟩ := SrtO.ints_out areInts up stable
  obtain ⟨c, hc⟩ := sortedHeap_at (vs := vs) (out := out.toArray) fresh
  have all := i2.trans keys
  apply wpAny_pure
  refine ⟨_, rfl, fin _ s1.heap.objs.size out c (out.map SrtO.iv) (fun b u e => ?_) gens os grown hc i1 (lt_of_le_nodup _ i3 (all.nodup_iff.mpr once)) (fun k => by rw [all.mem_iff, ← mem k]) ?_⟩
  · have old := kept b u e
    have lt := Heap.lt_size old
    refine (sortedHeap_old (Nat.ne_of_lt lt) ?_).trans (Heap.get?_push_of_some _ old)
    rw [size_push']
    exact Nat.lt_succ_of_lt lt
  · rw [all.length_eq, List.length_map, Array.length_toList, size]
def rSortedSetI (w : World) : List V → Hp → VK → Prop := fun vs H Q => ∃ (a : Addr) (S : Int → Bool) (n : Nat), vs = [V.ref a] ∧ H a = some (SetO w a S n) ∧ n ≤ sizeLine ∧
  ∀ (ns : List Int) (p : Addr), ns.Pairwise (· < ·) → (∀ k : Int, k ∈ ns ↔ S k = true) → ns.length = n → H p = none → Q (.ref p) (upd H p (.lst (ns.map V.int)))
end Sq
set_option Elab.async false
set_option linter.all false
set_option maxHeartbeats 1000000
/-! The runs that a list makes single: the greatest two, and how many runs one replacement makes equal. -/
set_option Elab.async false
set_option linter.all false
set_option maxHeartbeats 1000000
/-! Reading a list back: one step. -/
namespace Sq
theorem len_le_of {α : Type} [DecidableEq α] : ∀ {A B : List α}, A.Nodup → (∀ x ∈ A, x ∈ B) → A.length ≤ B.length
  | [], B, _, _ => Nat.zero_le _
  | a :: A, B, nd, sub => by
    have nd' := List.nodup_cons.mp nd
    have h := len_le_of (A := A) (B := B.erase a) nd'.2 fun x hx => (List.mem_erase_of_ne (fun z : x = a => nd'.1 (by rw [← z]; exact hx))).mpr (sub x (List.mem_cons_of_mem _ hx))
    have l := List.length_erase_of_mem (sub a (List.mem_cons_self ..))
    have p : 0 < B.length := List.length_pos_of_mem (sub a (List.mem_cons_self ..))
    rw [List.length_cons]
    omega
end Sq
set_option Elab.async false
set_option linter.all false
set_option maxRecDepth 100000
set_option maxHeartbeats 4000000
/-! set(l) of a list of ints, kept so that it may be sorted; its len. -/
namespace Sq
open PySem PySem.Spec PyProof.Rows L2
abbrev emptyS (w : World) : Obj := { cls := .type "set", dict := none, data := .set #[] 0 (.fresh 0 0 (!w.params.followText "set-order")) }
section
variable {P : Program} {w : World} {A : Around} {E : Value → Shared → Prop} {s : Shared}
theorem set_of_list {l : Addr} {its : Array Value} {zs : List Int} {Q : Value → Shared → Prop} (quiet : A.handled = none) (isL : s.heap.IsList l its) (areI : IntsAre its.toList zs) (few : zs.length + 1 < scanBound)
    (fin : ∀ (g : Heap) (tk m : Nat), SetR w g s.heap.objs.size (fun j => decide (j ∈ zs)) m → m ≤ zs.length → (∀ b o, s.heap.get? b = some o → g.get? b = some o) → Q (.ref s.heap.objs.size) { s with heap := g, toks := tk }) :
    wpAny (model P w) A (call (.type "set") [.ref l]) Q E s := by
  have size : its.size = zs.length := by
    rw [← Array.length_toList]
    exact IntsAre.length areI
  obtain ⟨c0, tl0, mro0⟩ := F.called_set.mro
  have made0 := F.called_set.made
  have sub0 := F.called_set.sub
  refine wpAny_call (codeAny_of_tree (show wpAny _ _ (callAny (.type "set") _) _ _ _ from ?_))
  refine wpAny_pure ⟨Code.quiet_builtin _ (by decide +kernel), codeAny_builtin F.entry_type_call ?_⟩
  rw [Around.under_plain (weight_type_call_type "set" [.ref l] []) rfl]
  have t1 := F.called_set.notType
  have t2 := F.called_set.canCreate
  have t3 := F.typeCall_set_1 (.ref l)
  repeat (any_goals (first | assumption | wp_step))
  refine codeAny_mono (code_set_led1 (.ref l) (E := E) (Q₁ := fun ob s' => ob = .ref s.heap.objs.size ∧ s' = { s with heap := s.heap.push (emptyS w) }) ⟨rfl, rfl⟩) fun r s' hr => ?_
  match r, hr with
  | .error e, hr => exact hr
  | .ok .next, hr => exact hr.elim
  | .ok .brk, hr => exact hr.elim
  | .ok .cont, hr => exact hr.elim
  | .ok (.ret ob), hr =>
    obtain ⟨rfl, rfl⟩ := hr
    have gS : (s.heap.push (emptyS w)).get? s.heap.objs.size = some (emptyS w) := Heap.get?_push_size _ rfl
    have tS : Shared.TypeIs { s with heap := s.heap.push (emptyS w) } (.ref s.heap.objs.size) "set" := ⟨_, gS, rfl⟩
    have i1 := F.called_set.init.lookup
    have i2 := F.called_set.init.bind (.ref s.heap.objs.size)
    repeat (any_goals (first | assumption | wp_step))
    refine codeAny_mono (codeAny_call_builtin (R := wants (fun r s2 => r = .none ∧ ∃ g tk m, s2 = { s with heap := g, toks := tk } ∧ SetR w g s.heap.objs.size (fun j => decide (j ∈ zs)) m ∧ m ≤ zs.length ∧
        ∀ b o, s.heap.get? b = some o → g.get? b = some o) E) F.called_set.init.plain F.entry_set_init (check_set_init_1 tS ?_)) fun r2 s2 hr2 => ?_
    · obtain ⟨⟨cl, di, da, sl⟩, ol, isC, nl, isD⟩ := isL
      simp only at isC isD
      subst isC isD
      have ol1 : (s.heap.push (emptyS w)).get? l = some { cls := .type "list", dict := di, data := .seq its nl, slots := sl } := Heap.get?_push_of_some _ ol
      have n1 := F.sub_list_set
      have n2 := F.sub_list_frozenset
      have n3 : (Value.type "list" == Value.type "dict") = false := by decide
      have isL1 : (s.heap.push (emptyS w)).IsList l its := ⟨_, ol1, rfl, nl, rfl⟩
      unfold Builtin.«set.__init__» noKeywords Builtin.Frozenset.updateFrom
      generalize pk : pyIter = PK
      wp_walk
      subst pk
      refine wpAny_pyIter_list isL1 (wpAny_bind (wpAny_runValue ?_))
      have low : l < s.heap.objs.size := Heap.lt_size ol
      have q3 : A.in1.in1.in1.handled = none := by simp [quiet]
      have big : (s.heap.push (emptyS w)).objs.size = s.heap.objs.size + 1 := Heap.size_push ..
      have apart : l ≠ (s.heap.push (emptyS w)).objs.size := by rw [big]; exact Nat.ne_of_lt (Nat.lt_succ_of_lt low)
      have notIn : s.heap.objs.size ∉ [(s.heap.push (emptyS w)).objs.size, l] := by
        rw [big]
        intro z
        rcases List.mem_cons.mp z with z | z
        · exact absurd z (Nat.ne_of_lt (Nat.lt_succ_self _))
        · exact absurd (List.mem_singleton.mp z) (Nat.ne_of_gt low)
      have vals : ∀ (i : Nat) (v : Value), its[i]? = some v → ∃ k t, zs[i]? = some k ∧ v = .int k t := fun i v hv => by
        have li : i < zs.length := by rw [← size]; exact (Array.getElem?_eq_some_iff.mp hv).1
        obtain ⟨t, e⟩ := IntsAre.int_at areI i v (by rw [Array.getElem?_toList]; exact hv)
        refine ⟨zs[i], t, List.getElem?_eq_getElem li, ?_⟩
        rw [e, List.getD_eq_getElem?_getD, List.getElem?_eq_getElem li] <;> rfl
      refine set_update_ints ((Walks.list q3 _ l apart its).toS) s.heap.objs.size notIn zs size few vals (its.size - 0) 0 _ (by omega) (Nat.zero_le _) ⟨⟨_, Heap.get?_push_size _ rfl, rfl, rfl⟩, isL1.push _⟩ ⟨0, Nat.le_refl 0, setR_new_at (Heap.get?_push_of_some _ gS)⟩ ?_
      intro s3 m mv lm R3
      obtain ⟨g, gn, dr, tk, os⟩ := s3
      obtain rfl : gn = s.gens := mv.gens
      obtain rfl : dr = s.drawn := mv.drawn
      obtain rfl : os = s.os := mv.os
      rw [size] at lm
      refine (show wpAny _ _ _ _ _ _ from wpAny_pure (show wpAny _ _ (ret Value.none) _ _ _ from ?_))
      refine wpAny_pure ⟨rfl, g, tk, m, rfl, R3, lm, fun b o e => ?_⟩
      have lb : b < s.heap.objs.size := Heap.lt_size e
      refine mv.heap b o (fun z => ?_) (Heap.get?_push_of_some _ (Heap.get?_push_of_some _ e))
      rcases List.mem_cons.mp z with z | z
      · exact absurd z (Nat.ne_of_lt lb)
      · have z := List.mem_singleton.mp z
        rw [big] at z
        exact absurd z (Nat.ne_of_lt (Nat.lt_succ_of_lt lb))
    · match r2, hr2 with
      | .error e, hr2 => exact hr2
      | .ok .next, hr2 => exact hr2.elim
      | .ok .brk, hr2 => exact hr2.elim
      | .ok .cont, hr2 => exact hr2.elim
      | .ok (.ret v), hr2 =>
        obtain ⟨rfl, g, tk, m, rfl, R3, lm, kept⟩ := hr2
        repeat (any_goals (first | assumption | wp_step))
        exact fin _ _ _ R3 lm kept
end
theorem perm_of_sub {α : Type} [DecidableEq α] : ∀ {A B : List α}, A.Nodup → (∀ x ∈ A, x ∈ B) → B.length = A.length → A.Perm B
  | [], B, _, _, l => by rw [List.length_eq_zero_iff.mp l]
  | a :: A, B, nd, sub, l => by
    have nd' := List.nodup_cons.mp nd
    have ha := sub a List.mem_cons_self
    have le := List.length_erase_of_mem ha
    rw [List.length_cons] at l
    have ih := perm_of_sub (A := A) (B := B.erase a) nd'.2 (fun x hx => (List.mem_erase_of_ne (fun z : x = a => nd'.1 (by rw [← z]; exact hx))).mpr (sub x (List.mem_cons_of_mem _ hx))) (by omega)
    exact (ih.cons a).trans (List.perm_cons_erase ha).symm
theorem setR_count {w : World} {h : Heap} {a : Addr} {zs : List Int} {m : Nat} (R : SetR w h a (fun j => decide (j ∈ zs)) m) : m = zs.length ↔ zs.Nodup := by
  obtain ⟨o, es, ep, t, get, ex, data, good, once, mem, bound, fits, size, ris, led⟩ := R
  have len : (es.toList.map keyOf).length = m := by rw [List.length_map, Array.length_toList]; exact size
  have sub : ∀ x, x ∈ es.toList.map keyOf ↔ x ∈ zs := fun x => by rw [← mem x]; exact decide_eq_true_iff
  constructor
  · intro e
    exact (perm_of_sub once (fun x hx => (sub x).mp hx) (by rw [len, e])).nodup_iff.mp once
  · intro nd
    have a := len_le_of nd fun x hx => (sub x).mpr hx
    have b := len_le_of once fun x hx => (sub x).mp hx
    omega
section
variable {X : Cx}
def rSetL (K : PySem.W.Frag) (w : World) : List V → Hp → VK → Prop := fun vs H Q => ∃ (l : Addr) (zs : List Int), vs = [.ref l] ∧ SqL K H l (zs.map V.int) ∧ zs.length ≤ 4000 ∧ ∀ p m, H p = none → m ≤ zs.length → (m = zs.length ↔ zs.Nodup) → Q (.ref p) (upd H p (SetO w p (fun j => decide (j ∈ zs)) m))
end
end Sq
set_option Elab.async false
set_option linter.all false
set_option maxRecDepth 100000
set_option maxHeartbeats 1000000
/-! Texts of lists: what the laws share. -/
namespace Sq
open PySem PySem.Spec PyProof.Rows L2
open TL (numL numL_len)
theorem cutS_take (z : Str) (n : Nat) (h : n ≤ z.length) : TL.tl (cutS z none (some (n : Int))) = (TL.tl z).take n := by
  show ((z.cps.toList.drop (HT.sIx z.length 0 none)).take (HT.sIx z.length z.length (some (n : Int)) - HT.sIx z.length 0 none)) = _
  rw [HT.sIx_nat, HT.sIx_none, List.drop_zero, Nat.min_eq_left h, Nat.sub_zero]
end Sq
set_option Elab.async false
set_option linter.all false
set_option maxRecDepth 100000
set_option maxHeartbeats 2000000
/-! list(text); texts cut at ^ or at ", "; how long a shown list of numbers is. -/
namespace Sq
open PySem PySem.Spec PyProof.Rows L2
open NumText (digitsVal AllDigits)
def signsV (x : Str) : List V := (TL.tl x).map fun c => V.str ⟨#[c]⟩
def rListStr : List V → Hp → VK → Prop := fun xs H Q => ∃ x : Str, xs = [.str x] ∧ x.length ≤ sizeLine ∧ ∀ p, H p = none → Q (.ref p) (upd H p (.lst (signsV x)))
theorem vals_signs {x : Str} {acc : Array Value} (h : ItemsOf (SignAt x) acc x.cps.size) : Vals (signsV x) acc.toList := by
  obtain ⟨sz, items⟩ := h
  have key : ∀ (cs : List Nat) (vs : List Value), cs.length = vs.length → (∀ (j : Nat) (v : Value), vs[j]? = some v → ∃ c u, cs[j]? = some c ∧ v = Value.str ⟨#[c]⟩ u) → Vals (cs.map fun c => V.str ⟨#[c]⟩) vs := fun cs => by
    induction cs with
    | nil =>
      intro vs l _
      cases vs with
      | nil => exact .nil
      | cons v vs => cases l
    | cons c cs ih =>
      intro vs l it
      cases vs with
      | nil => cases l
      | cons v vs =>
        obtain ⟨c', u, e, rfl⟩ := it 0 v rfl
        cases e
        exact .cons ⟨u, rfl⟩ (ih vs (Nat.succ.inj l) fun j w e => it (j + 1) w e)
  refine key (TL.tl x) acc.toList ?_ fun j v e => ?_
  · show x.cps.toList.length = _
    rw [Array.length_toList, Array.length_toList, sz]
  · obtain ⟨c, u, e2, e3⟩ := items j v (by rw [← Array.getElem?_toList]; exact e)
    exact ⟨c, u, by show x.cps.toList[j]? = some c; rw [Array.getElem?_toList]; exact e2, e3⟩
theorem call_listStr {X : Cx} (hc : X.calm = true) : CallR X (.type "list") rListStr := by
  intro pins s σ H xs us Q I r h
  obtain ⟨x, rfl, hl, q⟩ := h
  obtain ⟨u, rfl, t, rfl⟩ := vals1 r
  refine PySem.call_list_str (I.ok.hd hc) x t (fun h' tk acc' c' keep got items => ?_) hl
  have free : H s.heap.objs.size = none := I.hok.fresh (Nat.le_refl _)
  have len : (signsV x).length ≤ sizeLine := by
    unfold signsV
    rw [List.length_map, ← TL.len_tl]
    exact hl
  refine ⟨.ref s.heap.objs.size, upd H s.heap.objs.size (.lst (signsV x)), ?_, rfl, q _ free⟩
  exact I.call (ch := []) (Un.laid keep (Nat.le_refl _) free) (I.hok.laid keep (Nat.le_refl _) ⟨len, acc'.toList, c', vals_signs items, by rw [Array.toArray_toList]; exact got⟩) I.bare (fun _ z => nomatch z)
end Sq
set_option Elab.async false
set_option linter.all false
set_option maxRecDepth 100000
set_option maxHeartbeats 2000000
/-! Code that leaves one cell of the frame as it is, to the token of its text: for str.replace. -/
namespace Sq
open PySem PySem.Spec PyProof.Rows L2 GenW
/-- the object at c is as it was -/
def Kc (c : Addr) (s s' : Shared) : Prop := ∀ o, s.heap.get? c = some o → s'.heap.get? c = some o
theorem Kc.refl {c : Addr} {s : Shared} : Kc c s s := fun _ e => e
theorem Kc.trans {c : Addr} {s s1 s2 : Shared} (a : Kc c s s1) (b : Kc c s1 s2) : Kc c s s2 := fun o e => b o (a o e)
/-- c is the cell of a name of the def's own -/
structure Cel (X : Cx) (y : Str) (c : Addr) : Prop where
  is : X.env.cells.lookup y = some c
  own : X.fn y = true
section
variable {X : Cx} {y : Str} {c : Addr} {pins : List (Addr × Obj)} {σ : L2.St} {H H' : Hp} {s s' : Shared}
theorem Cel.free (C : Cel X y c) (I : Inv X pins σ H s) : H c = none := I.freeC _ _ C.is
theorem Cel.nofs (C : Cel X y c) (I : Inv X pins σ H s) : c ∉ X.fs := fun hb => by
  obtain ⟨_, o, ho, _⟩ := I.ok.funs.mem hb
  exact absurd (Nat.lt_of_lt_of_le (Heap.lt_size ho) (I.ok.cab _ _ C.own C.is)) (Nat.lt_irrefl _)
theorem Cel.nostk (C : Cel X y c) (I : Inv X pins σ H s) : c ∉ frs X.stack := by
  rcases I.ok.stk with e | ⟨e, fr⟩
  · rw [e]
    exact C.nofs I
  · rw [e]
    intro h
    obtain ⟨en, hm, hf⟩ := List.mem_filterMap.mp h
    rcases List.mem_cons.mp hm with z | z
    · rw [z, fr] at hf
      exact I.cne _ _ C.is (Option.some.inj hf).symm
    · exact C.nofs I (List.mem_filterMap.mpr ⟨en, z, hf⟩)
theorem Cel.un (C : Cel X y c) (I : Inv X pins σ H s) (u : Un (frs X.stack) [] H H' s.heap s'.heap) : Kc c s s' := fun o e => u.keep c o e (C.free I) (C.nostk I) (by simp)
end
structure JE (X : Cx) (c : Addr) (e : Expr) (t : TE) : Prop where
  run : ∀ (pins : List (Addr × Obj)) (s : Shared) (σ : L2.St) (H : Hp) (Q : VK), Inv X pins σ H s → t σ H Q → wpAny (model X.prog X.w) X.A (eval e X.env) (fun u s' => Kc c s s' ∧ EP X pins σ Q u s') X.xe s
structure JA (X : Cx) (c : Addr) (es : List Expr) (t : TA) : Prop where
  run : ∀ (pos : Pos) (pins : List (Addr × Obj)) (s : Shared) (σ : L2.St) (H : Hp) (Q : List V → Hp → Prop), Inv X pins σ H s → t σ H Q → wpAny (model X.prog X.w) X.A (spliced (backTo pos (starEach es X.env))) (fun us s' => Kc c s s' ∧ AP X pins σ Q us s') X.xe s
structure JSt (X : Cx) (c : Addr) (st : Stmt) (t : TS) : Prop where
  run : ∀ (pins : List (Addr × Obj)) (s : Shared) (σ : L2.St) (H : Hp) (D : Ends), Inv X pins σ H s → t D σ H → wpAny (model X.prog X.w) X.A (exec st X.env) (fun f s' => Kc c s s' ∧ SP X pins D f s') X.xe s
def CallJ (X : Cx) (c : Addr) (f : Value) (r : List V → Hp → VK → Prop) : Prop := ∀ (pins : List (Addr × Obj)) (s : Shared) (σ : L2.St) (H : Hp) (vs : List V) (us : List Value) (Q : VK), Inv X pins σ H s → Vals vs us → r vs H Q → wpAny (model X.prog X.w) X.A (call f us) (fun u s' => Kc c s s' ∧ EP X pins σ Q u s') X.xe s
section
variable {X : Cx} {y : Str} {c : Addr} {pins : List (Addr × Obj)} {σ : L2.St} {H : Hp} {s : Shared} {x : Str} {p pos : Pos} {e : Expr} {es : List Expr} {te : TE} {t : TA}
/-! ### expressions -/
theorem je_var {i : Nat} (hN : X.N[i]? = some x) (hv : Vis X.env.scope x) (hd : (x == ("__debug__" : Str)) = false := by decide) (hcd : (x == ("__classdict__" : Str)) = false := by decide) : JE X c (.Name x pos) (tVar i) :=
  ⟨fun pins s σ H Q I h => by
    obtain ⟨v, e, q⟩ := h
    exact raw_name hN hv I e (fun u r => ⟨Kc.refl, v, H, I, r, q⟩) hd hcd⟩
theorem jv (i : Nat) (hN : X.N[i]? = some x := by rfl) (hv : Vis X.env.scope x := by first | exact Or.inl rfl | exact Or.inr (Or.inl rfl) | exact Or.inr (Or.inr rfl)) (hd : (x == ("__debug__" : Str)) = false := by decide)
    (hcd : (x == ("__classdict__" : Str)) = false := by decide) : JE X c (.Name x pos) (tVar i) := je_var hN hv hd hcd
theorem ja_nil : JA X c [] tNil := ⟨fun pos pins s σ H Q I h => Calls.spliced_nil ⟨Kc.refl, [], H, I, .nil, h⟩⟩
theorem ja_cons (ha : JE X c e te) (hr : JA X c es t) (hs : starEach (e :: es) X.env = (false, eval e X.env) :: starEach es X.env := by rfl) : JA X c (e :: es) (tCons te t) := by
  refine ⟨fun pos pins s σ H Q I h => ?_⟩
  rw [hs]
  show wpAny _ _ (spliced ((false, eval e X.env) :: backTo pos (starEach es X.env))) _ _ s
  refine Calls.spliced_cons (thn (ha.run pins s σ H _ I h) fun u s1 hh => ?_)
  obtain ⟨g1, x, H1, I1, r1, q1⟩ := hh
  exact thn (hr.run pos pins s1 σ H1 _ I1 q1) fun us s2 ⟨g2, xs, H2, I2, r2, q2⟩ => ⟨g1.trans g2, x :: xs, H2, I2, .cons r1 r2, q2⟩
theorem run_fnJ {CX : CXT} {k : Nat} {f : Addr} {fd : FuncData} {ps : List Str} {sp : Sp} {dvs : List V} {ds : List Value} {E : XK} {Q : VK} {us : List Value} {vs : List V} (C : Cel X y c) (F : FnOk X.prog X.w X.K X.mg X.base CX k f fd ps sp) (hr : Room k X.A) (hb : Binds X.K fd ps ds) (hd : Vals dvs ds) (hx : Passes CX X E)
    (I : Inv X pins σ H s) (r : Vals vs us) (h : sp (vs ++ dvs) H Q E) : wpAny (model X.prog X.w) X.A (call (.ref f) us) (fun u s' => Kc c s s' ∧ EP X pins σ Q u s') X.xe s := by
  have r2 : Vals (vs ++ dvs) (us ++ ds) := r.append hd
  have hl : (us ++ ds).length = ps.length := by rw [← r2.length]; exact F.len _ _ _ _ h
  refine wpAny_call (codeAny_mono (F.run X.A X.stack s H ⟨us, []⟩ (us ++ ds) (vs ++ dvs) Q E hr I.env0 (hb s us I.kIn hl) r2 h) fun r s' hq => ?_)
  match r, hq with
  | .error e, hq => exact hx pins σ H s e s' I hq
  | .ok (.ret u), hq =>
    have ce : CE X.stack X.prog X.w H s Q u s' := hq
    obtain ⟨_, _, _, _, un, _⟩ := id ce
    exact ⟨C.un I un, I.after ce⟩
  | .ok .next, hq => exact False.elim hq
  | .ok .brk, hq => exact False.elim hq
  | .ok .cont, hq => exact False.elim hq
theorem je_call {CX : CXT} {k : Nat} {f : Addr} {fd : FuncData} {ps : List Str} {sp : Sp} {dvs : List V} {ds : List Value} {E : XK} (C : Cel X y c) (F : FnOk X.prog X.w X.K X.mg X.base CX k f fd ps sp) (hr : Room k X.A) (hg : Gl X x) (hm : X.mg x = some (.ref f)) (hk : PySem.W.keepIn X.K (.ref f) = true) (hb : Binds X.K fd ps ds) (hd : Vals dvs ds) (hx : Passes CX X E)
    (ha : JA X c (e :: es) t) (hdb : (x == ("__debug__" : Str)) = false := by decide) (he : starEach (e :: es) X.env = (false, eval e X.env) :: starEach es X.env := by rfl) (hpl : (backTo pos (starEach es X.env)).any (·.1) = false := by rfl) :
    JE X c (.Call (.Name x p) (e :: es) [] pos) (tCall sp dvs E t) := by
  refine ⟨fun pins s σ H Q I h => ?_⟩
  refine wpAny_Call_Name_kw (ld_glob I hg hm ?_ hdb)
  refine PySem.W.callWith_K (h₀ := X.base) I.ok.mod.kin hk (thn (ha.run pos pins s σ H _ I h) fun us s1 hh => ?_) he hpl
  obtain ⟨g1, vs, H1, I1, r, q⟩ := hh
  exact ⟨I1.kIn, thn (run_fnJ C F hr hb hd hx I1 r q) fun u s2 ⟨g2, q2⟩ => ⟨g1.trans g2, q2⟩⟩
theorem je_callD {k : Nat} {ps : List Str} {sp : Sp} (C : Cel X y c) (D : Df X.prog X.w X.K X.mg X.base k x ps sp) (hr : Room k X.A) (hg : Gl X x) (ha : JA X c (e :: es) t) (hdb : (x == ("__debug__" : Str)) = false := by decide)
    (he : starEach (e :: es) X.env = (false, eval e X.env) :: starEach es X.env := by rfl) (hpl : (backTo pos (starEach es X.env)).any (·.1) = false := by rfl) : JE X c (.Call (.Name x p) (e :: es) [] pos) (tCall sp [] E0 t) := by
  obtain ⟨f, fd, F, g, kp, b⟩ := D.ex
  exact je_call C F hr hg g kp b .nil pass0 ha hdb he hpl
theorem je_callB {id : String} {r : List V → Hp → VK → Prop} (hc : CallJ X c (.builtin id) r) (hg : Gl X x) (hm : X.mg x = none) (hv : bootBuiltins x = some (.builtin id)) (ha : JA X c (e :: es) t) (hn : x ≠ "__name__" := by decide) (hdb : (x == ("__debug__" : Str)) = false := by decide)
    (he : starEach (e :: es) X.env = (false, eval e X.env) :: starEach es X.env := by rfl) (hpl : (backTo pos (starEach es X.env)).any (·.1) = false := by rfl) : JE X c (.Call (.Name x p) (e :: es) [] pos) (tCB r t) := by
  refine ⟨fun pins s σ H Q I h => ?_⟩
  refine wpAny_Call_Name_kw (ld_blt I hg hm hv ?_ hn hdb)
  refine PyProof.Rows.callWith_builtin1 (thn (ha.run pos pins s σ H _ I h) fun us s1 hh => ?_) he hpl
  obtain ⟨g1, vs, H1, I1, r1, q1⟩ := hh
  exact thn (hc pins s1 σ H1 vs us Q I1 r1 q1) fun u s2 ⟨g2, q2⟩ => ⟨g1.trans g2, q2⟩
theorem cj_sortedSetI (hc : X.calm = true) : CallJ X c (.builtin "sorted") (rSortedSetI X.w) := by
  intro pins s σ H vs us Q I r h
  obtain ⟨a, S, n, rfl, ha, few, q⟩ := h
  rw [Vals.ref1 r]
  refine set_sorted (setO_get I ha) (I.ok.hd hc) few fun s' p got ep ns kept g os lp hg areI up mem len => ?_
  have free : H p = none := I.hok.fresh lp
  have sz : (ns.map V.int).length ≤ sizeLine := by
    rw [List.length_map]
    omega
  have same : s' = { s with heap := s'.heap, gens := s'.gens, drawn := s'.drawn, toks := s'.toks } := by
    cases s'
    cases s
    cases os
    rfl
  rw [same]
  exact ⟨fun o e => kept _ _ e, .ref p, upd H p (.lst (ns.map V.int)), I.call (ch := []) (Un.laid kept lp free) (I.hok.laid kept lp ⟨sz, got, ep, vals_of_ints areI, hg⟩) (by rw [g]; exact I.bare) (fun _ z => nomatch z), rfl, q ns p up mem len free⟩
/-! ### statements -/
theorem jst_expr (he : JE X c e te) (hs : swapsWith e none pos.line X.env = pure false := by rfl) : JSt X c (.Expr e pos) (tDrop te) := by
  refine ⟨fun pins s σ H D I h => ?_⟩
  refine wpAny_Expr_any (thn (he.run pins s σ H _ I h) fun v s1 hh => ?_) I.quiet hs
  obtain ⟨g1, x, H1, I1, r1, q1⟩ := hh
  exact ⟨g1, σ, H1, I1, q1⟩
theorem jst_set {i : Nat} {pos' : Pos} (C : Cel X y c) (ne : x ≠ y) (hN : X.N.Nodup) (hi : X.N[i]? = some x) (hx : Loc X.env.scope x) (he : JE X c e te) (hs : swapsWith e (some (.Name x pos')) pos.line X.env = pure false := by rfl) (hf : X.fn x = true ∨ X.env.scope.names.lookup x = some .local := by first | exact .inl rfl | exact .inr rfl | assumption) :
    JSt X c (.Assign [.Name x pos'] e pos) (tAsg te (gName i)) := by
  refine ⟨fun pins s σ H D I h => ?_⟩
  refine wpAny_Assign_Name (thn (he.run pins s σ H _ I h) fun v s1 hh => ?_) hs
  obtain ⟨g1, z, H1, I1, r1, q1⟩ := hh
  refine store_ok2 I1 hN hi hx r1 (fun s2 I2 hh => ?_) hf
  obtain ⟨a, sb, ha⟩ := hh
  have ca : c ≠ a := fun z => by
    rcases ha with ha | ha
    · exact I1.cne _ _ C.is (z.trans ha)
    · rw [← z] at ha
      exact ne (I1.ok.inj _ _ _ ha C.is)
  exact ⟨g1.trans fun o e => (sb.2 c ca).trans e, _, H1, I2, q1⟩
end
end Sq
set_option Elab.async false
set_option linter.all false
set_option maxRecDepth 100000
set_option maxHeartbeats 4000000
/-! More code that leaves one cell as it is: a dict comprehension with one for, set(l), list(x). -/
namespace Sq
open PySem PySem.Spec PyProof.Rows L2 GenW
section
variable {X : Cx}
/-- where a loop's items come from -/
structure JI (X : Cx) (c : Addr) (tg iter : Expr) (wi : TI) : Prop where
  run : ∀ (pins : List (Addr × Obj)) (s : Shared) (σ : L2.St) (H : Hp) (R : It → Hp → Prop), Inv X pins σ H s → wi σ H R →
    wpAny (model X.prog X.w) X.A (eval iter X.env) (fun v s1 => wpAny (model X.prog X.w) X.A (pyIter v) (fun u s2 => Kc c s s2 ∧ PIE X pins σ tg R u s2) X.xe s1) X.xe s
theorem ji_list {c : Addr} {tg l : Expr} {tl : TE} (hl : JE X c l tl) : JI X c tg l (iList X.K tl) := by
  refine ⟨fun pins s σ H R I h => ?_⟩
  refine thn (hl.run pins s σ H _ I h) fun v s1 hh => ?_
  obtain ⟨g1, x, H1, I1, r1, a, e, ⟨xs, hq⟩, q⟩ := hh
  subst e
  cases r1
  obtain ⟨its, rv, p, hz⟩ := I1.list hq
  refine wpAny_pyIter_list p.isList ⟨g1.trans fun o e => Heap.get?_push_of_some _ e, ?_⟩
  have lo : s1.heap.objs.size ≤ s1.heap.objs.size := Nat.le_refl _
  refine ⟨s1.heap.objs.size, [s1.heap.objs.size], _, _, H1, rfl, I1.kept (t' := s1.toks) fun b o e => Heap.get?_push_of_some _ e, turn_list a _, ⟨_, Heap.get?_push_size _ rfl, rfl, rfl⟩, fun b hb => ?_, q⟩
  rw [List.mem_singleton.mp hb]
  exact I1.fpOk lo (I1.hok.fresh lo)
theorem dcJ_core {y0 : Str} {c0 : Addr} (Ce : Cel X y0 c0) {pins : List (Addr × Obj)} {s : Shared} {σ : L2.St} {H : Hp} {Q : VK} {elt eltv tg iter : Expr} {ifs : List Expr} {scope : Scope} {own : List (Str × Nat)} {pos pos' : Pos} {wi : TI} {g : TG} {tt : TT} {te tf : TE} {use : Option (Value → Sem Unit)} {Qf : Value → Shared → Prop}
    (mood : X.calm = true) (nodupN : X.N.Nodup) (I : Inv X pins σ H s) (sourceA : JI X c0 tg iter wi) (ok : BlkOk X.N X.env.scope scope own)
    (targetA : ∀ (s : Shared) (H : Hp) (C : Addr) (cl : List (Str × Addr)) (fp : List Addr), PG (X.blk s H scope (compEnvC scope cl C X.env) fp) tg g) (testsA : ∀ (s : Shared) (H : Hp) (C : Addr) (cl : List (Str × Addr)) (fp : List Addr), PTs (X.blk s H scope (compEnvC scope cl C X.env) fp) ifs tt)
    (elemA : ∀ (s : Shared) (H : Hp) (C : Addr) (cl : List (Str × Addr)) (fp : List Addr), PE (X.blk s H scope (compEnvC scope cl C X.env) fp) elt te)
    (valA : ∀ (s : Shared) (H : Hp) (C : Addr) (cl : List (Str × Addr)) (fp : List Addr), PE (X.blk s H scope (compEnvC scope cl C X.env) fp) eltv tf) (plainA : ∀ x, foldedSetIterable iter X.env x = pure x)
    (h : tDc wi g tt te tf (own.map (·.2)) σ H Q)
    (back : ∀ D C s' m H', Kc c0 s s' → Inv X pins σ H' s' → Q (.ref D) H' → s'.heap.Ns C m → FpOk X pins H' C → compPost (model X.prog X.w) X.A X.xe use Qf (.ref D) C (.ok .next) s') :
    wpAny (model X.prog X.w) X.A (comprehension (.DictComp elt eltv [⟨tg, iter, ifs, 0⟩] scope pos) scope X.env pos' newDict false (eval iter X.env) use) Qf X.xe s := by
  have captured : ∀ y ∈ scope.names, y.2 = .free → ∃ c, X.env.cells.lookup y.1 = some c := fun y hy e => by
    rcases ok.free y hy e with k | k
    · exact I.ok.has _ (.inl k)
    · exact I.ok.has _ (.inr k)
  refine wpAny_comprehension_free (use := use) rfl plainA (closure_ok captured) ok.kind (fun y hy e => by rw [ok.uniq y hy, e])
    (thn (sourceA.run pins s σ H _ I h) fun srcV sA gotX => thn gotX fun itV sB hB2 => ?_)
  obtain ⟨kB, h2⟩ := hB2
  obtain ⟨it, fp, tn, J, HB, e, I2, T, st2, f2, q⟩ := h2
  subst e
  refine wpAny_newObj_type (newEnv_comp ?_)
  generalize atD : sB.heap.objs.size = D
  have freshD : HB D = none := I2.hok.fresh (Nat.le_of_eq atD)
  obtain ⟨W, ⟨mes0, inv0⟩, walk0⟩ := q D freshD
  -- the new dict
  generalize laid3 : ({ sB with heap := sB.heap.push { cls := .type "dict", data := .dict #[] } } : Shared) = sC
  have J3 : Inv X pins σ (upd HB D (.dK [])) sC := by
    rw [← laid3]
    refine I2.laid (t' := sB.toks) (fun b o e => Heap.get?_push_of_some _ e) (Nat.le_of_eq atD) ?_
    rw [← atD]
    exact dk_empty sB.heap I2.big
  have heap3 : sC.heap = sB.heap.push { cls := .type "dict", data := .dict #[] } := by rw [← laid3]
  have below : ∀ b ∈ fp, b < sB.heap.objs.size := fun b hb => by
    obtain ⟨o, e, _⟩ := T.obj _ _ st2 b hb
    exact Heap.lt_size e
  have roam3 : ∀ b ∈ fp, FpOk X pins (upd HB D (.dK [])) b ∧ b < sC.heap.objs.size := fun b hb => by
    have hlt := below b hb
    refine ⟨⟨?_, (f2 b hb).2⟩, by rw [heap3, Heap.size_push]; exact Nat.lt_succ_of_lt hlt⟩
    rw [upd_ne (by rw [← atD]; exact Nat.ne_of_lt hlt)]
    exact (f2 b hb).1
  have turn3 : tn 0 sC.heap := T.keep _ _ _ st2 fun b _ o e => by rw [heap3]; exact Heap.get?_push_of_some _ e
  have J4 := block_start J3 ok nodupN roam3
  have tgt := targetA sC (upd HB D (.dK [])) sC.heap.objs.size (cellsFrom (sC.heap.objs.size + 1) scope.names (cloFrom X.env.cells scope.names [])) fp
  have elv := valA sC (upd HB D (.dK [])) sC.heap.objs.size (cellsFrom (sC.heap.objs.size + 1) scope.names (cloFrom X.env.cells scope.names [])) fp
  have tst := testsA sC (upd HB D (.dK [])) sC.heap.objs.size (cellsFrom (sC.heap.objs.size + 1) scope.names (cloFrom X.env.cells scope.names [])) fp
  have elm := elemA sC (upd HB D (.dK [])) sC.heap.objs.size (cellsFrom (sC.heap.objs.size + 1) scope.names (cloFrom X.env.cells scope.names [])) fp
  show codeAny _ _ (.compStart (.DictComp elt eltv [⟨tg, iter, ifs, 0⟩] scope pos) 0 (.ref it) (.ref D) (compEnvC scope (cellsFrom (sC.heap.objs.size + 1) scope.names (cloFrom X.env.cells scope.names [])) sC.heap.objs.size X.env)) (compPost (model X.prog X.w) X.A X.xe use Qf (.ref D) sC.heap.objs.size) { sC with heap := pushCells (sC.heap.push { cls := .type "dict", data := .dict #[] }) scope.names }
  have untr : ∀ b ∈ fp, (upd HB D (.dK [])) b = none := fun b hb => (roam3 b hb).1.1
  generalize blkE : compEnvC scope (cellsFrom (sC.heap.objs.size + 1) scope.names (cloFrom X.env.cells scope.names [])) sC.heap.objs.size X.env = ce at J4 tgt tst elm elv ⊢
  have locE : ce.locals = sC.heap.objs.size := by subst blkE; rfl
  generalize heapE : upd HB D (.dK []) = HC at J3 J4 tgt tst elm elv inv0 untr roam3
  generalize laid4 : ({ sC with heap := pushCells (sC.heap.push { cls := .type "dict", data := .dict #[] }) scope.names } : Shared) = sD at J4 ⊢
  have turn4 : tn 0 sD.heap := T.keep _ _ _ turn3 fun b _ o e => by rw [← laid4]; exact pushCells_keeps _ _ _ _ (Heap.get?_push_of_some _ e)
  have roams : ∀ {σ' : L2.St} {H' : Hp} {s' : Shared}, Inv (X.blk sC HC scope ce fp) [] σ' H' s' → (∀ b ∈ fp, H' b = none) → ∀ b ∈ fp, FpOk (X.blk sC HC scope ce fp) [] H' b := fun {σ' H' s'} I' nsC b hb =>
    ⟨nsC b hb, (I'.ok.exf b hb).1, I'.ok.exfs b hb, .inl hb, fun x c e => (I'.ok.exf b hb).2 x c e, fun p hp => absurd (show p ∈ ([] : List (Addr × Obj)) ++ [] from hp) (by simp)⟩
  have outer0 : codeAny (model X.prog X.w) X.A (.compLoop (.DictComp elt eltv [⟨tg, iter, ifs, 0⟩] scope pos) 0 (.ref it) (.ref D) ce) (compPost (model X.prog X.w) X.A X.xe use Qf (.ref D) sC.heap.objs.size) sD := by
    refine compLoop_anyD (fun n s' => ∃ i H', Inv (X.blk sC HC scope ce fp) [] (wipe σ (own.map (·.2))) H' s' ∧ tn i s'.heap ∧ (∀ b ∈ fp, H' b = none) ∧ W i n H') ?_ mes0 ⟨0, HC, J4, turn4, untr, inv0⟩
    rintro n sE ⟨i, HE, J5, turn5, un5, inv5⟩
    rcases walk0 i n HE inv5 with ⟨atEnd, done0⟩ | ⟨more, NxA, reach, body0⟩
    · have ended := T.done (X.blk sC HC scope ce fp) rfl rfl rfl mood i [] sE _ HE (fun _ _ => False) J5 (roams J5 un5) turn5 atEnd
      refine thnF ended fun r sF ⟨hr, J6⟩ => ?_
      subst hr
      have J7 : Inv X pins σ HE sF := J3.call' (ch := fp) J6.os J6.base J6.hok J6.bare fun b hb => ⟨(roam3 b hb).1.2.2.2.1, (roam3 b hb).1.2.1, (roam3 b hb).1.2.2.2.2.1, (roam3 b hb).1.2.2.2.2.2⟩
      have freeC : HE sC.heap.objs.size = none := by
        have z : HE ce.locals = none := J6.free
        rw [locE] at z
        exact z
      obtain ⟨m, nsC, _⟩ := J6.loc
      have nsC : sF.heap.Ns ce.locals m := nsC
      rw [locE] at nsC
      have kAll : Kc c0 s sF := fun o eo => by
        have e3 : sC.heap.get? c0 = some o := by
          rw [heap3]
          exact Heap.get?_push_of_some _ (kB o eo)
        refine J6.base.keep c0 o e3 (Ce.free J3) (Ce.nostk J3) fun hb => ?_
        exact (roam3 c0 hb).1.2.2.2.2.1 _ _ Ce.is rfl
      exact back D sC.heap.objs.size sF m HE kAll J7 done0 nsC (J3.fpOk (Nat.le_refl _) freeC)
    · have given := T.item (X.blk sC HC scope ce fp) rfl rfl rfl mood i [] sE _ HE (fun _ _ => False) J5 (roams J5 un5) turn5 more
      refine thnF given fun r sF ⟨u, hr, got6⟩ => ?_
      subst hr
      refine thnF got6 fun _ sG ⟨x, HG, J7, rel7, yld7, turn7, un7⟩ => ?_
      have J7p := J7.pinned (roams J7 un7) (T.obj _ _ turn7)
      refine thnF (tgt.run _ sG _ HG x u _ J7p rel7 (body0 x HG yld7)) fun _ sH ⟨τ, HH, J8, wip8, go8⟩ => ?_
      refine thnF (tst.run _ sH τ HH _ J8 go8) fun b sI ⟨HI, J9, go9⟩ => ?_
      have close : ∀ {s' : Shared} {H' : Hp}, Inv (X.blk sC HC scope ce fp) ([] ++ pinsAt fp sG.heap) τ H' s' → NxA H' →
          ∃ m, m < n ∧ ∃ i H', Inv (X.blk sC HC scope ce fp) [] (wipe σ (own.map (·.2))) H' s' ∧ tn i s'.heap ∧ (∀ b ∈ fp, H' b = none) ∧ W i m H' := fun {s' H'} I' nextW => by
        obtain ⟨m', lessM, invM⟩ := reach H' nextW
        have kept : ∀ b ∈ fp, ∀ o, sG.heap.get? b = some o → s'.heap.get? b = some o ∧ H' b = none := fun b hb o e =>
          let z := I'.pin (b, o) (List.mem_append_right _ (List.mem_append_right _ (mem_pinsAt hb e)))
          ⟨z.1, z.2.1⟩
        refine ⟨m', lessM, i + 1, H', (I'.unpinned (pins := [])).weak (by rw [← wip8, wipe_length]) (fun j v e => by rw [← wip8] at e; exact (wipe_some e).1), T.keep _ _ _ turn7 fun b hb o e => (kept b hb o e).1, fun b hb => ?_, invM⟩
        obtain ⟨o, e, _⟩ := T.obj _ _ turn7 b hb
        exact (kept b hb o e).2
      cases b with
      | false =>
        simp only [Bool.false_eq_true, if_false] at go9 ⊢
        exact close J9 go9
      | true =>
        simp only [if_true] at go9 ⊢
        refine thnF (elm.run _ sI τ HI _ J9 go9) fun z sQ ⟨yv, HQ, J17, rel17, go17⟩ => ?_
        refine thnF (elv.run _ sQ τ HQ _ J17 go17) fun z2 sR ⟨yw, HR, J18, rel18, kvs, kk, ey, acc18, room18, nextW⟩ => ?_
        subst ey
        exact d_dictSet (X := X.blk sC HC scope ce fp) J18 acc18 room18 rel17 rel18 fun sS J19 => close J19 nextW
  exact codeAny_compStart_dict outer0 (T.self X.A 0 _ _ _ turn4 outer0)
/-- as a value -/
theorem je_dc {y0 : Str} {c0 : Addr} (Ce : Cel X y0 c0) {elt eltv tg iter : Expr} {ifs : List Expr} {scope : Scope} {own : List (Str × Nat)} {pos : Pos} {wi : TI} {g : TG} {tt : TT} {te tf : TE} (mood : X.calm = true) (nodupN : X.N.Nodup) (sourceA : JI X c0 tg iter wi) (ok : BlkOk X.N X.env.scope scope own)
    (targetA : ∀ (s : Shared) (H : Hp) (C : Addr) (cl : List (Str × Addr)) (fp : List Addr), PG (X.blk s H scope (compEnvC scope cl C X.env) fp) tg g) (testsA : ∀ (s : Shared) (H : Hp) (C : Addr) (cl : List (Str × Addr)) (fp : List Addr), PTs (X.blk s H scope (compEnvC scope cl C X.env) fp) ifs tt)
    (elemA : ∀ (s : Shared) (H : Hp) (C : Addr) (cl : List (Str × Addr)) (fp : List Addr), PE (X.blk s H scope (compEnvC scope cl C X.env) fp) elt te)
    (valA : ∀ (s : Shared) (H : Hp) (C : Addr) (cl : List (Str × Addr)) (fp : List Addr), PE (X.blk s H scope (compEnvC scope cl C X.env) fp) eltv tf) (plainA : ∀ x, foldedSetIterable iter X.env x = pure x := by intro _; rfl) :
    JE X c0 (.DictComp elt eltv [⟨tg, iter, ifs, 0⟩] scope pos) (tDc wi g tt te tf (own.map (·.2))) := by
  refine ⟨fun pins s σ H Q I h => ?_⟩
  rw [arm_eval_DictComp]
  refine dcJ_core Ce mood nodupN I sourceA ok targetA testsA elemA valA plainA h fun D C s' m H' kAll I' q nsC f => ⟨m, nsC, fun h'' sb => ?_⟩
  obtain ⟨f0, f1, f2, roam3, f4, f5⟩ := f
  have away : c0 ≠ C := f4 _ _ Ce.is
  exact ⟨kAll.trans fun o e => (sb.2 c0 away).trans e, .ref D, H', I'.turned (t' := s'.toks) (fun b o hb e => (sb.2 b hb).trans e) f0 f1 roam3 f4 f5, rfl, q⟩
theorem je_callTy {c : Addr} {T : String} {r : List V → Hp → VK → Prop} {x : Str} {p pos : Pos} {e : Expr} {es : List Expr} {t : TA} (hc : CallJ X c (.type T) r) (hg : Gl X x) (hm : X.mg x = none) (hv : bootBuiltins x = some (.type T)) (ha : JA X c (e :: es) t) (hn : x ≠ "__name__" := by decide) (hdb : (x == ("__debug__" : Str)) = false := by decide)
    (he : starEach (e :: es) X.env = (false, eval e X.env) :: starEach es X.env := by rfl) (hpl : (backTo pos (starEach es X.env)).any (·.1) = false := by rfl) : JE X c (.Call (.Name x p) (e :: es) [] pos) (tCB r t) := by
  refine ⟨fun pins s σ H Q I h => ?_⟩
  refine wpAny_Call_Name_kw (ld_blt I hg hm hv ?_ hn hdb)
  refine PyProof.Rows.callWith_type1 (thn (ha.run pos pins s σ H _ I h) fun us s1 hh => ?_) he hpl
  obtain ⟨g1, vs, H1, I1, r1, q1⟩ := hh
  exact thn (hc pins s1 σ H1 vs us Q I1 r1 q1) fun u s2 ⟨g2, q2⟩ => ⟨g1.trans g2, q2⟩
theorem cj_setL {c : Addr} (hc : X.calm = true) : CallJ X c (.type "set") (rSetL X.K X.w) := by
  intro pins s σ H vs us Q I r h
  obtain ⟨l, zs, rfl, hs, few, q⟩ := h
  rw [Vals.ref1 r]
  obtain ⟨its, rv, pl, _⟩ := I.list hs
  refine set_of_list (I.ok.hd hc) pl.isList (by simpa using ints_of_vals rv) (by unfold scanBound; omega) fun g tk m R lm kept => ?_
  have free : H s.heap.objs.size = none := I.hok.fresh (Nat.le_refl _)
  exact ⟨fun o e => kept _ _ e, .ref s.heap.objs.size, upd H s.heap.objs.size (SetO X.w s.heap.objs.size (fun j => decide (j ∈ zs)) m), I.laid kept (Nat.le_refl _) (setO_new R), rfl, q _ m free lm (setR_count R)⟩
end
end Sq
set_option Elab.async false
set_option linter.all false
set_option maxRecDepth 100000
set_option maxHeartbeats 4000000
/-! Code that knows what stands in one cell, to the token: text.replace(character, ''). -/
namespace Sq
open PySem PySem.Spec PyProof.Rows L2 GenW
theorem Kc.cell {c : Addr} {s s' : Shared} {v : Option Value} (k : Kc c s s') (h : s.heap.IsCell c v) : s'.heap.IsCell c v := by
  obtain ⟨o, e, d⟩ := h
  exact ⟨o, k o e, d⟩
structure JR (X : Cx) (c : Addr) (u0 : Value) (n : Nat) (e : Expr) (t : TE) : Prop where
  run : ∀ (pins : List (Addr × Obj)) (s : Shared) (σ : L2.St) (H : Hp) (Q : VK), Inv X pins σ H s → n ≤ s.toks → s.heap.IsCell c (some u0) → t σ H Q → wpAny (model X.prog X.w) X.A (eval e X.env) (EP X pins σ Q) X.xe s
structure JRs (X : Cx) (c : Addr) (u0 : Value) (n : Nat) (sts : List Stmt) (t : TS) : Prop where
  run : ∀ (pins : List (Addr × Obj)) (s : Shared) (σ : L2.St) (H : Hp) (D : Ends), Inv X pins σ H s → n ≤ s.toks → s.heap.IsCell c (some u0) → t D σ H → wpAny (model X.prog X.w) X.A (execs sts X.env) (SP X pins D) X.xe s
section
variable {X : Cx} {c : Addr} {u0 : Value} {n : Nat} {x y : Str} {p pos : Pos} {e e2 : Expr} {es : List Expr} {te tf : TE} {t : TA} {st : Stmt} {rest : List Stmt} {ts tr : TS}
theorem jrs_cons (h1 : JSt X c st ts) (h2 : JRs X c u0 n rest tr) : JRs X c u0 n (st :: rest) (tSeq ts tr) := by
  refine ⟨fun pins s σ H D I hn hc h => ?_⟩
  refine wpAny_execs_cons (wpAny_mono (PySem.wpAny_toks (h1.run pins s σ H { D with nx := tr D } I h)) (fun f s1 hh => ?_) fun _ _ z => z.2)
  obtain ⟨hk, kc, q⟩ := hh
  match f, q with
  | .next, ⟨σ', H', I', q⟩ => exact h2.run pins s1 σ' H' D I' (Nat.le_trans hn hk) (kc.cell hc) q
  | .ret v, q => exact q
  | .brk, q => exact q
  | .cont, q => exact q
/-- the last one that knows it: x = e, then what doesn't -/
theorem jrs_set {i : Nat} {pos' : Pos} (hN : X.N.Nodup) (hi : X.N[i]? = some x) (hx : Loc X.env.scope x) (he : JR X c u0 n e te) (h2 : PSs X rest tr) (hs : swapsWith e (some (.Name x pos')) pos.line X.env = pure false := by rfl) (hf : X.fn x = true ∨ X.env.scope.names.lookup x = some .local := by first | exact .inl rfl | exact .inr rfl | assumption) :
    JRs X c u0 n (.Assign [.Name x pos'] e pos :: rest) (tSeq (tAsg te (gName i)) tr) := by
  refine ⟨fun pins s σ H D I hn hc h => ?_⟩
  refine wpAny_execs_cons (wpAny_Assign_Name (thn (he.run pins s σ H _ I hn hc h) fun v s1 hh => ?_) hs)
  obtain ⟨z, H1, I1, r1, q1⟩ := hh
  exact store_ok I1 hN hi hx r1 (fun s2 I2 => h2.run pins s2 _ H1 D I2 q1) hf
theorem jr_op {op : Operator} {r : R2} (ho : OpR X (binaryOp op) r) (ha : JR X c u0 n e te) (hb : PE X e2 tf) : JR X c u0 n (.BinOp e op e2 pos) (tOp r te tf) := by
  refine ⟨fun pins s σ H Q I hn hc h => ?_⟩
  refine wpAny_BinOp (thn (ha.run pins s σ H _ I hn hc h) fun v s1 hh => ?_)
  obtain ⟨a, H1, I1, r1, q1⟩ := hh
  exact thn (hb.run pins s1 σ H1 _ I1 q1) fun u s2 ⟨b, H2, I2, r2, q2⟩ => ho pins s2 σ H2 a b v u Q I2 r1 r2 q2
/-- T(e) -/
theorem jr_callTy {T : String} {r : List V → Hp → VK → Prop} (hc : CallR X (.type T) r) (hg : Gl X x) (hm : X.mg x = none) (hv : bootBuiltins x = some (.type T)) (ha : JR X c u0 n e te) (hn : x ≠ "__name__" := by decide) (hdb : (x == ("__debug__" : Str)) = false := by decide)
    (he : starEach [e] X.env = (false, eval e X.env) :: starEach [] X.env := by rfl) (hpl : (backTo pos (starEach [] X.env)).any (·.1) = false := by rfl) : JR X c u0 n (.Call (.Name x p) [e] [] pos) (tCB r (tCons te tNil)) := by
  refine ⟨fun pins s σ H Q I hn' hcell h => ?_⟩
  refine wpAny_Call_Name_kw (ld_blt I hg hm hv ?_ hn hdb)
  refine PyProof.Rows.callWith_type1 ?_ he hpl
  rw [he]
  show wpAny _ _ (spliced ((false, eval e X.env) :: backTo pos (starEach [] X.env))) _ _ s
  refine Calls.spliced_cons (thn (ha.run pins s σ H _ I hn' hcell h) fun u s1 hh => ?_)
  obtain ⟨v, H1, I1, r1, q1⟩ := hh
  exact Calls.spliced_nil (hc pins s1 σ H1 [v] [u] Q I1 (.cons r1 .nil) q1)
/-- the name's own value, to the token -/
theorem raw_cell {pins : List (Addr × Obj)} {σ : L2.St} {H : Hp} {s : Shared} {Q E : Value → Shared → Prop} (I : Inv X pins σ H s) (hk : X.env.kindOf y = some .cell) (hc : X.env.cells.lookup y = some c) (hcell : s.heap.IsCell c (some u0)) (fin : Q u0 s)
    (hd : (y == ("__debug__" : Str)) = false := by decide) : wpAny (model X.prog X.w) X.A (eval (.Name y pos) X.env) Q E s :=
  wpAny_Name (wpAny_loadName_cell I.ok.kind hk hc hcell fin) hd
/-- text.replace(character, z): the text in a slot, the character in the cell, z written -/
def tRepJ (i : Nat) (b z : Str) : TE := fun σ H Q => ∃ a : Str, σ[i]? = some (some (.str a)) ∧ a.length + (a.length + 1) * z.length ≤ 16777216 ∧ Q (.str (Txt.replace a b z)) H
theorem jr_rep {i : Nat} {kx : Str} {b z : Str} {tb : Tok} {j : Nat} {p1 p2 c1 apos : Pos} (hN : X.N[i]? = some kx) (hv : Vis X.env.scope kx) (hk : X.env.kindOf y = some .cell) (hc : X.env.cells.lookup y = some c) (good : tb ≠ 0 ∧ tb < n) (hbz : (b == z) = false)
    (hd : (kx == ("__debug__" : Str)) = false := by decide) (hcd : (kx == ("__classdict__" : Str)) = false := by decide) (hdy : (y == ("__debug__" : Str)) = false := by decide)
    (hst : starEach [.Name y p2, .Constant (.str z) j c1] X.env = [(false, eval (.Name y p2) X.env), (false, eval (.Constant (.str z) j c1) X.env)] := by rfl)
    (hbase : attributeBase (.Name kx p1) "replace" X.env (eval (.Name kx p1) X.env) = eval (.Name kx p1) X.env := by rfl) (hline : (apos.endLine == pos.line) = true := by rfl) :
    JR X c (.str b tb) n (.Call (.Attribute (.Name kx p1) "replace" apos) [.Name y p2, .Constant (.str z) j c1] [] pos) (tRepJ i b z) := by
  refine ⟨fun pins s σ H Q I hn hcell h => ?_⟩
  obtain ⟨a, ha, few, q⟩ := h
  refine PySem.Call_method2 hbase hst hline (raw_name hN hv I ha (fun v r => ?_) hd hcd)
  obtain ⟨ta, e1⟩ := r
  subst e1
  refine ⟨"str", _, PySem.F.plainAttrs_str, PySem.F.slot_str_replace, PySem.F.type_str_replace, typeIs_str _ _ _, (fun _ e => nomatch e), Calls.callWith_builtin rfl (Calls.evalArgs_plain (Calls.spliced_cons (raw_cell I hk hc hcell ?_ hdy)))⟩
  refine Calls.spliced_cons (Calls.Constant_str (Calls.spliced_nil ?_))
  have g1 : tb ≠ 0 := good.1
  have g2 : tb < n := good.2
  exact PySem.SC.replace g1 (Nat.ne_of_gt (Nat.lt_of_lt_of_le (Nat.lt_of_le_of_lt (Nat.zero_le tb) g2) hn)) (Nat.ne_of_lt (Nat.lt_of_lt_of_le g2 hn)) hbz few fun t' k => ⟨.str (Txt.replace a b z), H, I.tok k, ⟨t', rfl⟩, q⟩
end
/-- a def whose promise needs one argument's token: it isn't 0 and was given out before -/
def Tkn (j : Nat) (us : List Value) (n : Nat) : Prop := ∀ b t, us[j]? = some (.str b t) → b.length = 1 → t ≠ 0 ∧ t < n
structure FnT (P : Program) (w : World) (K : PySem.W.Frag) (mg : Str → Option Value) (base : Heap) (k : Nat) (f : Addr) (fd : FuncData) (ps : List Str) (j : Nat) (sp : Sp) : Prop where
  len : ∀ vs H Q E, sp vs H Q E → vs.length = ps.length
  run : ∀ (A : Around) (outer : List Env) (s : Shared) (H : Hp) (args : Args) (us : List Value) (vs : List V) (Q : VK), Room k A → Env0 P w K mg base A outer s H → BindsTo s fd args (ps.zip us) → Vals vs us → Tkn j us s.toks → sp vs H Q E0 →
    codeAny (model P w) A (.call (.ref f) args) (fun r s' => match r with | .ok (.ret u) => CE outer P w H s Q u s' | _ => False) s
theorem fnt_of {P : Program} {w : World} {K : PySem.W.Frag} {mg : Str → Option Value} {base : Heap} {x qual y : Str} {st : Stmt} {f : Addr} {fd : FuncData} {N ps : List Str} {k j : Nat} {sp : Sp} (F : Fun K x qual st f fd) (S : FnScope N ps (defScope st)) (len : ∀ vs H Q E, sp vs H Q E → vs.length = ps.length)
    (hy : ps[j]? = some y) (hk : (defScope st).names.lookup y = some .cell)
    (walk : ∀ (cdv : Value) (A : Around) (outer : List Env) (s : Shared) (H : Hp) (us : List Value) (vs : List V) (Q : VK) (c : Addr) (u0 : Value), Room k (A.deeper (envOfC qual (defScope st) s.heap.objs.size f cdv)) → sp vs H Q E0 → Vals vs us → Tkn j us s.toks → us[j]? = some u0 → Cel (cxOf CX0 P w K mg base N qual (defScope st) f cdv A outer s H E0).nox y c →
      ∃ t, JRs (cxOf CX0 P w K mg base N qual (defScope st) f cdv A outer s H E0).nox c u0 s.toks (defBody st) t ∧ t { nx := fun _ H' => Q .non H', rt := Q } (L2.start N vs) H) : FnT P w K mg base (k + 1) f fd ps j sp := by
  obtain ⟨oc, od, kV, doc, pm, an, cdv, ct, osl, rfl, lk, hcd⟩ := F.ex
  refine ⟨len, fun A outer s H args us vs Q hr e0 hb r tkn hsp => ?_⟩
  have hl := len _ _ _ _ hsp
  have KX : K.In s.heap := e0.mod.kin.keeps fun b o e => (e0.bs b o e).1
  have lim : s.heap.NoLimit := e0.mod.nolimit.keeps fun b o e => (e0.bs b o e).1
  have hkind : ∀ y ∈ ps.zip us, (defScope st).names.lookup y.1 = some .local ∨ ((defScope st).names.lookup y.1 = some .cell ∧ ((cellsFrom (s.heap.objs.size + 1) (defScope st).names []).lookup y.1).isSome = true) := fun ⟨n, v⟩ hy =>
    (S.par n (List.of_mem_zip hy).1).elim .inl fun z => .inr ⟨z, PySem.W.cellsFrom_some _ _ _ (.inl z)⟩
  refine codeAny_call_function hr.depth (KX _ _ lk) rfl S.co S.gen rfl (PySem.W.codeRec_of KX hcd) (hb _ _ _ _ ?_)
  refine PySem.wpAny_with_toks (Nat.le_refl s.toks) (wpAny_newFunctionEnv_cells S.kind hkind fun env he s1 made toks1 => ?_)
  subst he
  refine ⟨lim.keeps made.toInCall.keep, codeAny_func ?_⟩
  obtain ⟨c, hc⟩ := cell_has (n := s.heap.objs.size + 1) hk
  have jl : j < ps.length := (List.getElem?_eq_some_iff.mp hy).1
  obtain ⟨u0, hu⟩ : ∃ u0, us[j]? = some u0 := ⟨us[j]'(by rw [← r.length, hl]; exact jl), List.getElem?_eq_getElem _⟩
  have ndP : ps.Nodup := by rw [← S.pre]; exact S.nd.sublist (List.take_sublist _ _)
  have at1 := made.cell y c hc
  rw [bindC_get ndP hy hu (by show (defScope st).names.lookup y ≠ _; rw [hk]; decide)] at at1
  obtain ⟨t, ht, hq⟩ := walk cdv A outer s H us vs Q c u0 (hr.deeper _) hsp r tkn hu ⟨hc, rfl⟩
  have I : Inv (cxOf CX0 P w K mg base N qual (defScope st) f cdv A outer s H E0).nox [] (start N vs) H s1 := (inv_start S hr.hd e0 hl r made).wish _
  refine wpAny_mono (ht.run [] s1 (start N vs) H _ I toks1 at1 hq) (fun fl s' hs => ?_) fun e s' hs => False.elim hs
  match fl, hs with
  | .ret u, ⟨v, σ', H', J, rv, q⟩ => exact ⟨v, H', J.os, J.bare, J.base, J.hok, rv, q⟩
  | .next, ⟨σ', H', J, q⟩ => exact ⟨V.non, H', J.os, J.bare, J.base, J.hok, rfl, q⟩
  | .brk, ⟨_, _, _, q⟩ => exact False.elim q
  | .cont, ⟨_, _, _, q⟩ => exact False.elim q
end Sq
set_option Elab.async false
set_option linter.all false
set_option maxRecDepth 100000
set_option maxHeartbeats 4000000
/-! for i, c in enumerate(text). -/
set_option Elab.async false
set_option linter.all false
set_option maxRecDepth 100000
set_option maxHeartbeats 4000000
/-! Code that keeps one cell and may use what stands in it: expressions, tests, statements. -/
namespace Sq
open PySem PySem.Spec PyProof.Rows L2 GenW
/-- the cell is kept, and n tokens were given out -/
def Kn2 (c : Addr) (n : Nat) (s s' : Shared) : Prop := Kc c s s' ∧ n ≤ s'.toks
theorem Kn2.trans {c : Addr} {n : Nat} {s s1 s2 : Shared} (a : Kn2 c n s s1) (b : Kn2 c n s1 s2) : Kn2 c n s s2 := ⟨a.1.trans b.1, b.2⟩
structure JKT (X : Cx) (c : Addr) (u0 : Value) (n : Nat) (e : Expr) (t : TT) : Prop where
  run : ∀ (pins : List (Addr × Obj)) (s : Shared) (σ : L2.St) (H : Hp) (Q : Bool → Hp → Prop), Inv X pins σ H s → n ≤ s.toks → s.heap.IsCell c (some u0) → t σ H Q → wpAny (model X.prog X.w) X.A (isTrue e X.env (eval e X.env)) (fun b s' => Kn2 c n s s' ∧ TP X pins σ Q b s') X.xe s
end Sq
set_option Elab.async false
set_option linter.all false
set_option maxRecDepth 100000
set_option maxHeartbeats 4000000
/-! Calls of a def whose promise needs one argument's token. -/
namespace Sq
open PySem PySem.Spec PyProof.Rows L2 GenW
structure DfT (P : Program) (w : World) (K : PySem.W.Frag) (mg : Str → Option Value) (base : Heap) (k : Nat) (x : Str) (ps : List Str) (j : Nat) (sp : Sp) : Prop where
  ex : ∃ f fd, FnT P w K mg base k f fd ps j sp ∧ mg x = some (.ref f) ∧ PySem.W.keepIn K (.ref f) = true ∧ Binds K fd ps []
end Sq
set_option Elab.async false
set_option linter.all false
set_option maxRecDepth 100000
set_option maxHeartbeats 4000000
/-! More code that keeps one cell: lists compared, repr, an item of a list, tests. -/
set_option Elab.async false
set_option linter.all false
set_option maxRecDepth 100000
set_option maxHeartbeats 4000000
/-! A name that is a cell is stored: what stands in the cell is known from then on. -/
namespace Sq
open PySem PySem.Spec PyProof.Rows L2 GenW
section
variable {X : Cx} {c : Addr} {n : Nat} {x : Str} {p pos : Pos} {e : Expr} {te : TE} {pins : List (Addr × Obj)} {σ : L2.St} {H : Hp} {s : Shared} {rest : List Stmt} {tr : TS}
theorem store_cellS {M : Model} {A : Around} {E : Value → Shared → Prop} {i : Nat} {v : V} {u : Value} {Q : Unit → Shared → Prop} (I : Inv X pins σ H s) (hN : X.N.Nodup) (hi : X.N[i]? = some x) (hk : X.env.kindOf x = some .cell) (C : Cel X x c) (r : RelV v u)
    (h : ∀ h', Inv X pins (σ.set i (some v)) H { s with heap := h' } → h'.IsCell c (some u) → Heap.SameBut c s.heap h' → Q () { s with heap := h' }) : wpAny M A (storeName X.env x u) Q E s := by
  obtain ⟨m, hn, hl⟩ := id I.loc
  have hiσ : i < σ.length := by rw [I.len]; exact (List.getElem?_eq_some_iff.mp hi).1
  obtain ⟨w0, old⟩ := I.cell x c C.is
  refine wpAny_storeName_cell I.ok.kind hk C.is old fun h' new sb => h h' ?_ new sb
  obtain ⟨oc, hoc, hod⟩ := id old
  have above : ∀ b o, X.s_0.heap.get? b = some o → b ≠ c := fun b o e => Nat.ne_of_lt (Nat.lt_of_lt_of_le (Heap.lt_size e) (I.ok.cab x c C.own C.is))
  have freeC := I.freeC x c C.is
  have loc2 : ∀ (j : Nat) (z : Str) (v' : V), X.N[j]? = some z → (σ.set i (some v))[j]? = some (some v') → Vis X.env.scope z → ∃ u', RelV v' u' ∧ Look X.env h' m z u' := fun j z v' e1 e2 e3 => by
    by_cases hj : j = i
    · subst hj
      rw [hi] at e1
      cases e1
      rw [List.getElem?_set_self hiσ] at e2
      cases e2
      exact ⟨u, r, .inr ⟨.inl hk, c, C.is, new⟩⟩
    · rw [List.getElem?_set_ne (Ne.symm hj)] at e2
      obtain ⟨u', r', q⟩ := hl j z v' e1 e2 e3
      rcases q with q | ⟨k, c2, e4, z4⟩
      · exact ⟨u', r', .inl q⟩
      · have away : c2 ≠ c := fun y => by
          rw [y] at e4
          exact hj (nodup_ix hN e1 (I.ok.inj _ _ _ e4 C.is ▸ hi))
        exact ⟨u', r', .inr ⟨k, c2, e4, z4.sameBut sb away⟩⟩
  refine ⟨I.ok, I.os, I.bare, ⟨fun b o e n hb hx => (sb.2 b (above b o e)).trans (I.base.keep b o e n hb hx), fun b o e n hb hx => ?_, I.base.free, fun b o e hx => ?_, I.base.tups, I.base.frzs, I.base.tbls⟩, ⟨m, hn.sameBut sb (Ne.symm (I.cne x c C.is)), loc2⟩, fun z c2 e => ?_, I.free, I.freeC, fun p hp => ?_, fun b ob e => ?_, by simpa using I.len⟩
  · obtain ⟨sl, e1⟩ := I.base.slot b o e n hb hx
    exact ⟨sl, (sb.2 b (above b o e)).trans e1⟩
  · obtain ⟨o2, e1⟩ := I.base.there b o e hx
    exact ⟨o2, (sb.2 b (above b o e)).trans e1⟩
  · by_cases y : c2 = c
    · rw [y]
      exact ⟨_, new⟩
    · obtain ⟨w2, z2⟩ := I.cell z c2 e
      exact ⟨w2, z2.sameBut sb y⟩
  · obtain ⟨e1, n1, ne1, nf1, d1⟩ := I.pin p hp
    have away : p.1 ≠ c := fun y => by
      rw [y, hoc] at e1
      exact d1 w0 (by rw [← Option.some.inj e1]; exact hod)
    exact ⟨(sb.2 p.1 away).trans e1, n1, ne1, nf1, d1⟩
  · refine (I.hok b ob e).stay (fun b2 w2 hb2 q => (sb.2 b2 fun y => ?_).trans q) (fun _ q => q) fun _ _ q => q
    rw [y, freeC] at hb2
    rcases hb2 with z | z
    · rw [← z, freeC] at e
      cases e
    · cases z
end
end Sq
set_option Elab.async false
set_option linter.all false
set_option maxRecDepth 100000
set_option maxHeartbeats 4000000
/-! for over a list, one cell kept. -/
namespace Sq
open PySem PySem.Spec PyProof.Rows L2 GenW
section
variable {X : Cx} {c : Addr} {u0 : Value} {n : Nat} {x y : Str} {p pos : Pos} {e : Expr} {te : TE} {tb : TS} {body : List Stmt}
def tForJ (K : PySem.W.Frag) (te : TE) (g : TG) (tb : TS) : TS := fun D σ H => te σ H fun v H1 => ∃ (a : Addr) (xs : List V), v = .ref a ∧ SqL K H1 a xs ∧ ∃ Pv : Nat → L2.St → Hp → Prop, Pv 0 σ H1 ∧ (∀ i σ H, Pv i σ H → SqL K H a xs) ∧
  (∀ (i : Nat) (z : V) (σ : L2.St) (H : Hp), xs[i]? = some z → Pv i σ H → g z σ H fun σ2 H2 => tb { nx := Pv (i + 1), ct := Pv (i + 1), bk := D.nx, rt := D.rt } σ2 H2) ∧ ∀ σ H, Pv xs.length σ H → D.nx σ H
end
end Sq
set_option Elab.async false
set_option linter.all false
set_option maxRecDepth 100000
set_option maxHeartbeats 4000000
/-! A list comprehension with one for, one cell kept. -/
set_option Elab.async false
set_option linter.all false
set_option maxRecDepth 100000
set_option maxHeartbeats 4000000
/-! Slices of lists, texts compared, `or` of tests, the signs of a text: one cell kept. -/
namespace Sq
open PySem PySem.Spec PyProof.Rows L2 GenW
section
variable {X : Cx} {c : Addr} {u0 : Value} {n : Nat} {x y : Str} {p pos p2 : Pos} {e e2 : Expr} {es : List Expr} {te tf : TE} {t tA tB' : TT} {lo hi : Option Expr} {tl th : TO}
/-! ### slices -/
/-! ### or -/
structure JW (X : Cx) (c : Addr) (u0 : Value) (n : Nat) (e : Expr) (t : TT) : Prop where
  run : ∀ (whole : Sem Value) (pins : List (Addr × Obj)) (s : Shared) (σ : L2.St) (H : Hp) (Q : Bool → Hp → Prop), Inv X pins σ H s → n ≤ s.toks → s.heap.IsCell c (some u0) → t σ H Q → wpAny (model X.prog X.w) X.A (isTrue e X.env whole) (fun b s' => Kn2 c n s s' ∧ TP X pins σ Q b s') X.xe s
theorem JW.pt (h : JW X c u0 n e t) : JKT X c u0 n e t := ⟨h.run _⟩
/-! ### the signs of a text, as a comprehension's source -/
end
end Sq
set_option Elab.async false
set_option linter.all false
set_option maxRecDepth 100000
set_option maxHeartbeats 4000000
/-! a, b = e, f: one cell kept. -/
set_option Elab.async false
set_option linter.all false
set_option maxRecDepth 100000
set_option maxHeartbeats 4000000
/-! A def whose promise needs one argument's token, called by keywords. -/
set_option Elab.async false
set_option linter.all false
set_option maxRecDepth 100000
set_option maxHeartbeats 4000000
/-! Written texts and truth values, return: one cell kept. -/
set_option Elab.async false
set_option linter.all false
set_option maxRecDepth 100000
set_option maxHeartbeats 4000000
/-! A call with a written sign, outside of any cell: something before it has given a token out. -/
set_option Elab.async false
set_option linter.all false
set_option maxRecDepth 100000
set_option maxHeartbeats 4000000
/-! Code that keeps what is known of the state (Θ): the raw value of a name, how many tokens were given out. -/
namespace Sq
open PySem PySem.Spec PyProof.Rows L2 GenW
/-- u was stored as x -/
def Put (X : Cx) (x : Str) (u : Value) (s s' : Shared) : Prop :=
  (X.env.scope.names.lookup x = some .local ∧ Heap.SameBut X.env.locals s.heap s'.heap ∧ ∃ m, s.heap.Ns X.env.locals m ∧ s'.heap.Ns X.env.locals (fun z => if z = x then some u else m z)) ∨
  (∃ c, X.env.cells.lookup x = some c ∧ Heap.SameBut c s.heap s'.heap ∧ s'.heap.IsCell c (some u))
/-- what code keeps that doesn't store to ys -/
structure Clo (X : Cx) (ys : List Str) (Θ : Shared → Prop) : Prop where
  but : ∀ {pins : List (Addr × Obj)} {σ : L2.St} {H : Hp} {s s' : Shared} (fp : List Addr), Inv X pins σ H s → s.toks ≤ s'.toks → (∀ b ∈ fp, b ≠ X.env.locals ∧ ∀ x c, X.env.cells.lookup x = some c → c ≠ b) → (∀ b o, b ∉ fp → s.heap.get? b = some o → s'.heap.get? b = some o) → Θ s → Θ s'
  un : ∀ {pins : List (Addr × Obj)} {σ : L2.St} {H H' : Hp} {s s' : Shared} (ex : List Addr), Inv X pins σ H s → s.toks ≤ s'.toks → (∀ b ∈ ex, b ≠ X.env.locals ∧ ∀ x c, X.env.cells.lookup x = some c → c ≠ b) → Un (frs X.stack) ex H H' s.heap s'.heap → Θ s → Θ s'
  st : ∀ {pins : List (Addr × Obj)} {σ : L2.St} {H : Hp} {s s' : Shared} {x : Str} {u : Value}, Inv X pins σ H s → x ∉ ys → s.toks ≤ s'.toks → Put X x u s s' → Θ s → Θ s'
theorem Clo.kept {X : Cx} {ys : List Str} {Θ : Shared → Prop} (C : Clo X ys Θ) {pins : List (Addr × Obj)} {σ : L2.St} {H : Hp} {s s' : Shared} (I : Inv X pins σ H s) (t : s.toks ≤ s'.toks) (k : ∀ b o, s.heap.get? b = some o → s'.heap.get? b = some o) (θ : Θ s) : Θ s' :=
  C.but [] I t (fun _ z => nomatch z) (fun b o _ e => k b o e) θ
theorem Clo.tok {X : Cx} {ys : List Str} {Θ : Shared → Prop} (C : Clo X ys Θ) {pins : List (Addr × Obj)} {σ : L2.St} {H : Hp} {s : Shared} (I : Inv X pins σ H s) (θ : Θ s) : Θ { s with toks := s.toks + 1 } :=
  C.kept I (Nat.le_add_right _ _) (fun _ _ e => e) θ
theorem Clo.push {X : Cx} {ys : List Str} {Θ : Shared → Prop} (C : Clo X ys Θ) {pins : List (Addr × Obj)} {σ : L2.St} {H : Hp} {s : Shared} {o : Obj} (I : Inv X pins σ H s) (θ : Θ s) : Θ { s with heap := s.heap.push o } :=
  C.kept I (Nat.le_refl _) (fun _ _ e => Heap.get?_push_of_some _ e) θ
theorem Clo.un0 {X : Cx} {ys : List Str} {Θ : Shared → Prop} (C : Clo X ys Θ) {pins : List (Addr × Obj)} {σ : L2.St} {H H' : Hp} {s s' : Shared} (I : Inv X pins σ H s) (t : s.toks ≤ s'.toks) (u : Un (frs X.stack) [] H H' s.heap s'.heap) (θ : Θ s) : Θ s' :=
  C.un [] I t (fun _ z => nomatch z) u θ
/-- n tokens were given out -/
theorem clo_n {X : Cx} {n : Nat} : Clo X [] (fun s => n ≤ s.toks) :=
  ⟨fun _ _ t _ _ h => Nat.le_trans h t, fun _ _ t _ _ h => Nat.le_trans h t, fun _ _ t _ h => Nat.le_trans h t⟩
theorem Clo.and {X : Cx} {ys zs : List Str} {Θ Φ : Shared → Prop} (a : Clo X ys Θ) (b : Clo X zs Φ) : Clo X (ys ++ zs) (fun s => Θ s ∧ Φ s) :=
  ⟨fun fp I t f k h => ⟨a.but fp I t f k h.1, b.but fp I t f k h.2⟩, fun ex I t f u h => ⟨a.un ex I t f u h.1, b.un ex I t f u h.2⟩,
    fun I n t p h => ⟨a.st I (fun z => n (List.mem_append_left _ z)) t p h.1, b.st I (fun z => n (List.mem_append_right _ z)) t p h.2⟩⟩
/-- the raw value of a local name -/
def Raw (X : Cx) (y : Str) (u : Value) (s : Shared) : Prop := ∃ m, s.heap.Ns X.env.locals m ∧ m y = some u
theorem clo_raw {X : Cx} {y : Str} {u : Value} (hl : X.env.scope.names.lookup y = some .local) : Clo X [y] (Raw X y u) := by
  refine ⟨fun {pins σ H s s'} fp I t f k h => ?_, fun {pins σ H H' s s'} ex I t f un h => ?_, fun {pins σ H s s' x v} I n t p h => ?_⟩
  · obtain ⟨m, ⟨o, es, ep, ho, rest⟩, e⟩ := h
    exact ⟨m, ⟨o, es, ep, k _ _ (fun z => (f _ z).1 rfl) ho, rest⟩, e⟩
  · obtain ⟨m, ⟨o, es, ep, ho, rest⟩, e⟩ := h
    obtain ⟨sl, e2⟩ := un.any ho I.free (fun z => (f _ z).1 rfl)
    exact ⟨m, ⟨_, es, ep, e2, rest⟩, e⟩
  · obtain ⟨m, ns, e⟩ := h
    have ne : y ≠ x := fun z => n (by rw [z]; exact List.mem_singleton_self _)
    rcases p with ⟨_, _, m2, ns2, new⟩ | ⟨c, hc, sb, _⟩
    · refine ⟨_, new, ?_⟩
      show (if y = x then some v else m2 y) = some u
      rw [if_neg ne, ns2.agree ns y]
      exact e
    · exact ⟨m, ns.sameBut sb (Ne.symm (I.cne x c hc)), e⟩
section
variable {X : Cx} {pins : List (Addr × Obj)} {σ : L2.St} {H : Hp} {s : Shared} {x : Str}
/-- a name is stored; what is known of the state afterwards -/
theorem put_ok {M : Model} {A : Around} {E : Value → Shared → Prop} {i : Nat} {v : V} {u : Value} {Q : Unit → Shared → Prop} (I : Inv X pins σ H s) (hN : X.N.Nodup) (hi : X.N[i]? = some x) (hx : Loc X.env.scope x) (r : RelV v u)
    (h : ∀ s', Inv X pins (σ.set i (some v)) H s' → s.toks ≤ s'.toks → Put X x u s s' → Q () s') (hf : X.fn x = true ∨ X.env.scope.names.lookup x = some .local) : wpAny M A (storeName X.env x u) Q E s := by
  rcases hx with hk | hk
  · obtain ⟨m, ns, look⟩ := id I.loc
    have inside : i < σ.length := by rw [I.len]; exact (List.getElem?_eq_some_iff.mp hi).1
    have notcls : (X.env.scope.kind == .class || (X.env.scope.kind == .module && X.env.locals != X.env.globals)) = false := by rw [I.ok.kind]; rfl
    refine wpAny_storeName_local hk ns (fun g ns2 sb => ?_) notcls
    obtain ⟨oF, _, _, hoF, _⟩ := id ns
    have low : ∀ b o, X.s_0.heap.get? b = some o → b ≠ X.env.locals := fun b o e => Nat.ne_of_lt (Nat.lt_of_lt_of_le (Heap.lt_size e) I.ok.above)
    have objs : HOk X.prog X.w H g := fun b ob e => by
      refine (I.hok b ob e).stay (fun c2 w2 h2 q => (sb.2 c2 fun z => ?_).trans q) (fun _ q => q) fun _ _ q => q
      subst z
      rcases h2 with z | z
      · rw [← z, I.free] at e
        cases e
      · rw [I.free] at z
        cases z
    have loc2 : ∀ (j : Nat) (z : Str) (w : V), X.N[j]? = some z → (σ.set i (some v))[j]? = some (some w) → Vis X.env.scope z → ∃ u', RelV w u' ∧ Look X.env g (fun y => if y = x then some u else m y) z u' := fun j z w e1 e2 e3 => by
      by_cases ji : j = i
      · subst ji
        rw [hi] at e1
        cases e1
        rw [List.getElem?_set_self inside] at e2
        cases e2
        exact ⟨u, r, .inl ⟨hk, by simp⟩⟩
      · rw [List.getElem?_set_ne (Ne.symm ji)] at e2
        obtain ⟨u', r', q⟩ := look j z w e1 e2 e3
        have zx : z ≠ x := fun e => ji (nodup_ix hN e1 (e ▸ hi))
        rcases q with ⟨k, e⟩ | ⟨k, c2, e, z4⟩
        · exact ⟨u', r', .inl ⟨k, by simp [zx, e]⟩⟩
        · exact ⟨u', r', .inr ⟨k, c2, e, z4.sameBut sb (I.cne z c2 e)⟩⟩
    refine h _ ⟨I.ok, I.os, I.bare, ⟨fun b o e n hb hx2 => (sb.2 b (low b o e)).trans (I.base.keep b o e n hb hx2), fun b o e n hb hx2 => ?_, I.base.free, fun b o e hx2 => ?_, I.base.tups, I.base.frzs, I.base.tbls⟩, ⟨_, ns2, loc2⟩, fun z c2 e => ?_, I.free, I.freeC, fun p hp => ?_, objs, by simpa using I.len⟩ (Nat.le_add_right _ _) (.inl ⟨hk, sb, m, ns, ns2⟩)
    · obtain ⟨sl, e1⟩ := I.base.slot b o e n hb hx2
      exact ⟨sl, (sb.2 b (low b o e)).trans e1⟩
    · obtain ⟨o2, e1⟩ := I.base.there b o e hx2
      exact ⟨o2, (sb.2 b (low b o e)).trans e1⟩
    · obtain ⟨w2, z2⟩ := I.cell z c2 e
      exact ⟨w2, z2.sameBut sb (I.cne z c2 e)⟩
    · obtain ⟨e, n, ne, nf, d⟩ := I.pin p hp
      exact ⟨(sb.2 p.1 ne).trans e, n, ne, nf, d⟩
  · have own : X.fn x = true := by
      rcases hf with z | z
      · exact z
      · rw [z] at hk; cases hk
    obtain ⟨c, hc⟩ := I.ok.has x (.inl hk)
    exact store_cellS I hN hi hk ⟨hc, own⟩ r fun h' I2 cell sb => h _ I2 (Nat.le_refl _) (.inr ⟨c, hc, sb, cell⟩)
end
end Sq
set_option Elab.async false
set_option linter.all false
set_option maxRecDepth 100000
set_option maxHeartbeats 4000000
/-! Judgements that keep what is known of the state. -/
namespace Sq
open PySem PySem.Spec PyProof.Rows L2 GenW
structure We (X : Cx) (Θ : Shared → Prop) (e : Expr) (t : TE) : Prop where
  run : ∀ (pins : List (Addr × Obj)) (s : Shared) (σ : L2.St) (H : Hp) (Q : VK), Inv X pins σ H s → Θ s → t σ H Q → wpAny (model X.prog X.w) X.A (eval e X.env) (fun u s' => Θ s' ∧ EP X pins σ Q u s') X.xe s
structure Wa (X : Cx) (Θ : Shared → Prop) (es : List Expr) (t : TA) : Prop where
  run : ∀ (pos : Pos) (pins : List (Addr × Obj)) (s : Shared) (σ : L2.St) (H : Hp) (Q : List V → Hp → Prop), Inv X pins σ H s → Θ s → t σ H Q → wpAny (model X.prog X.w) X.A (spliced (backTo pos (starEach es X.env))) (fun us s' => Θ s' ∧ AP X pins σ Q us s') X.xe s
structure Wt (X : Cx) (Θ : Shared → Prop) (e : Expr) (t : TT) : Prop where
  run : ∀ (pins : List (Addr × Obj)) (s : Shared) (σ : L2.St) (H : Hp) (Q : Bool → Hp → Prop), Inv X pins σ H s → Θ s → t σ H Q → wpAny (model X.prog X.w) X.A (isTrue e X.env (eval e X.env)) (fun b s' => Θ s' ∧ TP X pins σ Q b s') X.xe s
structure Ws (X : Cx) (Θ : Shared → Prop) (st : Stmt) (t : TS) : Prop where
  run : ∀ (pins : List (Addr × Obj)) (s : Shared) (σ : L2.St) (H : Hp) (D : Ends), Inv X pins σ H s → Θ s → t D σ H → wpAny (model X.prog X.w) X.A (exec st X.env) (fun f s' => Θ s' ∧ SP X pins D f s') X.xe s
structure Wss (X : Cx) (Θ : Shared → Prop) (sts : List Stmt) (t : TS) : Prop where
  run : ∀ (pins : List (Addr × Obj)) (s : Shared) (σ : L2.St) (H : Hp) (D : Ends), Inv X pins σ H s → Θ s → t D σ H → wpAny (model X.prog X.w) X.A (execs sts X.env) (fun f s' => Θ s' ∧ SP X pins D f s') X.xe s
/-- where it need not be known behind it -/
structure Wu (X : Cx) (Θ : Shared → Prop) (sts : List Stmt) (t : TS) : Prop where
  run : ∀ (pins : List (Addr × Obj)) (s : Shared) (σ : L2.St) (H : Hp) (D : Ends), Inv X pins σ H s → Θ s → t D σ H → wpAny (model X.prog X.w) X.A (execs sts X.env) (SP X pins D) X.xe s
/-- raw arguments of which the j-th is known -/
structure Wx (X : Cx) (Θ : Shared → Prop) (j : Nat) (es : List Expr) (t : TA) : Prop where
  run : ∀ (pos : Pos) (pins : List (Addr × Obj)) (s : Shared) (σ : L2.St) (H : Hp) (Q : List V → Hp → Prop), Inv X pins σ H s → Θ s → t σ H Q → wpAny (model X.prog X.w) X.A (spliced (backTo pos (starEach es X.env))) (fun us s' => (Θ s' ∧ Tkn j us s'.toks) ∧ AP X pins σ Q us s') X.xe s
/-- the raw value u of the name y is known, and if it is a text of one sign, its token -/
structure Known (X : Cx) (Θ : Shared → Prop) (y : Str) : Prop where
  kn : ∀ (s : Shared), Θ s → ∃ u, Tkn 0 [u] s.toks ∧ ((X.env.kindOf y = some .local ∧ Raw X y u s) ∨ (X.env.kindOf y = some .cell ∧ ∃ c, X.env.cells.lookup y = some c ∧ s.heap.IsCell c (some u)))
def OpW (X : Cx) (Θ : Shared → Prop) (op : Value → Value → Sem Value) (r : R2) : Prop :=
  ∀ (pins : List (Addr × Obj)) (s : Shared) (σ : L2.St) (H : Hp) (x y : V) (v u : Value) (Q : VK), Inv X pins σ H s → Θ s → RelV x v → RelV y u → r x y H Q → wpAny (model X.prog X.w) X.A (op v u) (fun w s' => Θ s' ∧ EP X pins σ Q w s') X.xe s
def CallW (X : Cx) (Θ : Shared → Prop) (f : Value) (r : List V → Hp → VK → Prop) : Prop := ∀ (pins : List (Addr × Obj)) (s : Shared) (σ : L2.St) (H : Hp) (vs : List V) (us : List Value) (Q : VK), Inv X pins σ H s → Θ s → Vals vs us → r vs H Q → wpAny (model X.prog X.w) X.A (call f us) (fun u s' => Θ s' ∧ EP X pins σ Q u s') X.xe s
section
variable {X : Cx} {Θ : Shared → Prop} {ys : List Str} {pins : List (Addr × Obj)} {σ : L2.St} {H : Hp} {s : Shared} {x y : Str} {p pos kpos : Pos} {e e2 : Expr} {es : List Expr} {te tf : TE} {t tk : TA} {st : Stmt} {a b rest : List Stmt} {ts tr : TS} {tt : TT} {kws : List Keyword} {nm : Option Str} {n j : Nat}
/-! ### expressions -/
theorem we_var {i : Nat} (hN : X.N[i]? = some x) (hv : Vis X.env.scope x) (hd : (x == ("__debug__" : Str)) = false := by decide) (hcd : (x == ("__classdict__" : Str)) = false := by decide) : We X Θ (.Name x pos) (tVar i) :=
  ⟨fun pins s σ H Q I θ h => by
    obtain ⟨v, e, q⟩ := h
    exact raw_name hN hv I e (fun u r => ⟨θ, v, H, I, r, q⟩) hd hcd⟩
theorem wv (i : Nat) (hN : X.N[i]? = some x := by rfl) (hv : Vis X.env.scope x := by first | exact Or.inl rfl | exact Or.inr (Or.inl rfl) | exact Or.inr (Or.inr rfl)) (hd : (x == ("__debug__" : Str)) = false := by decide)
    (hcd : (x == ("__classdict__" : Str)) = false := by decide) : We X Θ (.Name x pos) (tVar i) := we_var hN hv hd hcd
theorem we_int (C : Clo X ys Θ) {i : Int} {k : Nat} : We X Θ (.Constant (.int i) k pos) (tC (.int i)) :=
  ⟨fun pins s σ H Q I θ h => wpAny_Constant_int ⟨C.tok I θ, .int i, H, I.tok _, ⟨_, rfl⟩, h⟩⟩
theorem we_str (C : Clo X ys Θ) {z : Str} {k : Nat} : We X Θ (.Constant (.str z) k pos) (tC (.str z)) :=
  ⟨fun pins s σ H Q I θ h => Calls.Constant_str ⟨C.tok I θ, .str z, H, I.tok _, ⟨_, rfl⟩, h⟩⟩
theorem we_bl {b : Bool} {k : Nat} : We X Θ (.Constant (.bool b) k pos) (tC (.bl b)) :=
  ⟨fun pins s σ H Q I θ h => Constant_bool ⟨θ, .bl b, H, I, rfl, h⟩⟩
theorem wa_nil : Wa X Θ [] tNil := ⟨fun pos pins s σ H Q I θ h => Calls.spliced_nil ⟨θ, [], H, I, .nil, h⟩⟩
theorem wa_cons (ha : We X Θ e te) (hr : Wa X Θ es t) (hs : starEach (e :: es) X.env = (false, eval e X.env) :: starEach es X.env := by rfl) : Wa X Θ (e :: es) (tCons te t) := by
  refine ⟨fun pos pins s σ H Q I θ h => ?_⟩
  rw [hs]
  show wpAny _ _ (spliced ((false, eval e X.env) :: backTo pos (starEach es X.env))) _ _ s
  refine Calls.spliced_cons (thn (ha.run pins s σ H _ I θ h) fun u s1 hh => ?_)
  obtain ⟨g1, x, H1, I1, r1, q1⟩ := hh
  exact thn (hr.run pos pins s1 σ H1 _ I1 g1 q1) fun us s2 ⟨g2, xs, H2, I2, r2, q2⟩ => ⟨g2, x :: xs, H2, I2, .cons r1 r2, q2⟩
/-- [e, ..] -/
theorem we_lst (C : Clo X ys Θ) (h : Wa X Θ es t) : We X Θ (.List es pos) (tLst t) := by
  refine ⟨fun pins s σ H Q I θ hq => ?_⟩
  refine wpAny_List_spliced (thn (h.run pos pins s σ H _ I θ hq) fun us s1 hh => ?_)
  obtain ⟨g1, xs, H1, I1, r, z, q⟩ := hh
  refine ⟨by rw [← r.length]; exact z, C.push I1 g1, .ref s1.heap.objs.size, upd H1 s1.heap.objs.size (.lst xs), I1.laid (t' := s1.toks) (fun b u e => Heap.get?_push_of_some _ e) (Nat.le_refl _) ?_, rfl, q _ (I1.hok.fresh (Nat.le_refl _))⟩
  exact ⟨z, us, 0, r, Heap.get?_push_size _ rfl⟩
theorem we_op {op : Operator} {r : R2} (ho : OpW X Θ (binaryOp op) r) (ha : We X Θ e te) (hb : We X Θ e2 tf) : We X Θ (.BinOp e op e2 pos) (tOp r te tf) := by
  refine ⟨fun pins s σ H Q I θ h => ?_⟩
  refine wpAny_BinOp (thn (ha.run pins s σ H _ I θ h) fun v s1 hh => ?_)
  obtain ⟨g1, a, H1, I1, r1, q1⟩ := hh
  refine thn (hb.run pins s1 σ H1 _ I1 g1 q1) fun u s2 hh => ?_
  obtain ⟨g2, b, H2, I2, r2, q2⟩ := hh
  exact ho pins s2 σ H2 a b v u Q I2 g2 r1 r2 q2
theorem we_callD {k : Nat} {ps : List Str} {sp : Sp} (C : Clo X ys Θ) (D : Df X.prog X.w X.K X.mg X.base k x ps sp) (hr : Room k X.A) (hg : Gl X x) (ha : Wa X Θ (e :: es) t) (hdb : (x == ("__debug__" : Str)) = false := by decide)
    (he : starEach (e :: es) X.env = (false, eval e X.env) :: starEach es X.env := by rfl) (hpl : (backTo pos (starEach es X.env)).any (·.1) = false := by rfl) : We X Θ (.Call (.Name x p) (e :: es) [] pos) (tCall sp [] E0 t) := by
  obtain ⟨f, fd, F, g, kp, b⟩ := D.ex
  refine ⟨fun pins s σ H Q I θ h => ?_⟩
  refine wpAny_Call_Name_kw (ld_glob I hg g ?_ hdb)
  refine PySem.W.callWith_K (h₀ := X.base) I.ok.mod.kin kp (thn (ha.run pos pins s σ H _ I θ h) fun us s1 hh => ?_) he hpl
  obtain ⟨g1, vs, H1, I1, r, q⟩ := hh
  refine ⟨I1.kIn, ?_⟩
  rw [List.append_nil] at q
  have hl : us.length = ps.length := by rw [← r.length]; exact F.len _ _ _ _ q
  have bind := b s1 us I1.kIn (by rw [List.append_nil]; exact hl)
  rw [List.append_nil] at bind
  have called : wpAny (model X.prog X.w) X.A (call (.ref f) us) (fun u s' => (s1.toks ≤ s'.toks → Θ s') ∧ EP X pins σ Q u s') X.xe s1 := by
    refine wpAny_call (codeAny_mono (F.run X.A X.stack s1 H1 ⟨us, []⟩ us vs Q E0 hr I1.env0 bind r q) fun r s' hq => ?_)
    match r, hq with
    | .error e, hq => exact pass0 pins σ H1 s1 e s' I1 hq
    | .ok (.ret u), hq =>
      have ce : CE X.stack X.prog X.w H1 s1 Q u s' := hq
      obtain ⟨_, _, _, _, un, _⟩ := id ce
      exact ⟨fun up => C.un0 I1 up un g1, I1.after ce⟩
  exact wpAny_mono (PySem.wpAny_toks called) (fun u s' z => ⟨z.2.1 z.1, z.2.2⟩) fun _ _ z => z.2
end
end Sq
set_option Elab.async false
set_option linter.all false
set_option maxRecDepth 100000
set_option maxHeartbeats 4000000
/-! Calls with a raw argument that is known; tests, statements, loops. -/
namespace Sq
open PySem PySem.Spec PyProof.Rows L2 GenW
section
variable {X : Cx} {Θ : Shared → Prop} {ys : List Str} {pins : List (Addr × Obj)} {σ : L2.St} {H : Hp} {s : Shared} {x y : Str} {p pos kpos : Pos} {e e2 : Expr} {es : List Expr} {te tf : TE} {t tk : TA} {st : Stmt} {a b rest : List Stmt} {ts tr : TS} {tt tu : TT} {kws : List Keyword} {nm : Option Str} {n j : Nat}
/-! ### a known name -/
theorem known_eval {E : Value → Shared → Prop} {Q : Value → Shared → Prop} {i : Nat} {v : V} (Kn : Known X Θ y) (I : Inv X pins σ H s) (θ : Θ s) (hN : X.N[i]? = some y) (hv : Vis X.env.scope y) (h : σ[i]? = some (some v)) (fin : ∀ u, RelV v u → Tkn 0 [u] s.toks → Q u s) (hd : (y == ("__debug__" : Str)) = false := by decide) :
    wpAny (model X.prog X.w) X.A (eval (.Name y p) X.env) Q E s := by
  obtain ⟨u, tk, where_⟩ := Kn.kn s θ
  obtain ⟨m, hns, look⟩ := I.loc
  obtain ⟨u2, r, l⟩ := look i y v hN h hv
  rcases where_ with ⟨k, m2, ns2, e2⟩ | ⟨k, c, hc, cell⟩
  · have eu : u2 = u := by
      rcases l with ⟨_, q⟩ | ⟨k1, _⟩
      · rw [hns.agree ns2 y, e2] at q
        exact (Option.some.inj q).symm
      · rw [k] at k1
        rcases k1 with z | z <;> cases z
    subst eu
    exact wpAny_Name (wpAny_loadName_local I.ok.kind k ns2 e2 (fin _ r tk)) hd
  · have eu : u2 = u := by
      rcases l with ⟨k1, _⟩ | ⟨_, c1, e1, cell1⟩
      · rw [k] at k1
        cases k1
      · rw [hc] at e1
        obtain rfl : c = c1 := Option.some.inj e1
        obtain ⟨o1, g1, d1⟩ := cell
        obtain ⟨o2, g2, d2⟩ := cell1
        rw [g1] at g2
        obtain rfl : o1 = o2 := Option.some.inj g2
        rw [d1] at d2
        injection d2 with d2
        exact (Option.some.inj d2).symm
    subst eu
    exact wpAny_Name (wpAny_loadName_cell I.ok.kind k hc cell (fin _ r tk)) hd
theorem wx_name {i : Nat} (Kn : Known X Θ y) (hN : X.N[i]? = some y) (hv : Vis X.env.scope y) (hr : Wa X Θ es t) (hs : starEach (.Name y p :: es) X.env = (false, eval (.Name y p) X.env) :: starEach es X.env := by rfl) (hd : (y == ("__debug__" : Str)) = false := by decide) :
    Wx X Θ 0 (.Name y p :: es) (tCons (tVar i) t) := by
  refine ⟨fun pos pins s σ H Q I θ h => ?_⟩
  rw [hs]
  show wpAny _ _ (spliced ((false, eval (.Name y p) X.env) :: backTo pos (starEach es X.env))) _ _ s
  obtain ⟨v, e, q⟩ := h
  refine Calls.spliced_cons (known_eval Kn I θ hN hv e (fun u r good => ?_) hd)
  refine wpAny_mono (PySem.wpAny_toks (hr.run pos pins s σ H _ I θ q)) (fun us s2 hh => ?_) fun _ _ z => z.2
  obtain ⟨up, g2, xs, H2, I2, r2, q2⟩ := hh
  exact ⟨⟨g2, fun b tk eb one => ⟨(good b tk eb one).1, Nat.lt_of_lt_of_le (good b tk eb one).2 up⟩⟩, v :: xs, H2, I2, .cons r r2, q2⟩
theorem wx_skip (ha : We X Θ e te) (hr : Wx X Θ j es t) (hs : starEach (e :: es) X.env = (false, eval e X.env) :: starEach es X.env := by rfl) : Wx X Θ (j + 1) (e :: es) (tCons te t) := by
  refine ⟨fun pos pins s σ H Q I θ h => ?_⟩
  rw [hs]
  show wpAny _ _ (spliced ((false, eval e X.env) :: backTo pos (starEach es X.env))) _ _ s
  refine Calls.spliced_cons (thn (ha.run pins s σ H _ I θ h) fun u s1 hh => ?_)
  obtain ⟨g1, v, H1, I1, r1, q1⟩ := hh
  exact thn (hr.run pos pins s1 σ H1 _ I1 g1 q1) fun us s2 ⟨g2, xs, H2, I2, r2, q2⟩ => ⟨g2, v :: xs, H2, I2, .cons r1 r2, q2⟩
/-- f(..) -/
theorem we_callT {k : Nat} {ps : List Str} {sp : Sp} (C : Clo X ys Θ) (D : DfT X.prog X.w X.K X.mg X.base k x ps j sp) (hr : Room k X.A) (hg : Gl X x) (ha : Wx X Θ j (e :: es) t) (hdb : (x == ("__debug__" : Str)) = false := by decide)
    (he : starEach (e :: es) X.env = (false, eval e X.env) :: starEach es X.env := by rfl) (hpl : (backTo pos (starEach es X.env)).any (·.1) = false := by rfl) : We X Θ (.Call (.Name x p) (e :: es) [] pos) (tCall sp [] E0 t) := by
  obtain ⟨f, fd, F, g, kp, b⟩ := D.ex
  refine ⟨fun pins s σ H Q I θ h => ?_⟩
  refine wpAny_Call_Name_kw (ld_glob I hg g ?_ hdb)
  refine PySem.W.callWith_K (h₀ := X.base) I.ok.mod.kin kp (thn (ha.run pos pins s σ H _ I θ h) fun us s1 hh => ?_) he hpl
  obtain ⟨⟨g1, tk⟩, vs, H1, I1, r, q⟩ := hh
  refine ⟨I1.kIn, ?_⟩
  rw [List.append_nil] at q
  have hl : us.length = ps.length := by rw [← r.length]; exact F.len _ _ _ _ q
  have bind := b s1 us I1.kIn (by rw [List.append_nil]; exact hl)
  rw [List.append_nil] at bind
  have called : wpAny (model X.prog X.w) X.A (call (.ref f) us) (fun u s' => (s1.toks ≤ s'.toks → Θ s') ∧ EP X pins σ Q u s') X.xe s1 := by
    refine wpAny_call (codeAny_mono (F.run X.A X.stack s1 H1 ⟨us, []⟩ us vs Q hr I1.env0 bind r tk q) fun r s' hq => ?_)
    match r, hq with
    | .ok (.ret u), hq =>
      have ce : CE X.stack X.prog X.w H1 s1 Q u s' := hq
      obtain ⟨_, _, _, _, un, _⟩ := id ce
      exact ⟨fun up => C.un0 I1 up un g1, I1.after ce⟩
  exact wpAny_mono (PySem.wpAny_toks called) (fun u s' z => ⟨z.2.1 z.1, z.2.2⟩) fun _ _ z => z.2
/-! ### keywords -/
/-! ### tests -/
theorem wt_cmp {op : CmpOp} {r : R2} (ho : OpW X Θ (compareOp op) r) (ha : We X Θ e te) (hb : We X Θ e2 tf) (hm : behindInMarks op e2 = false) : Wt X Θ (.Compare e [op] [e2] pos) (tTest (tOp r te tf)) := by
  refine ⟨fun pins s σ H Q I θ h => ?_⟩
  refine wpAny_isTrue_Compare1 (thn (ha.run pins s σ H _ I θ h) fun v s1 hh => ?_) hm
  obtain ⟨g1, a, H1, I1, r1, q1⟩ := hh
  refine thn (hb.run pins s1 σ H1 _ I1 g1 q1) fun u s2 hh => ?_
  obtain ⟨g2, b, H2, I2, r2, q2⟩ := hh
  refine thn (ho pins s2 σ H2 a b v u _ I2 g2 r1 r2 q2) (fun w s3 z => ?_)
  obtain ⟨g3, b3, H3, I3, r3, k, e3, q3⟩ := z
  subst e3
  cases r3
  exact wpAny_truthy_bool ⟨g3, H3, I3, q3⟩
/-! ### statements -/
theorem wss_nil : Wss X Θ [] tNext := ⟨fun _ _ σ H _ I θ h => wpAny_execs_nil ⟨θ, σ, H, I, h⟩⟩
theorem wss_cons (h1 : Ws X Θ st ts) (h2 : Wss X Θ rest tr) : Wss X Θ (st :: rest) (tSeq ts tr) := by
  refine ⟨fun pins s σ H D I θ h => ?_⟩
  refine wpAny_execs_cons (thn (h1.run pins s σ H { D with nx := tr D } I θ h) fun f s1 hh => ?_)
  obtain ⟨g1, q⟩ := hh
  match f, q with
  | .next, ⟨σ', H', I', q⟩ => exact h2.run pins s1 σ' H' D I' g1 q
  | .ret v, q => exact ⟨g1, q⟩
  | .brk, q => exact ⟨g1, q⟩
  | .cont, q => exact ⟨g1, q⟩
theorem wss_one (h1 : Ws X Θ st ts) : Wss X Θ [st] ts := by
  refine ⟨fun pins s σ H D I θ h => ?_⟩
  refine wpAny_execs_cons (thn (h1.run pins s σ H D I θ h) fun f s1 hh => ?_)
  obtain ⟨g1, q⟩ := hh
  match f, q with
  | .next, q => exact wpAny_execs_nil ⟨g1, q⟩
  | .ret v, q => exact ⟨g1, q⟩
  | .brk, q => exact ⟨g1, q⟩
  | .cont, q => exact ⟨g1, q⟩
theorem pss_no : PSs X rest (fun _ _ _ => False) := ⟨fun _ _ _ _ _ _ h => h.elim⟩
theorem wu_of (h : Wss X Θ rest tr) : Wu X Θ rest tr := ⟨fun pins s σ H D I θ q => wpAny_mono (h.run pins s σ H D I θ q) (fun _ _ z => z.2) fun _ _ z => z⟩
theorem wu_ps (h : PSs X rest tr) : Wu X Θ rest tr := ⟨fun pins s σ H D I θ q => h.run pins s σ H D I q⟩
theorem wu_cons (h1 : Ws X Θ st ts) (h2 : Wu X Θ rest tr) : Wu X Θ (st :: rest) (tSeq ts tr) := by
  refine ⟨fun pins s σ H D I θ h => ?_⟩
  refine wpAny_execs_cons (thn (h1.run pins s σ H { D with nx := tr D } I θ h) fun f s1 hh => ?_)
  obtain ⟨g1, q⟩ := hh
  match f, q with
  | .next, ⟨σ', H', I', q⟩ => exact h2.run pins s1 σ' H' D I' g1 q
  | .ret v, q => exact q
  | .brk, q => exact q
  | .cont, q => exact q
theorem ws_expr (he : We X Θ e te) (hs : swapsWith e none pos.line X.env = pure false := by rfl) : Ws X Θ (.Expr e pos) (tDrop te) := by
  refine ⟨fun pins s σ H D I θ h => ?_⟩
  refine wpAny_Expr_any (thn (he.run pins s σ H _ I θ h) fun v s1 hh => ?_) I.quiet hs
  obtain ⟨g1, x, H1, I1, r1, q1⟩ := hh
  exact ⟨g1, σ, H1, I1, q1⟩
theorem ws_set {i : Nat} {pos' : Pos} (C : Clo X ys Θ) (ne : x ∉ ys) (hN : X.N.Nodup) (hi : X.N[i]? = some x) (hx : Loc X.env.scope x) (he : We X Θ e te) (hs : swapsWith e (some (.Name x pos')) pos.line X.env = pure false := by rfl) (hf : X.fn x = true ∨ X.env.scope.names.lookup x = some .local := by first | exact .inl rfl | exact .inr rfl | assumption) :
    Ws X Θ (.Assign [.Name x pos'] e pos) (tAsg te (gName i)) := by
  refine ⟨fun pins s σ H D I θ h => ?_⟩
  refine wpAny_Assign_Name (thn (he.run pins s σ H _ I θ h) fun v s1 hh => ?_) hs
  obtain ⟨g1, z, H1, I1, r1, q1⟩ := hh
  exact put_ok I1 hN hi hx r1 (fun s2 I2 up pt => ⟨C.st I1 ne up pt g1, _, H1, I2, q1⟩) hf
theorem ws_if {ce : Expr} (hc : Wt X Θ ce tt) (ha : Wss X Θ a ts) (hb : Wss X Θ b tr) : Ws X Θ (.If ce a b pos) (tIfS tt ts tr) := by
  refine ⟨fun pins s σ H D I θ h => ?_⟩
  refine wpAny_If (thn (hc.run pins s σ H _ I θ h) fun d s1 hh => ?_)
  obtain ⟨g1, H1, I1, q1⟩ := hh
  cases d with
  | true => exact ha.run pins s1 σ H1 D I1 g1 q1
  | false => exact hb.run pins s1 σ H1 D I1 g1 q1
theorem ws_ret (he : We X Θ e te) : Ws X Θ (.Return (some e) pos) (tRet te) := by
  refine ⟨fun pins s σ H D I θ h => ?_⟩
  refine wpAny_Return_some (thn (he.run pins s σ H _ I θ h) fun v s1 hh => ?_)
  obtain ⟨g1, x, H1, I1, r1, q1⟩ := hh
  exact ⟨g1, x, σ, H1, I1, r1, q1⟩
end
/-- Known, of a local name -/
theorem known_local {X : Cx} {y : Str} {u : Value} {n : Nat} (hk : X.env.kindOf y = some .local) (good : Tkn 0 [u] n) : Known X (fun s => Raw X y u s ∧ n ≤ s.toks) y :=
  ⟨fun s h => ⟨u, fun b t e one => ⟨(good b t e one).1, Nat.lt_of_lt_of_le (good b t e one).2 h.2⟩, .inl ⟨hk, h.1⟩⟩⟩
end Sq
set_option Elab.async false
set_option linter.all false
set_option maxRecDepth 100000
set_option maxHeartbeats 4000000
/-! Promises that want one argument's token, from walks that know it. -/
namespace Sq
open PySem PySem.Spec PyProof.Rows L2 GenW
section
variable {P : Program} {w : World} {K : PySem.W.Frag} {mg : Str → Option Value} {base : Heap} {k j : Nat} {f : Addr} {fd : FuncData} {ps : List Str} {sp spA spB : Sp}
theorem FnT.of (F : FnOk P w K mg base CX0 k f fd ps sp) : FnT P w K mg base k f fd ps j sp :=
  ⟨F.len, fun A outer s H args us vs Q hr e0 hb r _ h => codeAny_mono (F.run A outer s H args us vs Q E0 hr e0 hb r h) fun r s' hq => by
    match r, hq with
    | .error e, hq => exact hq
    | .ok (.ret u), hq => exact hq
    | .ok .next, hq => exact hq
    | .ok .brk, hq => exact hq
    | .ok .cont, hq => exact hq⟩
theorem FnT.mono {k2 : Nat} (a : FnT P w K mg base k f fd ps j sp) (h : k ≤ k2) : FnT P w K mg base k2 f fd ps j sp :=
  ⟨a.len, fun A outer s H args us vs Q hr e0 hb r tk q => a.run A outer s H args us vs Q (hr.mono h) e0 hb r tk q⟩
/-- the argument is a plain local -/
theorem fnt_ofL {x qual y : Str} {st : Stmt} {N : List Str} (F : Fun K x qual st f fd) (S : FnScope N ps (defScope st)) (len : ∀ vs H Q E, sp vs H Q E → vs.length = ps.length)
    (hy : ps[j]? = some y) (hk : (defScope st).names.lookup y = some .local)
    (walk : ∀ (cdv : Value) (A : Around) (outer : List Env) (s : Shared) (H : Hp) (us : List Value) (vs : List V) (Q : VK) (u0 : Value), Room k (A.deeper (envOfC qual (defScope st) s.heap.objs.size f cdv)) → sp vs H Q E0 → Vals vs us → Tkn j us s.toks → us[j]? = some u0 →
      ∃ t, Wu (cxOf CX0 P w K mg base N qual (defScope st) f cdv A outer s H E0).nox (fun s' => Raw (cxOf CX0 P w K mg base N qual (defScope st) f cdv A outer s H E0).nox y u0 s' ∧ s.toks ≤ s'.toks) (defBody st) t ∧ t { nx := fun _ H' => Q .non H', rt := Q } (L2.start N vs) H) : FnT P w K mg base (k + 1) f fd ps j sp := by
  obtain ⟨oc, od, kV, doc, pm, an, cdv, ct, osl, rfl, lk, hcd⟩ := F.ex
  refine ⟨len, fun A outer s H args us vs Q hr e0 hb r tkn hsp => ?_⟩
  have hl := len _ _ _ _ hsp
  have KX : K.In s.heap := e0.mod.kin.keeps fun b o e => (e0.bs b o e).1
  have lim : s.heap.NoLimit := e0.mod.nolimit.keeps fun b o e => (e0.bs b o e).1
  have hkind : ∀ y ∈ ps.zip us, (defScope st).names.lookup y.1 = some .local ∨ ((defScope st).names.lookup y.1 = some .cell ∧ ((cellsFrom (s.heap.objs.size + 1) (defScope st).names []).lookup y.1).isSome = true) := fun ⟨n, v⟩ hy =>
    (S.par n (List.of_mem_zip hy).1).elim .inl fun z => .inr ⟨z, PySem.W.cellsFrom_some _ _ _ (.inl z)⟩
  refine codeAny_call_function hr.depth (KX _ _ lk) rfl S.co S.gen rfl (PySem.W.codeRec_of KX hcd) (hb _ _ _ _ ?_)
  refine PySem.wpAny_with_toks (Nat.le_refl s.toks) (wpAny_newFunctionEnv_cells S.kind hkind fun env he s1 made toks1 => ?_)
  subst he
  refine ⟨lim.keeps made.toInCall.keep, codeAny_func ?_⟩
  have jl : j < ps.length := (List.getElem?_eq_some_iff.mp hy).1
  obtain ⟨u0, hu⟩ : ∃ u0, us[j]? = some u0 := ⟨us[j]'(by rw [← r.length, hl]; exact jl), List.getElem?_eq_getElem _⟩
  have ndP : ps.Nodup := by rw [← S.pre]; exact S.nd.sublist (List.take_sublist _ _)
  have at1 := bindL_get (kindOf := (envOfC qual (defScope st) s.heap.objs.size f cdv).kindOf) (m := fun _ => none) ndP hy hu hk
  obtain ⟨t, ht, hq⟩ := walk cdv A outer s H us vs Q u0 (hr.deeper _) hsp r tkn hu
  have I : Inv (cxOf CX0 P w K mg base N qual (defScope st) f cdv A outer s H E0).nox [] (start N vs) H s1 := (inv_start S hr.hd e0 hl r made).wish _
  refine wpAny_mono (ht.run [] s1 (start N vs) H _ I ⟨⟨_, made.toInCall.ns, at1⟩, toks1⟩ hq) (fun fl s' hs => ?_) fun e s' hs => False.elim hs
  match fl, hs with
  | .ret u, ⟨v, σ', H', J, rv, q⟩ => exact ⟨v, H', J.os, J.bare, J.base, J.hok, rv, q⟩
  | .next, ⟨σ', H', J, q⟩ => exact ⟨V.non, H', J.os, J.bare, J.base, J.hok, rfl, q⟩
  | .brk, ⟨_, _, _, q⟩ => exact False.elim q
  | .cont, ⟨_, _, _, q⟩ => exact False.elim q
end
end Sq
set_option Elab.async false
set_option linter.all false
set_option maxRecDepth 100000
set_option maxHeartbeats 4000000
/-! A comprehension whose elements know what stands in a cell of the def. -/
set_option Elab.async false
set_option linter.all false
set_option maxRecDepth 100000
set_option maxHeartbeats 4000000
/-! More code that keeps a cell; a sign out of a written list. -/
set_option Elab.async false
set_option linter.all false
set_option maxRecDepth 100000
set_option maxHeartbeats 4000000
/-! name = ['x', 'y', ..][e], the name in a cell: the rest knows it. -/
set_option Elab.async false
set_option linter.all false
set_option maxRecDepth 100000
set_option maxHeartbeats 4000000
/-! Objects of an own class of which the raw values of the attributes are known. -/
namespace Sq
open PySem PySem.Spec PyProof.Rows L2 GenW
/-- the instance at a of the class at C, its dict at dx -/
def insO (a C dx : Addr) : HO := .ext fun h => h.get? a = some (PySem.W.instObj C dx)
/-- a dict of attributes: m, no names but ks -/
def dicO (dx : Addr) (m : Str → Option Value) (ks : List Str) : HO := .ext fun h => h.Ns1 dx m ∧ PySem.Within m ks
structure Live (H : Hp) (a C dx : Addr) (m : Str → Option Value) (ks : List Str) : Prop where
  i : H a = some (insO a C dx)
  d : H dx = some (dicO dx m ks)
  ne : dx ≠ a
theorem Live.same {H H' : Hp} {a C dx : Addr} {m : Str → Option Value} {ks : List Str} (L : Live H a C dx m ks) (s : Same H H') : Live H' a C dx m ks := ⟨s _ _ L.i, s _ _ L.d, L.ne⟩
theorem Live.obj {P : Program} {w : World} {H : Hp} {h : Heap} {a C dx : Addr} {m : Str → Option Value} {ks : List Str} (L : Live H a C dx m ks) (ok : HOk P w H h) : ObjM h a dx C m ∧ PySem.Within m ks := by
  have x1 : ObjOk P w H h a (insO a C dx) := ok a _ L.i
  have x2 : ObjOk P w H h dx (dicO dx m ks) := ok dx _ L.d
  exact ⟨⟨x1.1, x2.1.1, L.ne⟩, x2.1.2⟩
/-- one more attribute -/
def putM (m : Str → Option Value) (f : Str) (u : Value) : Str → Option Value := fun y => if y = f then some u else m y
theorem within_put {m : Str → Option Value} {ks : List Str} {f : Str} {u : Value} (w : PySem.Within m ks) : PySem.Within (putM m f u) (f :: ks) := fun y hy => by
  by_cases e : y = f
  · rw [e]; exact List.mem_cons_self
  · refine List.mem_cons_of_mem _ (w y ?_)
    have z : putM m f u y = m y := if_neg e
    rw [← z]
    exact hy
section
variable {X : Cx} {pins : List (Addr × Obj)} {σ : L2.St} {H : Hp} {s : Shared} {a C dx : Addr} {m : Str → Option Value} {ks : List Str} {f : Str} {A : Around} {E : Value → Shared → Prop}
theorem live_get {b : Bool} {u : Value} {Q : Value → Shared → Prop} (I : Inv X pins σ H s) (L : Live H a C dx m ks) (c : Cls X.K C) (n : NoAttr X.K C f) (hu : m f = some u) (hh : PySem.W.handedIn u = true)
    (h : Inv X pins σ H { s with toks := s.toks + 1 } → Q u { s with toks := s.toks + 1 }) : wpAny (model X.prog X.w) A (getAttr (.ref a) f b) Q E s :=
  get_map I.kIn (L.obj I.hok).1 (c.get f) c.hd n hu hh (h (I.tok _))
theorem live_meth {g : Addr} {pl : Sem Bool} {Q : Value × List Value → Shared → Prop} (I : Inv X pins σ H s) (L : Live H a C dx m ks) (c : Cls X.K C) (k : Meth X.K C f g) (hn : m f = none)
    (h : Q (.ref g, [.ref a]) s) : wpAny (model X.prog X.w) A (getMethod (.ref a) f pl) Q E s :=
  get_meth I.kIn (L.obj I.hok).1 (c.get f) k.at_ k.fn hn h
theorem live_set {u : Value} {Q : Unit → Shared → Prop} (I : Inv X pins σ H s) (L : Live H a C dx m ks) (c : Cls X.K C) (n : NoAttr X.K C f) (hl : ks.length < 1000)
    (h : ∀ s', Inv X pins σ (upd H dx (dicO dx (putM m f u) (f :: ks))) s' → Live (upd H dx (dicO dx (putM m f u) (f :: ks))) a C dx (putM m f u) (f :: ks) → s.toks ≤ s'.toks → Q () s') : wpAny (model X.prog X.w) A (setAttr (.ref a) f u) Q E s := by
  obtain ⟨O, wi⟩ := L.obj I.hok
  have hz : ks.length ≤ sizeLine := by rw [sizeLine_eq]; omega
  refine set_map I.kIn O c.sa c.po n.taker c.hd wi hz fun h' O' sb => h _ ?_ ⟨by rw [upd_ne (Ne.symm L.ne)]; exact L.i, upd_same, L.ne⟩ (Nat.le_add_right _ _)
  have hd : ∃ o, h'.get? dx = some o := let ⟨o, _, _, e', _⟩ := O'.ns; ⟨o, e'⟩
  refine I.write (x := dx) (e := dx) (by rw [L.d]; exact True.intro) (.inl rfl) (fun b q hb z => (sb.2 b hb).trans z) hd ⟨⟨O'.ns, within_put wi⟩, hd, fun h1 h2 p k => ⟨?_, p.2⟩⟩
  obtain ⟨o, es, ep, e1, rest⟩ := p.1
  exact ⟨o, es, ep, k o e1, rest⟩
/-- a new instance -/
theorem live_made (I : Inv X pins σ H s) : Inv X pins σ (upd (upd H s.heap.objs.size (dicO s.heap.objs.size (fun _ => none) [])) (s.heap.objs.size + 1) (insO (s.heap.objs.size + 1) C s.heap.objs.size))
    { s with heap := (s.heap.push PySem.W.emptyDict).push (PySem.W.instObj C s.heap.objs.size) } := by
  have e1 : (s.heap.push PySem.W.emptyDict).get? s.heap.objs.size = some PySem.W.emptyDict := Heap.get?_push_size s.heap rfl
  have e2 : ((s.heap.push PySem.W.emptyDict).push (PySem.W.instObj C s.heap.objs.size)).get? (s.heap.objs.size + 1) = some (PySem.W.instObj C s.heap.objs.size) := by
    have := Heap.get?_push_size (s.heap.push PySem.W.emptyDict) (o := PySem.W.instObj C s.heap.objs.size) rfl
    rwa [Heap.size_push] at this
  have e3 : (s.heap.push PySem.W.emptyDict).Ns s.heap.objs.size (fun _ => none) := ⟨PySem.W.emptyDict, #[], _, e1, rfl, (fun e he => absurd he (by simp)), fun _ => rfl⟩
  have I1 := I.laid (a := s.heap.objs.size) (o := dicO s.heap.objs.size (fun _ => none) []) (h' := s.heap.push PySem.W.emptyDict) (t' := s.toks) (fun b u q => Heap.get?_push_of_some _ q) (Nat.le_refl _)
    ⟨⟨Heap.Ns1.of_empty e3, fun y hy => absurd rfl hy⟩, ⟨_, e1⟩, fun h1 h2 p k => ⟨p.1.at k, p.2⟩⟩
  exact I1.laid (a := s.heap.objs.size + 1) (o := insO (s.heap.objs.size + 1) C s.heap.objs.size) (t' := s.toks) (fun b u q => Heap.get?_push_of_some _ q) (Nat.le_of_eq (Heap.size_push _ _)) ⟨e2, ⟨_, e2⟩, fun h1 h2 p k => k _ p⟩
end
/-! ### promises that know how many tokens were given out, and one raw argument -/
structure FnW (P : Program) (w : World) (K : PySem.W.Frag) (mg : Str → Option Value) (base : Heap) (k : Nat) (f : Addr) (fd : FuncData) (ps : List Str) (j : Nat) (sp : Nat → Value → Sp) : Prop where
  len : ∀ n u vs H Q E, sp n u vs H Q E → vs.length = ps.length
  run : ∀ (A : Around) (outer : List Env) (s : Shared) (H : Hp) (args : Args) (us : List Value) (vs : List V) (Q : VK) (n : Nat) (u0 : Value), Room k A → Env0 P w K mg base A outer s H → BindsTo s fd args (ps.zip us) → Vals vs us → n ≤ s.toks → us[j]? = some u0 → sp n u0 vs H Q E0 →
    codeAny (model P w) A (.call (.ref f) args) (fun r s' => match r with | .ok (.ret u) => CE outer P w H s Q u s' | _ => False) s
section
variable {P : Program} {w : World} {K : PySem.W.Frag} {mg : Str → Option Value} {base : Heap} {k j : Nat} {f : Addr} {fd : FuncData} {ps : List Str}
/-- .. from a walk that knows a plain argument's raw value too -/
theorem fnw_ofL {x qual y : Str} {st : Stmt} {N : List Str} {sp : Nat → Value → Sp} (F : Fun K x qual st f fd) (S : FnScope N ps (defScope st)) (len : ∀ n u vs H Q E, sp n u vs H Q E → vs.length = ps.length)
    (hy : ps[j]? = some y) (hk : (defScope st).names.lookup y = some .local)
    (walk : ∀ (cdv : Value) (A : Around) (outer : List Env) (s : Shared) (H : Hp) (us : List Value) (vs : List V) (Q : VK) (n : Nat) (u0 : Value), Room k (A.deeper (envOfC qual (defScope st) s.heap.objs.size f cdv)) → sp n u0 vs H Q E0 → Vals vs us → us[j]? = some u0 →
      ∃ t, Wu (cxOf CX0 P w K mg base N qual (defScope st) f cdv A outer s H E0).nox (fun s' => Raw (cxOf CX0 P w K mg base N qual (defScope st) f cdv A outer s H E0).nox y u0 s' ∧ n ≤ s'.toks) (defBody st) t ∧ t { nx := fun _ H' => Q .non H', rt := Q } (L2.start N vs) H) : FnW P w K mg base (k + 1) f fd ps j sp := by
  obtain ⟨oc, od, kV, doc, pm, an, cdv, ct, osl, rfl, lk, hcd⟩ := F.ex
  refine ⟨len, fun A outer s H args us vs Q n u0 hr e0 hb r hn hu hsp => ?_⟩
  have hl := len _ _ _ _ _ _ hsp
  have KX : K.In s.heap := e0.mod.kin.keeps fun b o e => (e0.bs b o e).1
  have lim : s.heap.NoLimit := e0.mod.nolimit.keeps fun b o e => (e0.bs b o e).1
  have hkind : ∀ y ∈ ps.zip us, (defScope st).names.lookup y.1 = some .local ∨ ((defScope st).names.lookup y.1 = some .cell ∧ ((cellsFrom (s.heap.objs.size + 1) (defScope st).names []).lookup y.1).isSome = true) := fun ⟨n, v⟩ hy =>
    (S.par n (List.of_mem_zip hy).1).elim .inl fun z => .inr ⟨z, PySem.W.cellsFrom_some _ _ _ (.inl z)⟩
  refine codeAny_call_function hr.depth (KX _ _ lk) rfl S.co S.gen rfl (PySem.W.codeRec_of KX hcd) (hb _ _ _ _ ?_)
  refine PySem.wpAny_with_toks (Nat.le_refl s.toks) (wpAny_newFunctionEnv_cells S.kind hkind fun env he s1 made toks1 => ?_)
  subst he
  refine ⟨lim.keeps made.toInCall.keep, codeAny_func ?_⟩
  have ndP : ps.Nodup := by rw [← S.pre]; exact S.nd.sublist (List.take_sublist _ _)
  have at1 := bindL_get (kindOf := (envOfC qual (defScope st) s.heap.objs.size f cdv).kindOf) (m := fun _ => none) ndP hy hu hk
  obtain ⟨t, ht, hq⟩ := walk cdv A outer s H us vs Q n u0 (hr.deeper _) hsp r hu
  have I : Inv (cxOf CX0 P w K mg base N qual (defScope st) f cdv A outer s H E0).nox [] (start N vs) H s1 := (inv_start S hr.hd e0 hl r made).wish _
  refine wpAny_mono (ht.run [] s1 (start N vs) H _ I ⟨⟨_, made.toInCall.ns, at1⟩, Nat.le_trans hn toks1⟩ hq) (fun fl s' hs => ?_) fun e s' hs => False.elim hs
  match fl, hs with
  | .ret u, ⟨v, σ', H', J, rv, q⟩ => exact ⟨v, H', J.os, J.bare, J.base, J.hok, rv, q⟩
  | .next, ⟨σ', H', J, q⟩ => exact ⟨V.non, H', J.os, J.bare, J.base, J.hok, rfl, q⟩
  | .brk, ⟨_, _, _, q⟩ => exact False.elim q
  | .cont, ⟨_, _, _, q⟩ => exact False.elim q
end
end Sq
set_option Elab.async false
set_option linter.all false
set_option maxRecDepth 100000
set_option maxHeartbeats 4000000
/-! A def of one argument and *others; rules for live objects. -/
namespace Sq
open PySem PySem.Spec PyProof.Rows L2 GenW
/-- f(self, *others) -/
structure FnV (P : Program) (w : World) (K : PySem.W.Frag) (mg : Str → Option Value) (base : Heap) (k : Nat) (f : Addr) (sp : Nat → Sp) : Prop where
  run : ∀ (A : Around) (outer : List Env) (s : Shared) (H : Hp) (u1 : Value) (us : List Value) (x : V) (vs : List V) (Q : VK) (n : Nat), Room k A → Env0 P w K mg base A outer s H → Vals (x :: vs) (u1 :: us) → n ≤ s.toks → us.length ≤ sizeLine → (∀ T, H T = none → sp n [x, .ref T] (upd H T (.tup vs)) Q E0) →
    codeAny (model P w) A (.call (.ref f) ⟨u1 :: us, []⟩) (fun r s' => match r with | .ok (.ret u) => CE outer P w H s Q u s' | _ => False) s
section
variable {P : Program} {w : World} {K : PySem.W.Frag} {mg : Str → Option Value} {base : Heap} {k : Nat} {f : Addr} {fd : FuncData}
theorem fnv_of {x qual y1 y2 : Str} {st : Stmt} {N : List Str} {sp : Nat → Sp} (F : Fun K x qual st f fd) (S : FnScope N [y1, y2] (defScope st)) (len : ∀ n vs H Q E, sp n vs H Q E → vs.length = 2)
    (bind : ∀ (kV doc pm : Value) (an : Option Addr) (cdv ct : Value) (u1 : Value) (us : List Value), bindArgs (PySem.W.fnOf x qual (defArgs st) (defBody st) (defScope st) .none kV doc pm an cdv ct) ⟨u1 :: us, []⟩ = (newTuple us >>= fun t => pure [(y1, u1), (y2, t)]))
    (walk : ∀ (cdv : Value) (A : Around) (outer : List Env) (s : Shared) (H : Hp) (vs : List V) (Q : VK) (n : Nat), Room k (A.deeper (envOfC qual (defScope st) s.heap.objs.size f cdv)) → sp n vs H Q E0 →
      ∃ t, Wu (cxOf CX0 P w K mg base N qual (defScope st) f cdv A outer s H E0).nox (fun s' => n ≤ s'.toks) (defBody st) t ∧ t { nx := fun _ H' => Q .non H', rt := Q } (L2.start N vs) H) : FnV P w K mg base (k + 1) f sp := by
  obtain ⟨oc, od, kV, doc, pm, an, cdv, ct, osl, rfl, lk, hcd⟩ := F.ex
  refine ⟨fun A outer s H u1 us x1 vs Q n hr e0 r hn few hsp => ?_⟩
  have KX : K.In s.heap := e0.mod.kin.keeps fun b o e => (e0.bs b o e).1
  have lim : s.heap.NoLimit := e0.mod.nolimit.keeps fun b o e => (e0.bs b o e).1
  refine codeAny_call_function hr.depth (KX _ _ lk) rfl S.co S.gen rfl (PySem.W.codeRec_of KX hcd) ?_
  rw [bind]
  refine wpAny_bind (wpAny_newTuple (wpAny_pure ?_) few)
  -- the tuple stands
  have kept : ∀ b o, s.heap.get? b = some o → (s.heap.push { cls := .type "tuple", data := .seq us.toArray }).get? b = some o := fun b o e => Heap.get?_push_of_some _ e
  have fresh : H s.heap.objs.size = none := e0.hok.fresh (Nat.le_refl _)
  have tup : ObjOk P w (upd H s.heap.objs.size (.tup vs)) (s.heap.push { cls := .type "tuple", data := .seq us.toArray }) s.heap.objs.size (.tup vs) := by
    cases r with
    | cons r1 rr => exact ⟨by rw [rr.length]; exact few, us, rr, IsTup.new s.heap _⟩
  have un1 : Un (frs outer) [] H (upd H s.heap.objs.size (.tup vs)) s.heap (s.heap.push { cls := .type "tuple", data := .seq us.toArray }) := Un.laid kept (Nat.le_refl _) fresh
  have hok1 : HOk P w (upd H s.heap.objs.size (.tup vs)) (s.heap.push { cls := .type "tuple", data := .seq us.toArray }) := e0.hok.laid kept (Nat.le_refl _) tup
  have neB : ∀ b, (∃ o, s.heap.get? b = some o) → b ≠ s.heap.objs.size := fun b ⟨o, e⟩ => Nat.ne_of_lt (Heap.lt_size e)
  have e1 : Env0 P w K mg base A outer { s with heap := s.heap.push { cls := .type "tuple", data := .seq us.toArray } } (upd H s.heap.objs.size (.tup vs)) := by
    refine ⟨e0.frames, e0.mod, fun b o e => ?_, ?_, ?_, fun b hb => ?_, hok1, e0.bare⟩
    · obtain ⟨q1, q2⟩ := e0.bs b o e
      exact ⟨kept _ _ q1, by rw [upd_ne (neB b ⟨o, q1⟩)]; exact q2⟩
    · exact Nat.le_trans e0.bsz (by rw [Heap.size_push]; exact Nat.le_succ _)
    · exact Heap.FunFrames.of_keeps (fun b o e _ => ⟨o, kept b o e, rfl⟩) e0.funs
    · have q := e0.funs.mem hb
      obtain ⟨_, o, e, _⟩ := q
      rw [upd_ne (neB b ⟨o, e⟩)]
      exact e0.frf b hb
  have r2 : Vals [x1, V.ref s.heap.objs.size] [u1, Value.ref s.heap.objs.size] := by
    cases r with
    | cons r1 rr => exact .cons r1 (.cons rfl .nil)
  have hq0 := hsp s.heap.objs.size fresh
  generalize es : ({ s with heap := s.heap.push { cls := .type "tuple", data := .seq us.toArray } } : Shared) = s1 at e1
  have hs1 : s1.heap = s.heap.push { cls := .type "tuple", data := .seq us.toArray } := by rw [← es]
  have ht1 : s1.toks = s.toks := by rw [← es]
  have ho1 : s1.os = s.os := by rw [← es]
  generalize upd H s.heap.objs.size (.tup vs) = H1 at e1 hq0 un1
  have hkind : ∀ y ∈ [y1, y2].zip [u1, Value.ref s.heap.objs.size], (defScope st).names.lookup y.1 = some .local ∨ ((defScope st).names.lookup y.1 = some .cell ∧ ((cellsFrom (s1.heap.objs.size + 1) (defScope st).names []).lookup y.1).isSome = true) := fun ⟨n, v⟩ hy =>
    (S.par n (List.of_mem_zip hy).1).elim .inl fun z => .inr ⟨z, PySem.W.cellsFrom_some _ _ _ (.inl z)⟩
  show wpAny _ _ (newFunctionEnv _ _ _ ([y1, y2].zip [u1, Value.ref s.heap.objs.size]) _ _ _ _ _) _ _ s1
  refine PySem.wpAny_with_toks (Nat.le_refl s1.toks) (wpAny_newFunctionEnv_cells S.kind hkind fun env he s2 made toks1 => ?_)
  subst he
  have lim1 : s1.heap.NoLimit := by rw [hs1]; exact lim.keeps kept
  refine ⟨lim1.keeps made.toInCall.keep, codeAny_func ?_⟩
  obtain ⟨t, ht, hq⟩ := walk cdv A outer s1 H1 [x1, V.ref s.heap.objs.size] Q n (hr.deeper _) hq0
  have I : Inv (cxOf CX0 P w K mg base N qual (defScope st) f cdv A outer s1 H1 E0).nox [] (start N [x1, V.ref s.heap.objs.size]) H1 s2 := (inv_start S hr.hd e1 rfl r2 made).wish _
  refine wpAny_mono (ht.run [] s2 (start N [x1, V.ref s.heap.objs.size]) H1 _ I (Nat.le_trans (by rw [ht1]; exact hn) toks1) hq) (fun fl s' hs => ?_) fun e s' hs => False.elim hs
  have fin : ∀ {v : V} {u : Value} {σ' H'}, Inv (cxOf CX0 P w K mg base N qual (defScope st) f cdv A outer s1 H1 E0).nox [] σ' H' s' → RelV v u → Q v H' → CE outer P w H s Q u s' := fun {v u σ' H'} J rv q =>
    ⟨v, H', J.os.trans ho1, J.bare, un1.trans (by rw [← hs1]; exact J.base), J.hok, rv, q⟩
  match fl, hs with
  | .ret u, ⟨v, σ', H', J, rv, q⟩ => exact fin J rv q
  | .next, ⟨σ', H', J, q⟩ => exact fin (v := V.non) J rfl q
  | .brk, ⟨_, _, _, q⟩ => exact False.elim q
  | .cont, ⟨_, _, _, q⟩ => exact False.elim q
end
end Sq
set_option Elab.async false
set_option linter.all false
set_option maxRecDepth 100000
set_option maxHeartbeats 4000000
/-! Rules for live objects: attributes, methods, properties, making. -/
namespace Sq
open PySem PySem.Spec PyProof.Rows L2 GenW
/-! ### readings -/
def tFldL (K : PySem.W.Frag) (ta : TE) (f : Str) : TE := fun σ H Q => ta σ H fun x H1 => ∃ a C dx m ks u v, x = .ref a ∧ Live H1 a C dx m ks ∧ Cls K C ∧ NoAttr K C f ∧ m f = some u ∧ RelV v u ∧ Q v H1
def sFldL (K : PySem.W.Frag) (ta tv : TE) (f : Str) : TS := fun D σ H => tv σ H fun y H1 => ta σ H1 fun x H2 => ∃ a C dx m ks, x = .ref a ∧ Live H2 a C dx m ks ∧ Cls K C ∧ NoAttr K C f ∧ ks.length < 1000 ∧
  ∀ u, RelV y u → D.nx σ (upd H2 dx (dicO dx (putM m f u) (f :: ks)))
/-- .. of the name in slot i, whose raw value is u -/
def sFldK (K : PySem.W.Frag) (ta : TE) (i : Nat) (u : Value) (f : Str) : TS := fun D σ H => ∃ y, σ[i]? = some (some y) ∧ (RelV y u → ta σ H fun x H2 => ∃ a C dx m ks, x = .ref a ∧ Live H2 a C dx m ks ∧ Cls K C ∧ NoAttr K C f ∧ ks.length < 1000 ∧
  D.nx σ (upd H2 dx (dicO dx (putM m f u) (f :: ks))))
def tML (C : Addr) (m : Str) (sp : Sp) (ta : TE) (t : TA) : TE := fun σ H Q => ta σ H fun x H1 => ∃ a dx mA ks, x = .ref a ∧ Live H1 a C dx mA ks ∧ mA m = none ∧ t σ H1 fun vs H2 => sp (x :: vs) H2 Q E0
def tMV (C : Addr) (m : Str) (sp : Sp) (ta : TE) (t : TA) : TE := fun σ H Q => ta σ H fun x H1 => ∃ a dx mA ks, x = .ref a ∧ Live H1 a C dx mA ks ∧ mA m = none ∧ t σ H1 fun vs H2 => vs.length ≤ sizeLine ∧ ∀ T, H2 T = none → sp [x, .ref T] (upd H2 T (.tup vs)) Q E0
def tPrL (C : Addr) (sp : Sp) (ta : TE) : TE := fun σ H Q => ta σ H fun x H1 => ∃ a dx m ks, x = .ref a ∧ Live H1 a C dx m ks ∧ sp [.ref a] H1 Q E0
/-- the making: the raw value of the argument behind the first is u -/
def tNewW (C : Addr) (sp : Value → Sp) (t : L2.St → Hp → (Value → List V → Hp → Prop) → Prop) : TE := fun σ H Q => t σ H fun u vs H1 => ∀ x dx, H1 x = none → H1 dx = none → dx ≠ x → sp u (.ref x :: vs) (upd (upd H1 dx (dicO dx (fun _ => none) [])) x (insO x C dx)) (fun v H2 => v = .non ∧ Q (.ref x) H2) E0
/-- raw arguments of which the j-th is u -/
structure Wq (X : Cx) (Θ : Shared → Prop) (j : Nat) (es : List Expr) (t : L2.St → Hp → (Value → List V → Hp → Prop) → Prop) : Prop where
  run : ∀ (pos : Pos) (pins : List (Addr × Obj)) (s : Shared) (σ : L2.St) (H : Hp) (Q : Value → List V → Hp → Prop), Inv X pins σ H s → Θ s → t σ H Q → wpAny (model X.prog X.w) X.A (spliced (backTo pos (starEach es X.env))) (fun us s' => Θ s' ∧ ∃ u, us[j]? = some u ∧ AP X pins σ (Q u) us s') X.xe s
def tQName (i : Nat) (u : Value) (t : TA) : L2.St → Hp → (Value → List V → Hp → Prop) → Prop := fun σ H Q => ∃ v, σ[i]? = some (some v) ∧ (RelV v u → t σ H fun vs H1 => Q u (v :: vs) H1)
def tQSkip (te : TE) (t : L2.St → Hp → (Value → List V → Hp → Prop) → Prop) : L2.St → Hp → (Value → List V → Hp → Prop) → Prop := fun σ H Q => te σ H fun v H1 => t σ H1 fun u vs H2 => Q u (v :: vs) H2
/-- any raw value -/
def tQAny (t : TA) : L2.St → Hp → (Value → List V → Hp → Prop) → Prop := fun σ H Q => t σ H fun vs H1 => ∃ v rest, vs = v :: rest ∧ ∀ u, RelV v u → Q u vs H1
/-- the raw value of the name y is u -/
structure KnownU (X : Cx) (Θ : Shared → Prop) (y : Str) (u : Value) : Prop where
  kn : ∀ (s : Shared), Θ s → (X.env.kindOf y = some .local ∧ Raw X y u s) ∨ (X.env.kindOf y = some .cell ∧ ∃ c, X.env.cells.lookup y = some c ∧ s.heap.IsCell c (some u))
section
variable {X : Cx} {Θ : Shared → Prop} {ys : List Str} {pins : List (Addr × Obj)} {σ : L2.St} {H : Hp} {s : Shared} {x y f m : Str} {p pos pos' apos : Pos} {o e value : Expr} {es : List Expr} {ta te tv : TE} {t : TA} {C : Addr} {sp : Sp} {k i j n : Nat} {u0 : Value} {tq : L2.St → Hp → (Value → List V → Hp → Prop) → Prop} {pl : Sem Bool} {st : Stmt} {ts : TS} {tt : TT} {sts : List Stmt} {ps : List Str}
/-! ### what knows the number of tokens alone keeps it -/
theorem we_ofP (h : PE X e te) : We X (fun s => n ≤ s.toks) e te := ⟨fun pins s σ H Q I θ q => wpAny_mono (PySem.wpAny_toks_of θ (h.run pins s σ H Q I q)) (fun _ _ z => z) fun _ _ z => z.2⟩
theorem wa_ofP (h : PA X es t) : Wa X (fun s => n ≤ s.toks) es t := ⟨fun pos pins s σ H Q I θ q => wpAny_mono (PySem.wpAny_toks_of θ (h.run pos pins s σ H Q I q)) (fun _ _ z => z) fun _ _ z => z.2⟩
theorem wt_ofP (h : PT X e tt) : Wt X (fun s => n ≤ s.toks) e tt := ⟨fun pins s σ H Q I θ q => wpAny_mono (PySem.wpAny_toks_of θ (h.run pins s σ H Q I q)) (fun _ _ z => z) fun _ _ z => z.2⟩
theorem ws_ofP (h : PS X st ts) : Ws X (fun s => n ≤ s.toks) st ts := ⟨fun pins s σ H D I θ q => wpAny_mono (PySem.wpAny_toks_of θ (h.run pins s σ H D I q)) (fun _ _ z => z) fun _ _ z => z.2⟩
/-! ### attributes -/
theorem pe_fldL (he : PE X e ta) (hb : attributeBase e f X.env (eval e X.env) = eval e X.env := by rfl) : PE X (.Attribute e f pos) (tFldL X.K ta f) := by
  refine ⟨fun pins s σ H Q I h => ?_⟩
  refine attr_of hb (thn (he.run pins s σ H _ I h) fun u s1 hh => ?_)
  obtain ⟨x, H1, I1, rx, a, C, dx, m, ks, u1, v, ex, L, c, n, hu, rv, q⟩ := hh
  subst ex
  obtain rfl : u = Value.ref a := rx
  exact live_get I1 L c n hu (handed_of rv) fun I2 => ⟨v, H1, I2, rv, q⟩
theorem ps_fldL (ha : PE X o ta) (hv : PE X value tv) (hs : swapsWith value (some (.Attribute o f pos')) pos.line X.env = pure false := by rfl) : PS X (.Assign [.Attribute o f pos'] value pos) (sFldL X.K ta tv f) := by
  refine ⟨fun pins s σ H D I h => ?_⟩
  refine plainObj_wpAny_Assign_Attribute (thn (hv.run pins s σ H _ I h) fun u s1 hh => ?_) hs
  obtain ⟨y, H1, I1, ry, q⟩ := hh
  refine thn (ha.run pins s1 σ H1 _ I1 q) fun ov s2 hh => ?_
  obtain ⟨x, H2, I2, rx, a, C, dx, m, ks, ex, L, c, n, l, q2⟩ := hh
  subst ex
  obtain rfl : ov = Value.ref a := rx
  exact live_set I2 L c n l fun s3 I3 _ _ => ⟨σ, _, I3, q2 u ry⟩
theorem knownU_eval {E Q : Value → Shared → Prop} {v : V} (Kn : KnownU X Θ y u0) (I : Inv X pins σ H s) (θ : Θ s) (hN : X.N[i]? = some y) (hv : Vis X.env.scope y) (h : σ[i]? = some (some v)) (fin : RelV v u0 → Q u0 s) (hd : (y == ("__debug__" : Str)) = false := by decide) :
    wpAny (model X.prog X.w) X.A (eval (.Name y p) X.env) Q E s := by
  obtain ⟨mm, hns, look⟩ := I.loc
  obtain ⟨u2, r, l⟩ := look i y v hN h hv
  rcases Kn.kn s θ with ⟨k, m2, ns2, e2⟩ | ⟨k, c, hc, cell⟩
  · have eu : u2 = u0 := by
      rcases l with ⟨_, q⟩ | ⟨k1, _⟩
      · rw [hns.agree ns2 y, e2] at q
        exact (Option.some.inj q).symm
      · rw [k] at k1
        rcases k1 with z | z <;> cases z
    exact wpAny_Name (wpAny_loadName_local I.ok.kind k ns2 e2 (fin (eu ▸ r))) hd
  · have eu : u2 = u0 := by
      rcases l with ⟨k1, _⟩ | ⟨_, c1, e1, cell1⟩
      · rw [k] at k1
        cases k1
      · rw [hc] at e1
        obtain rfl : c = c1 := Option.some.inj e1
        obtain ⟨o1, g1, d1⟩ := cell
        obtain ⟨o2, g2, d2⟩ := cell1
        rw [g1] at g2
        obtain rfl : o1 = o2 := Option.some.inj g2
        rw [d1] at d2
        injection d2 with d2
        exact (Option.some.inj d2).symm
    exact wpAny_Name (wpAny_loadName_cell I.ok.kind k hc cell (fin (eu ▸ r))) hd
theorem ps_fldK (Kn : KnownU X Θ y u0) (hN : X.N[i]? = some y) (hv : Vis X.env.scope y) (ha : We X Θ o ta) (hr : Wu X (fun s => n ≤ s.toks) sts ts) (hn : ∀ s, Θ s → n ≤ s.toks) (hs : swapsWith (.Name y p) (some (.Attribute o f pos')) pos.line X.env = pure false := by rfl) (hd : (y == ("__debug__" : Str)) = false := by decide) :
    Wu X Θ (.Assign [.Attribute o f pos'] (.Name y p) pos :: sts) (tSeq (sFldK X.K ta i u0 f) ts) := by
  refine ⟨fun pins s σ H D I θ h => ?_⟩
  obtain ⟨v, e, q⟩ := h
  refine wpAny_execs_cons (plainObj_wpAny_Assign_Attribute (knownU_eval Kn I θ hN hv e (fun r => ?_) hd) hs)
  refine thn (ha.run pins s σ H _ I θ (q r)) fun ov s2 hh => ?_
  obtain ⟨g2, x, H2, I2, rx, a, C, dx, m, ks, ex, L, c, nn, l, q2⟩ := hh
  subst ex
  obtain rfl : ov = Value.ref a := rx
  exact live_set I2 L c nn l fun s3 I3 _ up => hr.run pins s3 σ _ D I3 (Nat.le_trans (hn s2 g2) up) q2
/-! ### raw arguments -/
theorem wq_name (Kn : KnownU X Θ y u0) (hN : X.N[i]? = some y) (hv : Vis X.env.scope y) (hr : Wa X Θ es t) (hs : starEach (.Name y p :: es) X.env = (false, eval (.Name y p) X.env) :: starEach es X.env := by rfl) (hd : (y == ("__debug__" : Str)) = false := by decide) :
    Wq X Θ 0 (.Name y p :: es) (tQName i u0 t) := by
  refine ⟨fun pos pins s σ H Q I θ h => ?_⟩
  rw [hs]
  show wpAny _ _ (spliced ((false, eval (.Name y p) X.env) :: backTo pos (starEach es X.env))) _ _ s
  obtain ⟨v, e, q⟩ := h
  refine Calls.spliced_cons (knownU_eval Kn I θ hN hv e (fun r => ?_) hd)
  refine thn (hr.run pos pins s σ H _ I θ (q r)) fun us s2 hh => ?_
  obtain ⟨g2, xs, H2, I2, r2, q2⟩ := hh
  exact ⟨g2, u0, rfl, v :: xs, H2, I2, .cons r r2, q2⟩
theorem wq_skip (ha : We X Θ e te) (hr : Wq X Θ j es tq) (hs : starEach (e :: es) X.env = (false, eval e X.env) :: starEach es X.env := by rfl) : Wq X Θ (j + 1) (e :: es) (tQSkip te tq) := by
  refine ⟨fun pos pins s σ H Q I θ h => ?_⟩
  rw [hs]
  show wpAny _ _ (spliced ((false, eval e X.env) :: backTo pos (starEach es X.env))) _ _ s
  refine Calls.spliced_cons (thn (ha.run pins s σ H _ I θ h) fun v s1 hh => ?_)
  obtain ⟨g1, w, H1, I1, r1, q1⟩ := hh
  exact thn (hr.run pos pins s1 σ H1 _ I1 g1 q1) fun us s2 ⟨g2, u, eu, xs, H2, I2, r2, q2⟩ => ⟨g2, u, eu, w :: xs, H2, I2, .cons r1 r2, q2⟩
theorem wq_any (ha : Wa X Θ (e :: es) t) : Wq X Θ 0 (e :: es) (tQAny t) := by
  refine ⟨fun pos pins s σ H Q I θ h => ?_⟩
  refine thn (ha.run pos pins s σ H _ I θ h) fun us s2 hh => ?_
  obtain ⟨g2, xs, H2, I2, r2, v, rest, exs, q2⟩ := hh
  subst exs
  cases r2 with
  | cons r rr => exact ⟨g2, _, rfl, _, H2, I2, .cons r rr, q2 _ r⟩
/-! ### methods of live objects -/
theorem pe_mL0 (D : Mt CX0 X.prog X.w X.K X.mg X.base k C m ps sp) (hr : Room k X.A) (he : PE X o ta)
    (ht : eval (.Call (.Attribute o m apos) [] [] pos) X.env = (do
      let ov ← eval o X.env
      standAt apos.atName
      let (f, first) ← holding [ov] (getMethod ov m pl)
      callWith pos f first (backTo pos (starEach [] X.env)) (backToKw pos (keywordEach [] X.env))) := by rfl) :
    PE X (.Call (.Attribute o m apos) [] [] pos) (tML C m sp ta tNil) := by
  obtain ⟨⟨g, fd, F, hm, hb⟩, c⟩ := D
  refine ⟨fun pins s σ H Q I h => ?_⟩
  refine PySem.W.methodCall_KW (pl := pl) (thn (he.run pins s σ H _ I h) fun u s1 hh => ?_) ht
  obtain ⟨x, H1, I1, rx, a, dx, mA, ks, ex, L, l, q⟩ := hh
  subst ex
  obtain rfl : u = Value.ref a := rx
  refine live_meth I1 L c hm l ?_
  exact PySem.W.callWith_K0 (first := [.ref a]) I1.kIn hm.kp (run_fnS (E := fun _ => E0) (us := [.ref a]) (vs := [.ref a]) F hr hb (fun _ _ _ _ _ _ h => h.elim) I1 (.cons rfl .nil) q)
/-- o.m(..), m a def with *others -/
structure MtV (P : Program) (w : World) (K : PySem.W.Frag) (mg : Str → Option Value) (base : Heap) (k : Nat) (C : Addr) (m : Str) (sp : Nat → Sp) : Prop where
  ex : ∃ f, FnV P w K mg base k f sp ∧ Meth K C m f
  cl : Cls K C
theorem we_mV {spn : Nat → Sp} (Cl : Clo X ys Θ) (D : MtV X.prog X.w X.K X.mg X.base k C m spn) (hn : ∀ s, Θ s → n ≤ s.toks) (hr : Room k X.A) (he : We X Θ o ta) (ha : Wa X Θ (e :: es) t)
    (hst : starEach (e :: es) X.env = (false, eval e X.env) :: starEach es X.env := by rfl) (hpl : (backTo pos (starEach es X.env)).any (·.1) = false := by rfl)
    (ht : eval (.Call (.Attribute o m apos) (e :: es) [] pos) X.env = (do
      let ov ← eval o X.env
      standAt apos.atName
      let (f, first) ← holding [ov] (getMethod ov m pl)
      callWith pos f first (backTo pos (starEach (e :: es) X.env)) (backToKw pos (keywordEach [] X.env))) := by rfl) :
    We X Θ (.Call (.Attribute o m apos) (e :: es) [] pos) (tMV C m (spn n) ta t) := by
  obtain ⟨⟨g, F, hm⟩, c⟩ := D
  refine ⟨fun pins s σ H Q I θ h => ?_⟩
  refine PySem.W.methodCall_KW (pl := pl) (thn (he.run pins s σ H _ I θ h) fun u s1 hh => ?_) ht
  obtain ⟨g1, x, H1, I1, rx, a, dx, mA, ks, ex, L, l, q⟩ := hh
  subst ex
  obtain rfl : u = Value.ref a := rx
  refine live_meth I1 L c hm l ?_
  refine PySem.W.callWith_K (first := [.ref a]) (h₀ := X.base) I.ok.mod.kin hm.kp (thn (ha.run pos pins s1 σ H1 _ I1 g1 q) fun us s2 hh => ?_) hst hpl
  obtain ⟨g2, vs, H2, I2, r, few, q2⟩ := hh
  refine ⟨I2.kIn, ?_⟩
  have called : wpAny (model X.prog X.w) X.A (call (.ref g) (.ref a :: us)) (fun u s' => (s2.toks ≤ s'.toks → Θ s') ∧ EP X pins σ Q u s') X.xe s2 := by
    refine wpAny_call (codeAny_mono (F.run X.A X.stack s2 H2 (.ref a) us (.ref a) vs Q n hr I2.env0 (.cons rfl r) (hn s2 g2) (by rw [← r.length]; exact few) q2) fun r s' hq => ?_)
    match r, hq with
    | .ok (.ret u), hq =>
      have ce : CE X.stack X.prog X.w H2 s2 Q u s' := hq
      obtain ⟨_, _, _, _, un, _⟩ := id ce
      exact ⟨fun up => Cl.un0 I2 up un g2, I2.after ce⟩
  exact wpAny_mono (PySem.wpAny_toks called) (fun u s' z => ⟨z.2.1 z.1, z.2.2⟩) fun _ _ z => z.2
/-- a property -/
theorem pe_prL (D : Pr X.prog X.w X.K X.mg X.base k C f sp) (hr : Room (k + 1) X.A) (he : PE X e ta) (hab : attributeBase e f X.env (eval e X.env) = eval e X.env := by rfl) : PE X (.Attribute e f pos) (tPrL C sp ta) := by
  obtain ⟨⟨q, g, fd, hp, F, hb⟩, c⟩ := D
  refine ⟨fun pins s σ H Q I h => ?_⟩
  refine attr_of hab (thn (he.run pins s σ H _ I h) fun u s1 hh => ?_)
  obtain ⟨x, H1, I1, rx, a, dx, m, ks, ex, L, q2⟩ := hh
  subst ex
  obtain rfl : u = Value.ref a := rx
  obtain ⟨od, J, _⟩ := (L.obj I1.hok).1.look
  obtain ⟨rest, isProp⟩ := hp.rec_
  have I2 := I1.tok (s1.toks + 1)
  have known : (PySem.W.clsIn X.K C).isSome = true := by
    obtain ⟨cd, hc, _⟩ := PySem.W.any_some c.hd
    rw [hc]
    rfl
  refine PySem.W.get_bind I1.kIn J (PySem.W.plainGet_of (c.get f)).1 (PySem.W.findObj_data known hp.at_ hp.get hp.tak) (PySem.W.plainGet_of (c.get f)).2 (wpAny_call (PySem.W.prop_get (s := { s1 with toks := s1.toks + 1 }) I1.kIn isProp ?_))
  have bind := hb _ [Value.ref a] I2.kIn rfl
  rw [List.append_nil] at bind
  refine codeAny_mono (F.run X.A.in1 X.stack { s1 with toks := s1.toks + 1 } H1 ⟨[.ref a], []⟩ [.ref a] [.ref a] Q E0 hr.in1 I2.env0.in1 bind (.cons rfl .nil) q2) fun r s' hq => ?_
  match r, hq with
  | .error er, hq => exact False.elim hq
  | .ok (.ret w), hq =>
    obtain ⟨v, H', I3, rv, q3⟩ := I2.after hq
    show wpAny _ _ (handedOut w) _ _ _
    rw [PySem.W.handedOut_of (handed_of rv)]
    exact wpAny_pure ⟨v, H', I3, rv, q3⟩
/-! ### the making -/
structure MkW (P : Program) (w : World) (K : PySem.W.Frag) (mg : Str → Option Value) (base : Heap) (k : Nat) (x : Str) (C : Addr) (ps : List Str) (j : Nat) (sp : Nat → Value → Sp) : Prop where
  ex : ∃ f fd, Mk K C f ∧ FnW P w K mg base k f fd ps (j + 1) sp ∧ Binds K fd ps []
  at_ : mg x = some (.ref C)
theorem we_new {spn : Nat → Value → Sp} (Cl : Clo X ys Θ) (D : MkW X.prog X.w X.K X.mg X.base k x C ps j spn) (hn : ∀ s, Θ s → n ≤ s.toks) (hr : Room (k + 1) X.A) (hg : Gl X x) (ha : Wq X Θ j (e :: es) tq) (hdb : (x == ("__debug__" : Str)) = false := by decide)
    (he : starEach (e :: es) X.env = (false, eval e X.env) :: starEach es X.env := by rfl) (hpl : (backTo pos (starEach es X.env)).any (·.1) = false := by rfl) :
    We X Θ (.Call (.Name x p) (e :: es) [] pos) (tNewW C (spn n) tq) := by
  obtain ⟨⟨g, fd, M, F, hb⟩, hm⟩ := D
  refine ⟨fun pins s σ H Q I θ h => ?_⟩
  refine wpAny_Call_Name_kw (ld_glob I hg hm ?_ hdb)
  refine PySem.W.callWith_K (h₀ := X.base) I.ok.mod.kin M.kp (thn (ha.run pos pins s σ H _ I θ h) fun us s1 hh => ?_) he hpl
  obtain ⟨g1, u0, eu, vs, H1, I1, r, q⟩ := hh
  refine ⟨I1.kIn, ?_⟩
  have hq := q (s1.heap.objs.size + 1) s1.heap.objs.size (I1.hok.fresh (Nat.le_succ _)) (I1.hok.fresh (Nat.le_refl _)) (Nat.ne_of_lt (Nat.lt_succ_self _))
  have I2 := live_made (C := C) I1
  have r2 : Vals (V.ref (s1.heap.objs.size + 1) :: vs) (Value.ref (s1.heap.objs.size + 1) :: us) := .cons rfl r
  have hl : (Value.ref (s1.heap.objs.size + 1) :: us ++ []).length = ps.length := by
    have e := r2.length
    rw [F.len _ _ _ _ _ _ hq] at e
    rw [List.append_nil]
    exact e.symm
  have b := hb _ (Value.ref (s1.heap.objs.size + 1) :: us) I2.kIn hl
  rw [List.append_nil] at b
  have un1 : Un (frs X.stack) [] H1 (upd (upd H1 s1.heap.objs.size (dicO s1.heap.objs.size (fun _ => none) [])) (s1.heap.objs.size + 1) (insO (s1.heap.objs.size + 1) C s1.heap.objs.size)) s1.heap ((s1.heap.push PySem.W.emptyDict).push (PySem.W.instObj C s1.heap.objs.size)) := by
    have f2 : (upd H1 s1.heap.objs.size (dicO s1.heap.objs.size (fun _ => none) [])) (s1.heap.objs.size + 1) = none := by
      rw [upd_ne (Nat.succ_ne_self _)]
      exact I1.hok.fresh (Nat.le_succ _)
    exact (Un.laid (h' := s1.heap.push PySem.W.emptyDict) (fun b u q => Heap.get?_push_of_some _ q) (Nat.le_refl _) (I1.hok.fresh (Nat.le_refl _))).trans (Un.laid (fun b u q => Heap.get?_push_of_some _ q) (Nat.le_of_eq (Heap.size_push _ _)) f2)
  have called : wpAny (model X.prog X.w) X.A (call (.ref C) us) (fun u s' => (s1.toks ≤ s'.toks → Θ s') ∧ EP X pins σ Q u s') X.xe s1 := by
    refine wpAny_call (make_map (f := g) I1.kIn M.makes M.init (beq_iff_eq.mp M.fn) (codeAny_mono (F.run _ X.stack _ _ ⟨Value.ref (s1.heap.objs.size + 1) :: us, []⟩ (Value.ref (s1.heap.objs.size + 1) :: us) _ _ n u0 (hr.make C us [])
      (I2.env0.make C us []) b r2 (hn s1 g1) eu hq) fun r s' hq' => ?_))
    match r, hq' with
    | .ok (.ret u), hq' =>
      have ce : CE X.stack X.prog X.w _ _ _ u s' := hq'
      obtain ⟨_, _, _, _, un, _⟩ := id ce
      obtain ⟨v, H', I3, rv, ev, q3⟩ := I2.after ce
      subst ev
      exact ⟨rv, fun up => Cl.un0 I1 up (un1.trans un) g1, V.ref (s1.heap.objs.size + 1), H', I3, rfl, q3⟩
  exact wpAny_mono (PySem.wpAny_toks called) (fun u s' z => ⟨z.2.1 z.1, z.2.2⟩) fun _ _ z => z.2
end
end Sq
set_option Elab.async false
set_option linter.all false
set_option maxRecDepth 100000
set_option maxHeartbeats 4000000
/-! enumerate over a tuple. -/
namespace Sq
open PySem PySem.Spec PyProof.Rows L2
theorem enumT_meets (tp : Addr) (items : Array Value) (ob : Obj) (hcl : ob.cls = .type "tuple") (m : Nat) (hda : ob.data = .seq items m) :
    Meets (Builtin.«enumerate.__new__» ⟨[.type "enumerate", .ref tp], []⟩) (fun _ R s => s.heap.get? tp = some ob ∧
      R (.ok (.ret (.ref (s.heap.push { cls := .type "tuple_iterator", data := .fields #[.ref tp, .int 0 0] }).objs.size)))
        { s with heap := (s.heap.push { cls := .type "tuple_iterator", data := .fields #[.ref tp, .int 0 0] }).push { cls := .type "enumerate", data := .fields #[.none, .bool false, .ref s.heap.objs.size, rawInt 0, .none, .none] } }) :=
  .of_wp fun prog w A R s hh => by
    obtain ⟨h1, h2, h3, h4, h5⟩ := s
    obtain ⟨gt, hR⟩ := hh
    have isEnumCls := sub_enumerate
    have isT : Heap.IsTuple (Shared.heap ⟨h1, h2, h3, h4, h5⟩) tp items := ⟨_, gt, hcl, m, hda⟩
    wp_walk using AutoSeq1.wpAny_loadPart' gt
    refine wpAny_stack_any fun st => wpAny_pure ?_
    split
    · rename_i c _ _ _ _ _
      cases (c == Value.type "enumerate")
      · wp_walk using AutoSeq1.wpAny_loadPart' gt, wpAny_pyIter_tuple isT
        exact ⟨_, rfl, hR⟩
      · wp_walk using AutoSeq1.wpAny_loadPart' gt, wpAny_pyIter_tuple isT
        exact ⟨_, rfl, hR⟩
    · wp_walk using AutoSeq1.wpAny_loadPart' gt, wpAny_pyIter_tuple isT
      exact ⟨_, rfl, hR⟩
theorem enumT_call {prog : Program} {w : World} {A : Around} {E : Value → Shared → Prop} {s : Shared} {tp : Addr} {items : Array Value} {Q : Value → Shared → Prop} (isT : s.heap.IsTuple tp items)
    (fin : ∀ h', IsEnum h' (s.heap.objs.size + 1) s.heap.objs.size 0 .none → h'.IsTupleIter s.heap.objs.size tp 0 → h'.objs.size = s.heap.objs.size + 2 →
      (∀ b o, s.heap.get? b = some o → h'.get? b = some o) → Q (.ref (s.heap.objs.size + 1)) { s with heap := h' }) :
    wpAny (model prog w) A (call (.type "enumerate") [.ref tp]) Q E s := by
  obtain ⟨ob, gt, hcl, m, hda⟩ := isT
  refine callType_new F.called_enumerate (by decide) (F.typeCall_enumerate_1 _) (F.newCall_enumerate_1 _) (fun obj => F.args_object_init_2 obj _) F.entry_enumerate_new
    (enumT_meets tp items ob hcl m hda) ⟨gt, ?_⟩
  have sz : (s.heap.push { cls := .type "tuple_iterator", data := .fields #[.ref tp, .int 0 0] }).objs.size = s.heap.objs.size + 1 := Heap.size_push ..
  show _ ∧ _
  rw [sz]
  have isE : IsEnum ((s.heap.push { cls := .type "tuple_iterator", data := .fields #[.ref tp, .int 0 0] }).push
      { cls := .type "enumerate", data := .fields #[.none, .bool false, .ref s.heap.objs.size, rawInt 0, .none, .none] }) (s.heap.objs.size + 1) s.heap.objs.size 0 .none := by
    have z := Heap.get?_push_size (s.heap.push { cls := .type "tuple_iterator", data := .fields #[.ref tp, .int 0 0] })
      (o := { cls := .type "enumerate", data := .fields #[.none, .bool false, .ref s.heap.objs.size, rawInt 0, .none, .none] }) rfl
    rw [sz] at z
    exact z
  refine ⟨⟨_, isE, rfl⟩, fin _ isE ⟨_, Heap.get?_push_of_some _ (Heap.get?_push_size _ rfl), rfl, rfl⟩ (by rw [Heap.size_push, sz]) fun b o y => Heap.get?_push_of_some _ (Heap.get?_push_of_some _ y)⟩
/-- the items of a tuple with their places, in new pairs -/
def IteT (K : PySem.W.Frag) (a : Addr) (xs : List V) : It :=
  ⟨fun i H => SqT K H a xs ∧ i < xs.length, fun i H v H' => ∃ (T : Addr) (x : V), v = .ref T ∧ H T = none ∧ H' = upd H T (.tup [.int (i : Nat), x]) ∧ xs[i]? = some x, fun i H => SqT K H a xs ∧ i = xs.length⟩
theorem turn_enumT {P : Program} {w : World} {K : PySem.W.Frag} {elts : List Expr} {kk : Nat} {tpos : Pos} (en it a : Addr) (xs : List V) :
    Turn P w K (.Tuple elts kk tpos) (IteT K a xs) [en, it] en (fun i h => (∃ old, IsEnum h en it ((i : Nat) : Int) old) ∧ h.IsTupleIter it a i ∧ en ≠ it ∧ a ≠ it ∧ a ≠ en) where
  mem := List.mem_cons_self
  obj := fun i h st b hb => by
    obtain ⟨⟨old, isE⟩, ⟨o, ho, cls, dat⟩, _⟩ := st
    rcases List.mem_cons.mp hb with z | z
    · rw [z]
      exact ⟨_, isE, fun v q => nomatch q⟩
    · rw [List.mem_singleton.mp z]
      exact ⟨o, ho, fun v q => by rw [dat] at q; cases q⟩
  keep := fun i h h' st k => by
    obtain ⟨⟨old, isE⟩, ⟨o, ho, r⟩, ne⟩ := st
    exact ⟨⟨old, k en (by simp) _ isE⟩, ⟨o, k it (by simp) o ho, r⟩, ne⟩
  item := by
    intro X hP hw hK hc i pins s σ H E I hf st hg
    subst hP hw hK
    obtain ⟨⟨old, isE⟩, isI, ne, na, nb⟩ := st
    obtain ⟨hS, il⟩ := hg
    obtain ⟨its, rv, isT, hz⟩ := I.tuple hS
    have quiet : X.A.in1.handled = none := by simp [I.ok.hd hc]
    have lowE : en < s.heap.objs.size := Heap.lt_size isE
    have lowI : it < s.heap.objs.size := by
      obtain ⟨_, q, _⟩ := isI
      exact Heap.lt_size q
    have isT' : s.heap.IsTuple a its.toArray := isT
    have il2 : i < its.toArray.size := by rw [List.size_toArray, ← rv.length]; exact il
    have nfp : en ∉ [it, a] := fun z => by
      rcases List.mem_cons.mp z with z | z
      · exact ne z
      · exact nb (List.mem_singleton.mp z).symm
    refine wpAny_pyNext_enum_itemD (Draws.tuple quiet it a na its.toArray) isE ⟨isI, isT'⟩ il2 ne nfp fun v h' tk pv out isI' hT hsz hk => ?_
    have pv' : its[i]? = some v := by simpa using pv
    obtain ⟨x, ex⟩ : ∃ x, xs[i]? = some x := ⟨_, List.getElem?_eq_getElem il⟩
    obtain ⟨u, eu, ru⟩ := rv.get ex
    obtain rfl : u = v := by rw [eu] at pv'; exact Option.some.inj pv'
    refine ⟨_, rfl, wpAny_letOwnedTupleGo_enum (s := { s with heap := h', toks := tk + 1 }) out fun h2 isE2 sb => ?_⟩
    have fresh : H s.heap.objs.size = none := I.hok.fresh (Nat.le_refl _)
    have hT2 : h2.get? s.heap.objs.size = some { cls := .type "tuple", data := .seq #[.int i tk, u] } := (sb.2 _ (Nat.ne_of_gt lowE)).trans hT
    have made : ObjOk X.prog X.w (upd H s.heap.objs.size (.tup [.int (i : Nat), x])) h2 s.heap.objs.size (.tup [.int (i : Nat), x]) :=
      ⟨by show 2 ≤ sizeLine; rw [sizeLine_eq]; decide, [.int i tk, u], .cons ⟨_, rfl⟩ (.cons ru .nil), ⟨_, hT2, rfl, _, rfl⟩⟩
    have I1 : Inv X pins σ (upd H s.heap.objs.size (.tup [.int (i : Nat), x])) { s with heap := h2, toks := tk + 1 } :=
      I.turnedNew (ch := [en, it]) (fun b ob hb q => (sb.2 b (fun z => hb (by simp [z]))).trans (hk b ob (fun z => hb (by simp [z])) (fun z => hb (by simp [z])) q)) hf (Nat.le_refl _) made
    obtain ⟨⟨oi, eoi, ri⟩, _⟩ := isI'
    refine ⟨.ref s.heap.objs.size, _, I1, rfl, ⟨_, x, rfl, fresh, rfl, ex⟩, ⟨⟨u, ?_⟩, ⟨oi, (sb.2 it (Ne.symm ne)).trans eoi, ri⟩, ne, na, nb⟩, fun b hb => ?_⟩
    · rw [show ((i + 1 : Nat) : Int) = (i : Int) + 1 by omega]
      exact isE2
    · have lowB : b < s.heap.objs.size := by
        rcases List.mem_cons.mp hb with z | z
        · rw [z]
          exact lowE
        · rw [List.mem_singleton.mp z]
          exact lowI
      rw [upd_ne (Nat.ne_of_lt lowB)]
      exact (hf b hb).1
  done := by
    intro X hP hw hK hc i pins s σ H E I hf st hg
    subst hP hw hK
    obtain ⟨⟨old, isE⟩, isI, ne, na, nb⟩ := st
    obtain ⟨hS, last⟩ := hg
    obtain ⟨its, rv, isT, hz⟩ := I.tuple hS
    have quiet : X.A.in1.handled = none := by simp [I.ok.hd hc]
    have isT' : s.heap.IsTuple a its.toArray := isT
    have il2 : i = its.toArray.size := by rw [List.size_toArray, ← rv.length]; exact last
    obtain ⟨f0, f1, f2, f3, f4, f5⟩ := hf it (by simp)
    subst il2
    exact wpAny_pyNext_enum_endD (Draws.tuple quiet it a na its.toArray) isE ⟨isI, isT'⟩ fun h2 eb => ⟨rfl, I.turned (t' := s.toks) (fun b o hb q => eb b o hb q) f0 f1 f3 f4 f5⟩
  self := fun A i s Q E st h => by
    obtain ⟨⟨_, isE⟩, _⟩ := st
    exact wpAny_pyIter_enum isE h
def iEnumT (K : PySem.W.Frag) (ta : TA) : TI := fun σ H R => ta σ H fun vs H1 => ∃ a xs, vs = [.ref a] ∧ SqT K H1 a xs ∧ R (IteT K a xs) H1
theorem pi_enumT {X : Cx} {e : Expr} {ta : TA} {p pos tpos : Pos} {elts : List Expr} {kk : Nat} (hg : Gl X "enumerate") (hm : X.mg "enumerate" = none) (ha : PA X [e] ta) (hs : starEach [e] X.env = [(false, eval e X.env)] := by rfl) :
    PI X (.Tuple elts kk tpos) (.Call (.Name "enumerate" p) [e] [] pos) (iEnumT X.K ta) := by
  refine ⟨fun pins s σ H R I h => ?_⟩
  refine Call_ (ld_blt I hg hm boot_enumerate (PyProof.Rows.callWith_type1 (thn (ha.run pos pins s σ H _ I h) fun us s1 hh => ?_) hs rfl))
  obtain ⟨vs, H1, I1, r1, a, xs, ex, hq, q⟩ := hh
  subst ex
  obtain ⟨u, rfl, rfl⟩ := vals1 r1
  obtain ⟨its, rv, isT, hz⟩ := I1.tuple hq
  have isT' : s1.heap.IsTuple a its.toArray := isT
  have low : a < s1.heap.objs.size := by
    obtain ⟨o, e, _⟩ := isT'
    exact Heap.lt_size e
  refine enumT_call isT' fun h' isE isI hsz hk => wpAny_pyIter_enum isE ?_
  refine ⟨s1.heap.objs.size + 1, [s1.heap.objs.size + 1, s1.heap.objs.size], _, _, H1, rfl, I1.kept (t' := s1.toks) hk, turn_enumT (s1.heap.objs.size + 1) s1.heap.objs.size a xs, ⟨⟨.none, isE⟩, isI, Nat.succ_ne_self _, Nat.ne_of_lt low, Nat.ne_of_lt (Nat.lt_succ_of_lt low)⟩, fun b hb => ?_, q⟩
  have up : s1.heap.objs.size ≤ b := by
    rcases List.mem_cons.mp hb with z | z
    · rw [z]
      exact Nat.le_add_right _ _
    · rw [List.mem_singleton.mp z]
      exact Nat.le_refl _
  exact I1.fpOk up (I1.hok.fresh up)
theorem walk_enumT {K : PySem.W.Frag} {a : Addr} {xs : List V} : Walk (IteT K a xs) xs.length (fun H => SqT K H a xs) (fun i H v H' => ∃ (T : Addr) (x : V), v = .ref T ∧ H T = none ∧ H' = upd H T (.tup [.int (i : Nat), x]) ∧ xs[i]? = some x) :=
  ⟨fun i H hi q => ⟨q, hi⟩, fun H q => ⟨q, rfl⟩, fun i H v H' _ q h => h⟩
end Sq
set_option Elab.async false
set_option linter.all false
set_option maxRecDepth 100000
set_option maxHeartbeats 1000000
/-! range(lo, hi) of ints of any size; order of lists; list(g(..)). -/
namespace L2
open PySem PySem.Spec PyProof.Rows
end L2
set_option Elab.async false
set_option linter.all false
set_option maxRecDepth 100000
set_option maxHeartbeats 8000000
set_option exponentiation.threshold 2000
namespace Sq
open PySem PySem.Spec PyProof.Rows L2
def topS (i : Nat) : Stmt := PySem.Challenge.pw_squeezelists_k21_equal_live_texts.main.body.getD i (.Pass ⟨0, 0, 0, 0⟩)
abbrev s_checklist : Stmt := topS 7
theorem sc_checklist : FnScope ["replacements", "index", "number"] ["replacements"] (defScope s_checklist) := ⟨rfl, rfl, rfl, by decide +kernel, rfl, by decide +kernel, by decide +kernel⟩
abbrev s_checkcharacter : Stmt := topS 8
theorem sc_checkcharacter : FnScope ["character"] ["character"] (defScope s_checkcharacter) := ⟨rfl, rfl, rfl, by decide +kernel, rfl, by decide +kernel, by decide +kernel⟩
abbrev s_squeezetext : Stmt := topS 10
theorem sc_squeezetext : FnScope ["text", "character", "replacements", "lengths", "after", "others", "length", "other"] ["text", "character", "replacements"] (defScope s_squeezetext) := ⟨rfl, rfl, rfl, by decide +kernel, rfl, by decide +kernel, by decide +kernel⟩
abbrev s_lengthsbetween : Stmt := topS 13
theorem sc_lengthsbetween : FnScope ["text", "character", "lengths", "run", "sign"] ["text", "character"] (defScope s_lengthsbetween) := ⟨rfl, rfl, rfl, by decide +kernel, rfl, by decide +kernel, by decide +kernel⟩
abbrev s_lengthafter : Stmt := topS 11
theorem sc_lengthafter : FnScope ["length", "replacements", "present", "number"] ["length", "replacements"] (defScope s_lengthafter) := ⟨rfl, rfl, rfl, by decide +kernel, rfl, by decide +kernel, by decide +kernel⟩
abbrev s_lengthafterone : Stmt := topS 12
theorem sc_lengthafterone : FnScope ["length", "number", "groups", "left"] ["length", "number"] (defScope s_lengthafterone) := ⟨rfl, rfl, rfl, by decide +kernel, rfl, by decide +kernel, by decide +kernel⟩
abbrev s_SqueezedTextinit : Stmt := inClass (topS 15) 0
theorem sc_SqueezedTextinit : FnScope ["self", "text", "character"] ["self", "text", "character"] (defScope s_SqueezedTextinit) := ⟨rfl, rfl, rfl, by decide +kernel, rfl, by decide +kernel, by decide +kernel⟩
abbrev s_SqueezedTexttext : Stmt := inClass (topS 15) 3
theorem sc_SqueezedTexttext : FnScope ["self"] ["self"] (defScope s_SqueezedTexttext) := ⟨rfl, rfl, rfl, by decide +kernel, rfl, by decide +kernel, by decide +kernel⟩
abbrev s_SqueezedTextreplacements : Stmt := inClass (topS 15) 4
abbrev s_SqueezedTextlongest : Stmt := inClass (topS 15) 5
theorem sc_SqueezedTextlongest : FnScope ["self"] ["self"] (defScope s_SqueezedTextlongest) := ⟨rfl, rfl, rfl, by decide +kernel, rfl, by decide +kernel, by decide +kernel⟩
abbrev s_SqueezedTextsqueeze : Stmt := inClass (topS 15) 6
theorem sc_SqueezedTextsqueeze : FnScope ["self", "replacements", "longest", "number", "after"] ["self", "replacements"] (defScope s_SqueezedTextsqueeze) := ⟨rfl, rfl, rfl, by decide +kernel, rfl, by decide +kernel, by decide +kernel⟩
abbrev s_SqueezedTextundo : Stmt := inClass (topS 15) 7
theorem sc_SqueezedTextundo : FnScope ["self"] ["self"] (defScope s_SqueezedTextundo) := ⟨rfl, rfl, rfl, by decide +kernel, rfl, by decide +kernel, by decide +kernel⟩
abbrev s_SqueezedTexteq : Stmt := inClass (topS 15) 1
theorem sc_SqueezedTexteq : FnScope ["self", "other"] ["self", "other"] (defScope s_SqueezedTexteq) := ⟨rfl, rfl, rfl, by decide +kernel, rfl, by decide +kernel, by decide +kernel⟩
abbrev s_lawpool : Stmt := topS 17
theorem sc_lawpool : FnScope ["script", "at", "cell"] ["script", "at"] (defScope s_lawpool) := ⟨rfl, rfl, rfl, by decide +kernel, rfl, by decide +kernel, by decide +kernel⟩
abbrev s_lawdraw : Stmt := topS 18
theorem sc_lawdraw : FnScope ["pool", "many", "drawn", "mixed"] ["pool", "many"] (defScope s_lawdraw) := ⟨rfl, rfl, rfl, by decide +kernel, rfl, by decide +kernel, by decide +kernel⟩
abbrev s_lawlist : Stmt := topS 19
theorem sc_lawlist : FnScope ["pool", "most", "far", "found", "turn", "wide"] ["pool", "most", "far"] (defScope s_lawlist) := ⟨rfl, rfl, rfl, by decide +kernel, rfl, by decide +kernel, by decide +kernel⟩
abbrev s_lawtext : Stmt := topS 20
theorem sc_lawtext : FnScope ["pool", "most", "sign", "found", "turn", "long", "letter"] ["pool", "most"] (defScope s_lawtext) := ⟨rfl, rfl, rfl, by decide +kernel, rfl, by decide +kernel, by decide +kernel⟩
abbrev s_lawreplaced : Stmt := topS 21
theorem sc_lawreplaced : FnScope ["written", "sign", "numbers", "number"] ["written", "sign", "numbers"] (defScope s_lawreplaced) := ⟨rfl, rfl, rfl, by decide +kernel, rfl, by decide +kernel, by decide +kernel⟩
abbrev s_lawobject : Stmt := topS 22
theorem sc_lawobject : FnScope ["pool", "written", "sign", "numbers", "live", "number", "spot"] ["pool", "written", "sign", "numbers"] (defScope s_lawobject) := ⟨rfl, rfl, rfl, by decide +kernel, rfl, by decide +kernel, by decide +kernel⟩
/-! ### the draws -/
structure Rng (H : Hp) (l : Addr) (seed cnt : Int) : Prop where
  ob : ∃ dg, H l = some (.lst [.int dg, .int seed, .int cnt])
  s0 : 0 ≤ seed
  s1 : seed < 4611686018427387904
  c0 : 0 ≤ cnt
theorem Rng.same {H H' : Hp} {l : Addr} {seed cnt : Int} (S : Rng H l seed cnt) (s : Same H H') : Rng H' l seed cnt :=
  let ⟨dg, h⟩ := S.ob
  ⟨⟨dg, s _ _ h⟩, S.s0, S.s1, S.c0⟩
/-- all but the object at l is as it was -/
def Keep1 (H H' : Hp) (l : Addr) : Prop := ∀ b o, H b = some o → b ≠ l → H' b = some o
theorem Keep1.trans {H H1 H2 : Hp} {l : Addr} (a : Keep1 H H1 l) (b : Keep1 H1 H2 l) : Keep1 H H2 l := fun c o h n => b c o (a c o h n) n
theorem Keep1.of {H H' : Hp} {l : Addr} (s : Same H H') : Keep1 H H' l := fun b o h _ => s b o h
theorem Keep1.set {H : Hp} {l : Addr} {o : HO} : Keep1 H (upd H l o) l := fun c x h n => by
  rw [upd_ne n]
  exact h
section
variable {P : Program} {w : World} {K : PySem.W.Frag} {mg : Str → Option Value} {base : Heap}
def spPool (K : PySem.W.Frag) : Sp := fun vs H Q _ => ∃ (a : Addr) (ns : List Int) (j : Nat), vs = [.ref a, .int (j : Int)] ∧ SqL K H a (ns.map V.int) ∧ ns.length ≤ 63 ∧ j ≤ 100 ∧ ∀ l seed H', H l = none → Same H H' → Rng H' l seed 0 → Q (.ref l) H'
theorem ok_lawpool {f : Addr} {fd : FuncData} (F : Fun K "_law_pool" "_law_pool" s_lawpool f fd) (B : Bi mg) : FnOk P w K mg base CX0 1 f fd ["script", "at"] (spPool K) := by
  refine F.ok sc_lawpool (fun vs H Q E h => ?_) (fun cdv A outer s H vs Q E hr h => ?_)
  · obtain ⟨a, ns, j, rfl, _⟩ := h
    rfl
  · obtain ⟨a, ns, j, rfl, hS, hn, hj, q⟩ := h
    refine ⟨_, (pss_cons (ps_set (i := 2) sc_lawpool.nd rfl (Or.inl rfl) pe_int)
 (pss_cons (ps_if (pt_cmpR op_lt (pv 1) (pe_callB (id := "len") (r := rLenK K) call_lenK (by rfl) B.n_len (by decide +kernel) (pa_cons (pv 0) pa_nil)) (nomark _))
 (pss_one (ps_set (i := 2) sc_lawpool.nd rfl (Or.inl rfl) (pe_ix (r := rIxL K) ix_list (pv 0) (pv 1) (fun _ _ => rfl))))
 pss_nil)
 (pss_one (ps_ret (pe_lst (pa_cons (pe_callB (id := "max") (call_max2 rfl) (by rfl) B.n_max (by decide +kernel) (pa_cons pe_int (pa_cons (pe_op op_sub (pe_callB (id := "abs") call_abs (by rfl) B.n_abs (by decide +kernel) (pa_cons (pv 2) pa_nil)) (pe_op op_pow pe_int pe_int)) pa_nil))) (pa_cons (pe_op op_add (pe_op op_mod (pv 2) pe_int) (pe_op op_mul pe_int (pe_op op_add (pv 1) pe_int))) (pa_cons pe_int pa_nil)))))))), ?_⟩
    have rest : ∀ (cell : Int) (l : Addr), H l = none → Q (.ref l) (upd H l (.lst [.int (if (if cell < 0 then -cell else cell) - 10 ^ (18 : Int).toNat > 0 then (if cell < 0 then -cell else cell) - 10 ^ (18 : Int).toNat else 0), .int (cell % 2305843009213693951 + 3367900279 * ((j : Int) + 1)), .int 0])) := fun cell l hl => by
      have s0 : 0 ≤ cell % 2305843009213693951 := Int.emod_nonneg _ (by decide)
      have s1 : cell % 2305843009213693951 < 2305843009213693951 := Int.emod_lt_of_pos _ (by decide)
      exact q l _ _ hl (same_new hl) ⟨⟨_, upd_same⟩, by omega, by omega, Int.le_refl 0⟩
    have w3 : 3 ≤ sizeLine := Nat.le_of_lt (small1000 (by decide))
    refine ⟨_, rfl, _, rfl, a, _, rfl, .inl hS, _, _, rfl, rfl, _, rfl, ite2 (fun c => ?_) (fun c => ?_)⟩
    · have jl : j < ns.length := by
        have := of_decide_eq_true c
        rw [List.length_map] at this
        omega
      refine ⟨_, rfl, _, rfl, a, _, _, .int ns[j], rfl, rfl, hS, at_of (j := j) rfl (by rw [List.getElem?_map, List.getElem?_eq_getElem jl]; rfl), ?_⟩
      refine ⟨_, rfl, _, rfl, 10, 18, rfl, rfl, ⟨by decide, by decide, by decide⟩, _, _, rfl, rfl, 0, _, rfl, ?_⟩
      exact ⟨_, rfl, _, _, rfl, rfl, (by decide : (0 : Int) < 2305843009213693951), _, rfl, _, 1, rfl, rfl, 3367900279, _, rfl, rfl, .inl ⟨by decide, by decide⟩, _, _, rfl, rfl, w3, fun l hl => rest _ l hl⟩
    · refine ⟨_, rfl, _, rfl, 10, 18, rfl, rfl, ⟨by decide, by decide, by decide⟩, _, _, rfl, rfl, 0, _, rfl, ?_⟩
      exact ⟨_, rfl, _, _, rfl, rfl, (by decide : (0 : Int) < 2305843009213693951), _, rfl, _, 1, rfl, rfl, 3367900279, _, rfl, rfl, .inl ⟨by decide, by decide⟩, _, _, rfl, rfl, w3, fun l hl => rest _ l hl⟩
def spDraw : Sp := fun vs H Q _ => ∃ (l : Addr) (seed cnt limit : Int), vs = [.ref l, .int limit] ∧ Rng H l seed cnt ∧ cnt < 1000000 ∧ 0 < limit ∧ limit.natAbs < 2 ^ 700 ∧
  ∀ z cnt' H', 0 ≤ z → z < limit → Rng H' l seed cnt' → cnt' ≤ cnt + 1 → Keep1 H H' l → Q (.int z) H'
theorem ok_lawdraw {f : Addr} {fd : FuncData} (F : Fun K "_law_draw" "_law_draw" s_lawdraw f fd) : FnOk P w K mg base CX0 1 f fd ["pool", "many"] spDraw := by
  refine F.ok sc_lawdraw (fun vs H Q E h => ?_) (fun cdv A outer s H vs Q E hr h => ?_)
  · obtain ⟨l, seed, cnt, limit, rfl, _⟩ := h
    rfl
  · obtain ⟨l, seed, cnt, limit, rfl, S, hc, hm, hw, q⟩ := h
    refine ⟨_, (pss_cons (ps_if (pt_cmpR op_gt (pe_ix (r := rIxL K) ix_list (pv 0) pe_int (fun _ _ => rfl)) pe_int (nomark _))
 (pss_cons (ps_set (i := 2) sc_lawdraw.nd rfl (Or.inl rfl) (pe_op op_mod (pe_ix (r := rIxL K) ix_list (pv 0) pe_int (fun _ _ => rfl)) (pv 1)))
 (pss_cons (ps_asg (pe_op op_fdivW (pe_ix (r := rIxL K) ix_list (pv 0) pe_int (fun _ _ => rfl)) (pv 1)) (pg_sub (pv 0) pe_int set_list))
 (pss_one (ps_ret (pv 2)))))
 pss_nil)
 (pss_cons (ps_asg (pe_op op_add (pe_ix (r := rIxL K) ix_list (pv 0) pe_int (fun _ _ => rfl)) pe_int) (pg_sub (pv 0) pe_int set_list))
 (pss_cons (ps_set (i := 3) sc_lawdraw.nd rfl (Or.inl rfl) (pe_op op_mod (pe_op op_powW (pe_op op_add (pe_ix (r := rIxL K) ix_list (pv 0) pe_int (fun _ _ => rfl)) (pe_op op_mul pe_int (pe_ix (r := rIxL K) ix_list (pv 0) pe_int (fun _ _ => rfl)))) pe_int) pe_int))
 (pss_cons (ps_set (i := 3) sc_lawdraw.nd rfl (Or.inl rfl) (pe_op op_mod (pe_op op_powW (pe_op op_add (pv 3) (pe_op op_mul pe_int (pe_ix (r := rIxL K) ix_list (pv 0) pe_int (fun _ _ => rfl)))) pe_int) pe_int))
 (pss_one (ps_ret (pe_op op_mod (pe_op op_fdiv (pv 3) pe_int) (pv 1)))))))), ?_⟩
    have s0 := S.s0
    have s1 := S.s1
    have c0 := S.c0
    obtain ⟨dg, hl⟩ := S.ob
    refine ⟨_, rfl, l, _, 0, _, rfl, rfl, SqL.of hl, rfl, dg, 0, rfl, rfl, _, rfl, ite2 (fun c1 => ?_) (fun c1 => ?_)⟩
    · refine ⟨_, rfl, l, _, 0, _, rfl, rfl, SqL.of hl, rfl, _, rfl, dg, limit, rfl, rfl, hm, ?_⟩
      refine ⟨_, rfl, l, _, 0, _, rfl, rfl, SqL.of hl, rfl, _, rfl, dg, limit, rfl, rfl, wide_div hm hw (by decide) (by decide), ?_⟩
      refine ⟨_, rfl, l, _, 0, 0, rfl, rfl, hl, rfl, _, rfl, ?_⟩
      exact q _ cnt _ (Int.emod_nonneg _ (by omega)) (Int.emod_lt_of_pos _ hm) ⟨⟨dg / limit, upd_same⟩, s0, s1, c0⟩ (by omega) Keep1.set
    · refine ⟨_, rfl, l, _, 2, _, rfl, rfl, SqL.of hl, rfl, cnt, 1, rfl, rfl, _, rfl, l, _, 2, 2, rfl, rfl, hl, rfl, ?_⟩
      have hl3 : (upd H l (.lst [.int dg, .int seed, .int (cnt + 1)])) l = some (.lst [.int dg, .int seed, .int (cnt + 1)]) := upd_same
      have b1 : (seed + 15493301 * (cnt + 1)).natAbs < 2 ^ 63 := by omega
      refine ⟨_, rfl, l, _, 1, _, rfl, rfl, SqL.of hl3, rfl, _, rfl, l, _, 2, _, rfl, rfl, SqL.of hl3, rfl, 15493301, cnt + 1, rfl, rfl, .inl ⟨by decide, by decide⟩, seed, _, rfl, rfl, _, 3, rfl, rfl, powW_of (by decide) b1 (by decide) (by decide), _, _, rfl, rfl, (by decide : (0 : Int) < 162259276829213363391578010288127), ?_⟩
      have p0 : 0 ≤ (seed + 15493301 * (cnt + 1)) ^ (3 : Int).toNat % 162259276829213363391578010288127 := Int.emod_nonneg _ (by decide)
      have p1 : (seed + 15493301 * (cnt + 1)) ^ (3 : Int).toNat % 162259276829213363391578010288127 < 162259276829213363391578010288127 := Int.emod_lt_of_pos _ (by decide)
      have b2 : ((seed + 15493301 * (cnt + 1)) ^ (3 : Int).toNat % 162259276829213363391578010288127 + 32454031 * (cnt + 1)).natAbs < 2 ^ 110 := by
        generalize (seed + 15493301 * (cnt + 1)) ^ (3 : Int).toNat % 162259276829213363391578010288127 = y at p0 p1
        omega
      refine ⟨_, rfl, _, rfl, l, _, 2, _, rfl, rfl, SqL.of hl3, rfl, 32454031, cnt + 1, rfl, rfl, .inl ⟨by decide, by decide⟩, _, _, rfl, rfl, _, 5, rfl, rfl, powW_of (by decide) b2 (by decide) (by decide), _, _, rfl, rfl, (by decide : (0 : Int) < 170141183460469231731687303715884105727), ?_⟩
      refine ⟨_, rfl, _, 1048576, rfl, rfl, ⟨by decide, by decide⟩, _, rfl, _, limit, rfl, rfl, hm, ?_⟩
      exact q _ (cnt + 1) _ (Int.emod_nonneg _ (by omega)) (Int.emod_lt_of_pos _ hm) ⟨⟨dg, hl3⟩, s0, s1, by omega⟩ (by omega) Keep1.set
end
theorem Rng.free {H H' : Hp} {l p : Addr} {seed cnt : Int} (k : Keep1 H H' l) (S : Rng H' l seed cnt) (h : H' p = none) : H p = none := by
  obtain ⟨dg, hl⟩ := S.ob
  cases e : H p with
  | none => rfl
  | some o =>
    have := k p o e (fun z => by rw [z, hl] at h; cases h)
    rw [h] at this
    cases this
theorem Rng.ne {H : Hp} {l p : Addr} {seed cnt : Int} (S : Rng H l seed cnt) (h : H p = none) : p ≠ l := fun z => by
  obtain ⟨dg, hl⟩ := S.ob
  rw [z, hl] at h
  cases h
theorem Rng.upd {H : Hp} {l p : Addr} {seed cnt : Int} {o : HO} (S : Rng H l seed cnt) (h : p ≠ l) : Rng (upd H p o) l seed cnt :=
  let ⟨dg, hl⟩ := S.ob
  ⟨⟨dg, by rw [upd_ne h.symm]; exact hl⟩, S.s0, S.s1, S.c0⟩
theorem nth_of {xs : List Int} {z : Int} (h0 : 0 ≤ z) (h : z < xs.length) : ∃ k, k ∈ xs ∧ atI (xs.map V.int) z = some (.int k) := by
  have lt : z.toNat < xs.length := by omega
  refine ⟨xs[z.toNat], List.getElem_mem lt, at_of (j := z.toNat) (by omega) ?_⟩
  rw [List.getElem?_map, List.getElem?_eq_getElem lt]
  rfl
theorem lim10 {i : Int} (h : i.natAbs ≤ 10 ^ 31) : i.natAbs < 2 ^ 700 := Nat.lt_of_le_of_lt h (by decide)
section
variable {P : Program} {w : World} {K : PySem.W.Frag} {mg : Str → Option Value} {base : Heap}
def spList : Sp := fun vs H Q _ => ∃ (l : Addr) (seed cnt M far : Int), vs = [.ref l, .int M, .int far] ∧ 0 ≤ M ∧ M ≤ 100 ∧ 2 ≤ far ∧ far ≤ 1000000 ∧ Rng H l seed cnt ∧ cnt < 500000 ∧
  ∀ p ks cnt' H', H p = none → Rng H' l seed cnt' → cnt' ≤ cnt + 1 + 2 * M → Keep1 H H' l → H' p = some (.lst (List.map V.int ks)) → ks.length ≤ M → (∀ k ∈ ks, 2 ≤ k ∧ k ≤ far) → Q (.ref p) H'
theorem ok_lawlist {f : Addr} {fd : FuncData} (F : Fun K "_law_list" "_law_list" s_lawlist f fd) (B : Bi mg) (D_lawdraw : Df P w K mg base 1 "_law_draw" ["pool", "many"] spDraw) : FnOk P w K mg base CX0 2 f fd ["pool", "most", "far"] spList := by
  refine F.ok sc_lawlist (fun vs H Q E h => ?_) (fun cdv A outer s H vs Q E hr h => ?_)
  · obtain ⟨l, seed, cnt, M, far, rfl, _⟩ := h
    rfl
  · obtain ⟨l, seed, cnt, M, far, rfl, M0, M1, f0, f1, S, hc, q⟩ := h
    refine ⟨_, (pss_cons (ps_set (i := 3) sc_lawlist.nd rfl (Or.inl rfl) (pe_lst pa_nil))
 (pss_cons (ps_for PassesOwn.never rfl (pi_range1 (by rfl) B.n_range (pa_cons (pe_callD D_lawdraw (hr.mono (by omega)) (by rfl) (pa_cons (pv 0) (pa_cons (pe_op op_add (pv 1) pe_int) pa_nil))) pa_nil)) (pg_name (i := 4) sc_lawlist.nd rfl (Or.inl rfl))
 (pss_cons (ps_set (i := 5) sc_lawlist.nd rfl (Or.inl rfl) (pe_callB (id := "min") (call_min2 rfl) (by rfl) B.n_min (by decide +kernel) (pa_cons (pe_op op_sub (pv 2) pe_int) (pa_cons (pe_ix (r := rIxL K) ix_list (pe_lst (pa_cons pe_int (pa_cons pe_int (pa_cons pe_int (pa_cons (pe_op op_sub (pv 2) pe_int) pa_nil))))) (pe_callD D_lawdraw (hr.mono (by omega)) (by rfl) (pa_cons (pv 0) (pa_cons pe_int pa_nil))) (fun _ _ => rfl)) pa_nil))))
 (pss_one (ps_expr (pe_bm PySem.F.plainAttrs_list PySem.F.slot_list_append PySem.F.type_list_append mt_append (pv 3) (pa_cons (pe_op op_add pe_int (pe_callD D_lawdraw (hr.mono (by omega)) (by rfl) (pa_cons (pv 0) (pa_cons (pv 5) pa_nil)))) pa_nil))))))
 (pss_one (ps_ret (pv 3))))), ?_⟩
    have w4 : 4 ≤ sizeLine := Nat.le_of_lt (small1000 (by decide))
    refine ⟨Nat.zero_le _, fun p hp => ?_⟩
    have npl := S.ne hp
    refine ⟨_, rfl, _, rfl, M, 1, rfl, rfl, l, seed, cnt, M + 1, rfl, S.same (same_new hp), by omega, by omega, lim10 (by omega), fun m c1 H1 m0 m1 S1 hc1 k1 => ?_⟩
    have gp1 := k1 _ _ (upd_same (H := H) (o := .lst [])) npl
    have k01 : Keep1 H H1 l := (Keep1.of (same_new hp)).trans k1
    refine ⟨m, rfl, by omega, by omega, for_range (lo := 0) (n := m.toNat) (fun i σ H' => ∃ ks cnt' y4 y5, σ = [some (.ref l), some (.int M), some (.int far), some (.ref p), y4, y5] ∧ Rng H' l seed cnt' ∧ cnt' ≤ cnt + 1 + 2 * i ∧ (∀ b o, H b = some o → b ≠ l → H' b = some o) ∧ H' p = some (.lst (List.map V.int ks)) ∧ ks.length = i ∧ ∀ k ∈ ks, 2 ≤ k ∧ k ≤ far)
      ⟨[], c1, none, none, rfl, S1, by omega, k01, gp1, rfl, fun k z => (nomatch z)⟩ ?_ ?_⟩
    · rintro i σ H3 hi ⟨ks, cnt3, y4, y5, rfl, S3, hc3, k3, gp3, lk, hk⟩
      refine ⟨_, rfl, far, 1, rfl, rfl, _, rfl, far, 1, rfl, rfl, w4, fun t ht => ?_⟩
      have nt := S3.ne ht
      refine ⟨_, rfl, l, seed, cnt3, 4, rfl, S3.same (same_new ht), by omega, by decide, by decide, fun z c4 H4 z0 z1 S4 hc4 k4 => ?_⟩
      obtain ⟨v, vm, va⟩ := nth_of (xs := [2, 5, 30, far - 1]) z0 z1
      have vb : 1 ≤ v := by
        simp only [List.mem_cons, List.not_mem_nil, or_false] at vm
        omega
      refine ⟨t, _, z, .int v, rfl, rfl, SqL.of (k4 _ _ upd_same nt), va, _, _, rfl, ?_⟩
      obtain ⟨wd, ewd⟩ : ∃ wd, wd = (if v < far - 1 then v else far - 1) := ⟨_, rfl⟩
      have wb : 1 ≤ wd ∧ wd ≤ far - 1 := by
        rw [ewd]
        split <;> omega
      rw [← ewd]
      have gp4 := k4 _ _ (same_new ht _ _ gp3) npl
      refine ⟨_, rfl, .inl ⟨rfl, _, SqL.of gp4⟩, _, rfl, _, rfl, l, seed, c4, wd, rfl, S4, by omega, by omega, lim10 (by omega), fun z5 c5 H5 z50 z51 S5 hc5 k5 => ⟨2, z5, rfl, rfl, p, _, _, rfl, rfl, k5 _ _ gp4 npl, small1000 (by rw [List.length_map]; omega), ?_⟩⟩
      refine ⟨ks ++ [2 + z5], c5, _, _, rfl, S5.upd npl, by omega, fun b o e nb => ?_, ?_, by rw [List.length_append, lk]; rfl, fun x hx => ?_⟩
      · rw [upd_ne (ne_of_none e hp)]
        exact k5 _ _ (k4 _ _ (same_new ht _ _ (k3 _ _ e nb)) nb) nb
      · rw [upd_same, List.map_append]
        rfl
      · rcases List.mem_append.mp hx with h | h
        · exact hk x h
        · rw [List.mem_singleton.mp h]
          omega
    · rintro σ H3 ⟨ks, cnt3, y4, y5, rfl, S3, hc3, k3, gp3, lk, hk⟩
      exact ⟨_, rfl, q p ks cnt3 H3 hp S3 (by omega) k3 gp3 (by omega) hk⟩
end
end Sq
set_option Elab.async false
set_option linter.all false
set_option maxRecDepth 100000
set_option maxHeartbeats 8000000
set_option exponentiation.threshold 2000
namespace Sq
open PySem PySem.Spec PyProof.Rows L2
section
variable {P : Program} {w : World} {K : PySem.W.Frag} {mg : Str → Option Value} {base : Heap}
/-! ### the checks -/
def spCheckList (K : PySem.W.Frag) : Sp := fun vs H Q _ => ∃ (a : Addr) (ks : List Int), vs = [.ref a] ∧ SqL K H a (ks.map V.int) ∧ (∀ k ∈ ks, 2 ≤ k) ∧ ∀ H', Same H H' → Q .non H'
theorem ok_checklist {f : Addr} {fd : FuncData} (F : Fun K "check_list" "check_list" s_checklist f fd) (B : Bi mg) : FnOk P w K mg base CX0 1 f fd ["replacements"] (spCheckList K) := by
  refine F.ok sc_checklist (fun vs H Q E h => ?_) (fun cdv A outer s H vs Q E hr h => ?_)
  · obtain ⟨a, ks, rfl, _⟩ := h
    rfl
  · obtain ⟨a, ks, rfl, hS, hk, q⟩ := h
    refine ⟨_, (pss_one (ps_for PassesOwn.never rfl (pi_enum (by rfl) B.n_enumerate (pa_cons (pv 0) pa_nil)) (pg_tup rfl (pgs_cons (pg_name (i := 1) sc_checklist.nd rfl (Or.inl rfl)) (pgs_cons (pg_name (i := 2) sc_checklist.nd rfl (Or.inl rfl)) pgs_nil)))
 (pss_one (ps_if (pt_cmpR op_lt (pv 2) pe_int (nomark _))
 (pss_one ps_never)
 pss_nil)))), ?_⟩
    refine ⟨_, rfl, a, ks.map V.int, rfl, hS, for_it walk_enum (fun i σ H' => Same H H' ∧ ∃ y z, σ = [some (.ref a), y, z]) ⟨Same.refl H, none, none, rfl⟩ (fun i σ H' _ h => h.1.seq hS) ?_ ?_⟩
    · rintro i σ H' v H2 hi ⟨sm, y, z, rfl⟩ ⟨T, x1, x2, rfl, nT, rfl, e1, e2⟩
      obtain ⟨k, hk', rfl⟩ := map_at e2
      cases e1
      refine ⟨T, _, rfl, .inl (.inl upd_same), rfl, _, _, rfl, _, _, rfl, rfl, ?_⟩
      refine ⟨_, rfl, _, _, rfl, rfl, _, rfl, ite2 (fun c => ?_) (fun c => ?_)⟩
      · have := hk k (List.mem_of_getElem? hk')
        have c' : k < 2 := of_decide_eq_true c
        omega
      · exact ⟨sm.trans (same_new nT), _, _, rfl⟩
    · rintro σ H' ⟨sm, y, z, rfl⟩
      exact q H' sm
end
section
variable {P : Program} {w : World} {K : PySem.W.Frag} {mg : Str → Option Value} {base : Heap} {c fI : Nat → Addr} {qn : Nat → Str} {cB : Addr}
def spOnceS : Sp := fun vs H Q _ => ∃ (n k : Int), vs = [.int n, .int k] ∧ 2 ≤ k ∧ k < 1073741824 ∧ ∀ H', Same H H' → Q (.int (once n k)) H'
theorem ok_lengthafterone {f : Addr} {fd : FuncData} (F : Fun K "length_after_one" "length_after_one" s_lengthafterone f fd) (B : Bi mg) : FnOk P w K mg base CX0 1 f fd ["length", "number"] spOnceS := by
  refine F.ok sc_lengthafterone (fun vs H Q E h => ?_) (fun cdv A outer s H vs Q E hr h => ?_)
  · obtain ⟨n, k, rfl, _⟩ := h
    rfl
  · obtain ⟨n, k, rfl, k1, k2, q⟩ := h
    refine ⟨_, (pss_cons (ps_asg (pe_callB (id := "divmod") call_divmod (by rfl) B.n_divmod (by decide +kernel) (pa_cons (pv 0) (pa_cons (pv 1) pa_nil))) (pg_tup rfl (pgs_cons (pg_name (i := 2) sc_lengthafterone.nd rfl (Or.inl rfl)) (pgs_cons (pg_name (i := 3) sc_lengthafterone.nd rfl (Or.inl rfl)) pgs_nil))))
 (pss_one (ps_ret (pe_op op_add (pv 2) (pv 3))))), ?_⟩
    refine ⟨_, rfl, _, rfl, n, k, rfl, ⟨by omega, k2⟩, fun p hp => ?_⟩
    exact ⟨p, _, rfl, .inl (.inl upd_same), rfl, _, _, rfl, _, _, rfl, rfl, _, rfl, _, rfl, _, _, rfl, rfl, q _ (same_new hp)⟩
def spSqzS (K : PySem.W.Frag) : Sp := fun vs H Q _ => ∃ (n : Int) (a : Addr) (ks : List Int), vs = [.int n, .ref a] ∧ SqL K H a (ks.map V.int) ∧ Rpl ks ∧ ∀ H', Same H H' → Q (.int (sq n ks)) H'
theorem ok_lengthafter {f : Addr} {fd : FuncData} (F : Fun K "length_after" "length_after" s_lengthafter f fd) (D_lengthafterone : Df P w K mg base 1 "length_after_one" ["length", "number"] spOnceS) : FnOk P w K mg base CX0 2 f fd ["length", "replacements"] (spSqzS K) := by
  refine F.ok sc_lengthafter (fun vs H Q E h => ?_) (fun cdv A outer s H vs Q E hr h => ?_)
  · obtain ⟨n, a, ks, rfl, _⟩ := h
    rfl
  · obtain ⟨n, a, ks, rfl, hS, hk, q⟩ := h
    refine ⟨_, (pss_cons (ps_set (i := 2) sc_lengthafter.nd rfl (Or.inl rfl) (pv 0))
 (pss_cons (ps_for PassesOwn.never rfl (pi_list (pv 1)) (pg_name (i := 3) sc_lengthafter.nd rfl (Or.inl rfl))
 (pss_one (ps_set (i := 2) sc_lengthafter.nd rfl (Or.inl rfl) (pe_callD D_lengthafterone (hr.mono (by omega)) (by rfl) (pa_cons (pv 2) (pa_cons (pv 3) pa_nil))))))
 (pss_one (ps_ret (pv 2))))), ?_⟩
    refine ⟨_, rfl, _, rfl, a, rfl, ⟨_, hS⟩, for_list (K := K) (a := a) (xs := ks.map V.int) (fun i σ H' => Same H H' ∧ ∃ y, σ = [some (.int n), some (.ref a), some (.int (sq n (ks.take i))), y]) ⟨Same.refl H, none, rfl⟩ (fun i σ H' _ h => h.1.seq hS) ?_ ?_⟩
    · rintro i x σ H' hi ⟨sm, y, rfl⟩
      obtain ⟨k, e, rfl⟩ := map_at hi
      have hm := hk k (List.mem_of_getElem? e)
      refine ⟨_, rfl, _, rfl, _, k, rfl, hm.1, hm.2, fun H'' s2 => ⟨sm.trans s2, some (.int k), ?_⟩⟩
      rw [List.take_add_one, e]
      show _ = [_, _, some (V.int (sq n (ks.take i ++ [k]))), _]
      rw [sq_concat]
      rfl
    · rintro σ H' ⟨sm, y, rfl⟩
      rw [List.length_map, List.take_length]
      exact ⟨_, rfl, q _ sm⟩
end
theorem z1 : 1 ≤ sizeLine := Nat.le_of_lt (small1000 (by decide))
section
variable {P : Program} {w : World} {K : PySem.W.Frag} {mg : Str → Option Value} {base : Heap}
def spCheckChr : Sp := fun vs H Q _ => ∃ b : Str, vs = [.str b] ∧ b.length = 1 ∧ Q .non H
theorem ok_checkcharacter {f : Addr} {fd : FuncData} (F : Fun K "check_character" "check_character" s_checkcharacter f fd) (B : Bi mg) : FnOk P w K mg base CX0 1 f fd ["character"] spCheckChr := by
  refine F.ok sc_checkcharacter (fun vs H Q E h => ?_) (fun cdv A outer s H vs Q E hr h => ?_)
  · obtain ⟨b, rfl, _⟩ := h
    rfl
  · obtain ⟨b, rfl, hb, q⟩ := h
    refine ⟨_, (pss_one (ps_if (PW.pt (pw_or (pt_not (pt_val (pe_callB (id := "isinstance") call_isi (by rfl) B.n_isinstance (by decide +kernel) (pa_cons (pv 0) (pa_cons (pe_bltn (v := .ty "str") (by rfl) B.n_str (by decide +kernel) rfl) pa_nil))))) (pw_or1 (pt_cmpR op_ne (pe_callB (id := "len") call_len_str (by rfl) B.n_len (by decide +kernel) (pa_cons (pv 0) pa_nil)) pe_int (nomark _)))))
 (pss_one ps_never)
 pss_nil)), ?_⟩
    have h1 : (b.length : Int) = 1 := by omega
    refine ⟨_, rfl, _, _, _, _, true, rfl, .ty _, (.base (.str b)), kit_ty (by decide +kernel), _, rfl, iteF ?_⟩
    refine ⟨_, rfl, b, rfl, by rw [hb]; exact z1, rfl, _, rfl, ?_⟩
    rw [h1, show (!decide (V.int 1 = V.int 1)) = false by rw [decide_eq_true rfl]; rfl]
    exact iteF q
/-- how often a character stands before each other one, and at the end -/
def lbw (b : Nat) : List Nat → Int → List Int
  | [], r => [r]
  | x :: xs, r => if x = b then lbw b xs (r + 1) else r :: lbw b xs 0
theorem lbw_cons (b x : Nat) (xs : List Nat) (r : Int) : lbw b (x :: xs) r = if x = b then lbw b xs (r + 1) else r :: lbw b xs 0 := rfl
theorem lbw_len (b : Nat) : ∀ (xs : List Nat) (r : Int), (lbw b xs r).length = (xs.filter fun x => decide (x ≠ b)).length + 1
  | [], _ => rfl
  | x :: xs, r => by
    unfold lbw
    by_cases c : x = b
    · rw [if_pos c, lbw_len b xs, List.filter_cons, if_neg (by rw [decide_eq_false (fun z => z c)]; exact Bool.false_ne_true)]
    · rw [if_neg c, List.length_cons, lbw_len b xs, List.filter_cons, if_pos (decide_eq_true c)]
      rfl
theorem lbw_mem (b : Nat) : ∀ (xs : List Nat) (r : Int), 0 ≤ r → ∀ k ∈ lbw b xs r, 0 ≤ k ∧ k ≤ r + xs.length
  | [], r, h, k, hk => by
    rw [List.mem_singleton.mp hk]
    exact ⟨h, by simp⟩
  | x :: xs, r, h, k, hk => by
    unfold lbw at hk
    rw [List.length_cons]
    by_cases c : x = b
    · rw [if_pos c] at hk
      have := lbw_mem b xs (r + 1) (by omega) k hk
      omega
    · rw [if_neg c] at hk
      rcases List.mem_cons.mp hk with e | hk
      · omega
      · have := lbw_mem b xs 0 (by decide) k hk
        omega
def spBetween : Sp := fun vs H Q _ => ∃ (x : Str) (b : Nat), vs = [.str x, .str ⟨#[b]⟩] ∧ x.length ≤ 4000 ∧ ∀ p H', H p = none → Same H H' → H' p = some (.lst ((lbw b x.cps.toList 0).map V.int)) → Q (.ref p) H'
theorem ok_between {f : Addr} {fd : FuncData} (F : Fun K "lengths_between" "lengths_between" s_lengthsbetween f fd) (B : Bi mg) : FnOk P w K mg base CX0 1 f fd ["text", "character"] spBetween := by
  refine F.ok sc_lengthsbetween (fun vs H Q E h => ?_) (fun cdv A outer s H vs Q E hr h => ?_)
  · obtain ⟨x, b, rfl, _⟩ := h
    rfl
  · obtain ⟨x, b, rfl, hx, q⟩ := h
    refine ⟨_, (pss_cons (ps_set (i := 2) sc_lengthsbetween.nd rfl (Or.inl rfl) (pe_lst pa_nil))
 (pss_cons (ps_set (i := 3) sc_lengthsbetween.nd rfl (Or.inl rfl) pe_int)
 (pss_cons (ps_for PassesOwn.never rfl (pi_str (pv 0)) (pg_name (i := 4) sc_lengthsbetween.nd rfl (Or.inl rfl))
 (pss_one (ps_if (pt_cmpR op_eq (pv 4) (pv 1) (nomark _))
 (pss_one (ps_aug (i := 3) sc_lengthsbetween.nd rfl (Or.inl rfl) pe_int ip_add))
 (pss_cons (ps_expr (pe_bm PySem.F.plainAttrs_list PySem.F.slot_list_append PySem.F.type_list_append mt_append (pv 2) (pa_cons (pv 3) pa_nil)))
 (pss_one (ps_set (i := 3) sc_lengthsbetween.nd rfl (Or.inl rfl) pe_int))))))
 (pss_cons (ps_expr (pe_bm PySem.F.plainAttrs_list PySem.F.slot_list_append PySem.F.type_list_append mt_append (pv 2) (pa_cons (pv 3) pa_nil)))
 (pss_one (ps_ret (pv 2))))))), ?_⟩
    have szl : sizeLine = 16777216 := sizeLine_eq
    refine ⟨Nat.zero_le _, fun p hp => ?_⟩
    have tl : x.cps.toList.length = x.length := rfl
    have fin : ∀ (H' : Hp) (acc : List Int) (r : Int) (rest : List Nat), Same H (wo H' p) → H' p = some (.lst (acc.map V.int)) → acc ++ lbw b rest r = lbw b x.cps.toList 0 → rest = [] → acc.length < sizeLine ∧ Q (.ref p) (upd H' p (.lst (acc.map V.int ++ [.int r]))) := fun H' acc r rest s1 g e er => by
      subst er
      have e' : acc ++ [r] = lbw b x.cps.toList 0 := e
      have l1 := congrArg List.length e'
      have l2 := lbw_len b x.cps.toList 0
      have l3 := List.length_filter_le (fun x => decide (x ≠ b)) x.cps.toList
      rw [List.length_append, List.length_singleton] at l1
      refine ⟨by omega, q p _ hp (fun a o e => ?_) ?_⟩
      · have ne : a ≠ p := fun z => by rw [z, hp] at e; cases e
        rw [upd_ne ne]
        exact wo_same _ _ (s1 _ _ e)
      · rw [upd_same, ← e', List.map_append]
        rfl
    refine ⟨_, rfl, x, rfl, for_it walk_str (fun i σ H' => ∃ acc r y, σ = [some (.str x), some (.str ⟨#[b]⟩), some (.ref p), some (.int r), y] ∧ Same H (wo H' p) ∧ H' p = some (.lst (acc.map V.int)) ∧ acc ++ lbw b (x.cps.toList.drop i) r = lbw b x.cps.toList 0)
      ⟨[], 0, none, rfl, by rw [wo_upd]; exact same_wo (Same.refl _) hp, upd_same, rfl⟩ (fun _ _ _ _ _ => trivial) ?_ ?_⟩
    · rintro i v σ H1 H2 hi ⟨acc, r, y, rfl, s1, g, e⟩ ⟨rfl, ch, ec, rfl⟩
      have ec' : x.cps.toList[i]? = some ch := by rw [Array.getElem?_toList]; exact ec
      have ed : x.cps.toList.drop i = ch :: x.cps.toList.drop (i + 1) := by
        obtain ⟨_, ee⟩ := List.getElem?_eq_some_iff.mp ec'
        rw [List.drop_eq_getElem_cons (by exact hi), ee]
      rw [ed] at e
      refine ⟨_, rfl, _, rfl, rfl, _, rfl, ite2 (fun c1 => ?_) (fun c1 => ?_)⟩
      · have cb : ch = b := by
          have h := of_decide_eq_true c1
          injection h with h
          injection h with h
          injection h with h
          injection h
        rw [lbw_cons, if_pos cb] at e
        exact ⟨_, rfl, _, _, rfl, rfl, acc, r + 1, _, rfl, s1, g, e⟩
      · have cb : ch ≠ b := fun z => c1 (by rw [z]; exact decide_eq_true rfl)
        rw [lbw_cons, if_neg cb] at e
        have l1 := congrArg List.length e
        rw [List.length_append, List.length_cons, lbw_len, lbw_len] at l1
        have l3 := List.length_filter_le (fun x => decide (x ≠ b)) x.cps.toList
        refine ⟨_, rfl, .inl ⟨rfl, _, SqL.of g⟩, _, rfl, p, _, _, rfl, rfl, g, by rw [List.length_map]; omega, acc ++ [r], 0, _, rfl, ?_, ?_, ?_⟩
        · rw [wo_upd]
          exact s1
        · rw [upd_same, List.map_append]
          rfl
        · rw [List.append_assoc]
          exact e
    · rintro σ H' ⟨acc, r, y, rfl, s1, g, e⟩
      obtain ⟨l, q1⟩ := fin H' acc r _ s1 g e (by simp)
      exact ⟨_, rfl, .inl ⟨rfl, _, SqL.of g⟩, _, rfl, p, _, _, rfl, rfl, g, by rw [List.length_map]; exact l, _, rfl, q1⟩
end
open StrLaws (replL replL_nil replL_hit replL_miss replace_list)
def kvF (xs : List Int) (f : Int → Int) : List (Key × V) := xs.map fun x => (.inl x, .int (f x))
theorem valV_kvF (f : Int → Int) (k : Int) : ∀ xs : List Int, valV (kvF xs f) (.inl k) = if k ∈ xs then some (.int (f k)) else none
  | [] => rfl
  | x :: xs => by
    show valV ((.inl x, .int (f x)) :: kvF xs f) (.inl k) = _
    by_cases c : x = k
    · subst c
      rw [valV_pos rfl, if_pos (List.mem_cons_self ..)]
    · rw [valV_neg (by intro z; cases z; exact c rfl), valV_kvF f k xs]
      by_cases m : k ∈ xs
      · rw [if_pos m, if_pos (List.mem_cons_of_mem _ m)]
      · rw [if_neg m, if_neg (by
          intro z
          rcases List.mem_cons.mp z with z | z
          · exact c z.symm
          · exact m z)]
theorem kvF_put (f : Int → Int) {xs : List Int} {y : Int} (h : y ∉ xs) : putK (kvF xs f) (.inl y) (.int (f y)) = kvF (xs ++ [y]) f := by
  rw [putK_new _ (by rw [valV_kvF, if_neg h])]
  unfold kvF
  rw [List.map_append]
  rfl
theorem nodup_take {xs : List Int} (h : xs.Nodup) {i : Nat} {y : Int} (e : xs[i]? = some y) : y ∉ xs.take i := fun z => by
  have h2 : (xs.take i ++ xs.drop i).Nodup := by rw [List.take_append_drop]; exact h
  have m : y ∈ xs.drop i := by
    obtain ⟨hi, ei⟩ := List.getElem?_eq_some_iff.mp e
    rw [List.drop_eq_getElem_cons hi, ei]
    exact List.mem_cons_self ..
  exact (List.nodup_append.mp h2).2.2 y z y m rfl
theorem once_le_self {k n : Int} (hk : 2 ≤ k) (h0 : 0 ≤ n) : once n k ≤ n := by
  unfold once
  have a := Int.mul_ediv_add_emod n k
  have b : 0 ≤ n / k := Int.ediv_nonneg h0 (by omega)
  have d : n / k ≤ k * (n / k) := by
    have := Int.mul_le_mul_of_nonneg_right (show (1 : Int) ≤ k by omega) b
    omega
  omega
theorem sq_le_self : ∀ (ks : List Int) (n : Int), (∀ k ∈ ks, 2 ≤ k) → 0 ≤ n → sq n ks ≤ n
  | [], n, _, _ => Int.le_refl n
  | k :: r, n, h, h0 => by
    have h2 := h k List.mem_cons_self
    have i := sq_le_self r (once n k) (fun x hx => h x (List.mem_cons_of_mem _ hx)) (once_nonneg h2 h0)
    have j := once_le_self h2 h0
    show sq (once n k) r ≤ n
    omega
/-- a text with all runs of b squeezed; r: how many of b stand before -/
def sqT (b : Nat) (ks : List Int) : List Nat → Int → List Nat
  | [], r => List.replicate (sq r ks).toNat b
  | x :: xs, r => if x = b then sqT b ks xs (r + 1) else List.replicate (sq r ks).toNat b ++ x :: sqT b ks xs 0
theorem sqT_cons (b : Nat) (ks : List Int) (x : Nat) (xs : List Nat) (r : Int) : sqT b ks (x :: xs) r = if x = b then sqT b ks xs (r + 1) else List.replicate (sq r ks).toNat b ++ x :: sqT b ks xs 0 := rfl
/-- the others, each as a text, and an empty one -/
def oth (b : Nat) (xs : List Nat) : List (List Nat) := (xs.filter fun x => decide (x ≠ b)).map (fun c => [c]) ++ [[]]
theorem oth_len (b : Nat) (xs : List Nat) : (oth b xs).length = (xs.filter fun x => decide (x ≠ b)).length + 1 := by
  unfold oth
  rw [List.length_append, List.length_map]
  rfl
theorem sqT_zip (b : Nat) (ks : List Int) : ∀ (xs : List Nat) (r : Int), (((lbw b xs r).zip (oth b xs)).map fun p => List.replicate (sq p.1 ks).toNat b ++ p.2).flatten = sqT b ks xs r
  | [], r => by
    show (List.replicate (sq r ks).toNat b ++ []) ++ [] = List.replicate (sq r ks).toNat b
    rw [List.append_nil, List.append_nil]
  | x :: xs, r => by
    rw [lbw_cons, sqT_cons]
    by_cases c : x = b
    · rw [if_pos c, if_pos c]
      have e : oth b (x :: xs) = oth b xs := by
        unfold oth
        rw [List.filter_cons, if_neg (by rw [decide_eq_false (fun z => z c)]; exact Bool.false_ne_true)]
      rw [e]
      exact sqT_zip b ks xs (r + 1)
    · rw [if_neg c, if_neg c]
      have e : oth b (x :: xs) = [x] :: oth b xs := by
        unfold oth
        rw [List.filter_cons, if_pos (decide_eq_true c)]
        rfl
      rw [e, List.zip_cons_cons, List.map_cons, List.flatten_cons, sqT_zip b ks xs 0, List.append_assoc]
      rfl
theorem repl_one (b : Nat) : ∀ l : List Nat, replL [b] [] l = l.filter fun x => decide (x ≠ b)
  | [] => replL_nil
  | x :: l => by
    by_cases c : x = b
    · rw [replL_hit (List.cons_ne_nil b []) (by rw [c]; rfl), List.filter_cons, if_neg (by rw [decide_eq_false (fun z => z c)]; exact Bool.false_ne_true)]
      exact repl_one b l
    · rw [replL_miss (y := [b]) (z := []) (c := x) (r := l) (fun z => c (Option.some.inj (congrArg List.head? z))), List.filter_cons, if_pos (decide_eq_true c), repl_one b l]
theorem repl_chr (x : Str) (b : Nat) : (Txt.replace x ⟨#[b]⟩ "").cps.toList = x.cps.toList.filter fun y => decide (y ≠ b) := by
  rw [replace_list (by exact Nat.le_refl 1)]
  exact repl_one b _
theorem oth_short {b : Nat} {xs o : List Nat} (h : o ∈ oth b xs) : o.length ≤ 1 := by
  unfold oth at h
  rcases List.mem_append.mp h with z | z
  · obtain ⟨c, _, rfl⟩ := List.mem_map.mp z
    exact Nat.le_refl _
  · rw [List.mem_singleton.mp z]
    exact Nat.zero_le _
theorem joinL_flat : ∀ ps : List (List Nat), TL.joinL [] ps = ps.flatten
  | [] => rfl
  | [p] => (List.append_nil p).symm
  | p :: q :: r => by
    show p ++ ([] ++ TL.joinL [] (q :: r)) = p ++ (q :: r).flatten
    rw [joinL_flat (q :: r), List.nil_append]
theorem mul_fold (b : Nat) : ∀ (k : Nat) (acc : Array Nat), ((List.replicate k #[b]).foldl (· ++ ·) acc).toList = acc.toList ++ List.replicate k b
  | 0, acc => (List.append_nil _).symm
  | k + 1, acc => by
    rw [List.replicate_succ, List.foldl_cons, mul_fold b k, Array.toList_append, List.append_assoc]
    rfl
theorem mul_chr (b : Nat) {n : Int} (h0 : 0 ≤ n) : _root_.PySem.Txt.mul ⟨#[b]⟩ n = SX.S (List.replicate n.toNat b) := by
  unfold _root_.PySem.Txt.mul
  split
  · rw [show n.toNat = 0 by omega]
    rfl
  · split
    · rename_i h1 h2
      have e : n = 1 := by
        rcases Bool.or_eq_true_iff.mp h2 with z | z
        · exact eq_of_beq z
        · cases z
      rw [e]
      rfl
    · refine TL.ext_tl ?_
      show ((List.replicate n.toNat #[b]).foldl (· ++ ·) #[]).toList = _
      rw [mul_fold]
      rfl
theorem mul_chr_ok (b : Nat) {n : Int} (h0 : 0 ≤ n) (h1 : n ≤ 4000) : _root_.PySem.MulOk ⟨#[b]⟩ n := by
  have l1 : (⟨#[b]⟩ : Str).length = 1 := rfl
  unfold _root_.PySem.MulOk
  rw [l1]
  refine ⟨?_, fun c _ => ?_, fun c _ => ?_⟩
  · rw [decide_eq_false (by omega), decide_eq_false (by omega)]
    rfl
  · have : (1 : Int) ≤ (2 ^ 63 - 1) / n := Int.le_ediv_of_mul_le (by omega) (by omega)
    show ¬ ((1 : Int) > (2 ^ 63 - 1) / n)
    omega
  · have szl : sizeLine = 16777216 := sizeLine_eq
    exact decide_eq_false (by omega)
theorem sqT_len {b : Nat} {ks : List Int} (h : ∀ k ∈ ks, 2 ≤ k) : ∀ (xs : List Nat) (r : Int), 0 ≤ r → ((sqT b ks xs r).length : Int) ≤ r + xs.length
  | [], r, h0 => by
    show ((List.replicate (sq r ks).toNat b).length : Int) ≤ r + 0
    rw [List.length_replicate]
    have := sq_le_self ks r h h0
    omega
  | x :: xs, r, h0 => by
    rw [sqT_cons, List.length_cons]
    by_cases c : x = b
    · rw [if_pos c]
      have := sqT_len (b := b) h xs (r + 1) (by omega)
      omega
    · rw [if_neg c, List.length_append, List.length_replicate, List.length_cons]
      have a := sq_le_self ks r h h0
      have b := sqT_len (b := b) h xs 0 (by decide)
      omega
theorem sq_low : ∀ {ks : List Int} (n : Int), (∀ k ∈ ks, 2 ≤ k) → 0 ≤ n → 0 ≤ sq n ks
  | [], n, _, h0 => h0
  | k :: r, n, h, h0 => sq_low (ks := r) (once n k) (fun x hx => h x (List.mem_cons_of_mem _ hx)) (once_nonneg (h k List.mem_cons_self) h0)
section
variable {P : Program} {w : World} {K : PySem.W.Frag} {mg : Str → Option Value} {base : Heap}
def spSqT (K : PySem.W.Frag) : Sp := fun vs H Q _ => ∃ (x : Str) (b : Nat) (a : Addr) (ks : List Int), vs = [.str x, .str ⟨#[b]⟩, .ref a] ∧ SqL K H a (ks.map V.int) ∧ Rpl ks ∧ x.length ≤ 3000 ∧ ∀ H', Same H H' → Q (.str ⟨(sqT b ks x.cps.toList 0).toArray⟩) H'
theorem ok_squeezetext {f : Addr} {fd : FuncData} (F : Fun K "squeeze_text" "squeeze_text" s_squeezetext f fd) (B : Bi mg) (D_checkcharacter : Df P w K mg base 1 "check_character" ["character"] spCheckChr) (D_checklist : Df P w K mg base 1 "check_list" ["replacements"] (spCheckList K))
    (D_lengthsbetween : Df P w K mg base 1 "lengths_between" ["text", "character"] spBetween) (D_lengthafter : Df P w K mg base 2 "length_after" ["length", "replacements"] (spSqzS K)) : FnT P w K mg base 4 f fd ["text", "character", "replacements"] 1 (spSqT K) := by
  refine fnt_of F sc_squeezetext (fun vs H Q E h => ?_) (y := "character") rfl rfl (fun cdv A outer s H us vs Q c u0 hr h rv tkn hu Ce => ?_)
  · obtain ⟨x, b, a, ks, rfl, _⟩ := h
    rfl
  · obtain ⟨x, b, a, ks, rfl, hS, hk, hx, q⟩ := h
    obtain ⟨tb, rfl⟩ : ∃ tb, u0 = .str ⟨#[b]⟩ tb := by
      obtain ⟨u, e, t, et⟩ := rv.get (i := 1) rfl
      rw [e] at hu
      exact ⟨t, (Option.some.inj hu).symm.trans et⟩
    have good := tkn _ _ hu rfl
    refine ⟨_, jrs_cons (jst_expr (je_callD Ce D_checkcharacter (hr.mono (by omega)) (by rfl) (ja_cons (jv 1) ja_nil)))
      (jrs_cons (jst_expr (je_callD Ce D_checklist (hr.mono (by omega)) (by rfl) (ja_cons (jv 2) ja_nil)))
      (jrs_cons (jst_set (i := 3) Ce (by decide) sc_squeezetext.nd rfl (Or.inl rfl) (je_callD Ce D_lengthsbetween (hr.mono (by omega)) (by rfl) (ja_cons (jv 0) (ja_cons (jv 1) ja_nil))))
      (jrs_cons (jst_set (i := 4) Ce (by decide) sc_squeezetext.nd rfl (Or.inr rfl) (je_dc Ce (own := [("length", 6)]) (g := gName 6) rfl sc_squeezetext.nd (ji_list (je_callB (id := "sorted") (r := rSortedSetI w) (cj_sortedSetI rfl) (by rfl) B.n_sorted (by decide +kernel) (ja_cons (je_callTy (T := "set") (r := rSetL K w) (cj_setL rfl) (by rfl) B.n_set (by decide +kernel) (ja_cons (jv 3) ja_nil)) ja_nil)))
        (blkOk_by (own := [("length", 6)]) (N := ["text", "character", "replacements", "lengths", "after", "others", "length", "other"]) (sc := defScope s_squeezetext) (by decide +kernel)) (fun _ _ _ _ _ => (pg_name (i := 6) sc_squeezetext.nd rfl (Or.inl rfl))) (fun _ _ _ _ _ => pts_nil) (fun _ _ _ _ _ => (pv 6)) (fun _ _ _ _ _ => (pe_callD D_lengthafter (hr.mono (by omega)) (by rfl) (pa_cons (pv 6) (pa_cons (pv 2) pa_nil))))))
      (jrs_set (i := 5) sc_squeezetext.nd rfl (Or.inl rfl) (jr_op op_cat (jr_callTy (T := "list") (call_listStr rfl) (by rfl) B.n_list (by decide +kernel) (jr_rep (i := 0) rfl (Or.inl rfl) rfl Ce.is good rfl)) (pe_lst (pa_cons pe_str pa_nil)))
      (pss_one (ps_ret (pe_join pe_str (pe_lc (own := [("length", 6), ("other", 7)]) (g := gTup K 2 (gCons (gName 6) (gCons (gName 7) gNil))) rfl sc_squeezetext.nd (pi_zip (by rfl) B.n_zip (pa_cons (pv 3) (pa_cons (pv 5) pa_nil))) (blkOk_by (own := [("length", 6), ("other", 7)]) (N := ["text", "character", "replacements", "lengths", "after", "others", "length", "other"]) (sc := defScope s_squeezetext) (by decide +kernel)) (fun _ _ _ _ _ => (pg_tup rfl (pgs_cons (pg_name (i := 6) sc_squeezetext.nd rfl (Or.inl rfl)) (pgs_cons (pg_name (i := 7) sc_squeezetext.nd rfl (Or.inl rfl)) pgs_nil)))) (fun _ _ _ _ _ => pts_nil) (fun _ _ _ _ _ => (pe_op op_add_str (pe_op op_mulS (pv 1) (pe_dget (hu_of hr) (pv 4) (pv 6) (fun _ _ => rfl))) (pv 7))))))))))), ?_⟩
    have szl : sizeLine = 16777216 := sizeLine_eq
    have xl : x.cps.toList.length = x.length := rfl
    obtain ⟨ls, els⟩ : ∃ ls, ls = lbw b x.cps.toList 0 := ⟨_, rfl⟩
    have lsl : ls.length = (x.cps.toList.filter fun x => decide (x ≠ b)).length + 1 := by rw [els, lbw_len]
    have fl := List.length_filter_le (fun x => decide (x ≠ b)) x.cps.toList
    have lsm : ∀ k ∈ ls, 0 ≤ k ∧ k ≤ x.length := fun k hk => by
      rw [els] at hk
      have := lbw_mem b _ 0 (by decide) k hk
      omega
    refine ⟨_, rfl, ⟨#[b]⟩, rfl, rfl, ?_⟩
    refine ⟨_, rfl, a, ks, rfl, hS, hk.two, fun H1 s1 => ?_⟩
    refine ⟨_, rfl, _, rfl, x, b, rfl, by omega, fun p H2 hp s2 gp => ?_⟩
    rw [← els] at gp
    refine ⟨_, rfl, p, ls, rfl, SqL.of gp, by omega, fun ps m hps lm im => ?_⟩
    refine ⟨ps, _, m, rfl, upd_same, by omega, fun ns pl asc mem len hpl => ?_⟩
    have s3 := (same_new (o := SetO w ps (fun j => decide (j ∈ ls)) m) hps).trans (same_new (o := .lst (ns.map V.int)) hpl)
    have hS3 := s3.seq (s2.seq (s1.seq hS))
    have gpl := upd_same (H := upd H2 ps (SetO w ps (fun j => decide (j ∈ ls)) m)) (a := pl) (o := .lst (ns.map V.int))
    have gp3 := s3 _ _ gp
    generalize upd (upd H2 ps (SetO w ps (fun j => decide (j ∈ ls)) m)) pl (.lst (ns.map V.int)) = H3 at s3 hS3 gpl gp3
    refine ⟨pl, rfl, ⟨_, SqL.of gpl⟩, fun D hD => walkL (K := K) (a := pl) (xs := ns.map V.int) (fun i H' => Same H3 H' ∧ H' D = some (.dK (kvF (ns.take i) fun l => sq l ks))) ⟨same_new hD, upd_same⟩ (fun i H' _ h => SqL.of (h.1 _ _ gpl)) ?_ ?_⟩
    · rintro i v H4 hi ⟨s4, gD⟩
      obtain ⟨y, hy, rfl⟩ := map_at hi
      have il := (List.getElem?_eq_some_iff.mp hy).1
      refine ⟨rfl, _, rfl, _, rfl, _, rfl, y, a, ks, rfl, s4.seq hS3, hk, fun H5 s5 => ⟨_, .inl y, rfl, s5 _ _ gD, ?_, fun c o e => ?_, ?_⟩⟩
      · unfold kvF
        rw [List.length_map, List.length_take]
        omega
      · rw [upd_ne (ne_of_none e hD)]
        exact s5 _ _ (s4 _ _ e)
      · rw [upd_same, kvF_put (fun l => sq l ks) (nodup_take (asc_nodup asc) hy), List.take_add_one, hy]
        rfl
    · rintro H4 ⟨s4, gD⟩
      rw [List.length_map, List.take_length] at gD
      have gp4 := s4 _ _ gp3
      have look : ∀ l ∈ ls, valV (kvF ns fun l => sq l ks) (.inl l) = some (.int (sq l ks)) := fun l hl => by
        rw [valV_kvF, if_pos ((mem l).mpr (decide_eq_true hl))]
      obtain ⟨os, eos⟩ : ∃ os, os = oth b x.cps.toList := ⟨_, rfl⟩
      have osl : os.length = ls.length := by rw [eos, oth_len, lsl]
      refine ⟨x, rfl, by show x.length + (x.length + 1) * 0 ≤ 16777216; omega, ?_⟩
      have er := repl_chr x b
      refine ⟨_, rfl, ?_, fun q1 hq1 => ?_⟩
      · show (Txt.replace x ⟨#[b]⟩ "").cps.toList.length ≤ sizeLine
        exact Nat.le_trans (Nat.le_of_eq (congrArg List.length er)) (Nat.le_trans fl (by omega))
      have sg : signsV (Txt.replace x ⟨#[b]⟩ "") = (x.cps.toList.filter fun y => decide (y ≠ b)).map fun c => V.str ⟨#[c]⟩ := by
        unfold signsV
        rw [← er]
      have sl : (x.cps.toList.filter fun y => decide (y ≠ b)).length + 1 ≤ sizeLine := by
        have := fl
        omega
      have eo : ((x.cps.toList.filter fun y => decide (y ≠ b)).map fun c => V.str ⟨#[c]⟩) ++ [V.str ""] = (os.map SX.S).map V.str := by
        rw [eos]
        unfold oth
        rw [List.map_append, List.map_append, List.map_map, List.map_map]
        rfl
      refine ⟨z1, fun q2 hq2 => ⟨q1, q2, (x.cps.toList.filter fun y => decide (y ≠ b)).map fun c => V.str ⟨#[c]⟩, [V.str ""], rfl, rfl, ?_, upd_same, by rw [List.length_map]; exact sl, fun r hr => ?_⟩⟩
      · refine same_new hq2 _ _ ?_
        rw [upd_same, sg]
      have s5 := ((same_new (o := .lst (signsV (Txt.replace x ⟨#[b]⟩ ""))) hq1).trans (same_new (o := .lst [V.str ""]) hq2)).trans (same_new (o := .lst (((x.cps.toList.filter fun y => decide (y ≠ b)).map fun c => V.str ⟨#[c]⟩) ++ [V.str ""])) hr)
      have gr := upd_same (H := upd (upd H4 q1 (.lst (signsV (Txt.replace x ⟨#[b]⟩ "")))) q2 (.lst [V.str ""])) (a := r) (o := .lst (((x.cps.toList.filter fun y => decide (y ≠ b)).map fun c => V.str ⟨#[c]⟩) ++ [V.str ""]))
      generalize upd (upd (upd H4 q1 (.lst (signsV (Txt.replace x ⟨#[b]⟩ "")))) q2 (.lst [V.str ""])) r (.lst (((x.cps.toList.filter fun y => decide (y ≠ b)).map fun c => V.str ⟨#[c]⟩) ++ [V.str ""])) = H5 at s5 gr
      rw [eo] at gr
      have gp5 := s5 _ _ gp4
      have gD5 := s5 _ _ gD
      obtain ⟨f, ef⟩ : ∃ f : Int × List Nat → List Nat, f = fun p => List.replicate (sq p.1 ks).toNat b ++ p.2 := ⟨_, rfl⟩
      have zl : (ls.zip os).length = ls.length := by rw [List.length_zip, osl, Nat.min_self]
      refine ⟨⟨_, rfl⟩, _, rfl, _, rfl, p, r, ls.map V.int, (os.map SX.S).map V.str, rfl, SqL.of gp5, SqL.of gr, fun E hE => lc_it (walk_zip (K := K) (a := p) (b := r) (xs := ls.map V.int) (ys := (os.map SX.S).map V.str) (n := ls.length) (by rw [List.length_map, List.length_map, List.length_map, osl, Nat.min_self]))
        (fun i H' => Same H5 (wo H' E) ∧ H' E = some (.lst (((((ls.zip os).take i).map f).map SX.S).map V.str)))
        ⟨by rw [wo_upd]; exact same_wo (Same.refl _) hE, upd_same⟩ (fun i H' _ h => ⟨SqL.of (wo_same _ _ (h.1 _ _ gp5)), SqL.of (wo_same _ _ (h.1 _ _ gr))⟩) ?_ ?_⟩
      · rintro i v H6 H7 hi ⟨s6, gE⟩ ⟨T, x1, x2, rfl, nT, rfl, e1, e2⟩
        have e1' : (ls.map V.int)[i]? = some x1 := e1
        have e2' : ((os.map SX.S).map V.str)[i]? = some x2 := e2
        obtain ⟨l, hl, rfl⟩ := map_at e1'
        obtain ⟨o, ho, rfl⟩ : ∃ o, os[i]? = some o ∧ x2 = .str (SX.S o) := by
          rw [List.getElem?_map, List.getElem?_map] at e2'
          cases z : os[i]? with
          | none => rw [z] at e2'; cases e2'
          | some o => rw [z] at e2'; exact ⟨o, rfl, (Option.some.inj e2').symm⟩
        have lm := lsm l (List.mem_of_getElem? hl)
        have sl0 := sq_low l hk.two lm.1
        have sl1 := sq_le_self ks l hk.two lm.1
        have ol : o.length ≤ 1 := oth_short (by rw [← eos]; exact List.mem_of_getElem? ho)
        have s6' : Same H5 H6 := s6.trans wo_same
        have gD7 := same_new (o := .tup [V.int l, .str (SX.S o)]) nT _ _ (s6' _ _ gD5)
        have gE7 := same_new (o := .tup [V.int l, .str (SX.S o)]) nT _ _ gE
        have nTE : E ≠ T := ne_of_none gE nT
        have dg := DGet.k (k := .inl l) gD7
        rw [look l (List.mem_of_getElem? hl)] at dg
        have mc := mul_chr b sl0
        refine ⟨T, _, rfl, .inl (.inl upd_same), rfl, _, _, rfl, _, _, rfl, rfl, rfl, _, rfl, _, rfl, _, rfl, D, _, rfl, dg, ⟨#[b]⟩, sq l ks, rfl, rfl, mul_chr_ok b sl0 (by omega), _, rfl, _, _, rfl, rfl, ?_, _, gE7, ?_, ?_, ?_⟩
        · rw [mc, SX.S_len, SX.S_len, List.length_replicate]
          omega
        · rw [List.length_map, List.length_map, List.length_map, List.length_take]
          omega
        · rw [wo_upd]
          intro z o' e
          have g := s6 z o' e
          have nz : z ≠ E := fun y => by rw [y, wo_self] at g; cases g
          rw [wo_ne nz] at g ⊢
          exact same_new nT _ _ g
        · rw [upd_same, mc, SX.S_cat, List.take_add_one]
          have ez : (ls.zip os)[i]? = some (l, o) := List.getElem?_zip_eq_some.mpr ⟨hl, ho⟩
          rw [ez, List.map_append, List.map_append, List.map_append, ef]
          rfl
      · rintro H6 ⟨s6, gE⟩
        rw [show (ls.zip os).take ls.length = ls.zip os from List.take_of_length_le (by rw [zl]; exact Nat.le_refl _)] at gE
        have fz : ((ls.zip os).map f).flatten = sqT b ks x.cps.toList 0 := by rw [ef, els, eos]; exact sqT_zip b ks _ 0
        have tl := sqT_len (b := b) hk.two x.cps.toList 0 (by decide)
        refine ⟨"", E, ((ls.zip os).map f).map SX.S, rfl, rfl, .inl (SqL.of gE), ?_, ?_⟩
        · have e : ((((ls.zip os).map f).map SX.S).map fun y => y.length) = ((ls.zip os).map f).map List.length := by
            rw [List.map_map]
            exact List.map_congr_left fun y _ => SX.S_len y
          show _ + _ * 0 ≤ 16777216
          rw [e, ← List.length_flatten, fz]
          omega
        · have ej : Txt.join "" (((ls.zip os).map f).map SX.S) = ⟨(sqT b ks x.cps.toList 0).toArray⟩ := by
            have j := SX.join_S [] ((ls.zip os).map f)
            rw [joinL_flat, fz] at j
            exact j
          rw [ej]
          exact q _ ((((s1.trans s2).trans s3).trans s4).trans (s5.trans (s6.trans wo_same)))
end
end Sq
set_option Elab.async false
set_option linter.all false
set_option maxRecDepth 100000
set_option maxHeartbeats 4000000
/-! Loops that keep what is known; an attribute as a raw argument. -/
namespace Sq
open PySem PySem.Spec PyProof.Rows L2 GenW
section
variable {X : Cx} {Θ : Shared → Prop} {ys : List Str} {x f : Str} {p pos op : Pos} {e : Expr} {es : List Expr} {te ta : TE} {t : TA} {tb : TS} {body : List Stmt} {n : Nat}
/-- o.f, its raw value good for n -/
def tFldG (K : PySem.W.Frag) (n : Nat) (ta : TE) (f : Str) : TE := fun σ H Q => ta σ H fun x H1 => ∃ a C dx m ks u v, x = .ref a ∧ Live H1 a C dx m ks ∧ Cls K C ∧ NoAttr K C f ∧ m f = some u ∧ Tkn 0 [u] n ∧ RelV v u ∧ Q v H1
theorem wx_fld (Cl : Clo X ys Θ) (hn : ∀ s, Θ s → n ≤ s.toks) (he : We X Θ e ta) (hr : Wa X Θ es t) (hb : attributeBase e f X.env (eval e X.env) = eval e X.env := by rfl) (hs : starEach (.Attribute e f p :: es) X.env = (false, eval (.Attribute e f p) X.env) :: starEach es X.env := by rfl) :
    Wx X Θ 0 (.Attribute e f p :: es) (tCons (tFldG X.K n ta f) t) := by
  refine ⟨fun pos pins s σ H Q I θ h => ?_⟩
  rw [hs]
  show wpAny _ _ (spliced ((false, eval (.Attribute e f p) X.env) :: backTo pos (starEach es X.env))) _ _ s
  refine Calls.spliced_cons (attr_of hb (thn (he.run pins s σ H _ I θ h) fun u s1 hh => ?_))
  obtain ⟨g1, z, H1, I1, rx, a, C, dx, m, ks, u1, v, ex, L, c, nn, hu, good, rv, q⟩ := hh
  subst ex
  obtain rfl : u = Value.ref a := rx
  refine live_get I1 L c nn hu (handed_of rv) fun I2 => ?_
  refine wpAny_mono (PySem.wpAny_toks (hr.run pos pins _ σ H1 _ I2 (Cl.tok I1 g1) q)) (fun us s3 hh => ?_) fun _ _ z => z.2
  obtain ⟨up, g3, xs, H3, I3, r3, q3⟩ := hh
  have up' : s1.toks + 1 ≤ s3.toks := up
  refine ⟨⟨g3, fun b tk eb one => ?_⟩, v :: xs, H3, I3, .cons rv r3, q3⟩
  have g := good b tk eb one
  exact ⟨g.1, Nat.lt_of_lt_of_le g.2 (Nat.le_trans (hn s1 g1) (Nat.le_of_succ_le up'))⟩
/-- for x in a tuple -/
def tForT (K : PySem.W.Frag) (te : TE) (g : TG) (tb : TS) : TS := fun D σ H => te σ H fun v H1 => ∃ (a : Addr) (xs : List V), v = .ref a ∧ SqT K H1 a xs ∧ ∃ Pv : Nat → L2.St → Hp → Prop, Pv 0 σ H1 ∧ (∀ i σ H, Pv i σ H → SqT K H a xs) ∧
  (∀ (i : Nat) (z : V) (σ : L2.St) (H : Hp), xs[i]? = some z → Pv i σ H → g z σ H fun σ2 H2 => tb { nx := Pv (i + 1), ct := Pv (i + 1), bk := D.nx, rt := D.rt } σ2 H2) ∧ ∀ σ H, Pv xs.length σ H → D.nx σ H
/-- storing the loop's name -/
structure Wg (X : Cx) (Θ : Shared → Prop) (tg : Expr) (t : TG) : Prop where
  run : ∀ (pins : List (Addr × Obj)) (s : Shared) (σ : L2.St) (H : Hp) (v : V) (u : Value) (Q : L2.St → Hp → Prop), Inv X pins σ H s → Θ s → RelV v u → t v σ H Q → wpAny (model X.prog X.w) X.A (assign tg X.env u) (fun _ s' => Θ s' ∧ ∃ σ' H', Inv X pins σ' H' s' ∧ Q σ' H') X.xe s
theorem wg_name {i : Nat} (Cl : Clo X ys Θ) (ne : x ∉ ys) (hN : X.N.Nodup) (hi : X.N[i]? = some x) (hx : Loc X.env.scope x) (hf : X.fn x = true ∨ X.env.scope.names.lookup x = some .local := by first | exact .inl rfl | exact .inr rfl | assumption) : Wg X Θ (.Name x pos) (gName i) :=
  ⟨fun pins s σ H v u Q I θ r h => wpAny_assign_Name (put_ok I hN hi hx r (fun s2 I2 up pt => ⟨Cl.st I ne up pt θ, _, H, I2, h⟩) hf)⟩
theorem ws_forT {g : TG} (hcalm : X.calm = true) (own : PassesOwn (model X.prog X.w) X.A X.env X.xe) (Cl : Clo X ys Θ) (he : We X Θ e te) (hg : Wg X Θ (.Name x op) g) (hb : Wss X Θ body tb)
    (hfs : ∀ z, foldedSetIterable e X.env z = pure z := by intro _; rfl) : Ws X Θ (.For (.Name x op) e body [] pos) (tForT X.K te g tb) := by
  refine ⟨fun pins s σ H D I θ h => ?_⟩
  refine wpAny_mono (wpAny_For (Q := fun f s' => Θ s' ∧ SP X pins D f s') (thn (he.run pins s σ H _ I θ h) fun v s1 hh => ?_) hfs) (fun _ _ z => z) fun _ _ z => z
  obtain ⟨θ1, w, H1, I1, r1, a, xs, ew, hq, Pv, p0, hl, turn, fin⟩ := hh
  subst ew
  obtain rfl : v = Value.ref a := r1
  obtain ⟨its, rv, isT, hz⟩ := I1.tuple hq
  refine wpAny_pyIter_tuple (show s1.heap.IsTuple a its.toArray from isT) ?_
  obtain ⟨it, eit⟩ : ∃ it, it = s1.heap.objs.size := ⟨_, rfl⟩
  rw [← eit]
  have kept : ∀ b o, s1.heap.get? b = some o → (s1.heap.push { cls := .type "tuple_iterator", data := .fields #[.ref a, .int 0 0] }).get? b = some o := fun b o e => Heap.get?_push_of_some _ e
  have fpk : FpOk X pins H1 it := I1.fpOk (Nat.le_of_eq eit.symm) (by rw [eit]; exact I1.hok.fresh (Nat.le_refl _))
  have away : ∀ b ∈ [it], b ≠ X.env.locals ∧ ∀ x c, X.env.cells.lookup x = some c → c ≠ b := fun b hb => by
    rw [List.mem_singleton.mp hb]
    exact ⟨fpk.2.1, fpk.2.2.2.2.1⟩
  refine codeAny_forLoop_any (fun m s' => ∃ i σ' H', m = xs.length - i ∧ i ≤ xs.length ∧ Θ s' ∧ Inv X pins σ' H' s' ∧ s'.heap.IsTupleIter it a i ∧ H' it = none ∧ Pv i σ' H') (fun m s' hs' => ?_) xs.length
    ⟨0, σ, H1, rfl, Nat.zero_le _, Cl.kept (s' := { s1 with heap := s1.heap.push { cls := .type "tuple_iterator", data := .fields #[.ref a, .int 0 0] } }) I1 (Nat.le_refl _) kept θ1, I1.kept (t' := s1.toks) kept, by rw [eit]; exact ⟨_, Heap.get?_push_size _ rfl, rfl, rfl⟩, fpk.1, p0⟩
  obtain ⟨i, σ', H', rfl, hi, θ2, I2, st, free, pv⟩ := hs'
  obtain ⟨its2, rv2, isT2, hz2⟩ := I2.tuple (hl i σ' H' pv)
  have isT3 : s'.heap.IsTuple a its2.toArray := isT2
  have hlen := rv2.length
  have fpk2 : FpOk X pins H' it := ⟨free, fpk.2⟩
  by_cases lt : i < xs.length
  · obtain ⟨z, hz3⟩ : ∃ z, xs[i]? = some z := ⟨_, List.getElem?_eq_getElem lt⟩
    obtain ⟨u, hu, ru⟩ := rv2.get hz3
    refine wpAny_pyNext_tuple_item st isT3 (x := u) (by simpa using hu) fun h' st' sb => ?_
    obtain ⟨f0, f1, f2, f3, f4, f5⟩ := fpk2
    have I3 : Inv X pins σ' H' { s' with heap := h' } := I2.turned (t' := s'.toks) (fun b o hb e => (sb.2 b hb).trans e) f0 f1 f3 f4 f5
    obtain ⟨oi, eoi, ci, di⟩ := id st'
    have I4 := I3.pinned (fp := [it]) (fun b hb => by rw [List.mem_singleton.mp hb]; exact ⟨free, fpk.2⟩) (fun b hb => by
      rw [List.mem_singleton.mp hb]
      exact ⟨oi, eoi, fun v q => by rw [di] at q; cases q⟩)
    have θ3 : Θ { s' with heap := h' } := Cl.but [it] I2 (Nat.le_refl _) away (fun b o hb e => (sb.2 b (fun z => hb (by rw [z]; exact List.mem_singleton_self _))).trans e) θ2
    refine go_of (s := { s' with heap := h' }) eoi ci di (by decide) ?_
    refine wpAny_passesOwn own (thn (hg.run _ { s' with heap := h' } σ' H' z u _ I4 θ3 ru (turn i z σ' H' hz3 pv)) fun _ s4 h4 => ?_)
    obtain ⟨θ4, σ4, H4, I5, q4⟩ := h4
    refine wpAny_passesOwn own (thn (hb.run _ s4 σ4 H4 _ I5 θ4 q4) fun fl s5 h5 => ?_)
    obtain ⟨θ5, q5⟩ := h5
    have again : ∀ σ5 H5, Inv X (pins ++ pinsAt [it] h') σ5 H5 s5 → Pv (i + 1) σ5 H5 → ∃ m, m < xs.length - i ∧ ∃ i' σ' H', m = xs.length - i' ∧ i' ≤ xs.length ∧ Θ s5 ∧ Inv X pins σ' H' s5 ∧ s5.heap.IsTupleIter it a i' ∧ H' it = none ∧ Pv i' σ' H' := fun σ5 H5 I6 pv5 => by
      have pi := I6.pin (it, oi) (List.mem_append_right _ (List.mem_append_right _ (mem_pinsAt (by simp) eoi)))
      exact ⟨xs.length - (i + 1), by omega, i + 1, σ5, H5, rfl, lt, θ5, I6.unpinned, ⟨oi, pi.1, ci, di⟩, pi.2.1, pv5⟩
    match fl, q5 with
    | .next, ⟨σ5, H5, I6, pv5⟩ => exact again σ5 H5 I6 pv5
    | .cont, ⟨σ5, H5, I6, pv5⟩ => exact again σ5 H5 I6 pv5
    | .brk, ⟨σ5, H5, I6, qd⟩ => exact ⟨θ5, σ5, H5, I6.unpinned, qd⟩
    | .ret v, ⟨x5, σ5, H5, I6, rv5, qd⟩ => exact ⟨θ5, x5, σ5, H5, I6.unpinned, rv5, qd⟩
  · obtain rfl : i = xs.length := by omega
    refine wpAny_pyNext_tuple_end (I2.ok.hd hcalm) st isT3 (by simp; omega) fun h2 eb => ?_
    obtain ⟨f0, f1, f2, f3, f4, f5⟩ := fpk2
    have I3 : Inv X pins σ' H' { s' with heap := h2 } := I2.turned (t' := s'.toks) (fun b o hb q => eb b o hb q) f0 f1 f3 f4 f5
    have θ3 : Θ { s' with heap := h2 } := Cl.but [it] I2 (Nat.le_refl _) away (fun b o hb e => eb b o (fun z => hb (by rw [z]; exact List.mem_singleton_self _)) e) θ2
    refine wpAny_execs_nil ⟨θ3, σ', H', I3, fin σ' H' pv⟩
/-- for x in a list -/
theorem ws_forL {g : TG} (hcalm : X.calm = true) (own : PassesOwn (model X.prog X.w) X.A X.env X.xe) (Cl : Clo X ys Θ) (he : We X Θ e te) (hg : Wg X Θ (.Name x op) g) (hb : Wss X Θ body tb)
    (hfs : ∀ z, foldedSetIterable e X.env z = pure z := by intro _; rfl) : Ws X Θ (.For (.Name x op) e body [] pos) (tForJ X.K te g tb) := by
  refine ⟨fun pins s σ H D I θ h => ?_⟩
  refine wpAny_mono (wpAny_For (Q := fun f s' => Θ s' ∧ SP X pins D f s') (thn (he.run pins s σ H _ I θ h) fun v s1 hh => ?_) hfs) (fun _ _ z => z) fun _ _ z => z
  obtain ⟨θ1, w, H1, I1, r1, a, xs, ew, hq, Pv, p0, hl, turn, fin⟩ := hh
  subst ew
  obtain rfl : v = Value.ref a := r1
  obtain ⟨its, rv, isT, hz⟩ := I1.list hq
  refine wpAny_pyIter_list isT.isList ?_
  obtain ⟨it, eit⟩ : ∃ it, it = s1.heap.objs.size := ⟨_, rfl⟩
  rw [← eit]
  have kept : ∀ b o, s1.heap.get? b = some o → (s1.heap.push { cls := .type "list_iterator", data := .fields #[.ref a, .int 0 0] }).get? b = some o := fun b o e => Heap.get?_push_of_some _ e
  have fpk : FpOk X pins H1 it := I1.fpOk (Nat.le_of_eq eit.symm) (by rw [eit]; exact I1.hok.fresh (Nat.le_refl _))
  have away : ∀ b ∈ [it], b ≠ X.env.locals ∧ ∀ x c, X.env.cells.lookup x = some c → c ≠ b := fun b hb => by
    rw [List.mem_singleton.mp hb]
    exact ⟨fpk.2.1, fpk.2.2.2.2.1⟩
  refine codeAny_forLoop_any (fun m s' => ∃ i σ' H', m = xs.length - i ∧ i ≤ xs.length ∧ Θ s' ∧ Inv X pins σ' H' s' ∧ s'.heap.IsListIter it a i ∧ H' it = none ∧ Pv i σ' H') (fun m s' hs' => ?_) xs.length
    ⟨0, σ, H1, rfl, Nat.zero_le _, Cl.kept (s' := { s1 with heap := s1.heap.push { cls := .type "list_iterator", data := .fields #[.ref a, .int 0 0] } }) I1 (Nat.le_refl _) kept θ1, I1.kept (t' := s1.toks) kept, by rw [eit]; exact ⟨_, Heap.get?_push_size _ rfl, rfl, rfl⟩, fpk.1, p0⟩
  obtain ⟨i, σ', H', rfl, hi, θ2, I2, st, free, pv⟩ := hs'
  obtain ⟨its2, rv2, isT2, hz2⟩ := I2.list (hl i σ' H' pv)
  have hlen := rv2.length
  have fpk2 : FpOk X pins H' it := ⟨free, fpk.2⟩
  by_cases lt : i < xs.length
  · obtain ⟨z, hz3⟩ : ∃ z, xs[i]? = some z := ⟨_, List.getElem?_eq_getElem lt⟩
    obtain ⟨u, hu, ru⟩ := rv2.get hz3
    refine wpAny_pyNext_list_item st isT2.isList (x := u) (by simpa using hu) fun h' st' sb => ?_
    obtain ⟨f0, f1, f2, f3, f4, f5⟩ := fpk2
    have I3 : Inv X pins σ' H' { s' with heap := h' } := I2.turned (t' := s'.toks) (fun b o hb e => (sb.2 b hb).trans e) f0 f1 f3 f4 f5
    obtain ⟨oi, eoi, ci, di⟩ := id st'
    have I4 := I3.pinned (fp := [it]) (fun b hb => by rw [List.mem_singleton.mp hb]; exact ⟨free, fpk.2⟩) (fun b hb => by
      rw [List.mem_singleton.mp hb]
      exact ⟨oi, eoi, fun v q => by rw [di] at q; cases q⟩)
    have θ3 : Θ { s' with heap := h' } := Cl.but [it] I2 (Nat.le_refl _) away (fun b o hb e => (sb.2 b (fun z => hb (by rw [z]; exact List.mem_singleton_self _))).trans e) θ2
    refine go_of (s := { s' with heap := h' }) eoi ci di (by decide) ?_
    refine wpAny_passesOwn own (thn (hg.run _ { s' with heap := h' } σ' H' z u _ I4 θ3 ru (turn i z σ' H' hz3 pv)) fun _ s4 h4 => ?_)
    obtain ⟨θ4, σ4, H4, I5, q4⟩ := h4
    refine wpAny_passesOwn own (thn (hb.run _ s4 σ4 H4 _ I5 θ4 q4) fun fl s5 h5 => ?_)
    obtain ⟨θ5, q5⟩ := h5
    have again : ∀ σ5 H5, Inv X (pins ++ pinsAt [it] h') σ5 H5 s5 → Pv (i + 1) σ5 H5 → ∃ m, m < xs.length - i ∧ ∃ i' σ' H', m = xs.length - i' ∧ i' ≤ xs.length ∧ Θ s5 ∧ Inv X pins σ' H' s5 ∧ s5.heap.IsListIter it a i' ∧ H' it = none ∧ Pv i' σ' H' := fun σ5 H5 I6 pv5 => by
      have pi := I6.pin (it, oi) (List.mem_append_right _ (List.mem_append_right _ (mem_pinsAt (by simp) eoi)))
      exact ⟨xs.length - (i + 1), by omega, i + 1, σ5, H5, rfl, lt, θ5, I6.unpinned, ⟨oi, pi.1, ci, di⟩, pi.2.1, pv5⟩
    match fl, q5 with
    | .next, ⟨σ5, H5, I6, pv5⟩ => exact again σ5 H5 I6 pv5
    | .cont, ⟨σ5, H5, I6, pv5⟩ => exact again σ5 H5 I6 pv5
    | .brk, ⟨σ5, H5, I6, qd⟩ => exact ⟨θ5, σ5, H5, I6.unpinned, qd⟩
    | .ret v, ⟨x5, σ5, H5, I6, rv5, qd⟩ => exact ⟨θ5, x5, σ5, H5, I6.unpinned, rv5, qd⟩
  · obtain rfl : i = xs.length := by omega
    refine wpAny_pyNext_list_end (I2.ok.hd hcalm) st isT2.isList (by simp; omega) fun h2 eb => ?_
    obtain ⟨f0, f1, f2, f3, f4, f5⟩ := fpk2
    have I3 : Inv X pins σ' H' { s' with heap := h2 } := I2.turned (t' := s'.toks) (fun b o hb q => eb b o hb q) f0 f1 f3 f4 f5
    have θ3 : Θ { s' with heap := h2 } := Cl.but [it] I2 (Nat.le_refl _) away (fun b o hb e => eb b o (fun z => hb (by rw [z]; exact List.mem_singleton_self _)) e) θ2
    refine wpAny_execs_nil ⟨θ3, σ', H', I3, fin σ' H' pv⟩
end
end Sq
set_option Elab.async false
set_option linter.all false
set_option maxRecDepth 100000
set_option maxHeartbeats 8000000
set_option exponentiation.threshold 2000
namespace Sq
open PySem PySem.Spec PyProof.Rows L2
/-! ### live texts -/
theorem nCR : ("_character" : Str) ≠ "_replacements" := by decide +kernel
theorem nCT : ("_character" : Str) ≠ "_texts" := by decide +kernel
theorem nRT : ("_replacements" : Str) ≠ "_texts" := by decide +kernel
abbrev lvN : List Str := ["_texts", "_replacements", "_character"]
/-- a live text stands at p: its character's raw value u0, its replacements at r, its texts at t -/
structure Txt2 (C : Addr) (H : Hp) (p dx r t : Addr) (u0 : Value) (b : Nat) (T : List (List Nat)) (ks : List Int) : Prop where
  m : ∃ m, Live H p C dx m lvN ∧ m "_character" = some u0 ∧ m "_replacements" = some (.ref r) ∧ m "_texts" = some (.ref t) ∧ ∀ f : Str, f ≠ "_character" → f ≠ "_replacements" → f ≠ "_texts" → m f = none
  u : RelV (.str ⟨#[b]⟩) u0
  rp : H r = some (.lst (ks.map V.int))
  tx : H t = some (.lst (T.map fun l => V.str (SX.S l)))
  ne : r ≠ t
  len : T.length = ks.length + 1
  sz : ∀ l ∈ T, l.length ≤ 2000
theorem Txt2.same {C p dx r t : Addr} {H H' : Hp} {u0 : Value} {b : Nat} {T : List (List Nat)} {ks : List Int} (L : Txt2 C H p dx r t u0 b T ks) (s : Same H H') : Txt2 C H' p dx r t u0 b T ks :=
  ⟨let ⟨m, h, e⟩ := L.m; ⟨m, h.same s, e⟩, L.u, s _ _ L.rp, s _ _ L.tx, L.ne, L.len, L.sz⟩
/-- all but the two lists is as it was -/
def But2 (H H' : Hp) (r t : Addr) : Prop := ∀ a o, H a = some o → a ≠ r → a ≠ t → H' a = some o
theorem But2.refl {H : Hp} {r t : Addr} : But2 H H r t := fun _ _ e _ _ => e
theorem But2.trans {H H1 H2 : Hp} {r t : Addr} (a : But2 H H1 r t) (b : But2 H1 H2 r t) : But2 H H2 r t := fun x o e n1 n2 => b x o (a x o e n1 n2) n1 n2
theorem But2.of {H H' : Hp} {r t : Addr} (s : Same H H') : But2 H H' r t := fun a o e _ _ => s a o e
/-- an object keeps standing where its two lists are written anew -/
theorem Txt2.but {C p dx r t : Addr} {H H' : Hp} {u0 : Value} {b : Nat} {T T' : List (List Nat)} {ks ks' : List Int} (L : Txt2 C H p dx r t u0 b T ks) (k : But2 H H' r t) (e1 : H' r = some (.lst (ks'.map V.int))) (e2 : H' t = some (.lst (T'.map fun l => V.str (SX.S l)))) (len : T'.length = ks'.length + 1) (sz : ∀ l ∈ T', l.length ≤ 2000) : Txt2 C H' p dx r t u0 b T' ks' := by
  obtain ⟨m, h, e⟩ := L.m
  have n1 : ∀ {a : Addr} {φ : Heap → Prop}, H a = some (.ext φ) → a ≠ r ∧ a ≠ t := fun {a φ} h => ⟨ne_of h L.rp (by intro z; cases z), ne_of h L.tx (by intro z; cases z)⟩
  exact ⟨⟨m, ⟨k _ _ h.i (n1 h.i).1 (n1 h.i).2, k _ _ h.d (n1 h.d).1 (n1 h.d).2, h.ne⟩, e⟩, L.u, e1, e2, L.ne, len, sz⟩
/-- the present text -/
def lastT (T : List (List Nat)) : List Nat := T.getLast?.getD []
theorem lastT_snoc (T : List (List Nat)) (l : List Nat) : lastT (T ++ [l]) = l := by
  unfold lastT
  rw [List.getLast?_append]
  rfl
/-- the texts after further replacements -/
def appT (b : Nat) (T : List (List Nat)) (ns : List Int) : List (List Nat) := ns.foldl (fun T k => T ++ [sqT b [k] (lastT T) 0]) T
theorem appT_snoc (b : Nat) (T : List (List Nat)) (ns : List Int) (k : Int) : appT b T (ns ++ [k]) = appT b T ns ++ [sqT b [k] (lastT (appT b T ns)) 0] := by
  unfold appT
  rw [List.foldl_append]
  rfl
theorem lastT_mem {T : List (List Nat)} (h : T ≠ []) : lastT T ∈ T := by
  unfold lastT
  rw [List.getLast?_eq_some_getLast h]
  exact List.getLast_mem h
theorem lastT_size {T : List (List Nat)} (h : ∀ l ∈ T, l.length ≤ 2000) : (lastT T).length ≤ 2000 := by
  by_cases e : T = []
  · rw [e]
    exact Nat.zero_le _
  · exact h _ (lastT_mem e)
theorem sqT_size {b : Nat} {k : Int} (hk : 2 ≤ k) {l : List Nat} (h : l.length ≤ 2000) : (sqT b [k] l 0).length ≤ 2000 := by
  have := sqT_len (b := b) (ks := [k]) (fun x hx => by rw [List.mem_singleton.mp hx]; exact hk) l 0 (by decide)
  omega
/-- a replacement greater than all runs changes nothing -/
theorem once_less {n k : Int} (h0 : 0 ≤ n) (h : n < k) : once n k = n := by
  unfold once
  rw [Int.ediv_eq_zero_of_lt h0 h, Int.emod_eq_of_lt h0 h, Int.zero_add]
theorem sqT_less {b : Nat} {k : Int} : ∀ (xs : List Nat) (r : Int), 0 ≤ r → (∀ y ∈ lbw b xs r, y < k) → sqT b [k] xs r = List.replicate r.toNat b ++ xs
  | [], r, h0, h => by
    have e : sq r [k] = r := once_less h0 (h r List.mem_cons_self)
    show List.replicate (sq r [k]).toNat b = _
    rw [e, List.append_nil]
  | x :: xs, r, h0, h => by
    rw [lbw_cons] at h
    rw [sqT_cons]
    by_cases c : x = b
    · rw [if_pos c] at h ⊢
      rw [sqT_less xs (r + 1) (by omega) h, show (r + 1).toNat = r.toNat + 1 by omega, List.replicate_succ', List.append_assoc, c]
      rfl
    · rw [if_neg c] at h ⊢
      have e : sq r [k] = r := once_less h0 (h r List.mem_cons_self)
      rw [e, sqT_less xs 0 (by decide) fun y hy => h y (List.mem_cons_of_mem _ hy)]
      rfl
/-- the greatest of the runs' lengths -/
def IsMax (b : Nat) (l : List Nat) (m : Int) : Prop := m ∈ lbw b l 0 ∧ ∀ y ∈ lbw b l 0, y ≤ m
theorem IsMax.uniq {b : Nat} {l : List Nat} {m m' : Int} (h : IsMax b l m) (h' : IsMax b l m') : m = m' := Int.le_antisymm (h'.2 _ h.1) (h.2 _ h'.1)
theorem lbw_pos (b : Nat) (l : List Nat) (r : Int) : 0 < (lbw b l r).length := by rw [lbw_len]; exact Nat.succ_pos _
structure Lc (K : PySem.W.Frag) (C : Addr) : Prop where
  cl : Cls K C
  nC : NoAttr K C "_character"
  nR : NoAttr K C "_replacements"
  nT : NoAttr K C "_texts"
section
variable {P : Program} {w : World} {K : PySem.W.Frag} {mg : Str → Option Value} {base : Heap} {C : Addr}
def spLvInit (C : Addr) (n : Nat) (u0 : Value) : Sp := fun vs H Q _ => ∃ (p dx : Addr) (l : List Nat) (b : Nat), vs = [.ref p, .str (SX.S l), .str ⟨#[b]⟩] ∧ Live H p C dx (fun _ => none) [] ∧ l.length ≤ 2000 ∧
  ∀ r t H', H r = none → H t = none → Txt2 C H' p dx r t u0 b [l] [] → (∀ a o, H a = some o → a ≠ dx → H' a = some o) → Q .non H'
theorem ok_lvinit {f : Addr} {fd : FuncData} (F : Fun K "__init__" "SqueezedText.__init__" s_SqueezedTextinit f fd) (T : Lc K C) (D_checkcharacter : Df P w K mg base 1 "check_character" ["character"] spCheckChr) : FnW P w K mg base 2 f fd ["self", "text", "character"] 2 (spLvInit C) := by
  refine fnw_ofL F sc_SqueezedTextinit (fun n u vs H Q E h => ?_) (y := "character") rfl rfl (fun cdv A outer s H us vs Q n u0 hr h rv hu => ?_)
  · obtain ⟨p, dx, l, b, rfl, _⟩ := h
    rfl
  · obtain ⟨p, dx, l, b, rfl, L, hl, q⟩ := h
    have cl : Clo (cxOf CX0 P w K mg base ["self", "text", "character"] "SqueezedText.__init__" (defScope s_SqueezedTextinit) f cdv A outer s H E0).nox ["character"] (fun s' => Raw (cxOf CX0 P w K mg base ["self", "text", "character"] "SqueezedText.__init__" (defScope s_SqueezedTextinit) f cdv A outer s H E0).nox "character" u0 s' ∧ n ≤ s'.toks) := (clo_raw rfl).and clo_n
    have kn : KnownU (cxOf CX0 P w K mg base ["self", "text", "character"] "SqueezedText.__init__" (defScope s_SqueezedTextinit) f cdv A outer s H E0).nox (fun s' => Raw (cxOf CX0 P w K mg base ["self", "text", "character"] "SqueezedText.__init__" (defScope s_SqueezedTextinit) f cdv A outer s H E0).nox "character" u0 s' ∧ n ≤ s'.toks) "character" u0 := ⟨fun s' h => .inl ⟨rfl, h.1⟩⟩
    refine ⟨_, wu_cons (ws_expr (we_callD cl D_checkcharacter (hr.mono (by omega)) (by rfl) (wa_cons (wv 2) wa_nil)))
      (ps_fldK (i := 2) kn rfl (Or.inl rfl) (wv 0) (wu_ps (pss_cons (ps_fldL (pv 0) (pe_lst pa_nil)) (pss_one (ps_fldL (pv 0) (pe_lst (pa_cons (pv 1) pa_nil)))))) (fun s' h => h.2)), ?_⟩
    have z1 : 1 ≤ sizeLine := Nat.le_of_lt (small1000 (by decide))
    refine ⟨_, rfl, ⟨#[b]⟩, rfl, rfl, ?_⟩
    refine ⟨_, rfl, fun ru => ⟨_, rfl, p, C, dx, _, [], rfl, L, T.cl, T.nC, by decide, ?_⟩⟩
    have L1 : Live (upd H dx (dicO dx (putM (fun _ => none) "_character" u0) ["_character"])) p C dx (putM (fun _ => none) "_character" u0) ["_character"] := ⟨by rw [upd_ne (Ne.symm L.ne)]; exact L.i, upd_same, L.ne⟩
    have k1 : ∀ a o, H a = some o → a ≠ dx → (upd H dx (dicO dx (putM (fun _ => none) "_character" u0) ["_character"])) a = some o := fun a o e n => by rw [upd_ne n]; exact e
    have f1 : ∀ a, (upd H dx (dicO dx (putM (fun _ => none) "_character" u0) ["_character"])) a = none → H a = none := fun a e => by
      by_cases z : a = dx
      · rw [z, upd_same] at e; cases e
      · rwa [upd_ne z] at e
    generalize upd H dx (dicO dx (putM (fun _ => none) "_character" u0) ["_character"]) = H1 at L1 k1 f1
    refine ⟨Nat.zero_le _, fun r hr1 => ⟨_, rfl, p, C, dx, _, _, rfl, L1.same (same_new hr1), T.cl, T.nR, by decide, fun u1 ru1 => ?_⟩⟩
    obtain rfl : u1 = Value.ref r := ru1
    have L1' := L1.same (same_new (o := .lst []) hr1)
    have ndr : dx ≠ r := ne_of_none L1.d hr1
    have gr : (upd H1 r (.lst [])) r = some (.lst []) := upd_same
    have k2 : ∀ a o, H a = some o → a ≠ dx → (upd H1 r (.lst [])) a = some o := fun a o e n => same_new hr1 _ _ (k1 a o e n)
    have f2 : ∀ a, (upd H1 r (.lst [])) a = none → H a = none := fun a e => f1 a ((same_new hr1).free e)
    generalize upd H1 r (.lst []) = H2 at L1' gr k2 f2
    have L2' : Live (upd H2 dx (dicO dx (putM (putM (fun _ => none) "_character" u0) "_replacements" (.ref r)) ["_replacements", "_character"])) p C dx (putM (putM (fun _ => none) "_character" u0) "_replacements" (.ref r)) ["_replacements", "_character"] := ⟨by rw [upd_ne (Ne.symm L1'.ne)]; exact L1'.i, upd_same, L1'.ne⟩
    have gr3 : (upd H2 dx (dicO dx (putM (putM (fun _ => none) "_character" u0) "_replacements" (.ref r)) ["_replacements", "_character"])) r = some (.lst []) := by rw [upd_ne (Ne.symm ndr)]; exact gr
    have k3 : ∀ a o, H a = some o → a ≠ dx → (upd H2 dx (dicO dx (putM (putM (fun _ => none) "_character" u0) "_replacements" (.ref r)) ["_replacements", "_character"])) a = some o := fun a o e n => by rw [upd_ne n]; exact k2 a o e n
    have f3 : ∀ a, (upd H2 dx (dicO dx (putM (putM (fun _ => none) "_character" u0) "_replacements" (.ref r)) ["_replacements", "_character"])) a = none → H a = none := fun a e => by
      by_cases z : a = dx
      · rw [z, upd_same] at e; cases e
      · rw [upd_ne z] at e
        exact f2 a e
    generalize upd H2 dx (dicO dx (putM (putM (fun _ => none) "_character" u0) "_replacements" (.ref r)) ["_replacements", "_character"]) = H3 at L2' gr3 k3 f3
    refine ⟨_, rfl, z1, fun t ht => ⟨_, rfl, p, C, dx, _, _, rfl, L2'.same (same_new ht), T.cl, T.nT, by decide, fun u2 ru2 => ?_⟩⟩
    obtain rfl : u2 = Value.ref t := ru2
    have L3 := L2'.same (same_new (o := .lst [V.str (SX.S l)]) ht)
    have ndt : dx ≠ t := ne_of_none L2'.d ht
    have nrt : r ≠ t := ne_of_none gr3 ht
    refine q r t _ (f1 r hr1) (f3 t ht) ⟨⟨_, ⟨by rw [upd_ne (Ne.symm L3.ne)]; exact L3.i, upd_same, L3.ne⟩, ?_, ?_, ?_, fun f n1 n2 n3 => ?_⟩, ru, ?_, ?_, nrt, rfl, fun x hx => by rw [List.mem_singleton.mp hx]; exact hl⟩ fun a o e n => ?_
    · show (if ("_character" : Str) = "_texts" then _ else if ("_character" : Str) = "_replacements" then _ else if ("_character" : Str) = "_character" then some u0 else none) = some u0
      rw [if_neg nCT, if_neg nCR, if_pos rfl]
    · show (if ("_replacements" : Str) = "_texts" then _ else if ("_replacements" : Str) = "_replacements" then some (Value.ref r) else _) = some (Value.ref r)
      rw [if_neg nRT, if_pos rfl]
    · show (if ("_texts" : Str) = "_texts" then some (Value.ref t) else _) = some (Value.ref t)
      rw [if_pos rfl]
    · show (if f = "_texts" then _ else if f = "_replacements" then _ else if f = "_character" then _ else none) = none
      rw [if_neg n3, if_neg n2, if_neg n1]
    · rw [upd_ne (Ne.symm ndr), upd_ne nrt]
      exact gr3
    · rw [upd_ne (Ne.symm ndt), upd_same]
      rfl
    · rw [upd_ne n]
      exact same_new ht _ _ (k3 a o e n)
end
end Sq
set_option Elab.async false
set_option linter.all false
set_option maxRecDepth 100000
set_option maxHeartbeats 8000000
set_option exponentiation.threshold 2000
namespace Sq
open PySem PySem.Spec PyProof.Rows L2
theorem atI_tail {α : Type} (xs : List α) (v : α) : atI (xs ++ [v]) (-1) = some v := by
  have hl : (xs ++ [v]).length = xs.length + 1 := by simp
  unfold atI ixN
  rw [if_neg (by decide), hl, if_pos (by omega)]
  show (xs ++ [v])[((-1 : Int) + ((xs.length + 1 : Nat) : Int)).toNat]? = some v
  rw [show ((-1 : Int) + ((xs.length + 1 : Nat) : Int)).toNat = xs.length by omega, List.getElem?_append_right (Nat.le_refl _), Nat.sub_self]
  rfl
section
variable {P : Program} {w : World} {K : PySem.W.Frag} {mg : Str → Option Value} {base : Heap} {C : Addr}
def spText (C : Addr) : Sp := fun vs H Q _ => ∃ (p dx r t : Addr) (u0 : Value) (b : Nat) (T : List (List Nat)) (ks : List Int), vs = [.ref p] ∧ Txt2 C H p dx r t u0 b T ks ∧ Q (.str (SX.S (lastT T))) H
theorem ok_text {f : Addr} {fd : FuncData} (F : Fun K "text" "SqueezedText.text" s_SqueezedTexttext f fd) (Z : Lc K C) : FnOk P w K mg base CX0 1 f fd ["self"] (spText C) := by
  refine F.ok sc_SqueezedTexttext (fun vs H Q E h => ?_) (fun cdv A outer s H vs Q E hr h => ?_)
  · obtain ⟨p, dx, r, t, u0, b, T, ks, rfl, _⟩ := h
    rfl
  · obtain ⟨p, dx, r, t, u0, b, T, ks, rfl, L, q⟩ := h
    refine ⟨_, (pss_one (ps_ret (pe_ix (r := rIxL K) ix_list (pe_fldL (pv 0)) (pe_un un_neg pe_int) (fun _ _ => rfl)))), ?_⟩
    obtain ⟨m, LL, mC, mR, mT, mN⟩ := L.m
    obtain ⟨T0, l, eT⟩ : ∃ T0 l, T = T0 ++ [l] := by
      rcases List.eq_nil_or_concat T with e | ⟨T0, l, e⟩
      · have := L.len
        rw [e] at this
        simp at this
      · exact ⟨T0, l, by rw [e, List.concat_eq_append]⟩
    subst eT
    rw [lastT_snoc] at q
    refine ⟨_, rfl, p, C, dx, m, _, .ref t, .ref t, rfl, LL, Z.cl, Z.nT, mT, rfl, 1, rfl, t, _, -1, .str (SX.S l), rfl, rfl, SqL.of L.tx, ?_, q⟩
    rw [List.map_append]
    exact atI_tail _ _
def spLongest (C : Addr) : Sp := fun vs H Q _ => ∃ (p dx r t : Addr) (u0 : Value) (b : Nat) (T : List (List Nat)) (ks : List Int), vs = [.ref p] ∧ Txt2 C H p dx r t u0 b T ks ∧ ∀ m H', IsMax b (lastT T) m → Same H H' → Q (.int m) H'
theorem ok_longest {f : Addr} {fd : FuncData} (F : Fun K "longest" "SqueezedText.longest" s_SqueezedTextlongest f fd) (B : Bi mg) (Z : Lc K C) (P_text : Pr P w K mg base 1 C "text" (spText C)) (D_lengthsbetween : Df P w K mg base 1 "lengths_between" ["text", "character"] spBetween) : FnOk P w K mg base CX0 3 f fd ["self"] (spLongest C) := by
  refine F.ok sc_SqueezedTextlongest (fun vs H Q E h => ?_) (fun cdv A outer s H vs Q E hr h => ?_)
  · obtain ⟨p, dx, r, t, u0, b, T, ks, rfl, _⟩ := h
    rfl
  · obtain ⟨p, dx, r, t, u0, b, T, ks, rfl, L, q⟩ := h
    refine ⟨_, (pss_one (ps_ret (pe_callB (id := "max") (cr_max rfl) (by rfl) B.n_max (by decide +kernel) (pa_cons (pe_callD D_lengthsbetween (hr.mono (by omega)) (by rfl) (pa_cons (pe_prL P_text (hr.mono (by omega)) (pv 0)) (pa_cons (pe_fldL (pv 0)) pa_nil))) pa_nil)))), ?_⟩
    obtain ⟨m, LL, mC, mR, mT, mN⟩ := L.m
    have l2 := lastT_size L.sz
    refine ⟨_, rfl, p, dx, m, _, rfl, LL, p, dx, r, t, u0, b, T, ks, rfl, L, ?_⟩
    refine ⟨_, rfl, p, C, dx, m, _, u0, _, rfl, LL, Z.cl, Z.nC, mC, L.u, ?_⟩
    refine ⟨SX.S (lastT T), b, rfl, by rw [SX.S_len]; omega, fun a H' na s' ga => ?_⟩
    exact ⟨a, _, rfl, SqL.of ga, lbw_pos b _ 0, fun mm h1 h2 => q mm H' ⟨h1, h2⟩ s'⟩
/-- the check of the numbers, as a tuple -/
def spCheckListT : Sp := fun vs H Q _ => ∃ (a : Addr) (ks : List Int), vs = [.ref a] ∧ H a = some (.tup (ks.map V.int)) ∧ (∀ k ∈ ks, 2 ≤ k) ∧ ∀ H', Same H H' → Q .non H'
theorem ok_checklistT {f : Addr} {fd : FuncData} (F : Fun K "check_list" "check_list" s_checklist f fd) (B : Bi mg) : FnOk P w K mg base CX0 1 f fd ["replacements"] spCheckListT := by
  refine F.ok sc_checklist (fun vs H Q E h => ?_) (fun cdv A outer s H vs Q E hr h => ?_)
  · obtain ⟨a, ks, rfl, _⟩ := h
    rfl
  · obtain ⟨a, ks, rfl, hS, hk, q⟩ := h
    refine ⟨_, (pss_one (ps_for PassesOwn.never rfl (pi_enumT (by rfl) B.n_enumerate (pa_cons (pv 0) pa_nil)) (pg_tup rfl (pgs_cons (pg_name (i := 1) sc_checklist.nd rfl (Or.inl rfl)) (pgs_cons (pg_name (i := 2) sc_checklist.nd rfl (Or.inl rfl)) pgs_nil)))
      (pss_one (ps_if (pt_cmpR op_lt (pv 2) pe_int (nomark _)) (pss_one ps_never) pss_nil)))), ?_⟩
    refine ⟨_, rfl, a, ks.map V.int, rfl, .inl (.inl hS), for_it (walk_enumT (K := K) (a := a) (xs := ks.map V.int)) (fun i σ H' => Same H H' ∧ ∃ y z, σ = [some (.ref a), y, z]) ⟨Same.refl H, none, none, rfl⟩ (fun i σ H' _ h => .inl (.inl (h.1 _ _ hS))) ?_ ?_⟩
    · rintro i σ H' v H2 hi ⟨sm, y, z, rfl⟩ ⟨T, x2, rfl, nT, rfl, e2⟩
      obtain ⟨k, hk', rfl⟩ := map_at e2
      refine ⟨T, _, rfl, .inl (.inl upd_same), rfl, _, _, rfl, _, _, rfl, rfl, ?_⟩
      refine ⟨_, rfl, _, _, rfl, rfl, _, rfl, ite2 (fun c => ?_) (fun c => ?_)⟩
      · have := hk k (List.mem_of_getElem? hk')
        have c' : k < 2 := of_decide_eq_true c
        omega
      · exact ⟨sm.trans (same_new nT), _, _, rfl⟩
    · rintro σ H' ⟨sm, y, z, rfl⟩
      exact q H' sm
/-- squeeze, with good numbers -/
def spSqueeze (C : Addr) (n : Nat) : Sp := fun vs H Q _ => ∃ (p dx r t a : Addr) (u0 : Value) (b : Nat) (T : List (List Nat)) (ks ns : List Int), vs = [.ref p, .ref a] ∧ H a = some (.tup (ns.map V.int)) ∧ Txt2 C H p dx r t u0 b T ks ∧ Tkn 0 [u0] n ∧ Rpl ns ∧ ks.length + ns.length ≤ 100000 ∧
  ∀ H', Txt2 C H' p dx r t u0 b (appT b T ns) (ks ++ ns) → But2 H H' r t → Q .non H'
theorem ok_squeeze {f : Addr} {fd : FuncData} (F : Fun K "squeeze" "SqueezedText.squeeze" s_SqueezedTextsqueeze f fd) (B : Bi mg) (Z : Lc K C) (P_text : Pr P w K mg base 1 C "text" (spText C)) (P_longest : Pr P w K mg base 3 C "longest" (spLongest C)) (D_lengthsbetween : Df P w K mg base 1 "lengths_between" ["text", "character"] spBetween)
    (D_checklistT : Df P w K mg base 1 "check_list" ["replacements"] spCheckListT) (T_squeezetext : DfT P w K mg base 4 "squeeze_text" ["text", "character", "replacements"] 1 (spSqT K)) : FnV P w K mg base 5 f (spSqueeze C) := by
  refine fnv_of (k := 4) F sc_SqueezedTextsqueeze (fun n vs H Q E h => ?_) (fun kV doc pm an cdv ct u1 us => ?_) (fun cdv A outer s H vs Q n hr h => ?_)
  · obtain ⟨p, dx, r, t, a, u0, b, T, ks, ns, rfl, _⟩ := h
    rfl
  · cases us with
    | nil => rfl
    | cons a r => rfl
  · obtain ⟨p, dx, r, t, a, u0, b, T, ks, ns, rfl, ha, L, good, rpl, few, q⟩ := h
    refine ⟨_, wu_of (wss_cons (ws_ofP (ps_expr (pe_callD D_checklistT (hr.mono (by omega)) (by rfl) (pa_cons (pv 1) pa_nil))))
      (wss_cons (ws_ofP (ps_set (i := 2) sc_SqueezedTextsqueeze.nd rfl (Or.inl rfl) (pe_prL P_longest (hr.mono (by omega)) (pv 0))))
      (wss_one (ws_forT rfl PassesOwn.never clo_n (we_ofP (pv 1)) (wg_name (i := 3) clo_n (by decide) sc_SqueezedTextsqueeze.nd rfl (Or.inl rfl))
        (wss_cons (ws_ofP (ps_set (i := 4) sc_SqueezedTextsqueeze.nd rfl (Or.inl rfl) (pe_prL P_text (hr.mono (by omega)) (pv 0))))
        (wss_cons (ws_if (wt_ofP (pt_cmpR op_le (pv 3) (pv 2) (nomark _)))
          (wss_cons (ws_set (i := 4) clo_n (by decide) sc_SqueezedTextsqueeze.nd rfl (Or.inl rfl) (we_callT clo_n T_squeezetext (hr.mono (by omega)) (by rfl) (wx_skip (we_ofP (pv 4)) (wx_fld clo_n (fun _ h => h) (we_ofP (pv 0)) (wa_ofP (pa_cons (pe_lst (pa_cons (pv 3) pa_nil)) pa_nil))))))
          (wss_one (ws_ofP (ps_set (i := 2) sc_SqueezedTextsqueeze.nd rfl (Or.inl rfl) (pe_callB (id := "max") (cr_max rfl) (by rfl) B.n_max (by decide +kernel) (pa_cons (pe_callD D_lengthsbetween (hr.mono (by omega)) (by rfl) (pa_cons (pv 4) (pa_cons (pe_fldL (pv 0)) pa_nil))) pa_nil))))))
          wss_nil)
        (wss_cons (ws_ofP (ps_expr (pe_bm PySem.F.plainAttrs_list PySem.F.slot_list_append PySem.F.type_list_append mt_append (pe_fldL (pv 0)) (pa_cons (pv 3) pa_nil))))
        (wss_one (ws_ofP (ps_expr (pe_bm PySem.F.plainAttrs_list PySem.F.slot_list_append PySem.F.type_list_append mt_append (pe_fldL (pv 0)) (pa_cons (pv 4) pa_nil))))))))))) ), ?_⟩
    have szl : sizeLine = 16777216 := sizeLine_eq
    have z1 : 1 ≤ sizeLine := by omega
    have nar : a ≠ r := ne_of ha L.rp (by intro z; cases z)
    have nat : a ≠ t := ne_of ha L.tx (by intro z; cases z)
    obtain ⟨m, LL, mC, mR, mT, mN⟩ := L.m
    refine ⟨_, rfl, a, ns, rfl, ha, rpl.two, fun H1 s1 => ?_⟩
    refine ⟨_, rfl, p, dx, m, _, rfl, LL.same s1, p, dx, r, t, u0, b, T, ks, rfl, L.same s1, fun mx H2 hm s2 => ?_⟩
    have s02 := s1.trans s2
    refine ⟨_, rfl, a, ns.map V.int, rfl, .inl (.inl (s02 _ _ ha)), (fun i σ H' => ∃ mx y3 y4, σ = [some (.ref p), some (.ref a), some (.int mx), y3, y4] ∧ Txt2 C H' p dx r t u0 b (appT b T (ns.take i)) (ks ++ ns.take i) ∧ IsMax b (lastT (appT b T (ns.take i))) mx ∧ But2 H H' r t),
      ⟨mx, none, none, rfl, by rw [List.take_zero, List.append_nil]; exact L.same s02, hm, But2.of s02⟩, fun i σ H' h => by obtain ⟨_, _, _, _, _, _, k⟩ := h; exact .inl (.inl (k _ _ ha nar nat)), ?_, ?_⟩
    · rintro i z σ H3 hz ⟨mx, y3, y4, rfl, L3, hm3, k3⟩
      obtain ⟨k, ek, rfl⟩ := map_at hz
      have il : i < ns.length := (List.getElem?_eq_some_iff.mp ek).1
      have rk := rpl k (List.mem_of_getElem? ek)
      obtain ⟨TT, eTT⟩ : ∃ TT, TT = appT b T (ns.take i) := ⟨_, rfl⟩
      have eN : ns.take (i + 1) = ns.take i ++ [k] := by rw [List.take_add_one, ek]; rfl
      rw [← eTT] at L3 hm3
      have ll := lastT_size L3.sz
      obtain ⟨l, el⟩ : ∃ l, l = lastT TT := ⟨_, rfl⟩
      rw [← el] at hm3 ll
      have eA : appT b T (ns.take (i + 1)) = TT ++ [sqT b [k] l 0] := by rw [eN, appT_snoc, ← eTT, ← el]
      have eK : ks ++ ns.take (i + 1) = ks ++ ns.take i ++ [k] := by rw [eN, List.append_assoc]
      obtain ⟨m3, LL3, mC3, mR3, mT3, mN3⟩ := id L3.m
      refine ⟨_, rfl, p, dx, m3, _, rfl, LL3, p, dx, r, t, u0, b, TT, _, rfl, L3, ?_⟩
      rw [← el]
      refine tellNx (fun σ2 H4 => ∃ mx', σ2 = [some (.ref p), some (.ref a), some (.int mx'), some (.int k), some (.str (SX.S (sqT b [k] l 0)))] ∧ Same H3 H4 ∧ IsMax b (sqT b [k] l 0) mx') (fun N hN => ?_) (fun σ2 H4 h4 => ?_)
      · refine ⟨_, rfl, _, rfl, k, mx, rfl, rfl, _, rfl, ite2 (fun c => ?_) (fun c => ?_)⟩
        · refine ⟨_, rfl, _, rfl, p, C, dx, m3, _, u0, _, rfl, LL3, Z.cl, Z.nC, mC3, good, L.u, _, rfl, z1, fun l1 hl1 => ⟨SX.S l, b, l1, [k], rfl, SqL.of upd_same, fun x hx => by rw [List.mem_singleton.mp hx]; exact rk, by rw [SX.S_len]; omega, fun H5 s5 => ?_⟩⟩
          have s35 := (same_new (o := .lst [V.int k]) hl1).trans s5
          have sl := sqT_size (b := b) rk.1 ll
          refine ⟨_, rfl, _, rfl, p, C, dx, m3, _, u0, _, rfl, LL3.same s35, Z.cl, Z.nC, mC3, L.u, SX.S (sqT b [k] l 0), b, rfl, by rw [SX.S_len]; omega, fun a6 H6 na6 s6 ga6 => ?_⟩
          exact ⟨a6, _, rfl, SqL.of ga6, lbw_pos b _ 0, fun mm h1 h2 => hN _ _ ⟨mm, rfl, s35.trans s6, h1, h2⟩⟩
        · have e : sqT b [k] l 0 = l := by
            have lt : ¬ k ≤ mx := fun z => c (decide_eq_true z)
            rw [sqT_less l 0 (by decide) fun y hy => by have := hm3.2 y hy; omega]
            rfl
          exact hN _ _ ⟨mx, by rw [e]; rfl, Same.refl _, by rw [e]; exact hm3⟩
      · obtain ⟨mx', rfl, s4, hm4⟩ := h4
        have L4 := L3.same s4
        obtain ⟨m4, LL4, mC4, mR4, mT4, mN4⟩ := id L4.m
        have lenK : (ks ++ ns.take i).length ≤ 100000 := by
          rw [List.length_append, List.length_take]
          omega
        have lenT := L4.len
        refine ⟨_, rfl, p, C, dx, m4, _, .ref r, .ref r, rfl, LL4, Z.cl, Z.nR, mR4, rfl, .inl ⟨rfl, _, SqL.of L4.rp⟩, _, rfl, r, _, _, rfl, rfl, L4.rp, by rw [List.length_map]; omega, ?_⟩
        have t5 : (upd H4 r (.lst ((ks ++ ns.take i).map V.int ++ [V.int k]))) t = some (.lst (TT.map fun l => V.str (SX.S l))) := by rw [upd_ne (Ne.symm L4.ne)]; exact L4.tx
        have nrd : ∀ {x : Addr} {φ : Heap → Prop}, H4 x = some (.ext φ) → x ≠ r := fun {x φ} h => ne_of h L4.rp (by intro z; cases z)
        have LL5 : Live (upd H4 r (.lst ((ks ++ ns.take i).map V.int ++ [V.int k]))) p C dx m4 lvN := ⟨by rw [upd_ne (nrd LL4.i)]; exact LL4.i, by rw [upd_ne (nrd LL4.d)]; exact LL4.d, LL4.ne⟩
        refine ⟨_, rfl, p, C, dx, m4, _, .ref t, .ref t, rfl, LL5, Z.cl, Z.nT, mT4, rfl, .inl ⟨rfl, _, SqL.of t5⟩, _, rfl, t, _, _, rfl, rfl, t5, by rw [List.length_map]; omega, ?_⟩
        have kk : But2 H4 (upd (upd H4 r (.lst ((ks ++ ns.take i).map V.int ++ [V.int k]))) t (.lst ((TT.map fun l => V.str (SX.S l)) ++ [V.str (SX.S (sqT b [k] l 0))]))) r t := fun x o e n1 n2 => by rw [upd_ne n2, upd_ne n1]; exact e
        have fin : Txt2 C (upd (upd H4 r (.lst ((ks ++ ns.take i).map V.int ++ [V.int k]))) t (.lst ((TT.map fun l => V.str (SX.S l)) ++ [V.str (SX.S (sqT b [k] l 0))]))) p dx r t u0 b (TT ++ [sqT b [k] l 0]) (ks ++ ns.take i ++ [k]) := by
          refine L4.but kk ?_ ?_ ?_ fun x hx => ?_
          · rw [upd_ne L4.ne, upd_same, ← List.map_singleton, ← List.map_append]
          · rw [upd_same, List.map_append]
            rfl
          · rw [List.length_append, List.length_append, lenT]
            rfl
          · rcases List.mem_append.mp hx with z | z
            · exact L4.sz x z
            · rw [List.mem_singleton.mp z]
              exact sqT_size rk.1 ll
        exact ⟨mx', _, _, rfl, by rw [eA, eK]; exact fin, by rw [eA, lastT_snoc]; exact hm4, (k3.trans (But2.of s4)).trans kk⟩
    · rintro σ H3 ⟨mx, y3, y4, rfl, L3, hm3, k3⟩
      rw [List.length_map, List.take_length] at L3
      exact q H3 L3 k3
end
end Sq
set_option Elab.async false
set_option linter.all false
set_option maxRecDepth 100000
set_option maxHeartbeats 8000000
set_option exponentiation.threshold 2000
namespace Sq
open PySem PySem.Spec PyProof.Rows L2
section
variable {P : Program} {w : World} {K : PySem.W.Frag} {mg : Str → Option Value} {base : Heap} {C : Addr}
/-- undo, where there is something to take back -/
def spUndo (C : Addr) : Sp := fun vs H Q _ => ∃ (p dx r t : Addr) (u0 : Value) (b : Nat) (T : List (List Nat)) (l : List Nat) (ks : List Int) (k : Int), vs = [.ref p] ∧ Txt2 C H p dx r t u0 b (T ++ [l]) (ks ++ [k]) ∧ ∀ H', Txt2 C H' p dx r t u0 b T ks → But2 H H' r t → Q .non H'
theorem ok_undo {f : Addr} {fd : FuncData} (F : Fun K "undo" "SqueezedText.undo" s_SqueezedTextundo f fd) (Z : Lc K C) : FnOk P w K mg base CX0 1 f fd ["self"] (spUndo C) := by
  refine F.ok sc_SqueezedTextundo (fun vs H Q E h => ?_) (fun cdv A outer s H vs Q E hr h => ?_)
  · obtain ⟨p, dx, r, t, u0, b, T, l, ks, k, rfl, _⟩ := h
    rfl
  · obtain ⟨p, dx, r, t, u0, b, T, l, ks, k, rfl, L, q⟩ := h
    refine ⟨_, (pss_cons (ps_if (pt_not (pt_truth (pe_fldL (pv 0)) (by intro _; rfl)))
      (pss_one ps_never)
      pss_nil)
      (pss_cons (ps_expr (pe_bm0 PySem.F.plainAttrs_list PySem.F.slot_list_pop PySem.F.type_list_pop mt_pop (pe_fldL (pv 0))))
      (pss_one (ps_expr (pe_bm0 PySem.F.plainAttrs_list PySem.F.slot_list_pop PySem.F.type_list_pop mt_pop (pe_fldL (pv 0))))))), ?_⟩
    · obtain ⟨m, LL, mC, mR, mT, mN⟩ := L.m
      refine ⟨_, rfl, p, C, dx, m, _, .ref r, .ref r, rfl, LL, Z.cl, Z.nR, mR, rfl, _, .inl ⟨_, SqL.of L.rp, rfl⟩, ?_⟩
      have ne : ((ks ++ [k]).map V.int).isEmpty = false := by rw [List.map_append]; cases (ks.map V.int) <;> rfl
      rw [ne]
      refine iteF ?_
      have lenT := L.len
      refine ⟨_, rfl, p, C, dx, m, _, .ref r, .ref r, rfl, LL, Z.cl, Z.nR, mR, rfl, .inl ⟨rfl, _, SqL.of L.rp⟩, r, _, .int k, rfl, rfl, L.rp, ?_, ?_⟩
      · rw [List.map_append, List.length_append, List.map_singleton, List.length_singleton, Nat.add_sub_cancel, List.getElem?_append_right (Nat.le_refl _), Nat.sub_self]
        rfl
      rw [List.map_append, List.map_singleton, List.dropLast_concat]
      have t5 : (upd H r (.lst (ks.map V.int))) t = some (.lst ((T ++ [l]).map fun l => V.str (SX.S l))) := by rw [upd_ne (Ne.symm L.ne)]; exact L.tx
      have nrd : ∀ {x : Addr} {φ : Heap → Prop}, H x = some (.ext φ) → x ≠ r := fun {x φ} h => ne_of h L.rp (by intro z; cases z)
      have LL5 : Live (upd H r (.lst (ks.map V.int))) p C dx m lvN := ⟨by rw [upd_ne (nrd LL.i)]; exact LL.i, by rw [upd_ne (nrd LL.d)]; exact LL.d, LL.ne⟩
      refine ⟨_, rfl, p, C, dx, m, _, .ref t, .ref t, rfl, LL5, Z.cl, Z.nT, mT, rfl, .inl ⟨rfl, _, SqL.of t5⟩, t, _, .str (SX.S l), rfl, rfl, t5, ?_, ?_⟩
      · rw [List.map_append, List.length_append, List.map_singleton, List.length_singleton, Nat.add_sub_cancel, List.getElem?_append_right (Nat.le_refl _), Nat.sub_self]
        rfl
      rw [List.map_append, List.map_singleton, List.dropLast_concat]
      have kk : But2 H (upd (upd H r (.lst (ks.map V.int))) t (.lst (T.map fun l => V.str (SX.S l)))) r t := fun x o e n1 n2 => by rw [upd_ne n2, upd_ne n1]; exact e
      refine q _ (L.but kk (by rw [upd_ne L.ne, upd_same]) upd_same ?_ fun x hx => L.sz x (List.mem_append_left _ hx)) kk
      rw [List.length_append, List.length_append] at lenT
      simp only [List.length_cons, List.length_nil] at lenT
      omega
end
end Sq
set_option Elab.async false
set_option linter.all false
set_option maxRecDepth 100000
set_option maxHeartbeats 1000000
set_option Elab.async false
set_option linter.all false
set_option maxRecDepth 100000
set_option maxHeartbeats 4000000
/-! An if with a yield in its suite; list(o.m()) of a live object's generator. -/
set_option Elab.async false
set_option linter.all false
set_option maxRecDepth 100000
set_option maxHeartbeats 4000000
/-! o.m() of a live object, m raising. -/
set_option Elab.async false
set_option linter.all false
set_option maxRecDepth 100000
set_option maxHeartbeats 4000000
/-! text.replace(sign * number, sign), the sign known to the token; text.replace on runs. -/
namespace Sq
open PySem PySem.Spec PyProof.Rows L2 GenW
open StrLaws (replL replL_nil replL_hit replL_miss replace_list)
def tRepM (i j l : Nat) : TE := fun σ H Q => ∃ (a : Str) (b : Nat) (k : Int), σ[i]? = some (some (.str a)) ∧ σ[j]? = some (some (.str ⟨#[b]⟩)) ∧ σ[l]? = some (some (.int k)) ∧ 2 ≤ k ∧ k ≤ 1000000 ∧ a.length ≤ 1000000 ∧ Q (.str (Txt.replace a (_root_.PySem.Txt.mul ⟨#[b]⟩ k) ⟨#[b]⟩)) H
theorem mul_okM (b : Nat) {n : Int} (h0 : 2 ≤ n) (h1 : n ≤ 1000000) : _root_.PySem.MulOk ⟨#[b]⟩ n := by
  have l1 : (⟨#[b]⟩ : Str).length = 1 := rfl
  unfold _root_.PySem.MulOk
  rw [l1]
  refine ⟨?_, fun c _ => ?_, fun c _ => ?_⟩
  · rw [decide_eq_false (by omega), decide_eq_false (by omega)]
    rfl
  · have : (1 : Int) ≤ (2 ^ 63 - 1) / n := Int.le_ediv_of_mul_le (by omega) (by omega)
    show ¬ ((1 : Int) > (2 ^ 63 - 1) / n)
    omega
  · have szl : sizeLine = 16777216 := sizeLine_eq
    unfold PySem.Builtin.Str.tooLong
    exact decide_eq_false (by omega)
theorem foldM (b : Nat) : ∀ (k : Nat) (acc : Array Nat), ((List.replicate k #[b]).foldl (· ++ ·) acc).toList = acc.toList ++ List.replicate k b
  | 0, acc => (List.append_nil _).symm
  | k + 1, acc => by
    rw [List.replicate_succ, List.foldl_cons, foldM b k, Array.toList_append, List.append_assoc]
    rfl
theorem mulM (b : Nat) {n : Int} (h0 : 2 ≤ n) : (_root_.PySem.Txt.mul ⟨#[b]⟩ n).cps.toList = List.replicate n.toNat b := by
  unfold _root_.PySem.Txt.mul
  rw [if_neg (by omega), if_neg]
  · show ((List.replicate n.toNat #[b]).foldl (· ++ ·) #[]).toList = _
    rw [foldM]
    rfl
  · intro h
    rcases Bool.or_eq_true_iff.mp h with z | z
    · have := eq_of_beq z
      omega
    · cases z
theorem we_repM {X : Cx} {Θ : Shared → Prop} {ys : List Str} {x y z : Str} {i j l : Nat} {p1 p2 p3 p4 pb apos pos : Pos} {u0 : Value} {n : Nat} (Kn : KnownU X Θ y u0) (good : Tkn 0 [u0] n) (hn : ∀ s, Θ s → n ≤ s.toks) (C : Clo X ys Θ) (hx : X.N[i]? = some x) (vx : Vis X.env.scope x) (hy : X.N[j]? = some y) (vy : Vis X.env.scope y) (hz : X.N[l]? = some z) (vz : Vis X.env.scope z)
    (d1 : (x == ("__debug__" : Str)) = false := by decide) (d2 : (x == ("__classdict__" : Str)) = false := by decide) (d3 : (y == ("__debug__" : Str)) = false := by decide) (d4 : (z == ("__debug__" : Str)) = false := by decide) (d5 : (z == ("__classdict__" : Str)) = false := by decide)
    (hst : starEach [.BinOp (.Name y p2) .Mult (.Name z p3) pb, .Name y p4] X.env = [(false, eval (.BinOp (.Name y p2) .Mult (.Name z p3) pb) X.env), (false, eval (.Name y p4) X.env)] := by rfl)
    (hbase : attributeBase (.Name x p1) "replace" X.env (eval (.Name x p1) X.env) = eval (.Name x p1) X.env := by rfl) (hline : (apos.endLine == pos.line) = true := by rfl) :
    We X Θ (.Call (.Attribute (.Name x p1) "replace" apos) [.BinOp (.Name y p2) .Mult (.Name z p3) pb, .Name y p4] [] pos) (tRepM i j l) := by
  refine ⟨fun pins s σ H Q I θ h => ?_⟩
  obtain ⟨a, b, k, e1, e2, e3, k2, k6, al, q⟩ := h
  refine PySem.Call_method2 hbase hst hline (raw_name hx vx I e1 (fun v r => ?_) d1 d2)
  obtain ⟨ta, ea⟩ := r
  subst ea
  refine ⟨"str", _, PySem.F.plainAttrs_str, PySem.F.slot_str_replace, PySem.F.type_str_replace, typeIs_str _ _ _, (fun _ e => nomatch e), Calls.callWith_builtin rfl (Calls.evalArgs_plain (Calls.spliced_cons ?_))⟩
  refine wpAny_BinOp (knownU_eval Kn I θ hy vy e2 (fun ru => ?_) d3)
  obtain ⟨tb, eu⟩ := id ru
  subst eu
  obtain ⟨g1, g2⟩ := good ⟨#[b]⟩ tb rfl rfl
  refine raw_name hz vz I e3 (fun v r => ?_) d4 d5
  obtain ⟨tk, ek⟩ := r
  subst ek
  have ok := mul_okM b k2 k6
  have n1 : ¬ k < 1 := by omega
  have n2 : (k == 1 || (⟨#[b]⟩ : Str).length == 0) = false := by
    rw [Bool.or_eq_false_iff]
    exact ⟨beq_eq_false_iff_ne.mpr (by omega), rfl⟩
  have em : _root_.PySem.Txt.mul ⟨#[b]⟩ k = ⟨(List.replicate k.toNat #[b]).foldl (· ++ ·) #[]⟩ := by
    unfold _root_.PySem.Txt.mul
    rw [if_neg n1, n2, if_neg (by decide)]
  have lm : (_root_.PySem.Txt.mul ⟨#[b]⟩ k).length = k.toNat := by
    have := congrArg List.length (mulM b k2)
    rw [List.length_replicate] at this
    exact this
  refine P.mul_str ok.1 ok.2.1 ok.2.2 ?_
  rw [if_neg n1, n2, if_neg (by decide), ← em]
  refine ⟨by have := sizeLine_eq; omega, ?_⟩
  have I2 : Inv X pins σ H { s with toks := s.toks + 1 } := I.tok _
  refine Calls.spliced_cons (knownU_eval Kn I2 (C.tok I θ) hy vy e2 (fun _ => Calls.spliced_nil ?_) d3)
  have up : tb < s.toks := Nat.lt_of_lt_of_le g2 (hn s θ)
  have t0 : s.toks ≠ 0 := fun z => by rw [z] at up; exact Nat.not_lt_zero _ up
  have hyz : (_root_.PySem.Txt.mul ⟨#[b]⟩ k == (⟨#[b]⟩ : Str)) = false := beq_eq_false_iff_ne.mpr fun z => by
    have := congrArg Str.length z
    rw [lm] at this
    have e1 : (⟨#[b]⟩ : Str).length = 1 := rfl
    rw [e1] at this
    omega
  have called : wpAny (model X.prog X.w) X.A (call (.builtin "str.replace") [.str a ta, .str (_root_.PySem.Txt.mul ⟨#[b]⟩ k) s.toks, .str ⟨#[b]⟩ tb]) (fun u s' => (s.toks + 1 ≤ s'.toks → Θ s') ∧ EP X pins σ Q u s') X.xe { s with toks := s.toks + 1 } := by
    refine PySem.SC.replace t0 g1 (Nat.ne_of_gt up) hyz ?_ fun t' kk => ⟨fun h => C.kept (s' := { s with toks := kk }) I (Nat.le_of_succ_le h) (fun _ _ e => e) θ, .str _, H, I.tok kk, ⟨t', rfl⟩, q⟩
    show a.length + (a.length + 1) * 1 ≤ 16777216
    omega
  exact wpAny_mono (PySem.wpAny_toks called) (fun u s' z => ⟨z.2.1 z.1, z.2.2⟩) fun _ _ z => z.2
end Sq
set_option Elab.async false
set_option linter.all false
set_option maxRecDepth 100000
set_option maxHeartbeats 4000000
/-! Operations that keep what is known of the state. -/
namespace Sq
open PySem PySem.Spec PyProof.Rows L2 GenW
section
variable {X : Cx} {Θ : Shared → Prop} {ys : List Str} {pins : List (Addr × Obj)} {σ : L2.St} {H : Hp} {s : Shared} {x y : Str} {p pos apos cpos : Pos} {e e2 o : Expr} {es : List Expr} {te tf to : TE} {t : TA}
/-- o[e] of a list -/
theorem we_ixL (ha : We X Θ e te) (hb : We X Θ e2 tf) (hs : PlainIx e2) : We X Θ (.Subscript e e2 pos) (tOp (rIxL X.K) te tf) := by
  refine ⟨fun pins s σ H Q I θ h => ?_⟩
  refine Subscript_ (thn (ha.run pins s σ H _ I θ h) fun v s1 hh => ?_)
  obtain ⟨g1, a, H1, I1, r1, q1⟩ := hh
  refine thn (hb.run pins s1 σ H1 _ I1 g1 q1) fun u s2 hh => ?_
  obtain ⟨g2, b, H2, I2, r2, l, xs, i, z, rfl, rfl, hq, he, q⟩ := hh
  cases r1
  obtain ⟨tk, rfl⟩ := r2
  obtain ⟨its, r, pl, hz⟩ := I2.list hq
  obtain ⟨j, h1, h2, h3, h4, h5⟩ := atI_get he
  obtain ⟨w, ew, rw'⟩ := r.get h2
  have hl := r.length
  have hn := line63
  have fin : Θ s2 ∧ EP X pins σ Q w s2 := ⟨g2, z, H2, I2, rw', q⟩
  by_cases h0 : 0 ≤ i
  · have hj : i.toNat = j := by
      rw [seqIndex_of h0 h5] at h1
      exact Option.some.inj h1
    exact item_listR pl.isList h0 (by omega) (by rw [hj]; simpa using ew) fin (hs _ _)
  · have hj : (i + (its.toArray.size : Int)).toNat = j := by
      rw [seqIndex_neg (by omega) h4] at h1
      rw [List.size_toArray, ← hl]
      exact Option.some.inj h1
    exact subscriptTail_builtinR (x := w) pl.isList.typeIs slot_list_getitem.lookup
      (wpAny_getItem_list_neg (Q := fun r s' => r = w ∧ (Θ s' ∧ EP X pins σ Q r s')) pl.isList (by omega) (by rw [List.size_toArray] <;> omega) (by omega) (by rw [hj]; simpa using ew) ⟨rfl, fin⟩) (hs _ _)
/-- o.append(e) -/
theorem we_append (C : Clo X ys Θ) (ho : We X Θ o to) (ha : We X Θ e te) (hbase : attributeBase o "append" X.env (eval o X.env) = eval o X.env := by rfl)
    (hfew : ((backTo cpos (starEach [e] X.env)).all (fun x => !x.1) && (backToKw cpos (keywordEach [] X.env)).all (fun x => x.1.isSome)
      && decide ([e].length + ([] : List Keyword).length + (if ([] : List Keyword).isEmpty then 0 else 1) < 30)) = true := by rfl)
    (hline : (apos.endLine == cpos.line) = true := by rfl) (hs : starEach [e] X.env = (false, eval e X.env) :: starEach [] X.env := by rfl) (hplain : (backTo cpos (starEach [] X.env)).any (·.1) = false := by rfl) :
    We X Θ (.Call (.Attribute o "append" apos) [e] [] cpos) (tBM X.K "list" rAppend to (tCons te tNil)) := by
  refine ⟨fun pins s σ H Q I θ h => ?_⟩
  refine wpAny_Call_method_late hbase hfew hline rfl (thn (ho.run pins s σ H _ I θ h) fun v s1 hh => ?_)
  obtain ⟨g1, x, H1, I1, r1, ty, q1⟩ := hh
  obtain ⟨h1, h2⟩ := tyV_is I1 r1 ty
  refine ⟨"list", "list.append", PySem.F.plainAttrs_list, PySem.F.slot_list_append, PySem.F.type_list_append, h1, h2, ?_⟩
  have hA := (wa_cons ha wa_nil hs).run cpos pins s1 σ H1 _ I1 g1 q1
  rw [hs] at hA ⊢
  refine Calls.callWith_builtin (by show (false || (backTo cpos (starEach [] X.env)).any (·.1)) = false; rw [hplain] <;> rfl) (Calls.evalArgs_plain ?_)
  refine thn hA fun us s2 hh => ?_
  obtain ⟨g2, vs, H2, I2, r2, l, xs, y, rfl, rfl, hH, hz, q⟩ := hh
  cases r1
  obtain ⟨u, rfl, ru⟩ := r2.one
  obtain ⟨z, its, n, r, hl, e⟩ := I2.lstM hH
  refine call_meets F.slot_list_append ⟨_, e, rfl⟩ F.entry_list_append (F.args_list_append_2 _ _) (PySem.list_append l its.toArray n u (by rw [List.size_toArray]; omega)) ⟨e, ?_⟩
  have nl : l ≠ X.env.locals := fun z => by rw [z, I2.free] at hH; cases hH
  have nc : ∀ x c, X.env.cells.lookup x = some c → c ≠ l := fun x c hc z => by
    have := I2.freeC x c hc
    rw [z, hH] at this
    cases this
  refine ⟨C.but (s' := { s2 with heap := s2.heap.update l (Obj.mapSeq fun a => a.push u), toks := s2.toks }) [l] I2 (Nat.le_refl _) (fun b hb => by rw [List.mem_singleton.mp hb]; exact ⟨nl, nc⟩) (fun b ob hb eb => (Heap.get?_update_other s2.heap (Obj.mapSeq fun a => a.push u) (fun z => hb (by rw [z]; exact List.mem_singleton_self _))).trans eb) g2, ?_⟩
  refine ⟨.non, _, I2.lset (its' := its ++ [u]) hH e (by simp) (r.append (.cons ru .nil)) ?_, rfl, q⟩
  rw [List.length_append, List.length_singleton]
  omega
end
end Sq
set_option Elab.async false
set_option linter.all false
set_option maxRecDepth 100000
set_option maxHeartbeats 4000000
/-! A loop over range(e) that keeps what is known; more operations. -/
namespace Sq
open PySem PySem.Spec PyProof.Rows L2 GenW
section
variable {X : Cx} {Θ : Shared → Prop} {ys : List Str} {pins : List (Addr × Obj)} {σ : L2.St} {H : Hp} {s : Shared} {x y : Str} {p op pos apos cpos : Pos} {e e2 o : Expr} {es : List Expr} {te tf to : TE} {t : TA} {body : List Stmt} {tb : TS}
def tForR (t : TA) (g : TG) (tb : TS) : TS := fun D σ H => t σ H fun vs H1 => ∃ j : Int, vs = [.int j] ∧ -(2 ^ 62) ≤ j ∧ j < 2 ^ 62 ∧ ∃ Pv : Nat → L2.St → Hp → Prop, Pv 0 σ H1 ∧
  (∀ (i : Nat) (σ : L2.St) (H : Hp), i < j.toNat → Pv i σ H → g (.int i) σ H fun σ2 H2 => tb { nx := Pv (i + 1), ct := Pv (i + 1), bk := D.nx, rt := D.rt } σ2 H2) ∧ ∀ σ H, Pv j.toNat σ H → D.nx σ H
theorem ws_forR {g : TG} (hcalm : X.calm = true) (own : PassesOwn (model X.prog X.w) X.A X.env X.xe) (Cl : Clo X ys Θ) (hgl : Gl X "range") (hm : X.mg "range" = none) (ha : Wa X Θ [e] t) (hg : Wg X Θ (.Name x op) g) (hb : Wss X Θ body tb)
    (hfs : ∀ z, foldedSetIterable (.Call (.Name "range" p) [e] [] cpos) X.env z = pure z := by intro _; rfl) (hs : starEach [e] X.env = [(false, eval e X.env)] := by rfl) : Ws X Θ (.For (.Name x op) (.Call (.Name "range" p) [e] [] cpos) body [] pos) (tForR t g tb) := by
  refine ⟨fun pins s σ H D I θ h => ?_⟩
  refine wpAny_mono (wpAny_For (Q := fun f s' => Θ s' ∧ SP X pins D f s') (Call_ (ld_blt I hgl hm boot_range (PyProof.Rows.callWith_type1 (thn (ha.run cpos pins s σ H _ I θ h) fun us s1 hh => ?_) hs rfl))) hfs) (fun _ _ z => z) fun _ _ z => z
  obtain ⟨θ1, vs, H1, I1, r1, j, ex, q1, q2, Pv, p0, turn, fin⟩ := hh
  subst ex
  obtain ⟨u, rfl, tk, rfl⟩ := vals1 r1
  refine call_range_1 ?_
  generalize eh : s1.heap.push { cls := .type "range", data := .fields #[.int 0 s1.toks, .int j tk, .int 1 (s1.toks + 1)] } = h1
  have kept : ∀ b o, s1.heap.get? b = some o → h1.get? b = some o := fun b o e => by
    rw [← eh]
    exact Heap.get?_push_of_some _ e
  have isR : IsRange h1 s1.heap.objs.size 0 j 1 s1.toks tk (s1.toks + 1) := by
    rw [← eh]
    exact IsRange.new ..
  have I2 : Inv X pins σ H1 { s1 with heap := h1, toks := s1.toks + 1 + 1 } := I1.kept (t' := s1.toks + 1 + 1) kept
  have θ2 : Θ { s1 with heap := h1, toks := s1.toks + 1 + 1 } := Cl.kept (s' := { s1 with heap := h1, toks := s1.toks + 1 + 1 }) I1 (Nat.le_add_right s1.toks 2) kept θ1
  refine wpAny_pyIter_range isR (small_one (by omega) (by omega) q1 q2) ?_
  obtain ⟨it, eit⟩ : ∃ it, it = ({ s1 with heap := h1, toks := s1.toks + 1 + 1 } : Shared).heap.objs.size := ⟨_, rfl⟩
  rw [← eit]
  have fpk : FpOk X pins H1 it := I2.fpOk (Nat.le_of_eq eit.symm) (by rw [eit]; exact I2.hok.fresh (Nat.le_refl _))
  have away : ∀ b ∈ [it], b ≠ X.env.locals ∧ ∀ x c, X.env.cells.lookup x = some c → c ≠ b := fun b hb => by
    rw [List.mem_singleton.mp hb]
    exact ⟨fpk.2.1, fpk.2.2.2.2.1⟩
  have left : ((j.toNat : Nat) : Int) - ((0 : Nat) : Int) = Builtin.Range.rangeSize 0 j 1 := by
    rw [rangeSize_one]
    split <;> omega
  refine codeAny_forLoop_any (fun m s' => ∃ i σ' H', m = j.toNat - i ∧ i ≤ j.toNat ∧ Θ s' ∧ Inv X pins σ' H' s' ∧ IsRangeIter s'.heap it (i : Int) ((j.toNat : Int) - (i : Int)) 1 ∧ H' it = none ∧ Pv i σ' H') (fun m s' hs' => ?_) j.toNat
    ⟨0, σ, H1, rfl, Nat.zero_le _, Cl.kept I2 (Nat.le_refl _) (fun b o e => Heap.get?_push_of_some _ e) θ2, I2.kept (t' := s1.toks + 1 + 1) (fun b o e => Heap.get?_push_of_some _ e), by rw [eit, left]; exact Heap.get?_push_size _ rfl, fpk.1, p0⟩
  obtain ⟨i, σ', H', rfl, hi, θ3, I3, st, free, pv⟩ := hs'
  have fpk2 : FpOk X pins H' it := ⟨free, fpk.2⟩
  by_cases lt : i < j.toNat
  · refine wpAny_pyNext_range_item st (by omega) fun h' st' sb => ?_
    obtain ⟨f0, f1, f2, f3, f4, f5⟩ := fpk2
    have I4 : Inv X pins σ' H' { s' with heap := h', toks := s'.toks + 1 } := I3.turned (t' := s'.toks + 1) (fun b o hb e => (sb.2 b hb).trans e) f0 f1 f3 f4 f5
    have I5 := I4.pinned (fp := [it]) (fun b hb => by rw [List.mem_singleton.mp hb]; exact ⟨free, fpk.2⟩) (fun b hb => by
      rw [List.mem_singleton.mp hb]
      exact ⟨_, st', fun v z => by
        have z' : Data.fields _ = Data.cell v := z
        cases z'⟩)
    have θ4 : Θ { s' with heap := h', toks := s'.toks + 1 } := Cl.but [it] I3 (Nat.le_add_right s'.toks 1) away (fun b o hb e => (sb.2 b (fun z => hb (by rw [z]; exact List.mem_singleton_self _))).trans e) θ3
    refine go_of (s := { s' with heap := h', toks := s'.toks + 1 }) (n := "range_iterator") st' rfl rfl (by decide) ?_
    refine wpAny_passesOwn own (thn (hg.run _ { s' with heap := h', toks := s'.toks + 1 } σ' H' (.int i) _ _ I5 θ4 ⟨_, rfl⟩ (turn i σ' H' lt pv)) fun _ s4 h4 => ?_)
    obtain ⟨θ5, σ4, H4, I6, q4⟩ := h4
    refine wpAny_passesOwn own (thn (hb.run _ s4 σ4 H4 _ I6 θ5 q4) fun fl s5 h5 => ?_)
    obtain ⟨θ6, q5⟩ := h5
    have again : ∀ σ5 H5, Inv X (pins ++ pinsAt [it] h') σ5 H5 s5 → Pv (i + 1) σ5 H5 → ∃ m, m < j.toNat - i ∧ ∃ i' σ' H', m = j.toNat - i' ∧ i' ≤ j.toNat ∧ Θ s5 ∧ Inv X pins σ' H' s5 ∧ IsRangeIter s5.heap it (i' : Int) ((j.toNat : Int) - (i' : Int)) 1 ∧ H' it = none ∧ Pv i' σ' H' := fun σ5 H5 I7 pv5 => by
      have pi := I7.pin (it, _) (List.mem_append_right _ (List.mem_append_right _ (mem_pinsAt (by simp) st')))
      refine ⟨j.toNat - (i + 1), by omega, i + 1, σ5, H5, rfl, lt, θ6, I7.unpinned, ?_, pi.2.1, pv5⟩
      have e := pi.1
      have e1 : ((i : Int) + 1) = ((i + 1 : Nat) : Int) := by omega
      have e2 : ((j.toNat : Int) - (i : Int) - 1) = ((j.toNat : Int) - ((i + 1 : Nat) : Int)) := by omega
      rw [e1, e2] at e
      exact e
    match fl, q5 with
    | .next, ⟨σ5, H5, I7, pv5⟩ => exact again σ5 H5 I7 pv5
    | .cont, ⟨σ5, H5, I7, pv5⟩ => exact again σ5 H5 I7 pv5
    | .brk, ⟨σ5, H5, I7, qd⟩ => exact ⟨θ6, σ5, H5, I7.unpinned, qd⟩
    | .ret v, ⟨x5, σ5, H5, I7, rv5, qd⟩ => exact ⟨θ6, x5, σ5, H5, I7.unpinned, rv5, qd⟩
  · obtain rfl : i = j.toNat := by omega
    refine wpAny_pyNext_range_end (I3.ok.hd hcalm) st (by omega) fun h2 eb => ?_
    obtain ⟨f0, f1, f2, f3, f4, f5⟩ := fpk2
    have I4 : Inv X pins σ' H' { s' with heap := h2 } := I3.turned (t' := s'.toks) (fun b o hb q => eb b o hb q) f0 f1 f3 f4 f5
    have θ4 : Θ { s' with heap := h2 } := Cl.but [it] I3 (Nat.le_refl _) away (fun b o hb e => eb b o (fun z => hb (by rw [z]; exact List.mem_singleton_self _)) e) θ3
    refine wpAny_execs_nil ⟨θ4, σ', H', I4, fin σ' H' pv⟩
end
end Sq
set_option Elab.async false
set_option linter.all false
set_option maxRecDepth 100000
set_option maxHeartbeats 4000000
/-! A comprehension in code that keeps what is known. -/
namespace Sq
open PySem PySem.Spec PyProof.Rows L2 GenW
section
variable {X : Cx}
/-- where a loop's items come from -/
structure WI (X : Cx) (Θ : Shared → Prop) (tg iter : Expr) (wi : TI) : Prop where
  run : ∀ (pins : List (Addr × Obj)) (s : Shared) (σ : L2.St) (H : Hp) (R : It → Hp → Prop), Inv X pins σ H s → Θ s → wi σ H R →
    wpAny (model X.prog X.w) X.A (eval iter X.env) (fun v s1 => wpAny (model X.prog X.w) X.A (pyIter v) (fun u s2 => Θ s2 ∧ PIE X pins σ tg R u s2) X.xe s1) X.xe s
theorem wi_range1 {Θ : Shared → Prop} {ys : List Str} {p pos : Pos} {e : Expr} {t : TA} (Cl : Clo X ys Θ) {tg : Expr} (hg : Gl X "range") (hm : X.mg "range" = none) (ha : Wa X Θ [e] t) (hs : starEach [e] X.env = [(false, eval e X.env)] := by rfl) : WI X Θ tg (.Call (.Name "range" p) [e] [] pos) (iRng1 t) := by
  refine ⟨fun pins s σ H R I θ h => ?_⟩
  refine Call_ (ld_blt I hg hm boot_range (PyProof.Rows.callWith_type1 (thn (ha.run pos pins s σ H _ I θ h) fun us s1 hh => ?_) hs rfl))
  obtain ⟨g1, vs, H1, I1, r1, j, ex, q1, q2, q⟩ := hh
  subst ex
  obtain ⟨u, rfl, tk, rfl⟩ := vals1 r1
  refine call_range_1 ?_
  generalize eh : s1.heap.push { cls := .type "range", data := .fields #[.int 0 s1.toks, .int j tk, .int 1 (s1.toks + 1)] } = h1
  have kept : ∀ b o, s1.heap.get? b = some o → h1.get? b = some o := fun b o e => by
    rw [← eh]
    exact Heap.get?_push_of_some _ e
  have isR : IsRange h1 s1.heap.objs.size 0 j 1 s1.toks tk (s1.toks + 1) := by
    rw [← eh]
    exact IsRange.new ..
  have I2 : Inv X pins σ H1 { s1 with heap := h1, toks := s1.toks + 1 + 1 } := I1.kept (t' := s1.toks + 1 + 1) kept
  have θ2 : Θ { s1 with heap := h1, toks := s1.toks + 1 + 1 } := Cl.kept (s' := { s1 with heap := h1, toks := s1.toks + 1 + 1 }) I1 (Nat.le_add_right s1.toks 2) kept g1
  refine wpAny_pyIter_range isR (small_one (by omega) (by omega) q1 q2) ⟨Cl.kept I2 (Nat.le_refl _) (fun b o e => Heap.get?_push_of_some _ e) θ2, ?_⟩
  refine ⟨h1.objs.size, [h1.objs.size], _, _, H1, rfl, I2.kept (t' := s1.toks + 1 + 1) (fun b o e => Heap.get?_push_of_some _ e), turn_range _ 0 j.toNat, ?_, fun b hb => ?_, q⟩
  · have first : (0 : Int) + ((0 : Nat) : Int) * 1 = 0 := by omega
    have left : ((j.toNat : Nat) : Int) - ((0 : Nat) : Int) = Builtin.Range.rangeSize 0 j 1 := by
      rw [rangeSize_one]
      split <;> omega
    show IsRangeIter _ _ ((0 : Int) + ((0 : Nat) : Int) * 1) (((j.toNat : Nat) : Int) - ((0 : Nat) : Int)) 1
    rw [first, left]
    exact Heap.get?_push_size _ rfl
  · rw [List.mem_singleton.mp hb]
    exact I2.fpOk (Nat.le_refl _) (I2.hok.fresh (Nat.le_refl _))
theorem lcW_core {Θ : Shared → Prop} {ys : List Str} (Cl : Clo X ys Θ) {pins : List (Addr × Obj)} {s : Shared} {σ : L2.St} {H : Hp} {Q : VK} {elt tg iter : Expr} {ifs : List Expr} {scope : Scope} {own : List (Str × Nat)} {pos pos' : Pos} {wi : TI} {g : TG} {tt : TT} {te : TE} {use : Option (Value → Sem Unit)} {Qf : Value → Shared → Prop}
    (mood : X.calm = true) (nodupN : X.N.Nodup) (I : Inv X pins σ H s) (θ : Θ s) (sourceA : WI X Θ tg iter wi) (ok : BlkOk X.N X.env.scope scope own)
    (targetA : ∀ (s : Shared) (H : Hp) (C : Addr) (cl : List (Str × Addr)) (fp : List Addr), PG (X.blk s H scope (compEnvC scope cl C X.env) fp) tg g) (testsA : ∀ (s : Shared) (H : Hp) (C : Addr) (cl : List (Str × Addr)) (fp : List Addr), PTs (X.blk s H scope (compEnvC scope cl C X.env) fp) ifs tt)
    (elemA : ∀ (s : Shared) (H : Hp) (C : Addr) (cl : List (Str × Addr)) (fp : List Addr), PE (X.blk s H scope (compEnvC scope cl C X.env) fp) elt te) (plainA : ∀ x, foldedSetIterable iter X.env x = pure x)
    (h : tLc wi g tt te (own.map (·.2)) σ H Q)
    (back : ∀ D C s' m H', Θ s' → Inv X pins σ H' s' → Q (.ref D) H' → s'.heap.Ns C m → FpOk X pins H' C → compPost (model X.prog X.w) X.A X.xe use Qf (.ref D) C (.ok .next) s') :
    wpAny (model X.prog X.w) X.A (comprehension (.ListComp elt [⟨tg, iter, ifs, 0⟩] scope pos) scope X.env pos' (newList []) false (eval iter X.env) use) Qf X.xe s := by
  have captured : ∀ y ∈ scope.names, y.2 = .free → ∃ c, X.env.cells.lookup y.1 = some c := fun y hy e => by
    rcases ok.free y hy e with k | k
    · exact I.ok.has _ (.inl k)
    · exact I.ok.has _ (.inr k)
  refine wpAny_comprehension_free (use := use) rfl plainA (closure_ok captured) ok.kind (fun y hy e => by rw [ok.uniq y hy, e])
    (thn (sourceA.run pins s σ H _ I θ h) fun srcV sA gotX => thn gotX fun itV sB hB2 => ?_)
  obtain ⟨θB, h2⟩ := hB2
  obtain ⟨it, fp, tn, J, HB, e, I2, T, st2, f2, q⟩ := h2
  subst e
  refine wpAny_newObj_type (newEnv_comp ?_) (Nat.zero_le _)
  generalize atD : sB.heap.objs.size = D
  have freshD : HB D = none := I2.hok.fresh (Nat.le_of_eq atD)
  obtain ⟨W, ⟨mes0, inv0⟩, walk0⟩ := q D freshD
  -- the new list
  generalize laid3 : ({ sB with heap := sB.heap.push { cls := .type "list", data := .seq ([] : List Value).toArray } } : Shared) = sC
  have J3 : Inv X pins σ (upd HB D (.lst [])) sC := by
    rw [← laid3]
    refine I2.laid (t' := sB.toks) (fun b o e => Heap.get?_push_of_some _ e) (Nat.le_of_eq atD) ⟨Nat.zero_le _, [], 0, .nil, ?_⟩
    rw [← atD]
    exact Heap.get?_push_size _ rfl
  have heap3 : sC.heap = sB.heap.push { cls := .type "list", data := .seq ([] : List Value).toArray } := by rw [← laid3]
  have below : ∀ b ∈ fp, b < sB.heap.objs.size := fun b hb => by
    obtain ⟨o, e, _⟩ := T.obj _ _ st2 b hb
    exact Heap.lt_size e
  have roam3 : ∀ b ∈ fp, FpOk X pins (upd HB D (.lst [])) b ∧ b < sC.heap.objs.size := fun b hb => by
    have hlt := below b hb
    refine ⟨⟨?_, (f2 b hb).2⟩, by rw [heap3, Heap.size_push]; exact Nat.lt_succ_of_lt hlt⟩
    rw [upd_ne (by rw [← atD]; exact Nat.ne_of_lt hlt)]
    exact (f2 b hb).1
  have turn3 : tn 0 sC.heap := T.keep _ _ _ st2 fun b _ o e => by rw [heap3]; exact Heap.get?_push_of_some _ e
  have J4 := block_start J3 ok nodupN roam3
  have tgt := targetA sC (upd HB D (.lst [])) sC.heap.objs.size (cellsFrom (sC.heap.objs.size + 1) scope.names (cloFrom X.env.cells scope.names [])) fp
  have tst := testsA sC (upd HB D (.lst [])) sC.heap.objs.size (cellsFrom (sC.heap.objs.size + 1) scope.names (cloFrom X.env.cells scope.names [])) fp
  have elm := elemA sC (upd HB D (.lst [])) sC.heap.objs.size (cellsFrom (sC.heap.objs.size + 1) scope.names (cloFrom X.env.cells scope.names [])) fp
  show codeAny _ _ (.compStart (.ListComp elt [⟨tg, iter, ifs, 0⟩] scope pos) 0 (.ref it) (.ref D) (compEnvC scope (cellsFrom (sC.heap.objs.size + 1) scope.names (cloFrom X.env.cells scope.names [])) sC.heap.objs.size X.env)) (compPost (model X.prog X.w) X.A X.xe use Qf (.ref D) sC.heap.objs.size) { sC with heap := pushCells (sC.heap.push { cls := .type "dict", data := .dict #[] }) scope.names }
  have θC : Θ sC := by
    rw [← laid3]
    exact Cl.push I2 θB
  have manyC : sC.toks ≤ sC.toks := Nat.le_refl _
  have blkFs : (X.blk sC (upd HB D (.lst [])) scope (compEnvC scope (cellsFrom (sC.heap.objs.size + 1) scope.names (cloFrom X.env.cells scope.names [])) sC.heap.objs.size X.env) fp).fs = frs X.stack := rfl
  have untr : ∀ b ∈ fp, (upd HB D (.lst [])) b = none := fun b hb => (roam3 b hb).1.1
  generalize blkE : compEnvC scope (cellsFrom (sC.heap.objs.size + 1) scope.names (cloFrom X.env.cells scope.names [])) sC.heap.objs.size X.env = ce at J4 tgt tst elm ⊢
  have locE : ce.locals = sC.heap.objs.size := by subst blkE; rfl
  generalize heapE : upd HB D (.lst []) = HC at J3 J4 tgt tst elm inv0 untr roam3
  generalize laid4 : ({ sC with heap := pushCells (sC.heap.push { cls := .type "dict", data := .dict #[] }) scope.names } : Shared) = sD at J4 ⊢
  have turn4 : tn 0 sD.heap := T.keep _ _ _ turn3 fun b _ o e => by rw [← laid4]; exact pushCells_keeps _ _ _ _ (Heap.get?_push_of_some _ e)
  have roams : ∀ {σ' : L2.St} {H' : Hp} {s' : Shared}, Inv (X.blk sC HC scope ce fp) [] σ' H' s' → (∀ b ∈ fp, H' b = none) → ∀ b ∈ fp, FpOk (X.blk sC HC scope ce fp) [] H' b := fun {σ' H' s'} I' nsC b hb =>
    ⟨nsC b hb, (I'.ok.exf b hb).1, I'.ok.exfs b hb, .inl hb, fun x c e => (I'.ok.exf b hb).2 x c e, fun p hp => absurd (show p ∈ ([] : List (Addr × Obj)) ++ [] from hp) (by simp)⟩
  have outer0 : codeAny (model X.prog X.w) X.A (.compLoop (.ListComp elt [⟨tg, iter, ifs, 0⟩] scope pos) 0 (.ref it) (.ref D) ce) (compPost (model X.prog X.w) X.A X.xe use Qf (.ref D) sC.heap.objs.size) sD := by
    refine compLoop_any (fun n s' => ∃ i H', Inv (X.blk sC HC scope ce fp) [] (wipe σ (own.map (·.2))) H' s' ∧ tn i s'.heap ∧ (∀ b ∈ fp, H' b = none) ∧ W i n H' ∧ sC.toks ≤ s'.toks) ?_ mes0 ⟨0, HC, J4, turn4, untr, inv0, by rw [← laid4]; exact manyC⟩
    rintro n sE ⟨i, HE, J5, turn5, un5, inv5, manyE⟩
    rcases walk0 i n HE inv5 with ⟨atEnd, done0⟩ | ⟨more, NxA, reach, body0⟩
    · have ended := T.done (X.blk sC HC scope ce fp) rfl rfl rfl mood i [] sE _ HE (fun _ _ => False) J5 (roams J5 un5) turn5 atEnd
      refine wpAny_mono (PySem.wpAny_toks_of manyE ended) (fun r sF hh => ?_) fun _ _ z => False.elim z.2
      obtain ⟨manyF, hr, J6⟩ := hh
      subst hr
      have θF : Θ sF := Cl.un fp J3 manyF (fun b hb => ⟨(roam3 b hb).1.2.1, (roam3 b hb).1.2.2.2.2.1⟩) J6.base θC
      have J7 : Inv X pins σ HE sF := J3.call' (ch := fp) J6.os J6.base J6.hok J6.bare fun b hb => ⟨(roam3 b hb).1.2.2.2.1, (roam3 b hb).1.2.1, (roam3 b hb).1.2.2.2.2.1, (roam3 b hb).1.2.2.2.2.2⟩
      have freeC : HE sC.heap.objs.size = none := by
        have z : HE ce.locals = none := J6.free
        rw [locE] at z
        exact z
      obtain ⟨m, nsC, _⟩ := J6.loc
      have nsC : sF.heap.Ns ce.locals m := nsC
      rw [locE] at nsC
      exact back D sC.heap.objs.size sF m HE θF J7 done0 nsC (J3.fpOk (Nat.le_refl _) freeC)
    · have given := T.item (X.blk sC HC scope ce fp) rfl rfl rfl mood i [] sE _ HE (fun _ _ => False) J5 (roams J5 un5) turn5 more
      refine wpAny_mono (PySem.wpAny_toks_of manyE given) (fun r sF hh => ?_) fun _ _ z => False.elim z.2
      obtain ⟨manyF, u, hr, got6⟩ := hh
      subst hr
      refine wpAny_mono (PySem.wpAny_toks_of manyF got6) (fun _ sG hh => ?_) fun _ _ z => False.elim z.2
      obtain ⟨manyG, x, HG, J7, rel7, yld7, turn7, un7⟩ := hh
      have J7p := J7.pinned (roams J7 un7) (T.obj _ _ turn7)
      refine wpAny_mono (PySem.wpAny_toks_of manyG (tgt.run _ sG _ HG x u _ J7p rel7 (body0 x HG yld7))) (fun _ sH hh => ?_) fun _ _ z => False.elim z.2
      obtain ⟨manyH, τ, HH, J8, wip8, go8⟩ := hh
      refine wpAny_mono (PySem.wpAny_toks_of manyH (tst.run _ sH τ HH _ J8 go8)) (fun b sI hh => ?_) fun _ _ z => False.elim z.2
      obtain ⟨manyI, HI, J9, go9⟩ := hh
      have close : ∀ {s' : Shared} {H' : Hp}, sC.toks ≤ s'.toks → Inv (X.blk sC HC scope ce fp) ([] ++ pinsAt fp sG.heap) τ H' s' → NxA H' →
          ∃ m, m < n ∧ ∃ i H', Inv (X.blk sC HC scope ce fp) [] (wipe σ (own.map (·.2))) H' s' ∧ tn i s'.heap ∧ (∀ b ∈ fp, H' b = none) ∧ W i m H' ∧ sC.toks ≤ s'.toks := fun {s' H'} mn I' nextW => by
        obtain ⟨m', lessM, invM⟩ := reach H' nextW
        have kept : ∀ b ∈ fp, ∀ o, sG.heap.get? b = some o → s'.heap.get? b = some o ∧ H' b = none := fun b hb o e =>
          let z := I'.pin (b, o) (List.mem_append_right _ (List.mem_append_right _ (mem_pinsAt hb e)))
          ⟨z.1, z.2.1⟩
        refine ⟨m', lessM, i + 1, H', (I'.unpinned (pins := [])).weak (by rw [← wip8, wipe_length]) (fun j v e => by rw [← wip8] at e; exact (wipe_some e).1), T.keep _ _ _ turn7 fun b hb o e => (kept b hb o e).1, fun b hb => ?_, invM, mn⟩
        obtain ⟨o, e, _⟩ := T.obj _ _ turn7 b hb
        exact (kept b hb o e).2
      cases b with
      | false =>
        simp only [Bool.false_eq_true, if_false] at go9 ⊢
        exact close manyI J9 go9
      | true =>
        simp only [if_true] at go9 ⊢
        refine wpAny_mono (PySem.wpAny_toks_of manyI (elm.run _ sI τ HI _ J9 go9)) (fun z sQ hh => ?_) fun _ _ z => False.elim z.2
        obtain ⟨kn17, yv, HQ, J17, rel17, acc, acc17, room17, nextW⟩ := hh
        refine wpAny_mono (PySem.wpAny_toks_of kn17 (app_ok (X := X.blk sC HC scope ce fp) (E := fun _ _ => False) (Q := fun _ s' => sC.toks ≤ s'.toks → ∃ m, m < n ∧ ∃ i H', Inv (X.blk sC HC scope ce fp) [] (wipe σ (own.map (·.2))) H' s' ∧ tn i s'.heap ∧ (∀ b ∈ fp, H' b = none) ∧ W i m H' ∧ sC.toks ≤ s'.toks) J17 acc17 room17 rel17 fun sR J18 mn => close mn J18 nextW)) (fun _ _ z => z.2 z.1) fun _ _ z => False.elim z.2
  exact codeAny_compStart_list outer0 (T.self X.A 0 _ _ _ turn4 outer0)
theorem we_lc {Θ : Shared → Prop} {ys : List Str} (Cl : Clo X ys Θ) {elt tg iter : Expr} {ifs : List Expr} {scope : Scope} {own : List (Str × Nat)} {pos : Pos} {wi : TI} {g : TG} {tt : TT} {te : TE} (mood : X.calm = true) (nodupN : X.N.Nodup) (sourceA : WI X Θ tg iter wi) (ok : BlkOk X.N X.env.scope scope own)
    (targetA : ∀ (s : Shared) (H : Hp) (C : Addr) (cl : List (Str × Addr)) (fp : List Addr), PG (X.blk s H scope (compEnvC scope cl C X.env) fp) tg g) (testsA : ∀ (s : Shared) (H : Hp) (C : Addr) (cl : List (Str × Addr)) (fp : List Addr), PTs (X.blk s H scope (compEnvC scope cl C X.env) fp) ifs tt)
    (elemA : ∀ (s : Shared) (H : Hp) (C : Addr) (cl : List (Str × Addr)) (fp : List Addr), PE (X.blk s H scope (compEnvC scope cl C X.env) fp) elt te) (plainA : ∀ x, foldedSetIterable iter X.env x = pure x := by intro _; rfl) :
    We X Θ (.ListComp elt [⟨tg, iter, ifs, 0⟩] scope pos) (tLc wi g tt te (own.map (·.2))) := by
  refine ⟨fun pins s σ H Q I θ h => ?_⟩
  rw [arm_eval_ListComp]
  refine lcW_core Cl mood nodupN I θ sourceA ok targetA testsA elemA plainA h fun D C s' m H' θ' I' q nsC f => ⟨m, nsC, fun h'' sb => ?_⟩
  obtain ⟨f0, f1, f2, roam3, f4, f5⟩ := f
  have θ2 : Θ { s' with heap := h'' } := Cl.but [C] I' (Nat.le_refl _) (fun b hb => by rw [List.mem_singleton.mp hb]; exact ⟨f1, f4⟩) (fun b o hb e => (sb.2 b (fun z => hb (by rw [z]; exact List.mem_singleton_self _))).trans e) θ'
  exact ⟨θ2, .ref D, H', I'.turned (t' := s'.toks) (fun b o hb e => (sb.2 b hb).trans e) f0 f1 roam3 f4 f5, rfl, q⟩
end
end Sq
set_option Elab.async false
set_option linter.all false
set_option maxRecDepth 100000
set_option maxHeartbeats 4000000
/-! More operations that keep what is known of the state. -/
namespace Sq
open PySem PySem.Spec PyProof.Rows L2 GenW
section
variable {X : Cx} {Θ : Shared → Prop} {ys : List Str} {pins : List (Addr × Obj)} {σ : L2.St} {H : Hp} {s : Shared} {x y : Str} {p p2 pos apos cpos : Pos} {e e2 o ce : Expr} {es : List Expr} {te tf to : TE} {t : TA} {tt tu : TT} {lo hi : Option Expr} {tl th : TO}
/-- an operation that changes nothing but the number of tokens -/
theorem ow_of {op : Value → Value → Sem Value} {r : R2} (Cl : Clo X ys Θ) (h : ∀ (pins : List (Addr × Obj)) (s : Shared) (σ : L2.St) (H : Hp) (x y : V) (v u : Value) (Q : VK), Inv X pins σ H s → RelV x v → RelV y u → r x y H Q → wpAny (model X.prog X.w) X.A (op v u) (fun w s' => s'.heap = s.heap ∧ EP X pins σ Q w s') X.xe s) : OpW X Θ op r :=
  fun pins s σ H x y v u Q I θ rx ry q => wpAny_mono (PySem.wpAny_toks (h pins s σ H x y v u Q I rx ry q)) (fun w s' z => ⟨Cl.kept I z.1 (fun b o e => by rw [z.2.1]; exact e) θ, z.2.2⟩) fun _ _ z => z.2
theorem ow_add (Cl : Clo X ys Θ) : OpW X Θ (binaryOp .Add) (rI0 fun i j => .int (i + j)) := ow_of Cl fun pins s σ H x y v u Q I rx ry h => by
  obtain ⟨i, j, rfl, rfl, q⟩ := h
  obtain ⟨t, rfl⟩ := rx
  obtain ⟨t', rfl⟩ := ry
  exact add_int ⟨rfl, .int (i + j), H, I.tok _, ⟨_, rfl⟩, q⟩
theorem ow_add_str (Cl : Clo X ys Θ) : OpW X Θ (binaryOp .Add) (fun x y H Q => ∃ i j, x = .str i ∧ y = .str j ∧ i.length + j.length ≤ sizeLine ∧ Q (.str (i ++ j)) H) := ow_of Cl fun pins s σ H x y v u Q I rx ry h => by
  obtain ⟨i, j, rfl, rfl, hz, q⟩ := h
  obtain ⟨t, rfl⟩ := rx
  obtain ⟨t', rfl⟩ := ry
  exact add_str (fun t' tk => ⟨rfl, .str (i ++ j), H, I.tok _, ⟨_, rfl⟩, q⟩) hz
theorem ow_mulS (Cl : Clo X ys Θ) : OpW X Θ (binaryOp .Mult) rMulS := ow_of Cl fun pins s σ H x y v u Q I rx ry h => by
  obtain ⟨a, n, rfl, rfl, hok, q⟩ := h
  obtain ⟨t, rfl⟩ := rx
  obtain ⟨t', rfl⟩ := ry
  exact SB.mul hok fun t2 k => ⟨rfl, .str _, H, I.tok k, ⟨_, rfl⟩, q⟩
theorem ow_neD (Cl : Clo X ys Θ) (hu : X.A.units + 64 < cLine) : OpW X Θ (compareOp .NotEq) (rNeD X.K) := ow_of Cl fun pins s σ H x y v u Q I rx ry h => by
  obtain ⟨d, e, hd, he, sd, se, q⟩ := h
  obtain ⟨as, r1⟩ := Dp.reads I d x v hd rx
  obtain ⟨bs, r2⟩ := Dp.reads I e y u he ry
  exact SeqAt.compareNe_shaped r1 r2 sd se hu ⟨rfl, .bl _, H, I, rfl, q⟩
theorem ow_eqD (Cl : Clo X ys Θ) (hu : X.A.units + 64 < cLine) : OpW X Θ (compareOp .Eq) (rEqD X.K) := ow_of Cl fun pins s σ H x y v u Q I rx ry h => by
  obtain ⟨d, e, hd, he, sd, se, q⟩ := h
  obtain ⟨as, r1⟩ := Dp.reads I d x v hd rx
  obtain ⟨bs, r2⟩ := Dp.reads I e y u he ry
  exact SeqAt.compareEq_shaped r1 r2 sd se hu ⟨rfl, .bl _, H, I, rfl, q⟩
/-- two lists -/
theorem ow_cat (Cl : Clo X ys Θ) : OpW X Θ (binaryOp .Add) rCat := by
  intro pins s σ H x y v u Q I θ rx ry h
  obtain ⟨l, b, xs, zs, rfl, rfl, hH, hB, hz, q⟩ := h
  cases rx
  cases ry
  obtain ⟨z, its, n, r, hl, e⟩ := I.lstM hH
  obtain ⟨z2, its2, n2, r2, hl2, e2⟩ := I.lstM hB
  refine PySem.P.add_list e e2 ?_ (by rw [List.size_toArray, List.size_toArray]; omega)
  have ea : its.toArray ++ its2.toArray = (its ++ its2).toArray := by simp
  rw [ea]
  exact ⟨Cl.push I θ, .ref _, _, I.lnew (t' := s.toks) (r.append r2) (by rw [List.length_append]; omega), rfl, q _ I.fresh⟩
/-- f(..), f a builtin -/
theorem we_callB {id : String} {r : List V → Hp → VK → Prop} (hc : CallW X Θ (.builtin id) r) (hg : Gl X x) (hm : X.mg x = none) (hv : bootBuiltins x = some (.builtin id)) (ha : Wa X Θ (e :: es) t) (hn : x ≠ "__name__" := by decide) (hdb : (x == ("__debug__" : Str)) = false := by decide)
    (he : starEach (e :: es) X.env = (false, eval e X.env) :: starEach es X.env := by rfl) (hpl : (backTo pos (starEach es X.env)).any (·.1) = false := by rfl) : We X Θ (.Call (.Name x p) (e :: es) [] pos) (tCB r t) := by
  refine ⟨fun pins s σ H Q I θ h => ?_⟩
  refine wpAny_Call_Name_kw (ld_blt I hg hm hv ?_ hn hdb)
  refine PyProof.Rows.callWith_builtin1 (thn (ha.run pos pins s σ H _ I θ h) fun us s1 hh => ?_) he hpl
  obtain ⟨g1, vs, H1, I1, r1, q1⟩ := hh
  exact hc pins s1 σ H1 vs us Q I1 g1 r1 q1
theorem cw_of {f : Value} {r : List V → Hp → VK → Prop} (Cl : Clo X ys Θ) (h : ∀ (pins : List (Addr × Obj)) (s : Shared) (σ : L2.St) (H : Hp) (vs : List V) (us : List Value) (Q : VK), Inv X pins σ H s → Vals vs us → r vs H Q → wpAny (model X.prog X.w) X.A (call f us) (fun w s' => s'.heap = s.heap ∧ EP X pins σ Q w s') X.xe s) : CallW X Θ f r :=
  fun pins s σ H vs us Q I θ r q => wpAny_mono (PySem.wpAny_toks (h pins s σ H vs us Q I r q)) (fun w s' z => ⟨Cl.kept I z.1 (fun b o e => by rw [z.2.1]; exact e) θ, z.2.2⟩) fun _ _ z => z.2
theorem cw_len (Cl : Clo X ys Θ) : CallW X Θ (.builtin "len") (rLenK X.K) := cw_of Cl fun pins s σ H xs us Q I r h => by
  obtain ⟨p, zs, rfl, hq, q⟩ := h
  obtain ⟨u, rfl, rx⟩ := vals1 r
  cases rx
  have hn := line63
  rcases hq with hq | hq
  · obtain ⟨its, r', pl, hz⟩ := I.list hq
    have hlen := r'.length
    exact Calls.call_len_list pl.isList (by simp only [List.size_toArray] <;> omega) ⟨rfl, .int zs.length, H, I.tok _, ⟨s.toks + 1, by rw [List.size_toArray, hlen]⟩, q⟩
  · obtain ⟨its, r', pl, hz⟩ := I.tuple hq
    have hlen := r'.length
    exact len_tuple pl (by simp only [List.size_toArray] <;> omega) ⟨rfl, .int zs.length, H, I.tok _, ⟨s.toks + 1, by rw [List.size_toArray, hlen]⟩, q⟩
/-- ''.join(e) -/
def rJoin (K : PySem.W.Frag) : V → List V → Hp → VK → Prop := fun x xs H Q => ∃ a p, ∃ ys : List Str, x = .str a ∧ xs = [.ref p] ∧ SqL K H p (ys.map V.str) ∧ (ys.map (·.length)).sum + ys.length * a.length ≤ 16777216 ∧ Q (.str (Txt.join a ys)) H
theorem we_join (Cl : Clo X ys Θ) (ho : We X Θ o to) (he : We X Θ e te) (hs : starEach [e] X.env = [(false, eval e X.env)] := by rfl) (hbase : attributeBase o "join" X.env (eval o X.env) = eval o X.env := by rfl) (hline : (apos.endLine == pos.line) = true := by rfl) :
    We X Θ (.Call (.Attribute o "join" apos) [e] [] pos) (tM1 (rJoin X.K) to te) := by
  refine ⟨fun pins s σ H Q I θ h => ?_⟩
  refine PySem.Call_method1 hbase hs hline (thn (ho.run pins s σ H _ I θ h) fun v s1 hh => ?_)
  obtain ⟨g1, x, H1, I1, r1, q1⟩ := hh
  obtain ⟨⟨a, rfl⟩, q1⟩ := q1
  obtain ⟨t, rfl⟩ := _root_.id r1
  refine ⟨"str", _, F.plainAttrs_str, F.slot_str_join, F.type_str_join, typeIs_str _ _ _, (fun _ e => nomatch e), Calls.callWith_builtin rfl (Calls.evalArgs_plain (Calls.spliced_cons ?_))⟩
  refine thn (he.run pins s1 σ H1 _ I1 g1 q1) fun u s2 hh => Calls.spliced_nil ?_
  obtain ⟨g2, y, H2, I2, r2, a', p, ys, e1, e2, hp, hz, q⟩ := hh
  cases e1
  cases e2
  cases r2
  obtain ⟨its, r, ⟨o, n, ho, hc, _, hd⟩, _⟩ := I2.list hp
  have called : wpAny (model X.prog X.w) X.A (call (.builtin "str.join") [.str a t, .ref p]) (fun w s' => s'.heap = s2.heap ∧ EP X pins σ Q w s') X.xe s2 :=
    PyProof.Rows.join_list (items := its.toArray) ⟨o, ho, hc, n, hd⟩ (by rw [List.toList_toArray]; exact strs_of_vals r) hz fun t' k => ⟨rfl, .str _, H2, I2.tok k, ⟨t', rfl⟩, q⟩
  exact wpAny_mono (PySem.wpAny_toks called) (fun w s' z => ⟨Cl.kept I2 z.1 (fun b o e => by rw [z.2.1]; exact e) g2, z.2.2⟩) fun _ _ z => z.2
/-! ### slices -/
structure WO (X : Cx) (Θ : Shared → Prop) (e : Option Expr) (t : TO) : Prop where
  run : ∀ (pins : List (Addr × Obj)) (s : Shared) (σ : L2.St) (H : Hp) (Q : Option Int → Hp → Prop), Inv X pins σ H s → Θ s → t σ H Q →
    wpAny (model X.prog X.w) X.A (evalPart e X.env) (fun u s' => Θ s' ∧ ∃ o H', Inv X pins σ H' s' ∧ IsPart u o ∧ Q o H') X.xe s
theorem wo_none : WO X Θ none tNoPart := by
  refine ⟨fun pins s σ H Q I θ h => ?_⟩
  rw [evalPart_none]
  exact wpAny_pure ⟨θ, none, H, I, .none, h⟩
theorem wo_some (h : We X Θ e te) : WO X Θ (some e) (tPart te) := by
  refine ⟨fun pins s σ H Q I θ hw => ?_⟩
  rw [evalPart_some]
  refine thn (h.run pins s σ H _ I θ hw) fun u s1 hh => ?_
  obtain ⟨g1, x, H1, I1, r1, i, rfl, q⟩ := hh
  obtain ⟨tk, rfl⟩ := r1
  exact ⟨g1, some i, H1, I1, .int i tk, q⟩
theorem we_slL (Cl : Clo X ys Θ) (he : We X Θ e te) (hl : WO X Θ lo tl) (hu : WO X Θ hi th) : We X Θ (.Subscript e (.Slice lo hi none p2) pos) (tSl (rSlL X.K) te tl th) := by
  refine ⟨fun pins s σ H Q I θ h => ?_⟩
  refine Subscript_ (thn (he.run pins s σ H _ I θ h) fun v s1 hh => ?_)
  obtain ⟨g1, x, H1, I1, r1, q1⟩ := hh
  refine wpAny_Slice (thn (hl.run pins s1 σ H1 _ I1 g1 q1) fun vl s2 hh => ?_)
  obtain ⟨g2, l, H2, I2, pl, q2⟩ := hh
  refine thn (hu.run pins s2 σ H2 _ I2 g2 q2) fun vu s3 hh => ?_
  obtain ⟨g3, u, H3, I3, pu, a, xs, ex, hx, q⟩ := hh
  subst ex
  rw [evalPart_none]
  refine wpAny_pure ?_
  have keep : ∀ b ob, s3.heap.get? b = some ob → (s3.heap.push { cls := .type "slice", data := .fields #[vl, vu, .none] }).get? b = some ob := fun b ob z => Heap.get?_push_of_some _ z
  have I4 : Inv X pins σ H3 { s3 with heap := s3.heap.push { cls := .type "slice", data := .fields #[vl, vu, .none] } } := I3.kept (t' := s3.toks) keep
  have g4 : Θ { s3 with heap := s3.heap.push { cls := .type "slice", data := .fields #[vl, vu, .none] } } := Cl.push I3 g3
  obtain rfl : v = Value.ref a := r1
  obtain ⟨its, r, ht, hz⟩ := I4.list hx
  have hlen := r.length
  generalize eS : ({ s3 with heap := s3.heap.push { cls := .type "slice", data := .fields #[vl, vu, .none] } } : Shared) = s4 at I4 ht g4
  have isS : s4.heap.IsSliceOf s3.heap.objs.size vl vu .none := by
    rw [← eS]
    exact Heap.IsSliceOf.new ..
  show wpAny (model X.prog X.w) X.A (subscriptTail e (.Slice lo hi none p2) (.ref a) (.ref s3.heap.objs.size)) _ X.xe _
  refine tail_any (ops := [.ref s3.heap.objs.size, .ref a]) ht.isList.typeIs slot_list_getitem.lookup ?_ (by with_unfolding_all rfl)
  refine wpAny_getItem_list_slice ht.isList isS pl pu .none (by simp) ?_ (by rw [List.size_toArray] <;> omega)
  rw [slicePick_cut, ← hlen]
  refine ⟨Cl.push I4 g4, .ref s4.heap.objs.size, _, I4.laid (t' := s4.toks) (o := .lst (cutV xs l u)) (fun b ob q => Heap.get?_push_of_some _ q) (Nat.le_refl _) ?_, rfl, q _ (I4.hok.fresh (Nat.le_refl _))⟩
  exact ⟨Nat.le_trans (cutV_length xs l u) hz, _, 0, (r.drop (HT.sIx xs.length 0 l)).take (HT.sIx xs.length xs.length u - HT.sIx xs.length 0 l), Heap.get?_push_size _ rfl⟩
end
end Sq
set_option Elab.async false
set_option linter.all false
set_option maxRecDepth 100000
set_option maxHeartbeats 4000000
/-! A def that returns [e, x], the raw value of x known to its caller. -/
namespace Sq
open PySem PySem.Spec PyProof.Rows L2 GenW
/-- statements of which something is known of what they return -/
structure Wr (X : Cx) (Θ : Shared → Prop) (Φ : Value → Shared → Prop) (sts : List Stmt) (t : TS) : Prop where
  run : ∀ (pins : List (Addr × Obj)) (s : Shared) (σ : L2.St) (H : Hp) (D : Ends), Inv X pins σ H s → Θ s → t D σ H → wpAny (model X.prog X.w) X.A (execs sts X.env) (fun f s' => (∀ u, f = .ret u → Φ u s') ∧ SP X pins D f s') X.xe s
/-- the second item of the list is a text whose token is known to be old -/
def RawP (u : Value) (s : Shared) : Prop := ∃ (l : Addr) (a b : Value) (n : Nat), u = .ref l ∧ s.heap.get? l = some { cls := .type "list", data := .seq #[a, b] n } ∧ Tkn 0 [b] s.toks
def tSeqR (ts tr : TS) : TS := fun D σ H => ts { nx := tr D, rt := fun _ _ => False, bk := fun _ _ => False, ct := fun _ _ => False } σ H
section
variable {X : Cx} {Θ : Shared → Prop} {Φ : Value → Shared → Prop} {ys : List Str} {x : Str} {p p1 p2 pos pl : Pos} {e : Expr} {te : TE} {st : Stmt} {rest : List Stmt} {ts tr : TS} {i : Nat}
theorem wr_cons (h1 : Ws X Θ st ts) (h2 : Wr X Θ Φ rest tr) : Wr X Θ Φ (st :: rest) (tSeqR ts tr) := by
  refine ⟨fun pins s σ H D I θ h => ?_⟩
  refine wpAny_execs_cons (thn (h1.run pins s σ H _ I θ h) fun f s1 hh => ?_)
  obtain ⟨g1, q⟩ := hh
  match f, q with
  | .next, ⟨σ', H', I', q⟩ => exact h2.run pins s1 σ' H' D I' g1 q
  | .ret v, ⟨_, _, _, _, _, q⟩ => exact False.elim q
  | .brk, ⟨_, _, _, q⟩ => exact False.elim q
  | .cont, ⟨_, _, _, q⟩ => exact False.elim q
/-- a local name is stored -/
theorem put_local {pins : List (Addr × Obj)} {σ : L2.St} {H : Hp} {s : Shared} {M : Model} {A : Around} {E : Value → Shared → Prop} {v : V} {u : Value} {Q : Unit → Shared → Prop} (I : Inv X pins σ H s) (hN : X.N.Nodup) (hi : X.N[i]? = some x) (hk : X.env.scope.names.lookup x = some .local) (r : RelV v u)
    (h : ∀ s', Inv X pins (σ.set i (some v)) H s' → s.toks ≤ s'.toks → Put X x u s s' → Raw X x u s' → Q () s') : wpAny M A (storeName X.env x u) Q E s := by
  obtain ⟨m, ns, look⟩ := id I.loc
  have inside : i < σ.length := by rw [I.len]; exact (List.getElem?_eq_some_iff.mp hi).1
  have notcls : (X.env.scope.kind == .class || (X.env.scope.kind == .module && X.env.locals != X.env.globals)) = false := by rw [I.ok.kind]; rfl
  refine wpAny_storeName_local hk ns (fun g ns2 sb => ?_) notcls
  obtain ⟨oF, _, _, hoF, _⟩ := id ns
  have low : ∀ b o, X.s_0.heap.get? b = some o → b ≠ X.env.locals := fun b o e => Nat.ne_of_lt (Nat.lt_of_lt_of_le (Heap.lt_size e) I.ok.above)
  have objs : HOk X.prog X.w H g := fun b ob e => by
    refine (I.hok b ob e).stay (fun c2 w2 h2 q => (sb.2 c2 fun z => ?_).trans q) (fun _ q => q) fun _ _ q => q
    subst z
    rcases h2 with z | z
    · rw [← z, I.free] at e
      cases e
    · rw [I.free] at z
      cases z
  have loc2 : ∀ (j : Nat) (z : Str) (w : V), X.N[j]? = some z → (σ.set i (some v))[j]? = some (some w) → Vis X.env.scope z → ∃ u', RelV w u' ∧ Look X.env g (fun y => if y = x then some u else m y) z u' := fun j z w e1 e2 e3 => by
    by_cases ji : j = i
    · subst ji
      rw [hi] at e1
      cases e1
      rw [List.getElem?_set_self inside] at e2
      cases e2
      exact ⟨u, r, .inl ⟨hk, by simp⟩⟩
    · rw [List.getElem?_set_ne (Ne.symm ji)] at e2
      obtain ⟨u', r', q⟩ := look j z w e1 e2 e3
      have zx : z ≠ x := fun e => ji (nodup_ix hN e1 (e ▸ hi))
      rcases q with ⟨k, e⟩ | ⟨k, c2, e, z4⟩
      · exact ⟨u', r', .inl ⟨k, by simp [zx, e]⟩⟩
      · exact ⟨u', r', .inr ⟨k, c2, e, z4.sameBut sb (I.cne z c2 e)⟩⟩
  refine h _ ⟨I.ok, I.os, I.bare, ⟨fun b o e n hb hx2 => (sb.2 b (low b o e)).trans (I.base.keep b o e n hb hx2), fun b o e n hb hx2 => ?_, I.base.free, fun b o e hx2 => ?_, I.base.tups, I.base.frzs, I.base.tbls⟩, ⟨_, ns2, loc2⟩, fun z c2 e => ?_, I.free, I.freeC, fun p hp => ?_, objs, by simpa using I.len⟩ (Nat.le_add_right _ _) (.inl ⟨hk, sb, m, ns, ns2⟩) ⟨_, ns2, if_pos rfl⟩
  · obtain ⟨sl, e1⟩ := I.base.slot b o e n hb hx2
    exact ⟨sl, (sb.2 b (low b o e)).trans e1⟩
  · obtain ⟨o2, e1⟩ := I.base.there b o e hx2
    exact ⟨o2, (sb.2 b (low b o e)).trans e1⟩
  · obtain ⟨w2, z2⟩ := I.cell z c2 e
    exact ⟨w2, z2.sameBut sb (I.cne z c2 e)⟩
  · obtain ⟨e, n, ne, nf, d⟩ := I.pin p hp
    exact ⟨(sb.2 p.1 ne).trans e, n, ne, nf, d⟩
/-- x = 'text'[e] -/
theorem wr_signS {z : Str} {k : Nat} {pos' ps : Pos} (hN : X.N.Nodup) (hi : X.N[i]? = some x) (hk : X.env.scope.names.lookup x = some .local) (he : PE X e te) (hix : PlainIx e)
    (hrest : ∀ (u0 : Value) (n : Nat), Tkn 0 [u0] n → Wr X (fun s => Raw X x u0 s ∧ n ≤ s.toks) Φ rest tr) (hs : swapsWith (.Subscript (.Constant (.str z) k p1) e ps) (some (.Name x pos')) pos.line X.env = pure false := by rfl) :
    Wr X (fun _ => True) Φ (.Assign [.Name x pos'] (.Subscript (.Constant (.str z) k p1) e ps) pos :: rest) (tSeqR (tAsg (tOp rIxS (tC (.str z)) te) (gName i)) tr) := by
  refine ⟨fun pins s σ H D I _ h => ?_⟩
  refine wpAny_execs_cons (wpAny_Assign_Name (Subscript_ (Calls.Constant_str ?_)) hs)
  have I0 : Inv X pins σ H { s with toks := s.toks + 1 } := I.tok _
  refine wpAny_mono (PySem.wpAny_toks (he.run pins _ σ H _ I0 h)) (fun v s1 hh => ?_) fun _ _ z => z.2
  obtain ⟨up, y, H1, I1, r1, z', i', c, e1, rfl, hz, at1, q⟩ := hh
  cases e1
  have up' : s.toks + 1 ≤ s1.toks := up
  obtain ⟨tk, rfl⟩ := r1
  obtain ⟨j, h1, h2, h3, h4, h5⟩ := atI_get at1
  have hl : z.cps.toList.length = z.length := by simp [Str.length]
  rw [hl] at h1 h4 h5
  have hn := line63
  refine tail_any (typeIs_str s1 z s.toks) slot_str_getitem.lookup (getItem_str (c := c) (by
    have e1 : decide (i' < -(2 ^ 63 : Int)) = false := decide_eq_false (by omega)
    have e2 : decide (i' ≥ 2 ^ 63) = false := decide_eq_false (by omega)
    rw [e1, e2, Bool.or_false]) (by rw [h1]; simpa using h2) ?_) (hix _ _)
  have I2 : Inv X pins σ H1 { s1 with toks := s1.toks + 1 } := I1.tok _
  refine put_local (v := .str ⟨#[c]⟩) I2 hN hi hk ⟨s1.toks, rfl⟩ fun s3 I3 up3 _ raw => ?_
  have up3' : s1.toks + 1 ≤ s3.toks := up3
  refine (hrest _ (s1.toks + 1) (fun b t eb one => ?_)).run pins s3 _ H1 D I3 ⟨raw, up3'⟩ q
  have e3 : Value.str ⟨#[c]⟩ s1.toks = .str b t := Option.some.inj eb
  injection e3 with _ e4
  rw [← e4]
  exact ⟨Nat.ne_of_gt (Nat.lt_of_lt_of_le (Nat.succ_pos _) up'), Nat.lt_succ_self _⟩
/-- return [e, x] -/
theorem wr_ret {u0 : Value} {n : Nat} (Cl : Clo X ys Θ) (Kn : KnownU X Θ x u0) (good : Tkn 0 [u0] n) (hn : ∀ s, Θ s → n ≤ s.toks) (hi : X.N[i]? = some x) (hv : Vis X.env.scope x) (he : We X Θ e te) (hd : (x == ("__debug__" : Str)) = false := by decide)
    (hs : starEach [e, .Name x p1] X.env = [(false, eval e X.env), (false, eval (.Name x p1) X.env)] := by rfl) : Wr X Θ RawP [.Return (some (.List [e, .Name x p1] pl)) pos] (tRet (tLst (tCons te (tCons (tVar i) tNil)))) := by
  refine ⟨fun pins s σ H D I θ h => ?_⟩
  refine wpAny_execs_cons (wpAny_Return_some (wpAny_List_spliced ?_))
  rw [hs]
  show wpAny _ _ (spliced ((false, eval e X.env) :: (false, eval (.Name x p1) X.env) :: [])) _ _ s
  refine Calls.spliced_cons (thn (he.run pins s σ H _ I θ h) fun v s1 hh => Calls.spliced_cons ?_)
  obtain ⟨g1, y, H1, I1, r1, w, e1, few, q⟩ := hh
  refine knownU_eval Kn I1 g1 hi hv e1 (fun ru => Calls.spliced_nil ?_) hd
  refine ⟨few, fun u eu => ?_, .ref s1.heap.objs.size, σ, _, I1.lnew (t' := s1.toks) (its := [v, u0]) (.cons r1 (.cons ru .nil)) few, rfl, q _ I1.fresh⟩
  injection eu with eu
  subst eu
  exact ⟨_, v, u0, 0, rfl, Heap.get?_push_size _ rfl, fun b t eb one => ⟨(good b t eb one).1, Nat.lt_of_lt_of_le (good b t eb one).2 (hn s1 g1)⟩⟩
end
end Sq
set_option Elab.async false
set_option linter.all false
set_option maxRecDepth 100000
set_option maxHeartbeats 4000000
/-! s[lo:hi]; a def whose caller knows the raw value in the list that it returns. -/
namespace Sq
open PySem PySem.Spec PyProof.Rows L2 GenW
section
variable {X : Cx} {Θ : Shared → Prop} {ys : List Str} {p2 pos : Pos} {e : Expr} {te : TE} {lo hi : Option Expr} {tl th : TO}
theorem we_slS (Cl : Clo X ys Θ) (he : We X Θ e te) (hl : WO X Θ lo tl) (hu : WO X Θ hi th) : We X Θ (.Subscript e (.Slice lo hi none p2) pos) (tSl rSlS te tl th) := by
  refine ⟨fun pins s σ H Q I θ h => ?_⟩
  refine Subscript_ (thn (he.run pins s σ H _ I θ h) fun v s1 hh => ?_)
  obtain ⟨g1, x, H1, I1, r1, q1⟩ := hh
  refine wpAny_Slice (thn (hl.run pins s1 σ H1 _ I1 g1 q1) fun vl s2 hh => ?_)
  obtain ⟨g2, lo', H2, I2, pl, q2⟩ := hh
  refine thn (hu.run pins s2 σ H2 _ I2 g2 q2) fun vu s3 hh => ?_
  obtain ⟨g3, hi', H3, I3, pu, z, ex, hz, q⟩ := hh
  subst ex
  rw [evalPart_none]
  refine wpAny_pure ?_
  have keep : ∀ b ob, s3.heap.get? b = some ob → (s3.heap.push { cls := .type "slice", data := .fields #[vl, vu, .none] }).get? b = some ob := fun b ob z => Heap.get?_push_of_some _ z
  have I4 : Inv X pins σ H3 { s3 with heap := s3.heap.push { cls := .type "slice", data := .fields #[vl, vu, .none] } } := I3.kept (t' := s3.toks) keep
  have g4 : Θ { s3 with heap := s3.heap.push { cls := .type "slice", data := .fields #[vl, vu, .none] } } := Cl.push I3 g3
  obtain ⟨t, rfl⟩ := r1
  have hs : (s3.heap.push { cls := .type "slice", data := .fields #[vl, vu, .none] }).IsSliceOf s3.heap.objs.size vl vu .none := Heap.IsSliceOf.new ..
  generalize eS : ({ s3 with heap := s3.heap.push { cls := .type "slice", data := .fields #[vl, vu, .none] } } : Shared) = s4 at I4 g4
  have hs : s4.heap.IsSliceOf s3.heap.objs.size vl vu .none := by
    rw [← eS]
    exact hs
  obtain ⟨os, hos, hcs, hds⟩ := hs
  obtain ⟨l, rfl, rfl⟩ := IsPart.raw pl
  obtain ⟨u, rfl, rfl⟩ := IsPart.raw pu
  show wpAny (model X.prog X.w) X.A (subscriptTail e (.Slice lo hi none p2) (.str z t) (.ref s3.heap.objs.size)) _ X.xe _
  refine tail_any (ops := [.ref s3.heap.objs.size, .str z t]) (typeIs_str _ _ _) F.slot_str_getitem.lookup ?_ (by with_unfolding_all rfl)
  have called : wpAny (model X.prog X.w) X.A (getItem (.str z t) (.ref s3.heap.objs.size)) (fun w s' => s'.heap = s4.heap ∧ EP X pins σ Q w s') X.xe s4 := by
    refine wpAny_getItem_str_slice (l := l) (u := u) (st := none) ⟨os, hos, hcs, hds⟩ rfl ?_
    have hl : (PySem.StrLaws.sliceText z (l.map (·.1)) (u.map (·.1))).length ≤ sizeLine := by
      rw [sliceText_cut]
      exact Nat.le_trans (cutS_length z _ _) hz
    rw [← sliceText_cut] at q
    unfold PySem.StrLaws.sliceText at q hl
    show Made.post (if ((1 : Int) == 1 && (Builtin.Str.strSliceIndices (l.map (·.1)) (u.map (·.1)) 1 z.length).length == z.length) = true then Made.val (.str z t)
      else Made.str ⟨((Builtin.Str.strSliceIndices (l.map (·.1)) (u.map (·.1)) 1 z.length).filterMap (z.cps[·]?)).toArray⟩) (fun w s' => s'.heap = s4.heap ∧ EP X pins σ Q w s') s4
    by_cases c : ((1 : Int) == 1 && (Builtin.Str.strSliceIndices (l.map (·.1)) (u.map (·.1)) 1 z.length).length == z.length) = true
    · rw [if_pos c] at q ⊢
      exact ⟨rfl, .str z, H3, I4, ⟨t, rfl⟩, q⟩
    · rw [if_neg c] at q ⊢
      rw [if_neg c] at hl
      exact ⟨hl, rfl, .str _, H3, I4.tok _, ⟨_, rfl⟩, q⟩
  exact wpAny_mono (PySem.wpAny_toks called) (fun w s' z => ⟨Cl.kept I4 z.1 (fun b o e => by rw [z.2.1]; exact e) g4, z.2.2⟩) fun _ _ z => z.2
end
structure FnR (P : Program) (w : World) (K : PySem.W.Frag) (mg : Str → Option Value) (base : Heap) (k : Nat) (f : Addr) (fd : FuncData) (ps : List Str) (sp : Sp) : Prop where
  len : ∀ vs H Q E, sp vs H Q E → vs.length = ps.length
  run : ∀ (A : Around) (outer : List Env) (s : Shared) (H : Hp) (args : Args) (us : List Value) (vs : List V) (Q : VK), Room k A → Env0 P w K mg base A outer s H → BindsTo s fd args (ps.zip us) → Vals vs us → sp vs H Q E0 →
    codeAny (model P w) A (.call (.ref f) args) (fun r s' => match r with | .ok (.ret u) => CE outer P w H s Q u s' ∧ RawP u s' | _ => False) s
section
variable {P : Program} {w : World} {K : PySem.W.Frag} {mg : Str → Option Value} {base : Heap} {k : Nat} {f : Addr} {fd : FuncData} {ps : List Str} {sp : Sp}
theorem fnr_of {x qual : Str} {st : Stmt} {N : List Str} (F : Fun K x qual st f fd) (S : FnScope N ps (defScope st)) (len : ∀ vs H Q E, sp vs H Q E → vs.length = ps.length)
    (walk : ∀ (cdv : Value) (A : Around) (outer : List Env) (s : Shared) (H : Hp) (vs : List V) (Q : VK), Room k (A.deeper (envOfC qual (defScope st) s.heap.objs.size f cdv)) → sp vs H Q E0 →
      ∃ t, Wr (cxOf CX0 P w K mg base N qual (defScope st) f cdv A outer s H E0).nox (fun _ => True) RawP (defBody st) t ∧ t { nx := fun _ _ => False, rt := Q } (L2.start N vs) H) : FnR P w K mg base (k + 1) f fd ps sp := by
  obtain ⟨oc, od, kV, doc, pm, an, cdv, ct, osl, rfl, lk, hcd⟩ := F.ex
  refine ⟨len, fun A outer s H args us vs Q hr e0 hb r hsp => ?_⟩
  have hl := len _ _ _ _ hsp
  have KX : K.In s.heap := e0.mod.kin.keeps fun b o e => (e0.bs b o e).1
  have lim : s.heap.NoLimit := e0.mod.nolimit.keeps fun b o e => (e0.bs b o e).1
  have hkind : ∀ y ∈ ps.zip us, (defScope st).names.lookup y.1 = some .local ∨ ((defScope st).names.lookup y.1 = some .cell ∧ ((cellsFrom (s.heap.objs.size + 1) (defScope st).names []).lookup y.1).isSome = true) := fun ⟨n, v⟩ hy =>
    (S.par n (List.of_mem_zip hy).1).elim .inl fun z => .inr ⟨z, PySem.W.cellsFrom_some _ _ _ (.inl z)⟩
  refine codeAny_call_function hr.depth (KX _ _ lk) rfl S.co S.gen rfl (PySem.W.codeRec_of KX hcd) (hb _ _ _ _ ?_)
  refine PySem.wpAny_with_toks (Nat.le_refl s.toks) (wpAny_newFunctionEnv_cells S.kind hkind fun env he s1 made toks1 => ?_)
  subst he
  refine ⟨lim.keeps made.toInCall.keep, codeAny_func ?_⟩
  obtain ⟨t, ht, hq⟩ := walk cdv A outer s H vs Q (hr.deeper _) hsp
  have I : Inv (cxOf CX0 P w K mg base N qual (defScope st) f cdv A outer s H E0).nox [] (start N vs) H s1 := (inv_start S hr.hd e0 hl r made).wish _
  refine wpAny_mono (ht.run [] s1 (start N vs) H _ I True.intro hq) (fun fl s' hs => ?_) fun e s' hs => False.elim hs
  obtain ⟨raw, hs⟩ := hs
  match fl, hs, raw with
  | .ret u, ⟨v, σ', H', J, rv, q⟩, raw => exact ⟨⟨v, H', J.os, J.bare, J.base, J.hok, rv, q⟩, raw u rfl⟩
  | .next, ⟨σ', H', J, q⟩, _ => exact False.elim q
  | .brk, ⟨_, _, _, q⟩, _ => exact False.elim q
  | .cont, ⟨_, _, _, q⟩, _ => exact False.elim q
/-- its plain promise -/
theorem FnR.ok (F : FnR P w K mg base k f fd ps sp) (he : ∀ vs H Q E, sp vs H Q E → sp vs H Q E0) : FnOk P w K mg base CX0 k f fd ps sp :=
  ⟨F.len, fun A outer s H args us vs Q E hr e0 hb r h => codeAny_mono (F.run A outer s H args us vs Q hr e0 hb r (he _ _ _ _ h)) fun r s' hq => by
    match r, hq with
    | .ok (.ret u), hq => exact hq.1⟩
end
end Sq
set_option Elab.async false
set_option linter.all false
set_option maxRecDepth 100000
set_option maxHeartbeats 4000000
/-! (x, y), z = f(..), e : the raw value of y is known behind it. -/
namespace Sq
open PySem PySem.Spec PyProof.Rows L2 GenW
structure DfR (P : Program) (w : World) (K : PySem.W.Frag) (mg : Str → Option Value) (base : Heap) (k : Nat) (x : Str) (ps : List Str) (sp : Sp) : Prop where
  ex : ∃ f fd, FnR P w K mg base k f fd ps sp ∧ mg x = some (.ref f) ∧ PySem.W.keepIn K (.ref f) = true ∧ Binds K fd ps []
section
variable {X : Cx} {pins : List (Addr × Obj)} {σ : L2.St} {H : Hp} {s : Shared}
/-- a list is no longer told of -/
theorem inv_drop {l : Addr} {xs : List V} (I : Inv X pins σ H s) (h : H l = some (.lst xs)) : Inv X pins σ (wo H l) s := by
  have out : ∀ b, H b = none → wo H l b = none := fun b e => by
    by_cases z : b = l
    · rw [z]; exact wo_self
    · rw [wo_ne z]; exact e
  have keep : ∀ b, (∀ ys, H b ≠ some (.lst ys)) → wo H l b = H b := fun b n => wo_ne fun z => n xs (by rw [z]; exact h)
  refine ⟨I.ok, I.os, I.bare, ⟨I.base.keep, I.base.slot, fun b o e n hb => out b (I.base.free b o e n hb), I.base.there, fun b xs e => ?_, fun b o u e => ?_, fun b ps e => ?_⟩, I.loc, I.cell, out _ I.free, fun x c e => out _ (I.freeC x c e), fun p hp => ?_, fun b o e => ?_, I.len⟩
  · have z := I.base.tups b xs e
    rw [keep b (fun ys z' => by rw [z] at z'; cases z')]
    exact z
  · have z := I.base.frzs b o u e
    rw [keep b (fun ys z' => by rw [z] at z'; cases z')]
    exact z
  · obtain ⟨more, z⟩ := I.base.tbls b ps e
    exact ⟨more, by rw [keep b (fun ys z' => by rw [z] at z'; cases z')]; exact z⟩
  · obtain ⟨a1, a2, a3⟩ := I.pin p hp
    exact ⟨a1, out _ a2, a3⟩
  · have e2 : H b = some o := wo_same _ _ e
    exact (I.hok b o e2).stay (fun _ _ _ q => q) (fun b q => by rw [keep b (fun ys z' => by rw [q] at z'; cases z')]; exact q) fun b ys q => by rw [keep b (fun ys z' => by rw [q] at z'; cases z')]; exact q
end
section
variable {X : Cx} {x y z fn : Str} {p p1 px py pz pt1 pt2 pt3 pos cpos : Pos} {e2 e : Expr} {es : List Expr} {t : TA} {tf : TE} {rest : List Stmt} {tr : TS} {i j l k k1 k2 k3 : Nat} {ps : List Str} {sp : Sp}
/-- (x, y), z = f(..), e2 -/
def tText2 (sp : Sp) (t : TA) (tf : TE) (i j l : Nat) (tr : Value → Nat → TS) : TS := fun D σ H => t σ H fun vs H1 => sp vs H1 (fun r H2 => ∃ a v w, r = .ref a ∧ H2 a = some (.lst [v, w]) ∧ tf σ (wo H2 a) fun u H3 => ∀ u0 n, Tkn 0 [u0] n → tr u0 n D (((σ.set i (some v)).set j (some w)).set l (some u)) H3) E0
theorem wu_text2 {tr : Value → Nat → TS} (D0 : DfR X.prog X.w X.K X.mg X.base k fn ps sp) (hr : Room k X.A) (hg : Gl X fn) (ha : PA X (e :: es) t) (h2 : PE X e2 tf) (mood : X.calm = true) (hN : X.N.Nodup) (hi : X.N[i]? = some x) (hj : X.N[j]? = some y) (hl : X.N[l]? = some z)
    (kx : X.env.scope.names.lookup x = some .local) (ky : X.env.scope.names.lookup y = some .local) (kz : X.env.scope.names.lookup z = some .local) (nz : z ≠ y)
    (hrest : ∀ (u0 : Value) (n : Nat), Tkn 0 [u0] n → Wu X (fun s => Raw X y u0 s ∧ n ≤ s.toks) rest (tr u0 n))
    (hs : swapsWithSole [.Tuple [.Tuple [.Name x px, .Name y py] k1 pt1, .Name z pz] k2 pt2] (.Tuple [.Call (.Name fn p) (e :: es) [] cpos, e2] k3 pt3) pos.line X.env = pure false := by rfl)
    (hw : swappedStores [.Tuple [.Tuple [.Name x px, .Name y py] k1 pt1, .Name z pz] k2 pt2] (.Tuple [.Call (.Name fn p) (e :: es) [] cpos, e2] k3 pt3) X.env = pure none := by rfl)
    (hdb : (fn == ("__debug__" : Str)) = false := by decide)
    (he : starEach (e :: es) X.env = (false, eval e X.env) :: starEach es X.env := by rfl) (hpl : (backTo cpos (starEach es X.env)).any (·.1) = false := by rfl)
    (hse : starEach [.Call (.Name fn p) (e :: es) [] cpos, e2] X.env = [(false, eval (.Call (.Name fn p) (e :: es) [] cpos) X.env), (false, eval e2 X.env)] := by rfl)
    (h1 : (assignEach [.Tuple [.Tuple [.Name x px, .Name y py] k1 pt1, .Name z pz] k2 pt2] X.env).map (·.2) = [assign (.Tuple [.Tuple [.Name x px, .Name y py] k1 pt1, .Name z pz] k2 pt2) X.env] := by rfl)
    (h3 : (assignEach [.Tuple [.Name x px, .Name y py] k1 pt1, .Name z pz] X.env).map (·.2) = [assign (.Tuple [.Name x px, .Name y py] k1 pt1) X.env, assign (.Name z pz) X.env] := by rfl)
    (h4 : (assignEach [.Name x px, .Name y py] X.env).map (·.2) = [assign (.Name x px) X.env, assign (.Name y py) X.env] := by rfl)
    (l3 : (assignEach [.Tuple [.Name x px, .Name y py] k1 pt1, .Name z pz] X.env).length = 2 := by rfl) (st3 : (assignEach [.Tuple [.Name x px, .Name y py] k1 pt1, .Name z pz] X.env).findIdx? (·.1) = none := by rfl)
    (l4 : (assignEach [.Name x px, .Name y py] X.env).length = 2 := by rfl) (st4 : (assignEach [.Name x px, .Name y py] X.env).findIdx? (·.1) = none := by rfl) :
    Wu X (fun _ => True) (.Assign [.Tuple [.Tuple [.Name x px, .Name y py] k1 pt1, .Name z pz] k2 pt2] (.Tuple [.Call (.Name fn p) (e :: es) [] cpos, e2] k3 pt3) pos :: rest) (tText2 sp t tf i j l tr) := by
  obtain ⟨f, fd, F, g, kp, b⟩ := D0.ex
  refine ⟨fun pins s σ H D I _ h => ?_⟩
  refine wpAny_execs_cons (wpAny_Assign_stores (wpAny_Tuple_spliced ?_) hs hw)
  rw [hse]
  show wpAny _ _ (spliced ((false, eval (.Call (.Name fn p) (e :: es) [] cpos) X.env) :: (false, eval e2 X.env) :: [])) _ _ s
  refine Calls.spliced_cons ?_
  refine wpAny_Call_Name_kw (ld_glob I hg g ?_ hdb)
  refine PySem.W.callWith_K (h₀ := X.base) I.ok.mod.kin kp (thn (ha.run cpos pins s σ H _ I h) fun us s1 hh => ?_) he hpl
  obtain ⟨vs, H1, I1, r, q⟩ := hh
  refine ⟨I1.kIn, ?_⟩
  have hl' : us.length = ps.length := by rw [← r.length]; exact F.len _ _ _ _ q
  have bind := b s1 us I1.kIn (by rw [List.append_nil]; exact hl')
  rw [List.append_nil] at bind
  refine wpAny_call (codeAny_mono (F.run X.A X.stack s1 H1 ⟨us, []⟩ us vs _ hr I1.env0 bind r q) fun r s2 hq => ?_)
  match r, hq with
  | .ok (.ret u), hq =>
    obtain ⟨ce, l0, ra, rb, n0, eu, at0, good⟩ := hq
    subst eu
    obtain ⟨rv, H2, I2, rr, a, v, w, ev, gl, q2⟩ := I1.after ce
    subst ev
    obtain rfl : l0 = a := by injection rr
    -- its two items
    obtain ⟨_, its, n2, rits, at2⟩ := I2.hok l0 _ gl
    rw [at0] at at2
    have eits : its = [ra, rb] := by
      injection at2 with e1
      injection e1 with _ _ e2 _
      injection e2 with e3 _
      have e4 := congrArg Array.toList e3
      simpa using e4.symm
    subst eits
    obtain ⟨ru, rw'⟩ : RelV v ra ∧ RelV w rb := by
      cases rits with
      | cons r1 r2 => cases r2 with
        | cons r2 _ => exact ⟨r1, r2⟩
    have nl : l0 ≠ X.env.locals := fun z => by rw [z, I2.free] at gl; cases gl
    have nfs : l0 ∉ X.fs := fun hb => by
      obtain ⟨_, o, e, _⟩ := I2.ok.funs.mem hb
      have z := I2.base.free l0 o e (I2.ok.frf l0 hb) (fun hx => I2.ok.exfs l0 hx hb)
      rw [gl] at z
      cases z
    have I3 := inv_drop I2 gl
    have I4 : Inv X (pins ++ [(l0, { cls := .type "list", data := .seq #[ra, rb] n0 })]) σ (wo H2 l0) s2 := I3.pins_of fun p hp => (List.mem_append.mp hp).elim (fun z => I3.pin p (List.mem_append_right _ z)) fun z => by
      rw [List.mem_singleton.mp z]
      exact ⟨at0, wo_self, nl, nfs, fun v q => by cases q⟩
    refine Calls.spliced_cons (wpAny_mono (PySem.wpAny_toks (h2.run _ s2 σ _ _ I4 q2)) (fun uz s3 hh => Calls.spliced_nil ?_) fun _ _ z => z.2)
    obtain ⟨up3, vz, H3, I5, rz, q3⟩ := hh
    have pl0 := (I5.pin (l0, _) (List.mem_append_right _ (List.mem_append_right _ (List.mem_singleton_self _))))
    have I6 : Inv X pins σ H3 s3 := I5.pins_of fun p hp => I5.pin p (List.mem_append_right _ (List.mem_append_left _ hp))
    refine ⟨by show 2 ≤ sizeLine; decide, ?_⟩
    rw [h1]
    -- the pair
    have ht : IsTup (s3.heap.push { cls := .type "tuple", data := .seq #[.ref l0, uz] }) s3.heap.objs.size #[.ref l0, uz] := IsTup.new s3.heap _
    have I7 : Inv X pins σ H3 { s3 with heap := s3.heap.push { cls := .type "tuple", data := .seq #[.ref l0, uz] } } := I6.kept (t' := s3.toks) fun b o e => Heap.get?_push_of_some _ e
    have at7 : (s3.heap.push { cls := .type "tuple", data := .seq #[.ref l0, uz] }).get? l0 = some { cls := .type "list", data := .seq #[ra, rb] n0 } := Heap.get?_push_of_some _ pl0.1
    refine assign_Tuple_tuple (I7.ok.hd mood) ht (by rw [l3]; rfl) st3 fun h' hx => ?_
    have stay := fun (b : Addr) (o : Obj) (e : (s3.heap.push { cls := .type "tuple", data := .seq #[.ref l0, uz] }).get? b = some o) => hx b o (Nat.ne_of_lt (Heap.lt_size e)) e
    have I8 : Inv X pins σ H3 { s3 with heap := h' } := I7.kept (t' := s3.toks) stay
    have at8 := stay _ _ at7
    rw [h3]
    show wpAny _ _ (assignInOrder [assign (.Tuple [.Name x px, .Name y py] k1 pt1) X.env, assign (.Name z pz) X.env] [.ref l0, uz]) _ _ _
    refine assignInOrder_cons ?_
    rw [PyProof.Rows.assign_Tuple]
    refine wpAny_bind (wpAny_standAt ?_)
    unfold unpack
    rw [l4, st4]
    have isl : h'.IsList l0 #[ra, rb] := ⟨_, at8, rfl, n0, rfl⟩
    refine wpAny_bind (wpAny_holding (PySem.W.kun_itemsOf (items := #[ra, rb]) (s := { s3 with heap := h' }) (I8.ok.hd mood) isl fun h9 hx9 => ?_))
    have I9 : Inv X pins σ H3 { s3 with heap := h9 } := I8.kept (t' := s3.toks) fun b o e => hx9 b o (Nat.ne_of_lt (Heap.lt_size e)) e
    rw [h4]
    show wpAny _ _ (assignInOrder [assign (.Name x px) X.env, assign (.Name y py) X.env] [ra, rb]) _ _ _
    refine assignInOrder_cons (wpAny_assign_Name (put_ok I9 hN hi (.inl kx) ru (fun s10 I10 up10 _ => ?_) (.inr kx)))
    refine assignInOrder_cons (wpAny_assign_Name (put_local I10 hN hj ky rw' fun s11 I11 up11 _ raw => assignInOrder_nil ?_))
    have cl : Clo X [y] (Raw X y rb) := clo_raw ky
    refine assignInOrder_cons (wpAny_assign_Name (put_ok I11 hN hl (.inl kz) rz (fun s12 I12 up12 pt => assignInOrder_nil ?_) (.inr kz)))
    have raw12 : Raw X y rb s12 := cl.st I11 (fun z => nz (List.mem_singleton.mp z)) up12 pt raw
    have n12 : s2.toks ≤ s12.toks := Nat.le_trans up3 (Nat.le_trans up10 (Nat.le_trans up11 up12))
    exact (hrest rb s2.toks good).run pins s12 _ H3 D I12 ⟨raw12, n12⟩ (q3 rb s2.toks good)
end
end Sq
set_option Elab.async false
set_option linter.all false
set_option maxRecDepth 100000
set_option maxHeartbeats 4000000
/-! Making by keywords, l[i] = e, x, y = list, and, x = [..], max: what is known is kept. -/
set_option Elab.async false
set_option linter.all false
set_option maxRecDepth 100000
set_option maxHeartbeats 4000000
/-! x == y of two live objects, by the class's own __eq__. -/
namespace Sq
open PySem PySem.Spec PyProof.Rows L2 GenW
structure EqM (P : Program) (w : World) (K : PySem.W.Frag) (mg : Str → Option Value) (base : Heap) (k : Nat) (C : Addr) (ps : List Str) (sp : Sp) : Prop where
  ex : ∃ f fd, FnOk P w K mg base CX0 k f fd ps sp ∧ PySem.W.findIn K (.ref C) "__eq__" = some (some (.ref f)) ∧ PySem.W.isFn K (.ref f) = true ∧ Binds K fd ps []
def rEqL (C : Addr) (sp : Sp) : R2 := fun x y H Q => ∃ a dx m ks b dy m2 ks2, x = .ref a ∧ y = .ref b ∧ Live H a C dx m ks ∧ Live H b C dy m2 ks2 ∧ sp [.ref a, .ref b] H (fun v H2 => ∃ c, v = .bl c ∧ Q (.bl c) H2) E0
/-- isinstance(o, C), o of the class at C -/
theorem call_isL {X : Cx} {C : Addr} (c : C8.InsC X.K C) : CallR X (.builtin "isinstance") (fun xs H Q => ∃ a dx m ks, xs = [.ref a, .ref C] ∧ Live H a C dx m ks ∧ Q (.bl true) H) := by
  intro pins s σ H xs us Q I r h
  obtain ⟨a, dx, m, ks, rfl, L, q⟩ := h
  obtain ⟨u, w', rfl, ru, rw'⟩ := vals2 r
  cases ru
  cases rw'
  obtain ⟨od, J, _⟩ := (L.obj I.hok).1.look
  exact PySem.W.kia_one (PySem.W.kitx_own (c.cl.get _) c.cl.hd c.ha c.hn c.htk c.hm) I.kIn J c.me (fun z => nomatch z) fun tk => ⟨.bl true, H, I.tok _, rfl, q⟩
end Sq
set_option Elab.async false
set_option linter.all false
set_option maxRecDepth 100000
set_option maxHeartbeats 4000000
/-! A loop over anything, its suite knowing how many tokens were given out. -/
namespace Sq
open PySem PySem.Spec PyProof.Rows L2 GenW
section
variable {X : Cx} {n : Nat} {tg iter : Expr} {body : List Stmt} {wi : TI} {g : TG} {tb : TS} {pos : Pos} {Θ : Shared → Prop} {sts : List Stmt} {t : TS}
theorem wu_weak {Φ : Shared → Prop} (h : Wu X Φ sts t) (w : ∀ s, Θ s → Φ s) : Wu X Θ sts t := ⟨fun pins s σ H D I θ q => h.run pins s σ H D I (w s θ) q⟩
theorem ws_forN (hp : PassesOwn (model X.prog X.w) X.A X.env X.xe) (hc : X.calm = true) (hi : PI X tg iter wi) (hg : PG X tg g) (hb : Wss X (fun s => n ≤ s.toks) body tb)
    (hs : ∀ x, foldedSetIterable iter X.env x = pure x := by intro _; rfl) : Ws X (fun s => n ≤ s.toks) (.For tg iter body [] pos) (tFor wi g tb) := by
  refine ⟨fun pins s σ H D I θ h => ?_⟩
  refine wpAny_mono (wpAny_For (Q := fun f s' => n ≤ s'.toks ∧ SP X pins D f s') (wpAny_mono (PySem.wpAny_toks_of θ (hi.run pins s σ H _ I h)) (fun v s1 h1 => wpAny_mono (PySem.wpAny_toks_of h1.1 h1.2) (fun itv s2 h2 => ?_) fun _ _ z => z.2) fun _ _ z => z.2) hs) (fun _ _ z => z) fun _ _ z => z
  obtain ⟨θ2, it, fp, tn, J, H2, e, I2, T, st2, f2, W, ⟨m0, w0⟩, turn⟩ := h2
  subst e
  have stat : ∀ {H' : Hp}, (∀ b ∈ fp, H' b = none) → ∀ b ∈ fp, FpOk X pins H' b := fun hn b hb => ⟨hn b hb, (f2 b hb).2⟩
  refine codeAny_forLoop_any (fun m s' => ∃ i σ' H', n ≤ s'.toks ∧ Inv X pins σ' H' s' ∧ tn i s'.heap ∧ (∀ b ∈ fp, H' b = none) ∧ W i m σ' H') ?_ m0 ⟨0, σ, H2, θ2, I2, st2, fun b hb => (f2 b hb).1, w0⟩
  rintro m s3 ⟨i, σ3, H3, θ3, I3, st3, fr3, w3⟩
  rcases turn i m σ3 H3 w3 with ⟨stop, qn⟩ | ⟨go, N, hN, step⟩
  · refine wpAny_passesOwn hp (wpAny_mono (PySem.wpAny_toks_of θ3 (T.done X rfl rfl rfl hc i pins s3 σ3 H3 X.xe I3 (stat fr3) st3 stop)) (fun r s4 hh => ?_) fun _ _ z => z.2)
    obtain ⟨θ4, hr, I4⟩ := hh
    subst hr
    exact wpAny_execs_nil ⟨θ4, σ3, H3, I4, qn⟩
  · refine wpAny_passesOwn hp (wpAny_mono (PySem.wpAny_toks_of θ3 (T.item X rfl rfl rfl hc i pins s3 σ3 H3 X.xe I3 (stat fr3) st3 go)) (fun r s4 hh => ?_) fun _ _ z => z.2)
    obtain ⟨θ4, u, hr, h4⟩ := hh
    subst hr
    refine wpAny_passesOwn hp (wpAny_mono (PySem.wpAny_toks_of θ4 h4) (fun _ s5 hh => ?_) fun _ _ z => z.2)
    obtain ⟨θ5, x, H5, I5, r5, y5, st5, fr5⟩ := hh
    have I5' := I5.pinned (stat fr5) (T.obj _ _ st5)
    refine wpAny_passesOwn hp (wpAny_mono (PySem.wpAny_toks_of θ5 (hg.run _ s5 σ3 H5 x u _ I5' r5 (step x H5 y5))) (fun _ s6 hh => ?_) fun _ _ z => z.2)
    obtain ⟨θ6, σ6, H6, I6, q6⟩ := hh
    refine wpAny_passesOwn hp (thn (hb.run _ s6 σ6 H6 _ I6 θ6 q6) fun f s7 q7 => ?_)
    obtain ⟨θ7, q7⟩ := q7
    have again : ∀ {σ7 : L2.St} {H7 : Hp}, Inv X (pins ++ pinsAt fp s5.heap) σ7 H7 s7 → N σ7 H7 → ∃ m', m' < m ∧ ∃ i σ' H', n ≤ s7.toks ∧ Inv X pins σ' H' s7 ∧ tn i s7.heap ∧ (∀ b ∈ fp, H' b = none) ∧ W i m' σ' H' := fun {σ7 H7} I7 n7 => by
      obtain ⟨m', hm, w7⟩ := hN σ7 H7 n7
      refine ⟨m', hm, i + 1, σ7, H7, θ7, I7.unpinned, T.keep _ _ _ st5 fun b hb o e => (I7.pin (b, o) (List.mem_append_right _ (List.mem_append_right _ (mem_pinsAt hb e)))).1, fun b hb => ?_, w7⟩
      obtain ⟨o, e, d⟩ := T.obj _ _ st5 b hb
      exact (I7.pin (b, o) (List.mem_append_right _ (List.mem_append_right _ (mem_pinsAt hb e)))).2.1
    cases f with
    | next => obtain ⟨σ7, H7, I7, n7⟩ := q7; exact again I7 n7
    | cont => obtain ⟨σ7, H7, I7, n7⟩ := q7; exact again I7 n7
    | brk => obtain ⟨σ7, H7, I7, q7⟩ := q7; exact ⟨θ7, σ7, H7, I7.unpinned, q7⟩
    | ret v => obtain ⟨x7, σ7, H7, I7, r7, q7⟩ := q7; exact ⟨θ7, x7, σ7, H7, I7.unpinned, r7, q7⟩
end
end Sq
set_option Elab.async false
set_option linter.all false
set_option maxRecDepth 100000
set_option maxHeartbeats 4000000
/-! A def that knows n and a raw argument, called by its name; x = [y, y, y, 'c'][e], y known. -/
namespace Sq
open PySem PySem.Spec PyProof.Rows L2 GenW
structure DfW (P : Program) (w : World) (K : PySem.W.Frag) (mg : Str → Option Value) (base : Heap) (k : Nat) (x : Str) (ps : List Str) (j : Nat) (sp : Nat → Value → Sp) : Prop where
  ex : ∃ f fd, FnW P w K mg base k f fd ps j sp ∧ mg x = some (.ref f) ∧ PySem.W.keepIn K (.ref f) = true ∧ Binds K fd ps []
def tCallW (sp : Value → Sp) (t : L2.St → Hp → (Value → List V → Hp → Prop) → Prop) : TE := fun σ H Q => t σ H fun u vs H1 => sp u vs H1 Q E0
section
variable {X : Cx} {Θ : Shared → Prop} {ys : List Str} {k n j : Nat} {x y : Str} {ps : List Str} {p pos pl pq p1 p2 p3 p4 : Pos} {e : Expr} {es : List Expr} {rest : List Stmt} {te : TE} {tr : Value → Nat → TS}
theorem we_callW {sp : Nat → Value → Sp} {tq : L2.St → Hp → (Value → List V → Hp → Prop) → Prop} (C : Clo X ys Θ) (D : DfW X.prog X.w X.K X.mg X.base k x ps j sp) (hn : ∀ s, Θ s → n ≤ s.toks) (hr : Room k X.A) (hg : Gl X x) (ha : Wq X Θ j (e :: es) tq) (hdb : (x == ("__debug__" : Str)) = false := by decide)
    (he : starEach (e :: es) X.env = (false, eval e X.env) :: starEach es X.env := by rfl) (hpl : (backTo pos (starEach es X.env)).any (·.1) = false := by rfl) : We X Θ (.Call (.Name x p) (e :: es) [] pos) (tCallW (sp n) tq) := by
  obtain ⟨f, fd, F, g, kp, b⟩ := D.ex
  refine ⟨fun pins s σ H Q I θ h => ?_⟩
  refine wpAny_Call_Name_kw (ld_glob I hg g ?_ hdb)
  refine PySem.W.callWith_K (h₀ := X.base) I.ok.mod.kin kp (thn (ha.run pos pins s σ H _ I θ h) fun us s1 hh => ?_) he hpl
  obtain ⟨g1, u0, eu, vs, H1, I1, r, q⟩ := hh
  refine ⟨I1.kIn, ?_⟩
  have hl : us.length = ps.length := by rw [← r.length]; exact F.len _ _ _ _ _ _ q
  have bind := b s1 us I1.kIn (by rw [List.append_nil]; exact hl)
  rw [List.append_nil] at bind
  have called : wpAny (model X.prog X.w) X.A (call (.ref f) us) (fun u s' => (s1.toks ≤ s'.toks → Θ s') ∧ EP X pins σ Q u s') X.xe s1 := by
    refine wpAny_call (codeAny_mono (F.run X.A X.stack s1 H1 ⟨us, []⟩ us vs Q n u0 hr I1.env0 bind r (hn s1 g1) eu q) fun r s' hq => ?_)
    match r, hq with
    | .ok (.ret u), hq =>
      have ce : CE X.stack X.prog X.w H1 s1 Q u s' := hq
      obtain ⟨_, _, _, _, un, _⟩ := id ce
      exact ⟨fun up => C.un0 I1 up un g1, I1.after ce⟩
  exact wpAny_mono (PySem.wpAny_toks called) (fun u s' z => ⟨z.2.1 z.1, z.2.2⟩) fun _ _ z => z.2
/-- [y, y, y, 'c'][e], stored -/
def tPick (i l : Nat) (c : Str) (te : TE) (tr : Value → Nat → TS) : TS := fun D σ H => te σ H fun v H1 => ∃ (z : Nat) (w y : V) (q : Str), v = .int (z : Int) ∧ σ[l]? = some (some y) ∧ y = .str q ∧ q.length = 1 ∧ [y, y, y, .str c][z]? = some w ∧ ∀ u1 n1, Tkn 0 [u1] n1 → RelV w u1 → tr u1 n1 D (σ.set i (some w)) H1
theorem wss_pick {i l kc : Nat} {c : Str} {pos' : Pos} {u0 : Value} (hN : X.N.Nodup) (hi : X.N[i]? = some x) (hl : X.N[l]? = some y) (kx : X.env.scope.names.lookup x = some .local) (ky : X.env.scope.names.lookup y = some .local) (ne : x ≠ y) (good : Tkn 0 [u0] n)
    (he : We X (fun s => Raw X y u0 s ∧ n ≤ s.toks) e te) (hix : PlainIx e)
    (hrest : ∀ (u1 : Value) (n1 : Nat), Tkn 0 [u1] n1 → n ≤ n1 → Wss X (fun s => (Raw X y u0 s ∧ Raw X x u1 s) ∧ n1 ≤ s.toks) rest (tr u1 n1))
    (hs : swapsWith (.Subscript (.List [.Name y p1, .Name y p2, .Name y p3, .Constant (.str c) kc p4] pl) e pq) (some (.Name x pos')) pos.line X.env = pure false := by rfl)
    (h1 : starEach [.Name y p1, .Name y p2, .Name y p3, .Constant (.str c) kc p4] X.env = [(false, eval (.Name y p1) X.env), (false, eval (.Name y p2) X.env), (false, eval (.Name y p3) X.env), (false, eval (.Constant (.str c) kc p4) X.env)] := by rfl)
    (hd : (y == ("__debug__" : Str)) = false := by decide) :
    Wss X (fun s => Raw X y u0 s ∧ n ≤ s.toks) (.Assign [.Name x pos'] (.Subscript (.List [.Name y p1, .Name y p2, .Name y p3, .Constant (.str c) kc p4] pl) e pq) pos :: rest) (tPick i l c te tr) := by
  have Cl : Clo X [y] (fun s => Raw X y u0 s ∧ n ≤ s.toks) := (clo_raw ky).and clo_n
  have nameY : ∀ {pp : Pos} {s : Shared} {Q : Value → Shared → Prop}, X.env.scope.kind = .function → Raw X y u0 s → Q u0 s → wpAny (model X.prog X.w) X.A (eval (.Name y pp) X.env) Q X.xe s := fun {pp s Q} kf raw q => by
    obtain ⟨m, ns, em⟩ := raw
    exact wpAny_Name (wpAny_loadName_local kf ky ns em q) hd
  refine ⟨fun pins s σ H D I θ h => ?_⟩
  refine wpAny_execs_cons (wpAny_Assign_Name (Subscript_ (wpAny_List_spliced ?_)) hs)
  rw [h1]
  show wpAny _ _ (spliced ((false, eval (.Name y p1) X.env) :: (false, eval (.Name y p2) X.env) :: (false, eval (.Name y p3) X.env) :: (false, eval (.Constant (.str c) kc p4) X.env) :: [])) _ _ s
  refine Calls.spliced_cons (nameY I.ok.kind θ.1 (Calls.spliced_cons (nameY I.ok.kind θ.1 (Calls.spliced_cons (nameY I.ok.kind θ.1 (Calls.spliced_cons (Calls.Constant_str (Calls.spliced_nil ?_))))))))
  refine ⟨by show 4 ≤ sizeLine; decide, ?_⟩
  have I1 : Inv X pins σ H { s with toks := s.toks + 1 } := I.tok _
  have θ1 := Cl.tok I θ
  generalize eo : ({ cls := .type "list", data := .seq [u0, u0, u0, Value.str c s.toks].toArray } : Obj) = ob
  have hdat : ob.data = .seq [u0, u0, u0, Value.str c s.toks].toArray := by rw [← eo]
  have fp : FpOk X pins H s.heap.objs.size := I1.fpOk (Nat.le_refl _) (I1.hok.fresh (Nat.le_refl _))
  have I2 : Inv X pins σ H { s with heap := s.heap.push ob, toks := s.toks + 1 } := I1.kept (t' := s.toks + 1) fun b o e => Heap.get?_push_of_some _ e
  have θ2 : Raw X y u0 { s with heap := s.heap.push ob, toks := s.toks + 1 } ∧ n ≤ ({ s with heap := s.heap.push ob, toks := s.toks + 1 } : Shared).toks := Cl.push I1 θ1
  have at2 : (s.heap.push ob).get? s.heap.objs.size = some ob := Heap.get?_push_size _ (by rw [← eo]; rfl)
  have I3 := I2.pinned (fp := [s.heap.objs.size]) (fun b hb => by rw [List.mem_singleton.mp hb]; exact fp) (fun b hb => by
    rw [List.mem_singleton.mp hb]
    exact ⟨ob, at2, fun v q => by rw [hdat] at q; cases q⟩)
  refine wpAny_mono (PySem.wpAny_toks (he.run _ _ σ H _ I3 θ2 h)) (fun v s2 hh => ?_) fun _ _ z => z.2
  obtain ⟨up2, θ3, vz, H2, I4, r2, z, w, yv, yq, rfl, ey, eyq, oneq, at3, q2⟩ := hh
  have up2' : s.toks + 1 ≤ s2.toks := up2
  have pin := I4.pin (s.heap.objs.size, ob) (List.mem_append_right _ (List.mem_append_right _ (mem_pinsAt (by simp) at2)))
  have I5 := I4.unpinned
  obtain ⟨tk, rfl⟩ := r2
  -- y's value
  have ry : RelV yv u0 := by
    obtain ⟨m, hns, look⟩ := I5.loc
    obtain ⟨u2, r, lk⟩ := look l y yv hl ey (.inl ky)
    obtain ⟨m2, ns2, e2⟩ := θ3.1
    rcases lk with ⟨_, q⟩ | ⟨k1, _⟩
    · rw [hns.agree ns2 y, e2] at q
      rw [Option.some.inj q]
      exact r
    · have k1' : X.env.scope.names.lookup y = some .cell ∨ X.env.scope.names.lookup y = some .free := k1
      rw [ky] at k1'
      rcases k1' with z | z <;> cases z
  have n1' : 1 ≤ n := by
    rw [eyq] at ry
    obtain ⟨tb, e5⟩ := ry
    exact Nat.lt_of_le_of_lt (Nat.zero_le tb) (good yq tb (by rw [e5]; rfl) oneq).2
  have rr : Vals [yv, yv, yv, .str c] [u0, u0, u0, Value.str c s.toks] := .cons ry (.cons ry (.cons ry (.cons ⟨_, rfl⟩ .nil)))
  obtain ⟨w2, ew, rw'⟩ := rr.get at3
  have isL : s2.heap.IsList s.heap.objs.size [u0, u0, u0, Value.str c s.toks].toArray := ⟨ob, pin.1, by rw [← eo], 0, hdat⟩
  have il : z < 4 := (List.getElem?_eq_some_iff.mp ew).1
  have line := line63
  refine item_listR isL (Int.natCast_nonneg z) (by omega) (x := w2) (by simpa using ew) ?_ (hix _ _)
  refine put_local I5 hN hi kx rw' fun s3 I6 up3 pt raw => ?_
  have good2 : Tkn 0 [w2] s2.toks := fun b tb eb one => by
    have ewb : w2 = .str b tb := Option.some.inj eb
    match z, ew with
    | 0, ew => exact ⟨(good b tb (by rw [← ewb]; exact ew) one).1, Nat.lt_of_lt_of_le (good b tb (by rw [← ewb]; exact ew) one).2 θ3.2⟩
    | 1, ew => exact ⟨(good b tb (by rw [← ewb]; exact ew) one).1, Nat.lt_of_lt_of_le (good b tb (by rw [← ewb]; exact ew) one).2 θ3.2⟩
    | 2, ew => exact ⟨(good b tb (by rw [← ewb]; exact ew) one).1, Nat.lt_of_lt_of_le (good b tb (by rw [← ewb]; exact ew) one).2 θ3.2⟩
    | 3, ew =>
      have e3 : Value.str c s.toks = w2 := Option.some.inj ew
      rw [ewb] at e3
      injection e3 with _ e4
      rw [← e4]
      exact ⟨Nat.ne_of_gt (Nat.lt_of_lt_of_le n1' θ.2), up2'⟩
    | z + 4, ew => cases ew
  have rawY : Raw X y u0 s3 := (clo_raw ky).st I5 (fun z => ne (List.mem_singleton.mp z)) up3 pt θ3.1
  refine wpAny_mono ((hrest w2 s2.toks good2 θ3.2).run pins s3 _ H2 D I6 ⟨⟨rawY, raw⟩, up3⟩ (q2 w2 s2.toks good2 rw')) (fun f s4 hh => ?_) fun _ _ z => z
  exact ⟨⟨hh.1.1.1, Nat.le_trans θ3.2 hh.1.2⟩, hh.2⟩
end
end Sq
set_option Elab.async false
set_option linter.all false
set_option maxRecDepth 100000
set_option maxHeartbeats 4000000
/-! x != y and x not in list, by the class's own __eq__ : raw rules. -/
namespace NeK
open PySem PySem.W PySem.Calls PyProof.Rows Builtin
section
variable {prog : Program} {w : World} {A : Around} {E : Value → Shared → Prop} {s : Shared} {K : Frag} {x C L f : Addr} {h₀ : Heap} {m : Str → Option Value} {ox : Obj} {od : Option Obj} {name : Str} {b tb : Value}
theorem ifBound_b {M : Model} {id : String} {args : List Value} {Q : Option Value → Shared → Prop} (X : K.In s.heap) (I : InstAt s.heap x ox C od) (hs : findIn K (.ref C) name = some (some (.builtin id))) (hb : ∀ self, bindSpecial (.builtin id) self = pure (.builtin id, [self]))
    (h : wpAny M A (call (.builtin id) (.ref x :: args)) (fun v => Q (some v)) E s) : wpAny M A (callSpecialIfBound? (.ref x) name args) Q E s := by
  simp only [callSpecialIfBound?, bindSpecialIfBound?]
  refine wpAny_holding (wpAny_bind (wpAny_bind (wpAny_bind (I.type.here ((looks_findIn X hs).here ?_)))))
  simp only [hb]
  refine wpAny_bind (wpAny_askSetting (wpAny_ite ?_))
  have fin : wpAny M A (call (.builtin id) ([.ref x] ++ args) >>= fun v => pure (some v)) Q E s := wpAny_bind (wpAny_mono h (fun v s' h' => wpAny_pure h') fun _ _ h' => h')
  split
  · exact wpAny_bind (wpAny_pure (wpAny_pure (by exact fin)))
  · exact wpAny_tryCatch (wpAny_bind (wpAny_pure (wpAny_pure (by exact fin))))
theorem ne_K {Q : Value → Shared → Prop} (hu : A.units + 1 < cLine) (hF : Fr h₀ L s.heap m) (X₀ : K.In h₀) (I : InstAt s.heap x ox C od) (hb : Looks (model prog w) s.heap (typeOf b) tb) (hn : notFirst K C tb = true)
    (hne : findIn K (.ref C) "__ne__" = some (some (.builtin "object.__ne__"))) (hm : mroIn K C (.type "object") = some true) (hs : findIn K (.ref C) "__eq__" = some (some (.ref f))) (hf : isFn K (.ref f) = true)
    (h : wpAny (model prog w) A.in1 (call (.ref f) [.ref x, b]) (fun v s' => ∃ c, v = .bool c ∧ Q (.bool (!c)) s') E s) : wpAny (model prog w) A (richCompare .NotEq (.ref x) b) Q E s := by
  have X := X₀.keeps hF.keep
  have one : wpAny (model prog w) A (tryCompare (.ref x) "__ne__" b) (fun r s' => ∃ v, r = some v ∧ Q v s') E s := by
    unfold tryCompare
    refine wpAny_bind (ifBound_b X I hne PySem.F.cmp_object.ne.bind ?_)
    refine wpAny_call (codeAny_call_builtin PySem.F.cmp_object.ne.plain PySem.F.cmpEntry_ne (check_slot PySem.F.cmpKind_ne PySem.F.cmpSplit_ne (I.type.andThen (looks_mroIn X hm)) (by unfold argsOk; kernel_rfl) ?_))
    unfold Builtin.«object.__ne__»
    repeat (first
      | with_reducible refine wpAny_cRoomFor (A := A.in1) hu ?_
      | (refine wpAny_bind (m := callSpecialIfBound? (.ref x) (Str.ofString "__eq__") [b])
          (ifBound_K X I hs hf (wpAny_mono h (fun r s' hr => by
            obtain ⟨c, rfl, hq⟩ := hr
            repeat (first | exact wpAny_pure ⟨_, rfl, hq⟩ | exact ⟨_, rfl, hq⟩ | (refine wpAny_bind (m := truthy (.bool _)) (wpAny_truthy_bool ?_)) | wp_step)) fun _ _ e => e)))
      | wp_step)
  unfold richCompare
  simp only [oneThing_ref]
  refine wpAny_holding (wpAny_bind (wpAny_cRoomFor (Nat.lt_of_succ_lt hu) ?_))
  refine wpAny_bind (I.type.here (wpAny_bind (hb.here ?_)))
  split
  · rename_i q
    have e : subIn K tb (.ref C) = some false := by
      rcases Bool.or_eq_true_iff.mp hn with e | e
      · rw [beq_iff_eq.mp e] at q; simp at q
      · exact beq_iff_eq.mp e
    refine wpAny_bind ((looks_subIn X e).here ?_)
    simp only [Bool.false_eq_true, if_false]
    refine wpAny_bind (wpAny_mono one (fun r s' z => ?_) fun _ _ e => e)
    obtain ⟨v, rfl, hq⟩ := z
    exact wpAny_pure hq
  · refine wpAny_bind (wpAny_pure ?_)
    simp only [Bool.false_eq_true, if_false]
    refine wpAny_bind (wpAny_mono one (fun r s' z => ?_) fun _ _ e => e)
    obtain ⟨v, rfl, hq⟩ := z
    exact wpAny_pure hq
/-- y == x, y's own == declines: x's is asked -/
theorem eq_K2 {y : Value} {T id : String} {Q : Value → Shared → Prop} (hu : A.units < cLine) (hF : Fr h₀ L s.heap m) (X₀ : K.In h₀) (I : InstAt s.heap x ox C od) (hy : s.TypeIs y T) (hn : mroIn K C (.type T) = some false) (sl : Slot T "__eq__" id)
    (dec : ∀ Q' : Value → Shared → Prop, Q' .notImplemented s → wpAny (model prog w) A (call (.builtin id) [y, .ref x]) Q' E s) (hs : findIn K (.ref C) "__eq__" = some (some (.ref f))) (hf : isFn K (.ref f) = true)
    (h : wpAny (model prog w) A (call (.ref f) [.ref x, y]) (PySem.W.CmpBack Q) E s) : wpAny (model prog w) A (richCompare .Eq y (.ref x)) Q E s := by
  have X := X₀.keeps hF.keep
  have two : wpAny (model prog w) A (tryCompare (.ref x) "__eq__" y) (fun r s' => ∃ v, r = some v ∧ Q v s') E s := by
    unfold tryCompare
    refine wpAny_bind (ifBound_K X I hs hf (wpAny_mono h (fun v s' hv => ?_) fun _ _ e => e))
    cases v <;> first | exact hv.elim | exact wpAny_pure ⟨_, rfl, hv⟩
  simp only [richCompare, cmpInfo_Eq, hy.oneThing_none]
  refine wpAny_holding (wpAny_bind (wpAny_cRoomFor hu ?_))
  refine wpAny_bind (wpAny_typeOf hy (wpAny_bind (I.type.here ?_)))
  rw [show (Value.type T != Value.ref C) = true from by simp]
  simp only [if_true]
  refine wpAny_bind ((looks_mroIn X hn).here ?_)
  simp only [Bool.false_eq_true, if_false, Bool.not_false, if_true]
  refine wpAny_bind (m := tryCompare y _ (.ref x)) (wpAny_tryCompare_declines (Q := fun r s2 => wpAny (model prog w) A _ Q E s2) hy sl (dec _ ⟨rfl, ?_⟩))
  refine wpAny_bind (wpAny_mono two (fun r s' z => ?_) fun _ _ e => e)
  obtain ⟨v, rfl, hq⟩ := z
  exact wpAny_pure hq
end
end NeK
namespace NeK
open PySem PySem.SeqAt
open AutoSeq1 (wpAny_loadPart')
open MeetsSeq MeetsSeq2 MeetsSeq3 SeqRoads2
section
variable {prog : Program} {w : World} {A : Around} {R : Result → Shared → Prop}
/-- at each turn the list is read anew, its i-th item is not x -/
def ListC (prog : Program) (w : World) (A : Around) (E : Value → Shared → Prop) (l : Addr) (x : Value) (N : Nat) (I : Nat → Shared → Prop) : Prop :=
  ∀ i s, I i s → ∃ (items : Array Value) (n : Nat), s.heap.get? l = some { cls := .type "list", data := .seq items n } ∧ items.size = N ∧
    ∀ (h1 : i < items.size), wpAny (model prog w) A.in1 (eqBool items[i] x) (fun r s' => r = false ∧ I (i + 1) s') E s
theorem contains_loopG (l : Addr) (x : Value) (N : Nat) (I : Nat → Shared → Prop) (hl : ListC prog w A (fun e s' => R (.error e) s') l x N I)
    (fin : ∀ s, I N s → R (.ok (.ret (.bool false))) s) (k : Nat) :
    ∀ i : Nat, N - i = k → i ≤ N → ∀ s, I i s →
      wpAny (model prog w) A.in1 (Builtin.«list.__contains__.loop» ⟨[.ref l, x, rawInt i], []⟩) (GQ.FinOf prog w A R) (fun e s' => R (.error e) s') s := by
  induction k with
  | zero =>
    intro i hk hi s h
    obtain ⟨items, n, hl1, hs1, _⟩ := hl _ _ h
    have hi' : i = N := by omega
    have hR : R (.ok (.ret (.bool false))) s := fin s (hi' ▸ h)
    obtain ⟨hp, g, d, tk, os⟩ := s
    wp_walk using wpAny_loadPart' hl1
    have hi1 : items[((i : Nat) : Int).toNat]? = none := by simp; omega
    rw [hi1]
    wp_walk
    exact hR
  | succ k ih =>
    intro i hk hi s h
    obtain ⟨items, n, hl1, hs1, turn⟩ := hl _ _ h
    have hlt : i < items.size := by omega
    have ht := turn hlt
    obtain ⟨hp, g, d, tk, os⟩ := s
    wp_walk using wpAny_loadPart' hl1
    have hi1 : items[((i : Nat) : Int).toNat]? = some items[i] := by simp [hlt]
    have hc : ((i : Int) + 1) = ((i + 1 : Nat) : Int) := by omega
    rw [hi1]
    refine wpAny_bind (wpAny_mono ht (fun r s2 h2 => ?_) fun _ _ x => x)
    obtain ⟨hr, h2⟩ := h2
    subst hr
    have hrec := ih (i + 1) (by omega) (by omega) s2 h2
    obtain ⟨hp2, g2, d2, tk2, os2⟩ := s2
    wp_walk
    rw [hc]
    exact ⟨plainId_quiet plain_contains_loop _, codeAny_builtin entry_contains_loop (by
      rw [Around.under_plainId plain_contains_loop _]
      exact hrec)⟩
theorem list_containsG (l : Addr) (x : Value) (N : Nat) (I : Nat → Shared → Prop) (hl : ListC prog w A (fun e s' => R (.error e) s') l x N I)
    (fin : ∀ s, I N s → R (.ok (.ret (.bool false))) s) {s : Shared} (h : I 0 s) :
    wpAny (model prog w) A.in1 (Builtin.«list.__contains__» ⟨[.ref l, x], []⟩) (GQ.FinOf prog w A R) (fun e s' => R (.error e) s') s := by
  have hrec := contains_loopG (A := A) (R := R) l x N I hl fin _ 0 rfl (Nat.zero_le _) s h
  obtain ⟨hp, g, d, tk, os⟩ := s
  wp_walk
  exact ⟨plainId_quiet plain_contains_loop _, codeAny_builtin entry_contains_loop (by
    rw [Around.under_plainId plain_contains_loop _]
    exact hrec)⟩
end
section
variable {prog : Program} {w : World} {A : Around} {E : Value → Shared → Prop} {s : Shared}
theorem notIn_listG {l : Addr} {x : Value} {N : Nat} {Q : Value → Shared → Prop} (I : Nat → Shared → Prop) (hl : ListC prog w A E l x N I)
    (fin : ∀ s, I N s → Q (.bool true) s) (h : I 0 s) : wpAny (model prog w) A (compareOp .NotIn x (.ref l)) Q E s := by
  obtain ⟨items, n, hl1, _, _⟩ := hl _ _ h
  refine PyProof.Rows.NotIn_slot (T := "list") ⟨_, hl1, rfl⟩ F.slot_list_contains (GQ.call_here F.slot_list_contains ⟨_, hl1, rfl⟩ F.entry_list_contains (F.args_list_contains_2 _ _) ?_)
  exact list_containsG (R := wants _ E) l x N I hl (fun s' q => wpAny_truthy_bool (fin s' q)) h
end
/-! ### who declines an instance -/
section
variable {prog : Program} {w : World} {A : Around} {E : Value → Shared → Prop} {s : Shared} {K : PySem.W.Frag} {x C : Addr} {ox : Obj} {od : Option Obj}
theorem dec_none {Q : Value → Shared → Prop} (h : Q .notImplemented s) : wpAny (model prog w) A (call (.builtin "NoneType.__eq__") [.none, .ref x]) Q E s :=
  call_gives F.slot_NoneType_eq (T := "NoneType") rfl F.entry_NoneType_eq (F.args_NoneType_eq_2 _ _) (NoneType___eq___none_ref_0 x) h
end
end NeK
namespace NeK
open PySem PySem.SeqAt
open AutoSeq1 (wpAny_loadPart')
open MeetsSeq MeetsSeq2 MeetsSeq3 SeqRoads2
section
variable {prog : Program} {w : World} {A : Around} {E : Value → Shared → Prop} {s : Shared} {K : PySem.W.Frag} {x C dx l : Addr}
theorem int_ref (b : Int) (u : Tok) (x C dx : Addr) : Meets (Builtin.«int.__eq__» ⟨[.int b u, .ref x], []⟩) (fun _ R s => s.heap.get? x = some (PySem.W.instObj C dx) ∧ R (.ok (.ret .notImplemented)) s) :=
  .of_wp fun prog w A R s h => by obtain ⟨hp, g, d, tk, os⟩ := s; obtain ⟨hl, h⟩ := h; unfold PySem.W.instObj at hl; wp_walk using wpAny_loadPart' hl, wpAny_load hl; exact ⟨_, rfl, h⟩
theorem str_ref (b : Str) (u : Tok) (x C dx : Addr) : Meets (Builtin.«str.__eq__» ⟨[.str b u, .ref x], []⟩) (fun _ R s => s.heap.get? x = some (PySem.W.instObj C dx) ∧ R (.ok (.ret .notImplemented)) s) :=
  .of_wp fun prog w A R s h => by obtain ⟨hp, g, d, tk, os⟩ := s; obtain ⟨hl, h⟩ := h; unfold PySem.W.instObj at hl; wp_walk using wpAny_loadPart' hl, wpAny_load hl; exact ⟨_, rfl, h⟩
theorem dec_int {b : Int} {u : Tok} {Q : Value → Shared → Prop} (hx : s.heap.get? x = some (PySem.W.instObj C dx)) (h : Q .notImplemented s) : wpAny (model prog w) A (call (.builtin "int.__eq__") [.int b u, .ref x]) Q E s :=
  call_meets F.slot_int_eq (T := "int") rfl F.entry_int_eq (F.args_int_eq_2 _ _) (int_ref b u x C dx) ⟨hx, h⟩
theorem dec_str {b : Str} {u : Tok} {Q : Value → Shared → Prop} (hx : s.heap.get? x = some (PySem.W.instObj C dx)) (h : Q .notImplemented s) : wpAny (model prog w) A (call (.builtin "str.__eq__") [.str b u, .ref x]) Q E s :=
  call_meets F.slot_str_eq (T := "str") rfl F.entry_str_eq (F.args_str_eq_2 _ _) (str_ref b u x C dx) ⟨hx, h⟩
theorem dec_list {Q : Value → Shared → Prop} {ol : Obj} (hl : s.heap.get? l = some ol) (hc : ol.cls = .type "list") (hi : PySem.W.Looks (model prog w) s.heap (isInstance (.ref x) (.type "list")) false) (h : Q .notImplemented s) :
    wpAny (model prog w) A (call (.builtin "list.__eq__") [.ref l, .ref x]) Q E s := by
  refine GQ.call_here F.slot_list_eq ⟨_, hl, hc⟩ F.entry_list_eq (F.args_list_eq_2 _ _) ?_
  unfold Builtin.«list.__eq__»
  repeat (first | (with_reducible refine wpAny_bind (hi.here ?_)) | wp_step)
  exact h
theorem dec_tuple {Q : Value → Shared → Prop} {ol : Obj} (hl : s.heap.get? l = some ol) (hc : ol.cls = .type "tuple") (hi : PySem.W.Looks (model prog w) s.heap (isInstance (.ref x) (.type "tuple")) false) (h : Q .notImplemented s) :
    wpAny (model prog w) A (call (.builtin "tuple.__eq__") [.ref l, .ref x]) Q E s := by
  refine GQ.call_here F.slot_tuple_eq ⟨_, hl, hc⟩ F.entry_tuple_eq (F.args_tuple_eq_2 _ _) ?_
  unfold Builtin.«tuple.__eq__»
  repeat (first | (with_reducible refine wpAny_bind (hi.here ?_)) | wp_step)
  exact h
end
end NeK
set_option Elab.async false
set_option linter.all false
set_option maxRecDepth 100000
set_option maxHeartbeats 4000000
/-! ==, != and `not in` of live objects, by the class's own __eq__; what is known is kept. -/
namespace Sq
open PySem PySem.Spec PyProof.Rows L2 GenW
/-- anything but an object of the class -/
inductive Oth (H : Hp) : V → String → Prop where
  | non : Oth H .non "NoneType"
  | int (i : Int) : Oth H (.int i) "int"
  | str (z : Str) : Oth H (.str z) "str"
  | lst {a : Addr} {xs : List V} (e : H a = some (.lst xs)) : Oth H (.ref a) "list"
  | tup {a : Addr} {xs : List V} (e : H a = some (.tup xs)) : Oth H (.ref a) "tuple"
theorem Oth.same {H H' : Hp} {v : V} {T : String} (o : Oth H v T) (s : Same H H') : Oth H' v T := by
  cases o with
  | non => exact .non
  | int i => exact .int i
  | str z => exact .str z
  | lst e => exact .lst (s _ _ e)
  | tup e => exact .tup (s _ _ e)
/-- what the other kinds' == and isinstance ask of the class -/
structure OthC (K : PySem.W.Frag) (C : Addr) : Prop where
  is_ : ∀ T, T = "NoneType" ∨ T = "int" ∨ T = "str" ∨ T = "list" ∨ T = "tuple" → PySem.W.kitOne K (.type T) (.ref C) = some false
  mro : ∀ T, T = "NoneType" ∨ T = "int" ∨ T = "str" ∨ T = "list" ∨ T = "tuple" → PySem.W.mroIn K C (.type T) = some false
structure NeC (K : PySem.W.Frag) (C : Addr) : Prop where
  ne : PySem.W.findIn K (.ref C) "__ne__" = some (some (.builtin "object.__ne__"))
  top : PySem.W.mroIn K C (.type "object") = some true
  str : PySem.W.notFirst K C (.type "str") = true
theorem Oth.t {H : Hp} {v : V} {T : String} (o : Oth H v T) : T = "NoneType" ∨ T = "int" ∨ T = "str" ∨ T = "list" ∨ T = "tuple" := by
  cases o <;> simp
section
variable {X : Cx} {Θ : Shared → Prop} {ys : List Str} {k : Nat} {C : Addr} {ps : List Str} {sp : Sp} {pins : List (Addr × Obj)} {σ : L2.St} {H : Hp} {s : Shared}
theorem call_isO (c : OthC X.K C) : CallR X (.builtin "isinstance") (fun xs H Q => ∃ v T, xs = [v, .ref C] ∧ Oth H v T ∧ Q (.bl false) H) := by
  intro pins s σ H xs us Q I r h
  obtain ⟨v, T, rfl, o, q⟩ := h
  obtain ⟨u, w', rfl, ru, rw'⟩ := vals2 r
  cases rw'
  have ty : TyOf X.K H v (.type T) := by
    cases o with
    | non => exact .non
    | int i => exact .int i
    | str z => exact .str z
    | lst e => exact .lst e
    | tup e => exact .tup e
  exact isinst_ok I ru ty (c.is_ T o.t) fun tk => ⟨.bl false, H, I.tok _, rfl, q⟩
/-- a def is called here or right below; what is known is kept -/
theorem fn_called {f : Addr} {fd : FuncData} {us : List Value} {vs : List V} {Q : VK} (Cl : Clo X ys Θ) (F : FnOk X.prog X.w X.K X.mg X.base CX0 k f fd ps sp) (hb : Binds X.K fd ps []) {A : Around} (sb : Sub X k A) (I : Inv X pins σ H s) (θ : Θ s) (r : Vals vs us) (q : sp vs H Q E0) :
    wpAny (model X.prog X.w) A (call (.ref f) us) (fun u s' => Θ s' ∧ EP X pins σ Q u s') X.xe s := by
  have e0 : Env0 X.prog X.w X.K X.mg X.base A X.stack s H := by
    have e := I.env0
    exact ⟨by rw [sb.fr]; exact e.frames, e.mod, e.bs, e.bsz, e.funs, e.frf, e.hok, e.bare⟩
  have hl : us.length = ps.length := by rw [← r.length]; exact F.len _ _ _ _ q
  have bind := hb s us I.kIn (by rw [List.append_nil]; exact hl)
  rw [List.append_nil] at bind
  have called : wpAny (model X.prog X.w) A (call (.ref f) us) (fun u s' => (s.toks ≤ s'.toks → Θ s') ∧ EP X pins σ Q u s') X.xe s := by
    refine wpAny_call (codeAny_mono (F.run A X.stack s H ⟨us, []⟩ us vs Q E0 sb.room e0 bind r q) fun r s' hq => ?_)
    match r, hq with
    | .error e, hq => exact pass0 pins σ H s e s' I hq
    | .ok (.ret u), hq =>
      have ce : CE X.stack X.prog X.w H s Q u s' := hq
      obtain ⟨_, _, _, _, un, _⟩ := id ce
      exact ⟨fun up => Cl.un0 I up un θ, I.after ce⟩
  exact wpAny_mono (PySem.wpAny_toks called) (fun u s' z => ⟨z.2.1 z.1, z.2.2⟩) fun _ _ z => z.2
theorem ow_eqL (Cl : Clo X ys Θ) (D : EqM X.prog X.w X.K X.mg X.base k C ps sp) (hr : Room k X.A) : OpW X Θ (compareOp .Eq) (rEqL C sp) := by
  obtain ⟨f, fd, F, hs, hf, hb⟩ := D.ex
  intro pins s σ H x y v u Q I θ rx ry h
  obtain ⟨a, dx, m, ks, b, dy, m2, ks2, rfl, rfl, La, Lb, q⟩ := h
  cases rx
  cases ry
  show wpAny (model X.prog X.w) X.A (richCompare .Eq (.ref a) (.ref b)) (fun w s' => Θ s' ∧ EP X pins σ Q w s') X.xe s
  obtain ⟨od, J, _⟩ := (La.obj I.hok).1.look
  obtain ⟨od', J', _⟩ := (Lb.obj I.hok).1.look
  obtain ⟨mm, hF⟩ := I.fr
  refine PySem.W.cmp_K (op := .Eq) (tb := .ref C) hr.units0 hF I.ok.mod.kin J J'.type (by simp [PySem.W.notFirst]) hs hf ?_
  refine thn (fn_called Cl F hb ⟨hr, rfl⟩ I θ (.cons (show RelV (V.ref a) (Value.ref a) from rfl) (.cons (show RelV (V.ref b) (Value.ref b) from rfl) .nil)) q) fun u s' hh => ?_
  obtain ⟨θ', z, H', I', rz, c, ez, q2⟩ := hh
  subst ez
  cases rz
  exact ⟨θ', .bl c, H', I', rfl, q2⟩
/-- x != y, y of the class or a text -/
def rNeL (C : Addr) (sp : Sp) : R2 := fun x y H Q => ∃ a dx m ks, x = .ref a ∧ Live H a C dx m ks ∧ ((∃ b dy m2 ks2, y = .ref b ∧ Live H b C dy m2 ks2) ∨ ∃ z, y = .str z) ∧ sp [.ref a, y] H (fun v H2 => ∃ c, v = .bl c ∧ Q (.bl (!c)) H2) E0
theorem ow_neL (Cl : Clo X ys Θ) (D : EqM X.prog X.w X.K X.mg X.base k C ps sp) (N : NeC X.K C) (hr : Room (k + 1) X.A) : OpW X Θ (compareOp .NotEq) (rNeL C sp) := by
  obtain ⟨f, fd, F, hs, hf, hb⟩ := D.ex
  intro pins s σ H x y v u Q I θ rx ry h
  obtain ⟨a, dx, m, ks, rfl, La, hy, q⟩ := h
  cases rx
  show wpAny (model X.prog X.w) X.A (richCompare .NotEq (.ref a) u) (fun w s' => Θ s' ∧ EP X pins σ Q w s') X.xe s
  obtain ⟨od, J, _⟩ := (La.obj I.hok).1.look
  obtain ⟨mm, hF⟩ := I.fr
  have go : ∀ tb, PySem.W.Looks (model X.prog X.w) s.heap (typeOf u) tb → PySem.W.notFirst X.K C tb = true → wpAny (model X.prog X.w) X.A (richCompare .NotEq (.ref a) u) (fun w s' => Θ s' ∧ EP X pins σ Q w s') X.xe s := fun tb lt nf => by
    refine NeK.ne_K (by have := hr.un; omega) hF I.ok.mod.kin J lt nf N.ne N.top hs hf ?_
    refine thn (fn_called Cl F hb (A := X.A.in1) ⟨hr.in1, rfl⟩ I θ (.cons (show RelV (V.ref a) (Value.ref a) from rfl) (.cons ry .nil)) q) fun u s' hh => ?_
    obtain ⟨θ', z, H', I', rz, c, ez, q2⟩ := hh
    subst ez
    cases rz
    exact ⟨c, rfl, θ', .bl (!c), H', I', rfl, q2⟩
  rcases hy with ⟨b, dy, m2, ks2, rfl, Lb⟩ | ⟨z, rfl⟩
  · cases ry
    obtain ⟨od', J', _⟩ := (Lb.obj I.hok).1.look
    exact go (.ref C) J'.type (by simp [PySem.W.notFirst])
  · obtain ⟨t, rfl⟩ := (show ∃ t, u = Value.str z t from ry)
    exact go (.type "str") (PySem.W.Looks.of_pure rfl) N.str
/-- x not in a list of which no item is of the class -/
def rNinL (C : Addr) (sp : Sp) : R2 := fun x y H Q => ∃ a dx m ks p zs, x = .ref a ∧ y = .ref p ∧ Live H a C dx m ks ∧ H p = some (.lst zs) ∧ (∀ v ∈ zs, (∃ T, Oth H v T) ∧ sp [.ref a, v] H (fun r H2 => r = .bl false ∧ H2 = H) E0) ∧ Q (.bl true) H
theorem op_ninL (D : EqM X.prog X.w X.K X.mg X.base k C ps sp) (O : OthC X.K C) (hr : Room (k + 1) X.A) : OpR X (compareOp .NotIn) (rNinL C sp) := by
  obtain ⟨f, fd, F, hs, hf, hb⟩ := D.ex
  intro pins s σ H x y v u Q I rx ry h
  obtain ⟨a, dx, m, ks, p, zs, rfl, rfl, La, hp, each, q⟩ := h
  cases rx
  cases ry
  refine NeK.notIn_listG (N := zs.length) (fun _ s' => Inv X pins σ H s') (fun i s' I' => ?_) (fun s' I' => ⟨.bl true, H, I', rfl, q⟩) I
  obtain ⟨z, its, n, r, e⟩ := I'.hok p _ hp
  refine ⟨its.toArray, n, e, by rw [List.size_toArray, ← r.length], fun h1 => ?_⟩
  have k1 : i < zs.length := by rw [r.length]; simpa using h1
  obtain ⟨w', hw, rw'⟩ := r.get (List.getElem?_eq_getElem k1)
  have ei : its.toArray[i] = w' := by
    have h2 : i < its.length := by simpa using h1
    rw [List.getElem?_eq_getElem h2] at hw
    simpa using Option.some.inj hw
  rw [ei]
  obtain ⟨⟨T, o⟩, spo⟩ := each _ (List.getElem_mem k1)
  have ob := (La.obj I'.hok).1
  obtain ⟨od, J, _⟩ := id ob.look
  obtain ⟨mm, hF⟩ := I'.fr
  generalize zs[i] = vz at rw' o spo
  have asked : wpAny (model X.prog X.w) X.A.in1 (call (.ref f) [.ref a, w']) (PySem.W.CmpBack fun v s' => v = .bool false ∧ Inv X pins σ H s') X.xe s' := by
    refine thn (fn_called (Θ := fun _ => 0 ≤ s.toks) (ys := []) ⟨fun _ _ _ _ _ h => h, fun _ _ _ _ _ h => h, fun _ _ _ _ h => h⟩ F hb (A := X.A.in1) ⟨hr.in1, rfl⟩ I' (Nat.zero_le _) (.cons (show RelV (V.ref a) (Value.ref a) from rfl) (.cons rw' .nil)) spo) fun u s2 hh => ?_
    obtain ⟨_, z, H', I2, rz, ez, eH⟩ := hh
    subst ez eH
    cases rz
    exact ⟨rfl, I2⟩
  have hu : X.A.in1.units < cLine := hr.in1.units0
  have fin : (w' = .none ∨ (∃ i t, w' = .int i t) ∨ (∃ z t, w' = .str z t) ∨ ∃ l, w' = .ref l) → w' ≠ .ref a → wpAny (model X.prog X.w) X.A.in1 (richCompare .Eq w' (.ref a)) (fun v s' => v = .bool false ∧ Inv X pins σ H s') X.xe s' → wpAny (model X.prog X.w) X.A.in1 (eqBool w' (.ref a)) (fun r s' => r = false ∧ Inv X pins σ H s') X.xe s' := fun kind ne rc => by
    rcases kind with rfl | ⟨i, t, rfl⟩ | ⟨z, t, rfl⟩ | ⟨l, rfl⟩ <;>
    · unfold eqBool
      refine wpAny_holding ?_
      refine wpAny_ite_split (fun hab => absurd (eq_of_beq hab) ne) (fun _ => ?_)
      refine wpAny_bind (wpAny_mono rc (fun v s2 hv => ?_) fun _ _ x => x)
      obtain ⟨rfl, I2⟩ := hv
      exact wpAny_truthy_bool ⟨rfl, I2⟩
  cases o with
  | non =>
    cases (show w' = Value.none from rw')
    exact fin (.inl rfl) (fun z => nomatch z) (NeK.eq_K2 (T := "NoneType") hu hF I'.ok.mod.kin J rfl (O.mro _ (.inl rfl)) PySem.F.slot_NoneType_eq (fun Q' q' => NeK.dec_none q') hs hf asked)
  | int i =>
    obtain ⟨t, q'⟩ := (show ∃ t, w' = Value.int i t from rw')
    cases q'
    exact fin (.inr (.inl ⟨_, _, rfl⟩)) (fun z => nomatch z) (NeK.eq_K2 (T := "int") hu hF I'.ok.mod.kin J rfl (O.mro _ (.inr (.inl rfl))) PySem.F.slot_int_eq (fun Q' q' => NeK.dec_int ob.1 q') hs hf asked)
  | str y =>
    obtain ⟨t, q'⟩ := (show ∃ t, w' = Value.str y t from rw')
    cases q'
    exact fin (.inr (.inr (.inl ⟨_, _, rfl⟩))) (fun z => nomatch z) (NeK.eq_K2 (T := "str") hu hF I'.ok.mod.kin J rfl (O.mro _ (.inr (.inr (.inl rfl)))) PySem.F.slot_str_eq (fun Q' q' => NeK.dec_str ob.1 q') hs hf asked)
  | @lst l xs el =>
    cases (show w' = Value.ref l from rw')
    obtain ⟨_, _, nn, _, h1⟩ := (show ObjOk X.prog X.w H s'.heap l (.lst xs) from I'.hok l _ el)
    refine fin (.inr (.inr (.inr ⟨_, rfl⟩))) (fun z => ?_) (NeK.eq_K2 (T := "list") hu hF I'.ok.mod.kin J ⟨_, h1, rfl⟩ (O.mro _ (.inr (.inr (.inr (.inl rfl))))) PySem.F.slot_list_eq (fun Q' q' => NeK.dec_list h1 rfl (J.type.andThen (PySem.W.looks_mroIn I'.kIn (O.mro _ (.inr (.inr (.inr (.inl rfl))))))) q') hs hf asked)
    injection z with z
    subst z
    rw [La.i] at el
    cases el
  | @tup l xs el =>
    cases (show w' = Value.ref l from rw')
    obtain ⟨_, _, _, pp⟩ := (show ObjOk X.prog X.w H s'.heap l (.tup xs) from I'.hok l _ el)
    obtain ⟨o, h1, h2, _⟩ := pp
    refine fin (.inr (.inr (.inr ⟨_, rfl⟩))) (fun z => ?_) (NeK.eq_K2 (T := "tuple") hu hF I'.ok.mod.kin J ⟨_, h1, h2⟩ (O.mro _ (.inr (.inr (.inr (.inr rfl))))) PySem.F.slot_tuple_eq (fun Q' q' => NeK.dec_tuple h1 h2 (J.type.andThen (PySem.W.looks_mroIn I'.kIn (O.mro _ (.inr (.inr (.inr (.inr rfl))))))) q') hs hf asked)
    injection z with z
    subst z
    rw [La.i] at el
    cases el
end
end Sq
set_option Elab.async false
set_option linter.all false
set_option maxRecDepth 100000
set_option maxHeartbeats 8000000
set_option exponentiation.threshold 2000
namespace Sq
open PySem PySem.Spec PyProof.Rows L2
section
variable {P : Program} {w : World} {K : PySem.W.Frag} {mg : Str → Option Value} {base : Heap} {C : Addr}
theorem atHead (v : V) (xs : List V) : atI (v :: xs) 0 = some v := by
  unfold atI ixN
  rw [if_pos (by decide), if_pos (by rw [List.length_cons]; omega)]
  rfl
theorem dpIntsQ {H : Hp} : ∀ (ds : List Int), DpAll K H (ds.map V.int) (ds.map PyData.int)
  | [] => .nil
  | d :: ds => .cons (.int d) (dpIntsQ ds)
theorem laysIntsQ : ∀ (ds : List Int), PyData.canLayAll0 (ds.map PyData.int) = true
  | [] => rfl
  | d :: ds => by
    show (PyData.canLay0 (.int d) && PyData.canLayAll0 (ds.map PyData.int)) = true
    rw [laysIntsQ ds]
    rfl
theorem deepIntsQ : ∀ (ds : List Int), PyData.depthAll (ds.map PyData.int) ≤ 1
  | [] => Nat.zero_le _
  | _ :: ds => Nat.max_le.mpr ⟨Nat.zero_le _, deepIntsQ ds⟩
theorem shapedIntsQ (ds : List Int) : SeqAt.shaped (.list (ds.map PyData.int)) = true :=
  Bool.and_eq_true_iff.mpr ⟨laysIntsQ ds, decide_eq_true (Nat.le_trans (Nat.add_le_add_right (deepIntsQ ds) 1) (by decide))⟩
/-- == of two live texts -/
def spEqT (C : Addr) : Sp := fun vs H Q _ => ∃ (p dx r t p2 dx2 r2 t2 : Addr) (u0 v0 : Value) (b c : Nat) (x y : List Nat) (T T2 : List (List Nat)) (ks ks2 : List Int), vs = [.ref p, .ref p2] ∧ Txt2 C H p dx r t u0 b (x :: T) ks ∧ Txt2 C H p2 dx2 r2 t2 v0 c (y :: T2) ks2 ∧ Q (.bl (decide (x = y) && decide (b = c) && decide (ks = ks2))) H
theorem ok_eqT {f : Addr} {fd : FuncData} (F : Fun K "__eq__" "SqueezedText.__eq__" s_SqueezedTexteq f fd) (B : Bi mg) (Z : Lc K C) (cI : C8.InsC K C) (g_SqueezedText : mg "SqueezedText" = some (.ref C)) : FnOk P w K mg base CX0 1 f fd ["self", "other"] (spEqT C) := by
  refine F.ok sc_SqueezedTexteq (fun vs H Q E h => ?_) (fun cdv A outer s H vs Q E hr h => ?_)
  · obtain ⟨p, dx, r, t, p2, dx2, r2, t2, u0, v0, b, c, x, y, T, T2, ks, ks2, rfl, _⟩ := h
    rfl
  · obtain ⟨p, dx, r, t, p2, dx2, r2, t2, u0, v0, b, c, x, y, T, T2, ks, ks2, rfl, L, L2, q⟩ := h
    refine ⟨_, (pss_cons (ps_if (pt_not (pt_val (pe_callB (id := "isinstance") (call_isL cI) (by rfl) B.n_isinstance (by decide +kernel) (pa_cons (pv 1) (pa_cons (pe_glob (v := .ref C) (by rfl) g_SqueezedText rfl) pa_nil))))) (pss_one (ps_ret pe_bl)) pss_nil)
      (pss_one (ps_ret (pe_and (pe_cmpR op_eq (pe_ix (r := rIxL K) ix_list (pe_fldL (pv 0)) pe_int (fun _ _ => rfl)) (pe_ix (r := rIxL K) ix_list (pe_fldL (pv 1)) pe_int (fun _ _ => rfl)) (nomark _))
        (pe_and (pe_cmpR op_eq (pe_fldL (pv 0)) (pe_fldL (pv 1)) (nomark _)) (pe_one (pe_cmpR (op_eqD hr.units) (pe_fldL (pv 0)) (pe_fldL (pv 1)) (nomark _)))))))), ?_⟩
    obtain ⟨m, LL, mC, mR, mT, mN⟩ := id L.m
    obtain ⟨m2, LL2, mC2, mR2, mT2, mN2⟩ := id L2.m
    refine ⟨_, rfl, p2, dx2, m2, _, rfl, LL2, true, rfl, iteF ?_⟩
    refine ⟨_, rfl, p, C, dx, m, _, .ref t, .ref t, rfl, LL, Z.cl, Z.nT, mT, rfl, t, _, 0, .str (SX.S x), rfl, rfl, SqL.of L.tx, atHead _ _, ?_⟩
    refine ⟨_, rfl, p2, C, dx2, m2, _, .ref t2, .ref t2, rfl, LL2, Z.cl, Z.nT, mT2, rfl, t2, _, 0, .str (SX.S y), rfl, rfl, SqL.of L2.tx, atHead _ _, rfl, _, rfl, ?_⟩
    by_cases c1 : x = y
    · subst c1
      rw [decide_eq_true (rfl : V.str (SX.S x) = V.str (SX.S x))]
      refine iteT ?_
      refine ⟨_, rfl, p, C, dx, m, _, u0, _, rfl, LL, Z.cl, Z.nC, mC, L.u, _, rfl, p2, C, dx2, m2, _, v0, _, rfl, LL2, Z.cl, Z.nC, mC2, L2.u, rfl, _, rfl, ?_⟩
      by_cases c2 : b = c
      · subst c2
        rw [decide_eq_true (rfl : V.str (⟨#[b]⟩ : Str) = V.str (⟨#[b]⟩ : Str))]
        refine iteT ?_
        refine ⟨_, rfl, p, C, dx, m, _, .ref r, .ref r, rfl, LL, Z.cl, Z.nR, mR, rfl, _, rfl, p2, C, dx2, m2, _, .ref r2, .ref r2, rfl, LL2, Z.cl, Z.nR, mR2, rfl, ?_⟩
        refine ⟨.list (ks.map PyData.int), .list (ks2.map PyData.int), .lst (SqL.of L.rp) (dpIntsQ _), .lst (SqL.of L2.rp) (dpIntsQ _), shapedIntsQ _, shapedIntsQ _, ?_⟩
        rw [eqv_ints]
        simpa using q
      · rw [decide_eq_false (show ¬ V.str (⟨#[b]⟩ : Str) = V.str (⟨#[c]⟩ : Str) from fun z => c2 (by injection z with z; injection z with z; injection z with z; injection z))]
        refine iteF ?_
        simpa [c2] using q
    · rw [decide_eq_false (show ¬ V.str (SX.S x) = V.str (SX.S y) from fun z => c1 (SX.S_inj (by injection z)))]
      refine iteF ?_
      simpa [c1] using q
/-- == of a live text and anything else -/
def spEqO (C : Addr) : Sp := fun vs H Q _ => ∃ (p dx : Addr) (m : Str → Option Value) (ks : List Str) (v : V) (T : String), vs = [.ref p, v] ∧ Live H p C dx m ks ∧ Oth H v T ∧ Q (.bl false) H
theorem ok_eqO {f : Addr} {fd : FuncData} (F : Fun K "__eq__" "SqueezedText.__eq__" s_SqueezedTexteq f fd) (B : Bi mg) (O : OthC K C) (g_SqueezedText : mg "SqueezedText" = some (.ref C)) : FnOk P w K mg base CX0 1 f fd ["self", "other"] (spEqO C) := by
  refine F.ok sc_SqueezedTexteq (fun vs H Q E h => ?_) (fun cdv A outer s H vs Q E hr h => ?_)
  · obtain ⟨p, dx, m, ks, v, T, rfl, _⟩ := h
    rfl
  · obtain ⟨p, dx, m, ks, v, T, rfl, L, o, q⟩ := h
    refine ⟨_, (pss_cons (ps_if (pt_not (pt_val (pe_callB (id := "isinstance") (call_isO O) (by rfl) B.n_isinstance (by decide +kernel) (pa_cons (pv 1) (pa_cons (pe_glob (v := .ref C) (by rfl) g_SqueezedText rfl) pa_nil))))) (pss_one (ps_ret pe_bl)) pss_nil) pss_no), ?_⟩
    exact ⟨_, rfl, _, T, rfl, o, false, rfl, iteT q⟩
def spEqX (C : Addr) : Sp := fun vs H Q E => spEqT C vs H Q E ∨ spEqO C vs H Q E
theorem FnOk.orS {k : Nat} {f : Addr} {fd : FuncData} {ps : List Str} {spA spB : Sp} {CXf : CXT} (a : FnOk P w K mg base CXf k f fd ps spA) (b : FnOk P w K mg base CXf k f fd ps spB) : FnOk P w K mg base CXf k f fd ps (fun vs H Q E => spA vs H Q E ∨ spB vs H Q E) :=
  ⟨fun vs H Q E h => h.elim (a.len vs H Q E) (b.len vs H Q E), fun A outer s H args us vs Q E hr e bd rv h => h.elim (a.run A outer s H args us vs Q E hr e bd rv) (b.run A outer s H args us vs Q E hr e bd rv)⟩
end
end Sq
set_option Elab.async false
set_option linter.all false
set_option maxRecDepth 100000
set_option maxHeartbeats 8000000
set_option exponentiation.threshold 2000
namespace Sq
open PySem PySem.Spec PyProof.Rows L2
/-! ### replacing k of b by b -/
theorem no_hit {b k j : Nat} {t : List Nat} (hj : j < k) (ht : t.head? ≠ some b) : ¬ (List.replicate j b ++ t).take k = List.replicate k b := fun e => by
  have e2 := congrArg (fun z => z[j]?) e
  have e3 : ((List.replicate j b ++ t).take k)[j]? = (List.replicate k b)[j]? := e2
  rw [List.getElem?_take_of_lt hj, List.getElem?_append_right (by rw [List.length_replicate]; exact Nat.le_refl _), List.length_replicate, Nat.sub_self, List.getElem?_replicate_of_lt hj] at e3
  exact ht (by rw [List.head?_eq_getElem?]; exact e3)
theorem replL_run {b k : Nat} (hk : 2 ≤ k) {t : List Nat} (ht : t.head? ≠ some b) : ∀ r : Nat, StrLaws.replL (List.replicate k b) [b] (List.replicate r b ++ t) = List.replicate (once (r : Int) (k : Int)).toNat b ++ StrLaws.replL (List.replicate k b) [b] t := by
  intro r
  induction r using Nat.strongRecOn with
  | ind r ih =>
    by_cases c : r < k
    · have e1 : (once (r : Int) (k : Int)).toNat = r := by
        rw [once_less (Int.natCast_nonneg r) (by omega)]
        exact Int.toNat_natCast r
      rw [e1]
      clear e1 ih
      induction r with
      | zero => rfl
      | succ r ih =>
        rw [List.replicate_succ, List.cons_append, List.cons_append, StrLaws.replL_miss, ih (by omega)]
        rw [List.length_replicate, ← List.cons_append, ← List.replicate_succ]
        exact no_hit c ht
    · have ck : k ≤ r := Nat.le_of_not_lt c
      obtain ⟨d, rfl⟩ := Nat.exists_eq_add_of_le ck
      have e1 : (once ((k + d : Nat) : Int) (k : Int)).toNat = 1 + (once (d : Int) (k : Int)).toNat := by
        have h0 : 0 ≤ once (d : Int) (k : Int) := once_nonneg (by omega) (Int.natCast_nonneg d)
        have e2 : once ((k + d : Nat) : Int) (k : Int) = 1 + once (d : Int) (k : Int) := by
          unfold once
          rw [Int.natCast_add, Int.add_comm (k : Int), Int.add_ediv_of_dvd_right (Int.dvd_refl _), Int.ediv_self (by omega), Int.add_emod_right]
          omega
        rw [e2]
        omega
      have e3 : List.replicate (k + d) b ++ t = b :: (List.replicate (k - 1) b ++ (List.replicate d b ++ t)) := by
        obtain ⟨k', rfl⟩ : ∃ k', k = k' + 1 := ⟨k - 1, by omega⟩
        rw [← List.replicate_append_replicate, List.replicate_succ, List.append_assoc]
        rfl
      have e4 : b :: (List.replicate (k - 1) b ++ (List.replicate d b ++ t)) = List.replicate k b ++ (List.replicate d b ++ t) := by
        obtain ⟨k', rfl⟩ : ∃ k', k = k' + 1 := ⟨k - 1, by omega⟩
        rfl
      rw [e3, StrLaws.replL_hit, e4, List.length_replicate, List.drop_left' (by rw [List.length_replicate]), ih d (by omega), e1, Nat.add_comm 1, List.replicate_succ]
      · rfl
      · intro z
        have := congrArg List.length z
        rw [List.length_replicate] at this
        simp at this
        omega
      · rw [e4, List.length_replicate]
        exact List.take_left' (by rw [List.length_replicate])
theorem replL_sqT {b k : Nat} (hk : 2 ≤ k) : ∀ (xs : List Nat) (r : Nat), StrLaws.replL (List.replicate k b) [b] (List.replicate r b ++ xs) = sqT b [(k : Int)] xs (r : Int)
  | [], r => by
    rw [replL_run hk (by intro z; cases z), StrLaws.replL_nil, List.append_nil]
    rfl
  | x :: xs, r => by
    rw [sqT_cons]
    by_cases c : x = b
    · rw [if_pos c, c, show List.replicate r b ++ b :: xs = List.replicate (r + 1) b ++ xs from by rw [List.replicate_succ', List.append_assoc]; rfl]
      exact replL_sqT hk xs (r + 1)
    · rw [if_neg c, replL_run hk (by intro z; exact c (Option.some.inj z))]
      have m : StrLaws.replL (List.replicate k b) [b] (x :: xs) = x :: StrLaws.replL (List.replicate k b) [b] xs := StrLaws.replL_miss (by
        rw [List.length_replicate]
        exact no_hit (j := 0) (by omega) (by intro z; exact c (Option.some.inj z)))
      rw [m]
      exact congrArg (fun z => List.replicate (sq (r : Int) [(k : Int)]).toNat b ++ x :: z) (replL_sqT hk xs 0)
theorem repl_sqT (b : Nat) {k : Int} (hk : 2 ≤ k) (l : List Nat) : Txt.replace (SX.S l) (_root_.PySem.Txt.mul ⟨#[b]⟩ k) ⟨#[b]⟩ = SX.S (sqT b [k] l 0) := by
  obtain ⟨n, rfl⟩ := Int.eq_ofNat_of_zero_le (show 0 ≤ k by omega)
  have hn : 2 ≤ n := by omega
  refine TL.ext_tl ?_
  have e := StrLaws.replace_list (x := SX.S l) (y := _root_.PySem.Txt.mul ⟨#[b]⟩ (n : Int)) (z := ⟨#[b]⟩) (by
    have := congrArg List.length (mulM b hk)
    rw [List.length_replicate] at this
    show 1 ≤ (_root_.PySem.Txt.mul ⟨#[b]⟩ (n : Int)).cps.toList.length
    omega)
  rw [mulM b hk] at e
  exact e.trans (replL_sqT hn l 0)
section
variable {P : Program} {w : World} {K : PySem.W.Frag} {mg : Str → Option Value} {base : Heap} {C : Addr}
/-- the texts one by one -/
def sqs (b : Nat) (l : List Nat) (ns : List Int) : List Nat := ns.foldl (fun l k => sqT b [k] l 0) l
theorem sqs_snoc (b : Nat) (l : List Nat) (ns : List Int) (k : Int) : sqs b l (ns ++ [k]) = sqT b [k] (sqs b l ns) 0 := by
  unfold sqs
  rw [List.foldl_append]
  rfl
def Far (ns : List Int) : Prop := ∀ k ∈ ns, 2 ≤ k ∧ k ≤ 1000000
theorem sqs_size {b : Nat} : ∀ {ns : List Int} {l : List Nat}, l.length ≤ 2000 → Far ns → (sqs b l ns).length ≤ 2000
  | [], _, hl, _ => hl
  | k :: ns, l, hl, h => by
    show (sqs b (sqT b [k] l 0) ns).length ≤ 2000
    exact sqs_size (sqT_size (h k List.mem_cons_self).1 hl) fun x hx => h x (List.mem_cons_of_mem _ hx)
def spReplaced (K : PySem.W.Frag) : Sp := fun vs H Q _ => ∃ (l : List Nat) (b : Nat) (a : Addr) (ns : List Int), vs = [.str (SX.S l), .str ⟨#[b]⟩, .ref a] ∧ l.length ≤ 2000 ∧ SqL K H a (ns.map V.int) ∧ Far ns ∧ ∀ H', Same H H' → Q (.str (SX.S (sqs b l ns))) H'
theorem ok_lawreplaced {f : Addr} {fd : FuncData} (F : Fun K "_law_replaced" "_law_replaced" s_lawreplaced f fd) : FnT P w K mg base 1 f fd ["written", "sign", "numbers"] 1 (spReplaced K) := by
  refine fnt_ofL F sc_lawreplaced (fun vs H Q E h => ?_) (y := "sign") rfl rfl (fun cdv A outer s H us vs Q u0 hr h rv tkn hu => ?_)
  · obtain ⟨l, b, a, ns, rfl, _⟩ := h
    rfl
  · obtain ⟨l, b, a, ns, rfl, hl, hS, far, q⟩ := h
    have good : Tkn 0 [u0] s.toks := fun z t e one => tkn z t (by rw [hu]; exact e) one
    have cl : Clo (cxOf CX0 P w K mg base ["written", "sign", "numbers", "number"] "_law_replaced" (defScope s_lawreplaced) f cdv A outer s H E0).nox ["sign"] (fun s' => Raw (cxOf CX0 P w K mg base ["written", "sign", "numbers", "number"] "_law_replaced" (defScope s_lawreplaced) f cdv A outer s H E0).nox "sign" u0 s' ∧ s.toks ≤ s'.toks) := (clo_raw rfl).and clo_n
    have kn : KnownU (cxOf CX0 P w K mg base ["written", "sign", "numbers", "number"] "_law_replaced" (defScope s_lawreplaced) f cdv A outer s H E0).nox (fun s' => Raw (cxOf CX0 P w K mg base ["written", "sign", "numbers", "number"] "_law_replaced" (defScope s_lawreplaced) f cdv A outer s H E0).nox "sign" u0 s' ∧ s.toks ≤ s'.toks) "sign" u0 := ⟨fun s' h => .inl ⟨rfl, h.1⟩⟩
    refine ⟨_, wu_cons (ws_forL rfl PassesOwn.never cl (wv 2) (wg_name (i := 3) cl (by decide) sc_lawreplaced.nd rfl (Or.inl rfl))
      (wss_one (ws_set (i := 0) cl (by decide) sc_lawreplaced.nd rfl (Or.inl rfl) (we_repM (i := 0) (j := 1) (l := 3) kn good (fun _ h => h.2) cl rfl (Or.inl rfl) rfl (Or.inl rfl) rfl (Or.inl rfl)))))
      (wu_ps (pss_one (ps_ret (pv 0)))), ?_⟩
    refine ⟨_, rfl, a, ns.map V.int, rfl, hS, (fun i σ H' => ∃ y, σ = [some (.str (SX.S (sqs b l (ns.take i)))), some (.str ⟨#[b]⟩), some (.ref a), y] ∧ Same H H'), ⟨none, rfl, Same.refl _⟩, fun i σ H' h => by obtain ⟨_, _, sm⟩ := h; exact sm.seq hS, ?_, ?_⟩
    · rintro i z σ H' hz ⟨y, rfl, sm⟩
      obtain ⟨k, ek, rfl⟩ := map_at hz
      have fk := far k (List.mem_of_getElem? ek)
      have sz : (sqs b l (ns.take i)).length ≤ 2000 := sqs_size hl fun x hx => far x (List.mem_of_mem_take hx)
      refine ⟨_, b, k, rfl, rfl, rfl, fk.1, fk.2, by rw [SX.S_len]; omega, some (.int k), ?_, sm⟩
      rw [repl_sqT b fk.1, List.take_add_one, ek]
      show _ = [some (V.str (SX.S (sqs b l (ns.take i ++ [k])))), _, _, _]
      rw [sqs_snoc]
      rfl
    · rintro σ H' ⟨y, rfl, sm⟩
      rw [List.length_map, List.take_length]
      exact ⟨_, rfl, q _ sm⟩
end
section
variable {P : Program} {w : World} {K : PySem.W.Frag} {mg : Str → Option Value} {base : Heap}
theorem nthN {xs : List Nat} {z : Int} (h0 : 0 ≤ z) (h : z < xs.length) : ∃ k, k ∈ xs ∧ atI xs z = some k := by
  have lt : z.toNat < xs.length := by omega
  refine ⟨xs[z.toNat], List.getElem_mem lt, ?_⟩
  unfold atI ixN
  rw [if_pos h0, if_pos h]
  show xs[z.toNat]? = _
  exact List.getElem?_eq_getElem lt
theorem cutS_upto (z : Str) (n : Nat) : cutS z none (some (n : Int)) = SX.S (z.cps.toList.take n) := by
  refine TL.ext_tl ?_
  by_cases c : n ≤ z.length
  · exact cutS_take z n c
  · show ((z.cps.toList.drop (HT.sIx z.length 0 none)).take (HT.sIx z.length z.length (some (n : Int)) - HT.sIx z.length 0 none)) = z.cps.toList.take n
    have l : z.cps.toList.length = z.length := rfl
    rw [HT.sIx_nat, HT.sIx_none, List.drop_zero, Nat.min_eq_right (by omega), Nat.sub_zero, List.take_of_length_le (by omega), List.take_of_length_le (by omega)]
/-- a sign that is no grave accent, and ASCII -/
theorem signs_low : ∀ c ∈ (" a.x#" : Str).cps.toList, c < 128 := by decide +kernel
theorem letters_low : ∀ c ∈ ("bcde 1 .xa" : Str).cps.toList, c < 128 := by decide +kernel
theorem flat_one : ∀ cs : List Nat, (cs.map fun c => [c]).flatten = cs
  | [] => rfl
  | c :: cs => by
    rw [List.map_cons, List.flatten_cons, flat_one cs]
    rfl
theorem join_one (cs : List Nat) : Txt.join "" (cs.map fun c => (⟨#[c]⟩ : Str)) = SX.S cs := by
  have e := SX.join_S [] (cs.map fun c => [c])
  rw [joinL_flat, flat_one, List.map_map] at e
  exact e
theorem sum_one (cs : List Nat) : ((cs.map fun c => (⟨#[c]⟩ : Str)).map (·.length)).sum = cs.length := by
  rw [List.map_map]
  induction cs with
  | nil => rfl
  | cons c cs ih =>
    rw [List.map_cons, List.sum_cons, ih, List.length_cons, Nat.add_comm]
    rfl
def spLtxt : Sp := fun vs H Q _ => ∃ (l : Addr) (seed cnt M : Int), vs = [.ref l, .int M] ∧ 0 < M ∧ M ≤ 2000 ∧ Rng H l seed cnt ∧ cnt < 400000 ∧
  ∀ xs b cnt' t H', (xs.length : Int) ≤ M → b < 128 → (∀ c ∈ xs, c < 128) → H t = none → Rng H' l seed cnt' → cnt' ≤ cnt + 110 → Keep1 H H' l → H' t = some (.lst [.str (SX.S xs), .str ⟨#[b]⟩]) → Q (.ref t) H'
theorem ok_lawtext {f : Addr} {fd : FuncData} (F : Fun K "_law_text" "_law_text" s_lawtext f fd) (B : Bi mg) (D_lawdraw : Df P w K mg base 1 "_law_draw" ["pool", "many"] spDraw) : FnR P w K mg base 3 f fd ["pool", "most"] spLtxt := by
  refine fnr_of F sc_lawtext (fun vs H Q E h => ?_) (fun cdv A outer s H vs Q hr h => ?_)
  · obtain ⟨l, seed, cnt, M, rfl, _⟩ := h
    rfl
  · obtain ⟨l, seed, cnt, M, rfl, M0, M1, S, hc, q⟩ := h
    have kcl : ∀ (u0 : Value) (n : Nat), Clo (cxOf CX0 P w K mg base ["pool", "most", "sign", "found", "turn", "long", "letter"] "_law_text" (defScope s_lawtext) f cdv A outer s H E0).nox ["sign"] (fun s' => Raw (cxOf CX0 P w K mg base ["pool", "most", "sign", "found", "turn", "long", "letter"] "_law_text" (defScope s_lawtext) f cdv A outer s H E0).nox "sign" u0 s' ∧ n ≤ s'.toks) := fun u0 n => (clo_raw rfl).and clo_n
    have kkn : ∀ (u0 : Value) (n : Nat), KnownU (cxOf CX0 P w K mg base ["pool", "most", "sign", "found", "turn", "long", "letter"] "_law_text" (defScope s_lawtext) f cdv A outer s H E0).nox (fun s' => Raw (cxOf CX0 P w K mg base ["pool", "most", "sign", "found", "turn", "long", "letter"] "_law_text" (defScope s_lawtext) f cdv A outer s H E0).nox "sign" u0 s' ∧ n ≤ s'.toks) "sign" u0 := fun u0 n => ⟨fun s' h => .inl ⟨rfl, h.1⟩⟩
    refine ⟨_, (wr_signS (i := 2) sc_lawtext.nd rfl rfl (pe_callD D_lawdraw (hr.mono (by omega)) (by rfl) (pa_cons (pv 0) (pa_cons pe_int pa_nil))) (fun _ _ => rfl) (fun u0 n good =>
      (wr_cons (ws_set (i := 3) (kcl u0 n) (by decide) sc_lawtext.nd rfl (Or.inl rfl) (we_str (kcl u0 n)))
      (wr_cons (ws_forR rfl PassesOwn.never (kcl u0 n) (by rfl) B.n_range (wa_cons (we_callD (kcl u0 n) D_lawdraw (hr.mono (by omega)) (by rfl) (wa_cons (wv 0) (wa_cons (we_int (kcl u0 n)) wa_nil))) wa_nil) (wg_name (i := 4) (kcl u0 n) (by decide) sc_lawtext.nd rfl (Or.inl rfl))
        (wss_cons (ws_set (i := 5) (kcl u0 n) (by decide) sc_lawtext.nd rfl (Or.inl rfl) (we_ixL (we_lst (kcl u0 n) (wa_cons (we_int (kcl u0 n)) (wa_cons (we_int (kcl u0 n)) (wa_cons (we_op (ow_add (kcl u0 n)) (we_int (kcl u0 n)) (we_callD (kcl u0 n) D_lawdraw (hr.mono (by omega)) (by rfl) (wa_cons (wv 0) (wa_cons (we_int (kcl u0 n)) wa_nil)))) (wa_cons (we_op (ow_add (kcl u0 n)) (we_int (kcl u0 n)) (we_callD (kcl u0 n) D_lawdraw (hr.mono (by omega)) (by rfl) (wa_cons (wv 0) (wa_cons (we_int (kcl u0 n)) wa_nil)))) (wa_cons (we_callD (kcl u0 n) D_lawdraw (hr.mono (by omega)) (by rfl) (wa_cons (wv 0) (wa_cons (we_int (kcl u0 n)) wa_nil))) wa_nil)))))) (we_callD (kcl u0 n) D_lawdraw (hr.mono (by omega)) (by rfl) (wa_cons (wv 0) (wa_cons (we_int (kcl u0 n)) wa_nil))) (fun _ _ => rfl)))
        (wss_cons (ws_set (i := 3) (kcl u0 n) (by decide) sc_lawtext.nd rfl (Or.inl rfl) (we_op (ow_add_str (kcl u0 n)) (wv 3) (we_op (ow_mulS (kcl u0 n)) (wv 2) (wv 5))))
        (wss_one (ws_set (i := 3) (kcl u0 n) (by decide) sc_lawtext.nd rfl (Or.inl rfl) (we_op (ow_add_str (kcl u0 n)) (wv 3) (we_join (kcl u0 n) (we_str (kcl u0 n)) (we_lc (kcl u0 n) (own := [("letter", 6)]) (g := gName 6) rfl sc_lawtext.nd (wi_range1 (kcl u0 n) (by rfl) B.n_range (wa_cons (we_callD (kcl u0 n) D_lawdraw (hr.mono (by omega)) (by rfl) (wa_cons (wv 0) (wa_cons (we_int (kcl u0 n)) wa_nil))) wa_nil)) (blkOk_by (own := [("letter", 6)]) (N := ["pool", "most", "sign", "found", "turn", "long", "letter"]) (sc := defScope s_lawtext) (by decide +kernel)) (fun _ _ _ _ _ => (pg_name (i := 6) sc_lawtext.nd rfl (Or.inl rfl))) (fun _ _ _ _ _ => pts_nil) (fun _ _ _ _ _ => (pe_ix ix_str pe_str (pe_callD D_lawdraw (hr.mono (by omega)) (by rfl) (pa_cons (pv 0) (pa_cons pe_int pa_nil))) (fun _ _ => rfl)))))))))))
      (wr_ret (i := 2) (kcl u0 n) (kkn u0 n) good (fun _ h => h.2) rfl (Or.inl rfl) (we_slS (kcl u0 n) (wv 3) wo_none (wo_some (wv 1)))))))), ?_⟩
    have szl : sizeLine = 16777216 := sizeLine_eq
    refine ⟨_, rfl, l, seed, cnt, 5, rfl, S, by omega, by decide, by decide, fun z0 c0 H0 z00 z01 S0 hc0 k0 => ?_⟩
    obtain ⟨b, bm, ba⟩ := nthN (xs := (" a.x#" : Str).cps.toList) (z := z0) z00 z01
    have bl := signs_low b bm
    refine ⟨_, z0, b, rfl, rfl, by show 5 ≤ sizeLine; omega, ba, ?_⟩
    refine ⟨_, rfl, l, seed, c0, 12, rfl, S0, by omega, by decide, by decide, fun n c1 H1 n0 n1 S1 hc1 k1 => ?_⟩
    have k01 := k0.trans k1
    refine ⟨n, rfl, by omega, by omega, (fun i σ H' => ∃ xs cnt' y4 y5 y6, σ = [some (.ref l), some (.int M), some (.str ⟨#[b]⟩), some (.str (SX.S xs)), y4, y5, y6] ∧ Rng H' l seed cnt' ∧ cnt' ≤ cnt + 2 + 9 * i ∧ Keep1 H H' l ∧ xs.length ≤ 400 * i ∧ ∀ c ∈ xs, c < 128),
      ⟨[], c1, none, none, none, rfl, S1, by omega, k01, Nat.zero_le _, fun _ z => nomatch z⟩, ?_, ?_⟩
    · rintro i σ H2 hi ⟨xs, c2, y4, y5, y6, rfl, S2, hc2, k2, lx, lo⟩
      have i12 : i < 12 := by omega
      refine ⟨_, rfl, l, seed, c2, 9, rfl, S2, by omega, by decide, by decide, fun z3 c3 H3 z30 z31 S3 hc3 k3 => ⟨1, z3, rfl, rfl, ?_⟩⟩
      refine ⟨_, rfl, l, seed, c3, 60, rfl, S3, by omega, by decide, by decide, fun z4 c4 H4 z40 z41 S4 hc4 k4 => ⟨1, z4, rfl, rfl, ?_⟩⟩
      refine ⟨_, rfl, l, seed, c4, 300, rfl, S4, by omega, by decide, by decide, fun z5 c5 H5 z50 z51 S5 hc5 k5 => ⟨by show 5 ≤ sizeLine; omega, fun t ht => ?_⟩⟩
      have nt := S5.ne ht
      refine ⟨_, rfl, l, seed, c5, 5, rfl, S5.same (same_new ht), by omega, by decide, by decide, fun z6 c6 H6 z60 z61 S6 hc6 k6 => ?_⟩
      obtain ⟨L, Lm, La⟩ := nth_of (xs := [1, 2, 1 + z3, 1 + z4, z5]) z60 z61
      have Lb : 0 ≤ L ∧ L ≤ 300 := by
        simp only [List.mem_cons, List.not_mem_nil, or_false] at Lm
        omega
      refine ⟨t, _, z6, .int L, rfl, rfl, SqL.of (k6 _ _ upd_same nt), La, ?_⟩
      have k26 : Keep1 H H6 l := ((((k2.trans k3).trans k4).trans k5).trans (Keep1.of (same_new ht))).trans k6
      refine ⟨_, rfl, _, rfl, _, rfl, ⟨#[b]⟩, L, rfl, rfl, mul_chr_ok b (by omega) (by omega), ?_⟩
      rw [mul_chr b (by omega)]
      have lr : (List.replicate L.toNat b).length ≤ 300 := by rw [List.length_replicate]; omega
      refine ⟨SX.S xs, SX.S (List.replicate L.toNat b), rfl, rfl, by rw [SX.S_len, SX.S_len]; omega, ?_⟩
      rw [SX.S_cat]
      obtain ⟨ws, ews⟩ : ∃ ws, ws = xs ++ List.replicate L.toNat b := ⟨_, rfl⟩
      rw [← ews]
      have lw : ws.length ≤ 400 * i + 300 := by rw [ews, List.length_append]; omega
      have low : ∀ c ∈ ws, c < 128 := fun c hc => by
        rw [ews] at hc
        rcases List.mem_append.mp hc with h | h
        · exact lo c h
        · rw [List.eq_of_mem_replicate h]
          exact bl
      refine ⟨_, rfl, ⟨_, rfl⟩, ?_⟩
      refine ⟨_, rfl, l, seed, c6, 4, rfl, S6, by omega, by decide, by decide, fun z7 c7 H7 z70 z71 S7 hc7 k7 => ?_⟩
      refine ⟨z7, rfl, by omega, by omega, fun D hD => lc_range (lo := 0) (n := z7.toNat) (fun j H' => ∃ cs cnt', H' D = some (.lst (cs.map fun c => V.str ⟨#[c]⟩)) ∧ Rng H' l seed cnt' ∧ cnt' ≤ c7 + j ∧ Keep1 H7 (wo H' D) l ∧ cs.length = j ∧ ∀ c ∈ cs, c < 128)
        ⟨[], c7, upd_same, S7.same (same_new hD), by omega, by rw [wo_upd]; exact Keep1.of (same_wo (Same.refl _) hD), rfl, fun _ z => nomatch z⟩ ?_ ?_⟩
      · rintro j H8 hj ⟨cs, c8, gD, S8, hc8, k8, lc, loc⟩
        have nD : D ≠ l := S7.ne hD
        refine ⟨rfl, _, rfl, l, seed, c8, 10, rfl, S8, by omega, by decide, by decide, fun z9 c9 H9 z90 z91 S9 hc9 k9 => ?_⟩
        obtain ⟨ch, cm, ca⟩ := nthN (xs := ("bcde 1 .xa" : Str).cps.toList) (z := z9) z90 z91
        refine ⟨_, z9, ch, rfl, rfl, by show 10 ≤ sizeLine; omega, ca, _, k9 _ _ gD nD, by rw [List.length_map]; omega, cs ++ [ch], c9, ?_, S9.upd nD, by omega, ?_, by rw [List.length_append, lc]; rfl, fun c hc => ?_⟩
        · rw [upd_same, List.map_append]
          rfl
        · rw [wo_upd]
          intro x o e nx
          have nxD : x ≠ D := fun z => by rw [z, hD] at e; cases e
          rw [wo_ne nxD]
          exact k9 _ _ (wo_same _ _ (k8 x o e nx)) nx
        · rcases List.mem_append.mp hc with h | h
          · exact loc c h
          · rw [List.mem_singleton.mp h]
            exact letters_low ch cm
      · rintro H8 ⟨cs, c8, gD, S8, hc8, k8, lc, loc⟩
        refine ⟨"", D, cs.map fun c => (⟨#[c]⟩ : Str), rfl, rfl, SqL.of (by rw [gD, List.map_map]; rfl), ?_, ?_⟩
        · rw [sum_one, List.length_map]
          show cs.length + cs.length * 0 ≤ 16777216
          omega
        rw [join_one]
        refine ⟨SX.S ws, SX.S cs, rfl, rfl, by rw [SX.S_len, SX.S_len]; omega, ?_⟩
        rw [SX.S_cat]
        refine ⟨ws ++ cs, c8, _, _, _, rfl, S8, by omega, ?_, by rw [List.length_append]; omega, fun c hc => ?_⟩
        · intro x o e nx
          have e7 := k7 _ _ (k26 x o e nx) nx
          exact wo_same _ _ (k8 _ _ e7 nx)
        · rcases List.mem_append.mp hc with h | h
          · exact low c h
          · exact loc c h
    · rintro σ H2 ⟨xs, c2, y4, y5, y6, rfl, S2, hc2, k2, lx, lo⟩
      have l11 : xs.length ≤ 4800 := by omega
      obtain ⟨m, rfl⟩ := Int.eq_ofNat_of_zero_le (show 0 ≤ M by omega)
      refine ⟨_, rfl, _, rfl, m, rfl, SX.S xs, rfl, by rw [SX.S_len]; omega, _, rfl, by show 2 ≤ sizeLine; omega, fun t ht => ?_⟩
      have nt := S2.ne ht
      refine q (xs.take m) b c2 t _ ?_ bl (fun c hc => lo c (List.mem_of_mem_take hc)) (Rng.free k2 S2 ht) (S2.upd nt) (by omega) (k2.trans (Keep1.of (same_new ht))) ?_
      · have := List.length_take_le m xs
        omega
      · rw [upd_same, cutS_upto]
end
end Sq
set_option Elab.async false
set_option linter.all false
set_option maxRecDepth 100000
set_option maxHeartbeats 8000000
set_option exponentiation.threshold 2000
namespace Sq
open PySem PySem.Spec PyProof.Rows L2
/-- the new object's places are new -/
theorem born {C x dx : Addr} {H H' : Hp} (nx : H x = none) (ndx : H dx = none) {o1 o2 : HO} {y : Addr} (h : upd (upd H dx o1) x o2 y = none) : H y = none := by
  by_cases e1 : y = x
  · rw [e1]; exact nx
  · by_cases e2 : y = dx
    · rw [e2]; exact ndx
    · rwa [upd_ne e1, upd_ne e2] at h
theorem bornS {C x dx : Addr} {H H' : Hp} (nx : H x = none) (ndx : H dx = none) {o1 o2 : HO} (k : ∀ a o, upd (upd H dx o1) x o2 a = some o → a ≠ dx → H' a = some o) : Same H H' := fun a o e => by
  have e1 : a ≠ x := ne_of_none e nx
  have e2 : a ≠ dx := ne_of_none e ndx
  refine k a o ?_ e2
  rw [upd_ne e1, upd_ne e2]
  exact e
section
variable {P : Program} {w : World} {K : PySem.W.Frag} {mg : Str → Option Value} {base : Heap} {C : Addr}
theorem appT_head (b : Nat) (x : List Nat) : ∀ (ns : List Int) (T : List (List Nat)), ∃ T', appT b (x :: T) ns = x :: T'
  | [], T => ⟨T, rfl⟩
  | k :: ns, T => appT_head b x ns (T ++ [sqT b [k] (lastT (x :: T)) 0])
theorem rg2 : ∀ m : Fin 21, RgC 0 ((m.val : Int) - 1) 2 (m.val / 2) := by
  unfold RgC
  decide +kernel
theorem split_end {x : List Nat} {T : List (List Nat)} (h : T ≠ []) : ∃ T' l, x :: T = (x :: T') ++ [l] := by
  rcases List.eq_nil_or_concat T with e | ⟨T', l, e⟩
  · exact absurd e h
  · exact ⟨T', l, by rw [e, List.concat_eq_append]; rfl⟩
theorem at_nat {xs : List Int} {i : Nat} {k : Int} (h : xs[i]? = some k) : atI (xs.map V.int) (i : Int) = some (.int k) := by
  have il : i < xs.length := (List.getElem?_eq_some_iff.mp h).1
  unfold atI ixN
  rw [if_pos (by omega), if_pos (by rw [List.length_map]; omega)]
  show (xs.map V.int)[((i : Int)).toNat]? = _
  rw [Int.toNat_natCast, List.getElem?_map, h]
  rfl
/-- an object made and squeezed -/
def spObj (K : PySem.W.Frag) (C : Addr) (n : Nat) (u0 : Value) : Sp := fun vs H Q _ => ∃ (l a : Addr) (seed cnt : Int) (x : List Nat) (b : Nat) (ns : List Int), vs = [.ref l, .str (SX.S x), .str ⟨#[b]⟩, .ref a] ∧ Rng H l seed cnt ∧ cnt < 400000 ∧ x.length ≤ 2000 ∧ H a = some (.lst (ns.map V.int)) ∧ a ≠ l ∧ Rpl ns ∧ ns.length ≤ 20 ∧ Tkn 0 [u0] n ∧
  ∀ p dx r t T cnt' H', H p = none → H dx = none → H r = none → H t = none → Txt2 C H' p dx r t u0 b (x :: T) ns → Keep1 H H' l → Rng H' l seed cnt' → cnt' ≤ cnt + 1 → Q (.ref p) H'
theorem ok_lawobject {f : Addr} {fd : FuncData} (F : Fun K "_law_object" "_law_object" s_lawobject f fd) (B : Bi mg) (D_lawdraw : Df P w K mg base 1 "_law_draw" ["pool", "many"] spDraw) (W_SqueezedText : MkW P w K mg base 2 "SqueezedText" C ["self", "text", "character"] 1 (spLvInit C)) (MV_squeeze : MtV P w K mg base 5 C "squeeze" (spSqueeze C)) (M_undo : Mt CX0 P w K mg base 1 C "undo" ["self"] (spUndo C)) :
    FnW P w K mg base 6 f fd ["pool", "written", "sign", "numbers"] 2 (spObj K C) := by
  refine fnw_ofL F sc_lawobject (fun n u vs H Q E h => ?_) (y := "sign") rfl rfl (fun cdv A outer s H us vs Q n u0 hr h rv hu => ?_)
  · obtain ⟨l, a, seed, cnt, x, b, ns, rfl, _⟩ := h
    rfl
  · obtain ⟨l, a, seed, cnt, x, b, ns, rfl, S, hc, lx, ha, nal, rpl, few, good, q⟩ := h
    have cl : Clo (cxOf CX0 P w K mg base ["pool", "written", "sign", "numbers", "live", "number", "spot"] "_law_object" (defScope s_lawobject) f cdv A outer s H E0).nox ["sign"] (fun s' => Raw (cxOf CX0 P w K mg base ["pool", "written", "sign", "numbers", "live", "number", "spot"] "_law_object" (defScope s_lawobject) f cdv A outer s H E0).nox "sign" u0 s' ∧ n ≤ s'.toks) := (clo_raw rfl).and clo_n
    have kn : KnownU (cxOf CX0 P w K mg base ["pool", "written", "sign", "numbers", "live", "number", "spot"] "_law_object" (defScope s_lawobject) f cdv A outer s H E0).nox (fun s' => Raw (cxOf CX0 P w K mg base ["pool", "written", "sign", "numbers", "live", "number", "spot"] "_law_object" (defScope s_lawobject) f cdv A outer s H E0).nox "sign" u0 s' ∧ n ≤ s'.toks) "sign" u0 := ⟨fun s' h => .inl ⟨rfl, h.1⟩⟩
    refine ⟨_, (wu_cons (ws_set (i := 4) cl (by decide) sc_lawobject.nd rfl (Or.inl rfl) (we_new cl W_SqueezedText (fun _ h => h.2) (hr.mono (by omega)) (by rfl) (wq_skip (wv 1) (wq_name (i := 2) kn rfl (Or.inl rfl) wa_nil))))
      (wu_weak (Φ := fun s => n ≤ s.toks) (wu_of (wss_cons (ws_if (wt_ofP (pt_cmpR op_eq (pe_callD D_lawdraw (hr.mono (by omega)) (by rfl) (pa_cons (pv 0) (pa_cons pe_int pa_nil))) pe_int (nomark _)))
          (wss_cons (ws_forL rfl PassesOwn.never clo_n (wv 3) (wg_name (i := 5) clo_n (by decide) sc_lawobject.nd rfl (Or.inl rfl)) (wss_one (ws_expr (we_mV clo_n MV_squeeze (fun _ h => h) (hr.mono (by omega)) (wv 4) (wa_cons (wv 5) wa_nil)))))
          (wss_one (ws_ret (wv 4)))) wss_nil)
        (wss_cons (ws_expr (we_mV clo_n MV_squeeze (fun _ h => h) (hr.mono (by omega)) (wv 4) (wa_ofP (pa_cons pe_int (pa_cons pe_int pa_nil)))))
        (wss_cons (ws_ofP (ps_expr (pe_mL0 M_undo (hr.mono (by omega)) (pv 4))))
        (wss_cons (ws_ofP (ps_expr (pe_mL0 M_undo (hr.mono (by omega)) (pv 4))))
        (wss_cons (ws_forN PassesOwn.never rfl (pi_range3 (by rfl) B.n_range (pa_cons pe_int (pa_cons (pe_op op_sub (pe_callB (id := "len") (r := rLenK K) call_lenK (by rfl) B.n_len (by decide +kernel) (pa_cons (pv 3) pa_nil)) pe_int) (pa_cons pe_int pa_nil)))) (pg_name (i := 6) sc_lawobject.nd rfl (Or.inl rfl))
          (wss_one (ws_expr (we_mV clo_n MV_squeeze (fun _ h => h) (hr.mono (by omega)) (wv 4) (wa_ofP (pa_cons (pe_ix (r := rIxL K) ix_list (pv 3) (pv 6) (fun _ _ => rfl)) (pa_cons (pe_ix (r := rIxL K) ix_list (pv 3) (pe_op op_add (pv 6) pe_int) (fun _ _ => rfl)) pa_nil)))))))
        (wss_cons (ws_if (wt_ofP (pt_cmpR op_eq (pe_op op_mod (pe_callB (id := "len") (r := rLenK K) call_lenK (by rfl) B.n_len (by decide +kernel) (pa_cons (pv 3) pa_nil)) pe_int) pe_int (nomark _)))
          (wss_one (ws_expr (we_mV clo_n MV_squeeze (fun _ h => h) (hr.mono (by omega)) (wv 4) (wa_ofP (pa_cons (pe_ix (r := rIxL K) ix_list (pv 3) (pe_un un_neg pe_int) (fun _ _ => rfl)) pa_nil))))) wss_nil)
        (wss_one (ws_ret (wv 4)))))))))) (fun _ h => h.2))), ?_⟩
    have szl : sizeLine = 16777216 := sizeLine_eq
    refine ⟨_, rfl, _, rfl, fun ru x0 dx0 nx0 ndx0 nex0 => ⟨x0, dx0, x, b, rfl, ⟨upd_same, by rw [upd_ne nex0, upd_same], nex0⟩, lx, fun r t H1 nr nt L kd => ⟨rfl, ?_⟩⟩⟩
    have s01 : Same H H1 := bornS (C := C) nx0 ndx0 kd
    have hr0 : H r = none := born (C := C) (H' := H1) nx0 ndx0 nr
    have ht0 : H t = none := born (C := C) (H' := H1) nx0 ndx0 nt
    have sqz : ∀ (Hk : Hp) (T : List (List Nat)) (ks ms : List Int) (D : Ends) (ta : TA) (σ : L2.St), σ[4]? = some (some (.ref x0)) → Txt2 C Hk x0 dx0 r t u0 b (x :: T) ks → Rpl ms → ks.length + ms.length ≤ 100000 → (∀ G : List V → Hp → Prop, G (ms.map V.int) Hk → ta σ Hk G) →
        (∀ H' T', Txt2 C H' x0 dx0 r t u0 b (x :: T') (ks ++ ms) → But2 Hk H' r t → D.nx σ H') → tDrop (tMV C "squeeze" (spSqueeze C n) (tVar 4) ta) D σ Hk := fun Hk T ks ms D ta σ e4 L rp fw hta hn => by
      obtain ⟨m, LL, mC, mR, mT, mN⟩ := id L.m
      refine ⟨_, e4, x0, dx0, m, _, rfl, LL, mN _ (by decide +kernel) (by decide +kernel) (by decide +kernel), hta _ ⟨by rw [List.length_map]; omega, fun T1 nT1 => ⟨x0, dx0, r, t, T1, u0, b, x :: T, ks, ms, rfl, upd_same, L.same (same_new nT1), good, rp, fw, fun H' L' k' => ?_⟩⟩⟩
      obtain ⟨T', eT⟩ := appT_head b x ms T
      rw [eT] at L'
      exact hn H' T' L' ((But2.of (same_new nT1)).trans k')
    have kb : ∀ {Ha Hb : Hp}, Keep1 H Ha l → But2 Ha Hb r t → Keep1 H Hb l := fun ka k' y o e ny => k' y o (ka y o e ny) (ne_of_none e hr0) (ne_of_none e ht0)
    have nrl : r ≠ l := S.ne hr0
    have ntl : t ≠ l := S.ne ht0
    have rb : ∀ {Ha Hb : Hp} {c : Int}, Rng Ha l seed c → But2 Ha Hb r t → Rng Hb l seed c := fun R k' => let ⟨dg, e⟩ := R.ob; ⟨⟨dg, k' _ _ e nrl.symm ntl.symm⟩, R.s0, R.s1, R.c0⟩
    refine ⟨_, rfl, l, seed, cnt, 2, rfl, S.same s01, by omega, by decide, by decide, fun z c2 H2 z0 z1 S2 hc2 k2 => ?_⟩
    have kk2 : Keep1 H H2 l := (Keep1.of s01).trans k2
    obtain ⟨dg, hlS⟩ := (S.same s01).ob
    have L2' : Txt2 C H2 x0 dx0 r t u0 b [x] [] := by
      obtain ⟨m, h, e⟩ := L.m
      have ex : ∀ {a : Addr} {φ : Heap → Prop}, H1 a = some (.ext φ) → a ≠ l := fun h => ne_of h hlS (by intro z; cases z)
      exact ⟨⟨m, ⟨k2 _ _ h.i (ex h.i), k2 _ _ h.d (ex h.d), h.ne⟩, e⟩, L.u, k2 _ _ L.rp nrl, k2 _ _ L.tx ntl, L.ne, L.len, L.sz⟩
    refine ⟨rfl, _, rfl, ite2 (fun cz => ?_) (fun cz => ?_)⟩
    · refine ⟨_, rfl, a, ns.map V.int, rfl, SqL.of (kk2 _ _ ha nal), (fun i σ H' => ∃ T y5, σ = [some (.ref l), some (.str (SX.S x)), some (.str ⟨#[b]⟩), some (.ref a), some (.ref x0), y5, none] ∧ Txt2 C H' x0 dx0 r t u0 b (x :: T) (ns.take i) ∧ Keep1 H H' l ∧ Rng H' l seed c2),
        ⟨[], none, rfl, L2', kk2, S2⟩, fun i σ H' h => by obtain ⟨_, _, _, _, k, _⟩ := h; exact SqL.of (k _ _ ha nal), ?_, ?_⟩
      · rintro i v σ H' hv ⟨T, y5, rfl, L3, k3, S3⟩
        obtain ⟨k, ek, rfl⟩ := map_at hv
        refine sqz H' T (ns.take i) [k] _ _ _ rfl L3 (fun j hj => by rw [List.mem_singleton.mp hj]; exact rpl k (List.mem_of_getElem? ek)) (by rw [List.length_take]; have : [k].length = 1 := rfl; omega) (fun G g => ⟨_, rfl, g⟩) fun H4 T' L4 k4 => ⟨T', some (.int k), rfl, ?_, kb k3 k4, rb S3 k4⟩
        rw [List.take_add_one, ek]
        exact L4
      · rintro σ H' ⟨T, y5, rfl, L3, k3, S3⟩
        rw [List.length_map, List.take_length] at L3
        exact ⟨_, rfl, q x0 dx0 r t T c2 H' nx0 ndx0 hr0 ht0 L3 k3 S3 hc2⟩
    · refine sqz H2 [] [] [2, 5] _ _ _ rfl L2' (fun j hj => by simp only [List.mem_cons, List.not_mem_nil, or_false] at hj; omega) (by decide) (fun G g => g) fun H3 T3 L3 k3 => ?_
      have kk3 := kb kk2 k3
      have S3 := rb S2 k3
      have ne3 : T3 ≠ [] := fun e => by have := L3.len; rw [e] at this; cases this
      obtain ⟨T4, l4, e4⟩ := split_end (x := x) ne3
      rw [e4] at L3
      obtain ⟨m3, LL3, _, _, _, mN3⟩ := id L3.m
      refine ⟨_, rfl, x0, dx0, m3, _, rfl, LL3, mN3 _ (by decide +kernel) (by decide +kernel) (by decide +kernel), x0, dx0, r, t, u0, b, x :: T4, l4, [2], 5, rfl, L3, fun H4 L4 k4 => ?_⟩
      have kk4 := kb kk3 k4
      have S4 := rb S3 k4
      have ne4 : T4 ≠ [] := fun e => by have := L4.len; rw [e] at this; cases this
      obtain ⟨T5, l5, e5⟩ := split_end (x := x) ne4
      rw [e5] at L4
      obtain ⟨m4, LL4, _, _, _, mN4⟩ := id L4.m
      refine ⟨_, rfl, x0, dx0, m4, _, rfl, LL4, mN4 _ (by decide +kernel) (by decide +kernel) (by decide +kernel), x0, dx0, r, t, u0, b, x :: T5, l5, [], 2, rfl, L4, fun H5 L5 k5 => ?_⟩
      have kk5 := kb kk4 k5
      have S5 := rb S4 k5
      have hN : RgC 0 (((ns.map V.int).length : Nat) - 1 : Int) 2 (ns.length / 2) := by
        have := rg2 ⟨ns.length, by omega⟩
        rw [List.length_map]
        exact this
      refine ⟨_, rfl, a, _, rfl, .inl (SqL.of (kk5 _ _ ha nal)), _, 1, rfl, rfl, 0, _, 2, ns.length / 2, rfl, hN, for_it (walk_rangeC (lo := 0) (c := 2) (n := ns.length / 2)) (fun i σ H' => ∃ T y6, σ = [some (.ref l), some (.str (SX.S x)), some (.str ⟨#[b]⟩), some (.ref a), some (.ref x0), none, y6] ∧ Txt2 C H' x0 dx0 r t u0 b (x :: T) (ns.take (2 * i)) ∧ Keep1 H H' l ∧ Rng H' l seed c2)
        ⟨T5, none, rfl, L5, kk5, S5⟩ (fun _ _ _ _ _ => trivial) ?_ ?_⟩
      · rintro i σ H' v H6 hi ⟨T, y6, rfl, L6, k6, S6⟩ hy
        obtain ⟨rfl, rfl⟩ := hy
        obtain ⟨k1, e1⟩ : ∃ k, ns[2 * i]? = some k := ⟨_, List.getElem?_eq_getElem (by omega)⟩
        obtain ⟨k2', e2⟩ : ∃ k, ns[2 * i + 1]? = some k := ⟨_, List.getElem?_eq_getElem (by omega)⟩
        refine sqz _ T (ns.take (2 * i)) [k1, k2'] _ _ _ rfl L6 (fun j hj => ?_) (by rw [List.length_take]; have : [k1, k2'].length = 2 := rfl; omega)
          (fun G g => ⟨_, rfl, _, rfl, a, _, _, .int k1, rfl, rfl, SqL.of (k6 _ _ ha nal), by rw [show (0 + (i : Int) * 2) = ((2 * i : Nat) : Int) by omega]; exact at_nat e1, _, rfl, _, rfl, _, 1, rfl, rfl, a, _, _, .int k2', rfl, rfl, SqL.of (k6 _ _ ha nal), by rw [show (0 + (i : Int) * 2 + 1) = ((2 * i + 1 : Nat) : Int) by omega]; exact at_nat e2, g⟩) fun H7 T' L7 k7 => ⟨T', _, rfl, ?_, kb k6 k7, rb S6 k7⟩
        · simp only [List.mem_cons, List.not_mem_nil, or_false] at hj
          rcases hj with rfl | rfl
          · exact rpl _ (List.mem_of_getElem? e1)
          · exact rpl _ (List.mem_of_getElem? e2)
        · have e3 : ns.take (2 * (i + 1)) = ns.take (2 * i) ++ [k1, k2'] := by
            rw [show 2 * (i + 1) = 2 * i + 1 + 1 by omega, List.take_add_one, List.take_add_one, e1, e2, List.append_assoc]
            rfl
          rw [e3]
          exact L7
      · rintro σ H' ⟨T, y6, rfl, L6, k6, S6⟩
        refine ⟨_, rfl, a, _, rfl, .inl (SqL.of (k6 _ _ ha nal)), _, 2, rfl, rfl, (show (0 : Int) < 2 by decide), rfl, _, rfl, ite2 (fun co => ?_) (fun co => ?_)⟩
        · have odd : ns.length % 2 = 1 := by
            have h := of_decide_eq_true co
            injection h with h
            rw [List.length_map] at h
            omega
          rcases List.eq_nil_or_concat ns with en | ⟨ns0, k, en⟩
          · rw [en] at odd
            cases odd
          · rw [List.concat_eq_append] at en
            have l0 : 2 * (ns.length / 2) = ns0.length := by
              have : ns.length = ns0.length + 1 := by rw [en, List.length_append]; rfl
              omega
            have e3 : ns.take (2 * (ns.length / 2)) = ns0 := by rw [l0, en, List.take_left' rfl]
            rw [e3] at L6
            refine sqz _ T ns0 [k] _ _ _ rfl L6 (fun j hj => by rw [List.mem_singleton.mp hj]; exact rpl k (by rw [en]; exact List.mem_append_right _ (List.mem_singleton_self _))) (by have : ns.length = ns0.length + 1 := (by rw [en, List.length_append]; rfl); have : [k].length = 1 := rfl; omega)
              (fun G g => ⟨_, rfl, 1, rfl, a, _, -1, .int k, rfl, rfl, SqL.of (k6 _ _ ha nal), by rw [en, List.map_append]; exact atI_tail _ _, g⟩) fun H7 T' L7 k7 => ?_
            rw [← en] at L7
            exact ⟨_, rfl, q x0 dx0 r t T' c2 H7 nx0 ndx0 hr0 ht0 L7 (kb k6 k7) (rb S6 k7) hc2⟩
        · have even : ns.length % 2 = 0 := by
            have h : ¬ ((((ns.map V.int).length : Nat) : Int) % 2 = 1) := fun z => co (decide_eq_true (congrArg V.int z))
            rw [List.length_map] at h
            omega
          rw [List.take_of_length_le (by omega)] at L6
          exact ⟨_, rfl, q x0 dx0 r t T c2 H' nx0 ndx0 hr0 ht0 L6 k6 S6 hc2⟩
end
end Sq
set_option Elab.async false
set_option linter.all false
set_option maxRecDepth 100000
set_option maxHeartbeats 4000000
/-! and, or, comparisons as values, powers: what is known is kept. -/
namespace Sq
open PySem PySem.Spec PyProof.Rows L2 GenW
section
variable {X : Cx} {Θ : Shared → Prop} {ys : List Str} {a b : Expr} {rest : List Expr} {pos : Pos} {ta tb : TE} {tA tB' : TT}
theorem ow_pow (Cl : Clo X ys Θ) : OpW X Θ (binaryOp .Pow) (rI CPow fun i j => .int (i ^ j.toNat)) := ow_of Cl fun pins s σ H x y v u Q I rx ry h => by
  obtain ⟨i, j, rfl, rfl, hc, q⟩ := h
  obtain ⟨t, rfl⟩ := rx
  obtain ⟨t', rfl⟩ := ry
  exact pow_int_small hc.1 hc.2.1 hc.2.2 ⟨rfl, .int (i ^ j.toNat), H, I.tok _, ⟨_, rfl⟩, q⟩
def rEqS : R2 := fun x y H Q => ∃ i j, x = .str i ∧ y = .str j ∧ Q (.bl (i == j)) H
theorem ow_eqS (Cl : Clo X ys Θ) : OpW X Θ (compareOp .Eq) rEqS := ow_of Cl fun pins s σ H x y v u Q I rx ry h => by
  obtain ⟨i, j, rfl, rfl, q⟩ := h
  obtain ⟨t, rfl⟩ := rx
  obtain ⟨t', rfl⟩ := ry
  exact PyProof.Rows.eq_str ⟨rfl, .bl _, H, I, rfl, q⟩
theorem we_cmp {op : CmpOp} {r : R2} (ho : OpW X Θ (compareOp op) r) (ha : We X Θ a ta) (hb : We X Θ b tb) (hm : behindInMarks op b = false) : We X Θ (.Compare a [op] [b] pos) (tOp r ta tb) := by
  refine ⟨fun pins s σ H Q I θ h => wpAny_Compare1 (thn (ha.run pins s σ H _ I θ h) fun v s1 hh => ?_) hm⟩
  obtain ⟨g1, x, H1, I1, r1, q1⟩ := hh
  refine thn (hb.run pins s1 σ H1 _ I1 g1 q1) fun u s2 hh => ?_
  obtain ⟨g2, y, H2, I2, r2, q2⟩ := hh
  exact ho pins s2 σ H2 x y v u _ I2 g2 r1 r2 q2
theorem we_one {op} (h : We X Θ a ta) : We X Θ (.BoolOp op [a] pos) ta := ⟨fun pins s σ H Q I θ hw => BoolOp_one (h.run pins s σ H Q I θ hw)⟩
theorem we_and (ha : We X Θ a ta) (hb : We X Θ (.BoolOp .And (b :: rest) pos) tb) : We X Θ (.BoolOp .And (a :: b :: rest) pos) (tAndV ta tb) := by
  refine ⟨fun pins s σ H Q I θ h => ?_⟩
  refine BoolOp_and (thn (ha.run pins s σ H _ I θ h) fun v s1 hh => ?_)
  obtain ⟨g1, x, H1, I1, r1, c, rfl, q1⟩ := hh
  cases r1
  refine wpAny_truthy_bool ?_
  cases c with
  | true => exact hb.run pins s1 σ H1 Q I1 g1 q1
  | false => exact ⟨g1, .bl false, H1, I1, rfl, q1⟩
structure Ww (X : Cx) (Θ : Shared → Prop) (e : Expr) (t : TT) : Prop where
  run : ∀ (wh : Sem Value) (pins : List (Addr × Obj)) (s : Shared) (σ : L2.St) (H : Hp) (Q : Bool → Hp → Prop), Inv X pins σ H s → Θ s → t σ H Q → wpAny (model X.prog X.w) X.A (isTrue e X.env wh) (fun b s' => Θ s' ∧ TP X pins σ Q b s') X.xe s
theorem ww_or1 (ha : Wt X Θ a tA) : Ww X Θ (.BoolOp .Or [a] pos) tA := by
  refine ⟨fun wh pins s σ H Q I θ h => ?_⟩
  refine isTrue_or (thn (ha.run pins s σ H Q I θ h) fun c s1 e => ?_)
  cases c with
  | false => exact isTrue_or_nil e
  | true => exact e
theorem ww_or (ha : Wt X Θ a tA) (hb : Ww X Θ (.BoolOp .Or (b :: rest) pos) tB') : Ww X Θ (.BoolOp .Or (a :: b :: rest) pos) (tOr tA tB') := by
  refine ⟨fun wh pins s σ H Q I θ h => ?_⟩
  refine isTrue_or (thn (ha.run pins s σ H _ I θ h) fun c s1 hh => ?_)
  obtain ⟨g1, H1, I1, q1⟩ := hh
  cases c with
  | true => exact ⟨g1, H1, I1, q1⟩
  | false => exact hb.run wh pins s1 σ H1 Q I1 g1 q1
theorem wt_ww (h : Ww X Θ a tA) : Wt X Θ a tA := ⟨fun pins s σ H Q I θ q => h.run _ pins s σ H Q I θ q⟩
end
end Sq
set_option Elab.async false
set_option linter.all false
set_option maxRecDepth 100000
set_option maxHeartbeats 8000000
set_option exponentiation.threshold 2000
namespace Sq
open PySem PySem.Spec PyProof.Rows L2
abbrev s_lawright : Stmt := topS 23
theorem sc_lawright : FnScope ["pool", "written", "sign", "numbers", "one", "turn", "at", "others", "way", "begun", "mark", "two", "due"] ["pool"] (defScope s_lawright) := ⟨rfl, rfl, rfl, by decide +kernel, rfl, by decide +kernel, by decide +kernel⟩
theorem Txt2.keepx {C p dx r t x : Addr} {H H' : Hp} {u0 : Value} {b : Nat} {T : List (List Nat)} {ks : List Int} (L : Txt2 C H p dx r t u0 b T ks) (k : Keep1 H H' x) {xs : List V} (hx : H x = some (.lst xs)) (nr : r ≠ x) (nt : t ≠ x) : Txt2 C H' p dx r t u0 b T ks := by
  obtain ⟨m, h, e⟩ := L.m
  have ex : ∀ {a : Addr} {φ : Heap → Prop}, H a = some (.ext φ) → a ≠ x := fun h => ne_of h hx (by intro z; cases z)
  exact ⟨⟨m, ⟨k _ _ h.i (ex h.i), k _ _ h.d (ex h.d), h.ne⟩, e⟩, L.u, k _ _ L.rp nr, k _ _ L.tx nt, L.ne, L.len, L.sz⟩
theorem pss_ofWu {X : Cx} {sts : List Stmt} {t : TS} (h : Wu X (fun _ => True) sts t) : PSs X sts t := ⟨fun pins s σ H D I q => h.run pins s σ H D I True.intro q⟩
theorem tAndV3 {ta tb tc : TE} {σ : L2.St} {H : Hp} {Q : VK} {c1 c2 c3 : Bool} (h1 : ∀ Q' : VK, Q' (.bl c1) H → ta σ H Q') (h2 : ∀ Q' : VK, Q' (.bl c2) H → tb σ H Q') (h3 : ∀ Q' : VK, Q' (.bl c3) H → tc σ H Q') (q : Q (.bl (c1 && (c2 && c3))) H) : tAndV ta (tAndV tb tc) σ H Q := by
  refine h1 _ ⟨c1, rfl, ?_⟩
  cases c1 with
  | false => exact q
  | true =>
    refine h2 _ ⟨c2, rfl, ?_⟩
    cases c2 with
    | false => exact q
    | true => exact h3 _ q
section
variable {P : Program} {w : World} {K : PySem.W.Frag} {mg : Str → Option Value} {base : Heap} {C : Addr}
def spRight : Sp := fun vs H Q _ => ∃ (l : Addr) (seed cnt : Int), vs = [.ref l] ∧ Rng H l seed cnt ∧ cnt < 300000 ∧ ∀ cnt' H', Rng H' l seed cnt' → cnt' ≤ cnt + 2000 → Keep1 H H' l → Q (.bl true) H'
theorem ok_lawright {f : Addr} {fd : FuncData} (F : Fun K "_law_right" "_law_right" s_lawright f fd) (B : Bi mg) (D_lawdraw : Df P w K mg base 1 "_law_draw" ["pool", "many"] spDraw) (D_lawlist : Df P w K mg base 2 "_law_list" ["pool", "most", "far"] spList) (R_lawtext : DfR P w K mg base 3 "_law_text" ["pool", "most"] spLtxt)
    (W_lawobject : DfW P w K mg base 6 "_law_object" ["pool", "written", "sign", "numbers"] 2 (spObj K C)) (T_lawreplaced : DfT P w K mg base 1 "_law_replaced" ["written", "sign", "numbers"] 1 (spReplaced K))
    (EM : EqM P w K mg base 1 C ["self", "other"] (spEqX C)) (OC : OthC K C) (NC : NeC K C) (P_text : Pr P w K mg base 1 C "text" (spText C)) (P_longest : Pr P w K mg base 3 C "longest" (spLongest C)) :
    FnOk P w K mg base CX0 7 f fd ["pool"] spRight := by
  refine F.ok sc_lawright (fun vs H Q E h => ?_) (fun cdv A outer s H vs Q E hr h => ?_)
  · obtain ⟨l, seed, cnt, rfl, _⟩ := h
    rfl
  · obtain ⟨l, seed, cnt, rfl, S, hc, q⟩ := h
    have kcl : ∀ (u0 : Value) (n : Nat), Clo (cxOf CX0 P w K mg base ["pool", "written", "sign", "numbers", "one", "turn", "at", "others", "way", "begun", "mark", "two", "due"] "_law_right" (defScope s_lawright) f cdv A outer s H E).nox ["sign"] (fun s' => Raw (cxOf CX0 P w K mg base ["pool", "written", "sign", "numbers", "one", "turn", "at", "others", "way", "begun", "mark", "two", "due"] "_law_right" (defScope s_lawright) f cdv A outer s H E).nox "sign" u0 s' ∧ n ≤ s'.toks) := fun u0 n => (clo_raw rfl).and clo_n
    have kkn : ∀ (u0 : Value) (n : Nat), KnownU (cxOf CX0 P w K mg base ["pool", "written", "sign", "numbers", "one", "turn", "at", "others", "way", "begun", "mark", "two", "due"] "_law_right" (defScope s_lawright) f cdv A outer s H E).nox (fun s' => Raw (cxOf CX0 P w K mg base ["pool", "written", "sign", "numbers", "one", "turn", "at", "others", "way", "begun", "mark", "two", "due"] "_law_right" (defScope s_lawright) f cdv A outer s H E).nox "sign" u0 s' ∧ n ≤ s'.toks) "sign" u0 := fun u0 n => ⟨fun s' h => .inl ⟨rfl, h.1⟩⟩
    have kcl2 : ∀ (u0 u1 : Value) (n : Nat), Clo (cxOf CX0 P w K mg base ["pool", "written", "sign", "numbers", "one", "turn", "at", "others", "way", "begun", "mark", "two", "due"] "_law_right" (defScope s_lawright) f cdv A outer s H E).nox ["sign", "mark"] (fun s' => (Raw (cxOf CX0 P w K mg base ["pool", "written", "sign", "numbers", "one", "turn", "at", "others", "way", "begun", "mark", "two", "due"] "_law_right" (defScope s_lawright) f cdv A outer s H E).nox "sign" u0 s' ∧ Raw (cxOf CX0 P w K mg base ["pool", "written", "sign", "numbers", "one", "turn", "at", "others", "way", "begun", "mark", "two", "due"] "_law_right" (defScope s_lawright) f cdv A outer s H E).nox "mark" u1 s') ∧ n ≤ s'.toks) := fun u0 u1 n => ((clo_raw rfl).and (clo_raw rfl)).and clo_n
    have kkn2 : ∀ (u0 u1 : Value) (n : Nat), KnownU (cxOf CX0 P w K mg base ["pool", "written", "sign", "numbers", "one", "turn", "at", "others", "way", "begun", "mark", "two", "due"] "_law_right" (defScope s_lawright) f cdv A outer s H E).nox (fun s' => (Raw (cxOf CX0 P w K mg base ["pool", "written", "sign", "numbers", "one", "turn", "at", "others", "way", "begun", "mark", "two", "due"] "_law_right" (defScope s_lawright) f cdv A outer s H E).nox "sign" u0 s' ∧ Raw (cxOf CX0 P w K mg base ["pool", "written", "sign", "numbers", "one", "turn", "at", "others", "way", "begun", "mark", "two", "due"] "_law_right" (defScope s_lawright) f cdv A outer s H E).nox "mark" u1 s') ∧ n ≤ s'.toks) "mark" u1 := fun u0 u1 n => ⟨fun s' h => .inl ⟨rfl, h.1.2⟩⟩
    refine ⟨_, (pss_ofWu (wu_text2 (i := 1) (j := 2) (l := 3) R_lawtext (hr.mono (by omega)) (by rfl) (pa_cons (pv 0) (pa_cons pe_int pa_nil)) (pe_callD D_lawlist (hr.mono (by omega)) (by rfl) (pa_cons (pv 0) (pa_cons pe_int (pa_cons pe_int pa_nil)))) rfl sc_lawright.nd rfl rfl rfl rfl rfl rfl (by decide) (fun u0 n good =>
 (wu_cons (ws_set (i := 4) (kcl u0 n) (by decide) sc_lawright.nd rfl (Or.inl rfl) (we_callW (n := n) (kcl u0 n) W_lawobject (fun _ h => h.2) (hr.mono (by omega)) (by rfl) (wq_skip (wv 0) (wq_skip (wv 1) (wq_name (i := 2) (kkn u0 n) rfl (Or.inl rfl) (wa_cons (wv 3) wa_nil))))))
 (wu_cons (ws_forR rfl PassesOwn.never (kcl u0 n) (by rfl) B.n_range (wa_cons (we_int (kcl u0 n)) wa_nil) (wg_name (i := 5) (kcl u0 n) (by decide) sc_lawright.nd rfl (Or.inl rfl))
 (wss_cons (ws_set (i := 6) (kcl u0 n) (by decide) sc_lawright.nd rfl (Or.inl rfl) (we_callD (kcl u0 n) D_lawdraw (hr.mono (by omega)) (by rfl) (wa_cons (wv 0) (wa_cons (we_op (ow_add (kcl u0 n)) (we_callB (id := "len") (r := rLenK K) (cw_len (kcl u0 n)) (by rfl) B.n_len (by decide +kernel) (wa_cons (wv 3) wa_nil)) (we_int (kcl u0 n))) wa_nil))))
 (wss_cons (ws_set (i := 7) (kcl u0 n) (by decide) sc_lawright.nd rfl (Or.inl rfl) (we_lst (kcl u0 n) (wa_cons (wv 3) (wa_cons (wv 3) (wa_cons (we_op (ow_cat (kcl u0 n)) (wv 3) (we_lst (kcl u0 n) (wa_cons (we_int (kcl u0 n)) wa_nil))) (wa_cons (we_slL (kcl u0 n) (wv 3) wo_none (wo_some (wv 6))) (wa_cons (we_op (ow_cat (kcl u0 n)) (wv 3) (we_lst (kcl u0 n) (wa_cons (we_op (ow_pow (kcl u0 n)) (we_int (kcl u0 n)) (we_int (kcl u0 n))) wa_nil))) wa_nil)))))))
 (wss_cons (ws_expr (we_append (kcl u0 n) (wv 7) (we_op (ow_cat (kcl u0 n)) (we_op (ow_cat (kcl u0 n)) (we_slL (kcl u0 n) (wv 3) wo_none (wo_some (wv 6))) (we_lst (kcl u0 n) (wa_cons (we_int (kcl u0 n)) wa_nil))) (we_slL (kcl u0 n) (wv 3) (wo_some (we_op (ow_add (kcl u0 n)) (wv 6) (we_int (kcl u0 n)))) wo_none))))
 (wss_cons (ws_set (i := 8) (kcl u0 n) (by decide) sc_lawright.nd rfl (Or.inl rfl) (we_ixL (wv 7) (we_callD (kcl u0 n) D_lawdraw (hr.mono (by omega)) (by rfl) (wa_cons (wv 0) (wa_cons (we_int (kcl u0 n)) wa_nil))) (fun _ _ => rfl)))
 (wss_cons (ws_set (i := 9) (kcl u0 n) (by decide) sc_lawright.nd rfl (Or.inl rfl) (we_ixL (we_lst (kcl u0 n) (wa_cons (wv 1) (wa_cons (wv 1) (wa_cons (we_op (ow_add_str (kcl u0 n)) (wv 1) (we_str (kcl u0 n))) (wa_cons (we_callT (kcl u0 n) T_lawreplaced (hr.mono (by omega)) (by rfl) (wx_skip (wv 1) (wx_name (i := 2) (known_local rfl good) rfl (Or.inl rfl) (wa_cons (we_lst (kcl u0 n) (wa_cons (we_int (kcl u0 n)) wa_nil)) wa_nil)))) wa_nil))))) (we_callD (kcl u0 n) D_lawdraw (hr.mono (by omega)) (by rfl) (wa_cons (wv 0) (wa_cons (we_int (kcl u0 n)) wa_nil))) (fun _ _ => rfl)))
 (wss_pick (i := 10) (l := 2) sc_lawright.nd rfl rfl rfl rfl (by decide) good (we_callD (kcl u0 n) D_lawdraw (hr.mono (by omega)) (by rfl) (wa_cons (wv 0) (wa_cons (we_int (kcl u0 n)) wa_nil))) (fun _ _ => rfl) (fun u1 n1 good1 up => (wss_cons (ws_set (i := 11) (kcl2 u0 u1 n1) (by decide) sc_lawright.nd rfl (Or.inl rfl) (we_callW (n := n1) (kcl2 u0 u1 n1) W_lawobject (fun _ h => h.2) (hr.mono (by omega)) (by rfl) (wq_skip (wv 0) (wq_skip (wv 9) (wq_name (i := 10) (kkn2 u0 u1 n1) rfl (Or.inl rfl) (wa_cons (wv 8) wa_nil))))))
 (wss_cons (ws_set (i := 12) (kcl2 u0 u1 n1) (by decide) sc_lawright.nd rfl (Or.inl rfl) (we_and (we_cmp (ow_eqS (kcl2 u0 u1 n1)) (wv 9) (wv 1) (by rfl)) (we_and (we_cmp (ow_eqD (kcl2 u0 u1 n1) hr.units) (wv 8) (wv 3) (by rfl)) (we_one (we_cmp (ow_eqS (kcl2 u0 u1 n1)) (wv 10) (wv 2) (by rfl))))))
 (wss_one (ws_if (wt_ww (ww_or (wt_cmp (ow_neD (kcl2 u0 u1 n1) hr.units) (we_cmp (ow_eqL (kcl2 u0 u1 n1) EM (hr.mono (by omega))) (wv 4) (wv 11) (by rfl)) (wv 12) (by rfl)) (ww_or (wt_cmp (ow_neD (kcl2 u0 u1 n1) hr.units) (we_cmp (ow_eqL (kcl2 u0 u1 n1) EM (hr.mono (by omega))) (wv 11) (wv 4) (by rfl)) (wv 12) (by rfl)) (ww_or1 (wt_cmp (ow_eqD (kcl2 u0 u1 n1) hr.units) (we_cmp (ow_neL (kcl2 u0 u1 n1) EM NC (hr.mono (by omega))) (wv 4) (wv 11) (by rfl)) (wv 12) (by rfl)))))) (wss_one (ws_ret we_bl)) wss_nil))))))))))))
 (wu_ps (pss_one (ps_ret (pe_cmpR (op_ninL EM OC (hr.mono (by omega))) (pv 4) (pe_lst (pa_cons pe_non (pa_cons (pv 1) (pa_cons (pv 3) (pa_cons (pe_tup (pa_cons (pv 1) (pa_cons (pv 2) pa_nil))) (pa_cons (pe_lst (pa_cons (pv 1) (pa_cons (pv 3) pa_nil))) (pa_cons (pe_prL P_text (hr.mono (by omega)) (pv 4)) (pa_cons (pe_prL P_longest (hr.mono (by omega)) (pv 4)) (pa_cons pe_int (pa_cons pe_str pa_nil)))))))))) (by rfl)))))))))), ?_⟩
    have szl : sizeLine = 16777216 := sizeLine_eq
    have w1 : 1 ≤ sizeLine := by omega
    have w2 : 2 ≤ sizeLine := by omega
    have w4 : 4 ≤ sizeLine := by omega
    have w5 : 5 ≤ sizeLine := by omega
    have w9 : 9 ≤ sizeLine := by omega
    refine ⟨_, rfl, l, seed, cnt, 200, rfl, by decide, by decide, S, by omega, fun xs b cnt1 t1 H1 lx b128 lo ht1 S1 hc1 k1 g1 => ⟨t1, _, _, rfl, g1, ?_⟩⟩
    have nt1 : t1 ≠ l := S.ne ht1
    have S2 : Rng (wo H1 t1) l seed cnt1 := by
      obtain ⟨dg, e⟩ := S1.ob
      exact ⟨⟨dg, by rw [wo_ne nt1.symm]; exact e⟩, S1.s0, S1.s1, S1.c0⟩
    have k2 : Keep1 H (wo H1 t1) l := fun x o e nx => by
      rw [wo_ne (fun z => by rw [z, ht1] at e; cases e)]
      exact k1 x o e nx
    generalize wo H1 t1 = H2 at S2 k2 ⊢
    clear k1 g1 S1 ht1 nt1 H1
    -- numbers
    refine ⟨_, rfl, l, seed, cnt1, 6, 40, rfl, by decide, by decide, by decide, by decide, S2, by omega, fun a ns c3 H3 ha0 S3 hc3 k3 ga few rg u0 n good => ?_⟩
    have na : a ≠ l := S2.ne ha0
    have rpl : Rpl ns := fun k hk => by have := rg k hk; omega
    have few6 : ns.length ≤ 6 := by omega
    -- one
    refine ⟨_, rfl, _, rfl, _, rfl, fun ru => ⟨_, rfl, l, a, seed, c3, xs, b, ns, rfl, S3, by omega, by omega, ga, na, rpl, by omega, good, fun p dx r t T c4 H4 np ndx nr nt L k4 S4 hc4 => ?_⟩⟩
    have nrl : r ≠ l := S3.ne nr
    have ntl : t ≠ l := S3.ne nt
    have ga4 := k4 _ _ ga na
    have kH4 : Keep1 H H4 l := (k2.trans k3).trans k4
    refine ⟨6, rfl, by decide, by decide, (fun i σ H' => ∃ c y5 y6 y7 y8 y9 y10 y11 y12, σ = [some (.ref l), some (.str (SX.S xs)), some (.str ⟨#[b]⟩), some (.ref a), some (.ref p), y5, y6, y7, y8, y9, y10, y11, y12] ∧ Rng H' l seed c ∧ c ≤ cnt + 200 + 20 * i ∧ Keep1 H4 H' l),
      ⟨c4, none, none, none, none, none, none, none, none, rfl, S4, by omega, fun _ _ e _ => e⟩, ?_, ?_⟩
    · rintro i σ H5 hi ⟨c5, y5, y6, y7, y8, y9, y10, y11, y12, rfl, S5, hc5, k5⟩
      have i6 : i < 6 := hi
      have ga5 := k5 _ _ ga4 na
      have ll : (ns.map V.int).length = ns.length := List.length_map ..
      -- at
      refine ⟨_, rfl, _, rfl, a, _, rfl, .inl (SqL.of ga5), _, 1, rfl, rfl, l, seed, c5, _, rfl, S5, by omega, by rw [ll]; omega, lim10 (by rw [ll]; omega), fun z6 c6 H6 z60 z61 S6 hc6 k6 => ?_⟩
      obtain ⟨m, rfl⟩ : ∃ m : Nat, z6 = m := ⟨z6.toNat, by omega⟩
      have hm : m ≤ ns.length := by rw [ll] at z61; omega
      have k56 := k5.trans k6
      have ga6 := k56 _ _ ga4 na
      -- others
      refine ⟨_, rfl, _, rfl, _, rfl, w1, fun q1 hq1 => ?_⟩
      generalize eG1 : upd H6 q1 (HO.lst [V.int 2]) = G1
      have s1 : Same H6 G1 := eG1 ▸ same_new hq1
      have g1 : G1 q1 = some (.lst [.int 2]) := by rw [← eG1]; exact upd_same
      refine ⟨a, q1, _, _, rfl, rfl, s1 _ _ ga6, g1, by rw [ll]; show ns.length + 1 ≤ _; omega, fun q2 hq2 => ?_⟩
      generalize eG2 : upd G1 q2 _ = G2
      have s2 : Same G1 G2 := eG2 ▸ same_new hq2
      have g2 : G2 q2 = some (.lst ((ns ++ [2]).map V.int)) := by rw [← eG2, List.map_append]; exact upd_same
      refine ⟨_, rfl, _, rfl, _, rfl, a, _, rfl, SqL.of (s2 _ _ (s1 _ _ ga6)), fun q3 hq3 => ?_⟩
      generalize eG3 : upd G2 q3 _ = G3
      have s3 : Same G2 G3 := eG3 ▸ same_new hq3
      obtain ⟨ms1, em1, lm1, im1⟩ := cut_part ns none (some (m : Int))
      have g3 : G3 q3 = some (.lst (ms1.map V.int)) := by rw [← eG3, upd_same, em1]
      have s13 := (s1.trans s2).trans s3
      refine ⟨_, rfl, 10, 6, rfl, rfl, ⟨by decide, by decide, by decide⟩, w1, fun q4 hq4 => ?_⟩
      generalize eG4 : upd G3 q4 (HO.lst [V.int (10 ^ (6 : Int).toNat)]) = G4
      have s4 : Same G3 G4 := eG4 ▸ same_new hq4
      have g4' : G4 q4 = some (.lst [.int (10 ^ (6 : Int).toNat)]) := by rw [← eG4]; exact upd_same
      refine ⟨a, q4, _, _, rfl, rfl, (s13.trans s4) _ _ ga6, g4', by rw [ll]; show ns.length + 1 ≤ _; omega, fun q5 hq5 => ?_⟩
      generalize eG5 : upd G4 q5 _ = G5
      have s5 : Same G4 G5 := eG5 ▸ same_new hq5
      have g5 : G5 q5 = some (.lst ((ns ++ [1000000]).map V.int)) := by rw [← eG5, List.map_append]; exact upd_same
      refine ⟨w5, fun o ho => ?_⟩
      generalize eG6 : upd G5 o _ = G6
      have s6 : Same G5 G6 := eG6 ▸ same_new ho
      have g6 : G6 o = some (.lst [.ref a, .ref a, .ref q2, .ref q3, .ref q5]) := by rw [← eG6]; exact upd_same
      have s16 := ((s13.trans s4).trans s5).trans s6
      refine ⟨_, rfl, .inl ⟨rfl, _, SqL.of g6⟩, ?_⟩
      refine ⟨_, rfl, _, rfl, _, rfl, a, _, rfl, SqL.of (s16 _ _ ga6), fun q6 hq6 => ?_⟩
      generalize eG7 : upd G6 q6 _ = G7
      have s7 : Same G6 G7 := eG7 ▸ same_new hq6
      have g7 : G7 q6 = some (.lst (ms1.map V.int)) := by rw [← eG7, upd_same, em1]
      refine ⟨w1, fun q7 hq7 => ?_⟩
      generalize eG8 : upd G7 q7 (HO.lst [V.int 3]) = G8
      have s8 : Same G7 G8 := eG8 ▸ same_new hq7
      have g8 : G8 q7 = some (.lst [.int 3]) := by rw [← eG8]; exact upd_same
      refine ⟨q6, q7, _, _, rfl, rfl, s8 _ _ g7, g8, by rw [List.length_map]; show ms1.length + 1 ≤ _; omega, fun q8 hq8 => ?_⟩
      generalize eG9 : upd G8 q8 _ = G9
      have s9 : Same G8 G9 := eG9 ▸ same_new hq8
      have g9 : G9 q8 = some (.lst ((ms1 ++ [3]).map V.int)) := by rw [← eG9, List.map_append]; exact upd_same
      obtain ⟨ms2, em2, lm2, im2⟩ := cut_part ns (some ((m : Int) + 1)) none
      have s69 := (s7.trans s8).trans s9
      refine ⟨_, rfl, _, rfl, _, 1, rfl, rfl, _, rfl, a, _, rfl, SqL.of ((s16.trans s69) _ _ ga6), fun q9 hq9 => ?_⟩
      generalize eG10 : upd G9 q9 _ = G10
      have s10 : Same G9 G10 := eG10 ▸ same_new hq9
      have g10 : G10 q9 = some (.lst (ms2.map V.int)) := by rw [← eG10, upd_same, em2]
      refine ⟨q8, q9, _, _, rfl, rfl, s10 _ _ g9, g10, by rw [List.length_map, List.length_map, List.length_append]; show ms1.length + 1 + ms2.length ≤ _; omega, fun q10 hq10 => ?_⟩
      generalize eG11 : upd G10 q10 _ = G11
      have s11 : Same G10 G11 := eG11 ▸ same_new hq10
      have g11 : G11 q10 = some (.lst ((ms1 ++ [3] ++ ms2).map V.int)) := by rw [← eG11]; simp only [List.map_append]; exact upd_same
      have s611 := (s69.trans s10).trans s11
      have g6' := s611 _ _ g6
      refine ⟨o, _, _, rfl, rfl, g6', by show 5 < sizeLine; omega, ?_⟩
      have nol : o ≠ l := ((S6.same ((s13.trans s4).trans s5))).ne ho
      have no : ∀ {q : Addr} {ys : HO}, G5 q = some ys → q ≠ o := fun e => ne_of_none e ho
      have s36 := (s4.trans s5)
      have s35 := s3.trans s36
      have nq2 := no (s35 _ _ g2)
      have nq3 := no (s36 _ _ g3)
      have nq5 := no g5
      have nao := no (((s13.trans s4).trans s5) _ _ ga6)
      have nq10 : q10 ≠ o := (ne_of_none ((s69.trans s10) _ _ g6) hq10).symm
      have s6a := s16.trans s611
      have S12 := (S6.same s6a).upd (o := .lst ([V.ref a, .ref a, .ref q2, .ref q3, .ref q5] ++ [.ref q10])) nol
      generalize eG12 : upd G11 o _ = G12 at S12 ⊢
      have k12 : Keep1 G11 G12 o := eG12 ▸ Keep1.set
      have g12 : G12 o = some (.lst [.ref a, .ref a, .ref q2, .ref q3, .ref q5, .ref q10]) := by rw [← eG12]; exact upd_same
      -- way
      refine ⟨_, rfl, _, rfl, l, seed, c6, 6, rfl, S12, by omega, by decide, by decide, fun z7 c7 H7 z70 z71 S7 hc7 k7 => ?_⟩
      have k6c : Keep1 H6 G12 o := (Keep1.of s6a).trans k12
      have g127 := k7 _ _ g12 nol
      obtain ⟨v, ms, at7, gv, nvl, rms, lms⟩ : ∃ v ms, atI [V.ref a, .ref a, .ref q2, .ref q3, .ref q5, .ref q10] z7 = some (.ref v) ∧ H7 v = some (.lst (ms.map V.int)) ∧ v ≠ l ∧ Rpl ms ∧ ms.length ≤ 20 := by
        have s25 := s3.trans (s36)
        have up : ∀ {q : Addr} {y : HO}, G5 q = some y → q ≠ l → H7 q = some y := fun e nl => k7 _ _ (k12 _ _ (s611 _ _ (s6 _ _ e)) (no e)) nl
        have nq2l : q2 ≠ l := (S6.same s1).ne hq2
        have nq3l : q3 ≠ l := (S6.same (s1.trans s2)).ne hq3
        have nq5l : q5 ≠ l := (S6.same (s13.trans s4)).ne hq5
        have nq10l : q10 ≠ l := (S6.same ((s16.trans s69).trans s10)).ne hq10
        have rp1 : ∀ k : Int, 2 ≤ k → k < 1073741824 → Rpl (ns ++ [k]) := fun k h0 h1 j hj => by
          rcases List.mem_append.mp hj with z | z
          · exact rpl j z
          · rw [List.mem_singleton.mp z]
            exact ⟨h0, h1⟩
        have rm1 : Rpl ms1 := fun k hk => rpl k (im1 k hk)
        have c : z7 = 0 ∨ z7 = 1 ∨ z7 = 2 ∨ z7 = 3 ∨ z7 = 4 ∨ z7 = 5 := by omega
        rcases c with rfl | rfl | rfl | rfl | rfl | rfl
        · exact ⟨a, ns, rfl, up (((s13.trans s4).trans s5) _ _ ga6) na, na, rpl, by omega⟩
        · exact ⟨a, ns, rfl, up (((s13.trans s4).trans s5) _ _ ga6) na, na, rpl, by omega⟩
        · exact ⟨q2, _, rfl, up (s25 _ _ g2) nq2l, nq2l, rp1 2 (by decide) (by decide), by rw [List.length_append]; show ns.length + 1 ≤ _; omega⟩
        · exact ⟨q3, _, rfl, up (s36 _ _ g3) nq3l, nq3l, rm1, by omega⟩
        · exact ⟨q5, _, rfl, up g5 nq5l, nq5l, rp1 _ (by decide) (by decide), by rw [List.length_append]; show ns.length + 1 ≤ _; omega⟩
        · refine ⟨q10, _, rfl, k7 _ _ (k12 _ _ g11 nq10) nq10l, nq10l, fun j hj => ?_, by rw [List.length_append, List.length_append]; show ms1.length + 1 + ms2.length ≤ _; omega⟩
          rcases List.mem_append.mp hj with z | z
          · rcases List.mem_append.mp z with z | z
            · exact rm1 j z
            · rw [List.mem_singleton.mp z]
              decide
          · exact rpl j (im2 j z)
      refine ⟨o, _, z7, _, rfl, rfl, SqL.of g127, at7, ?_⟩
      have kk7 : Keep1 H4 H7 l := fun y u e ny => k7 _ _ (k6c y u (k56 y u e ny) (ne_of_none (k56 y u e ny) (by
        cases ho6 : H6 o with
        | none => rfl
        | some z => exact absurd (((s13.trans s4).trans s5) _ _ ho6) (by rw [ho]; exact fun z => nomatch z)))) ny
      clear at7 k6c S12 k12 g12 g127 s6a s611 g11 eG12 eG11 eG10 eG9 eG8 eG7 eG6 eG5 eG4 eG3 eG2 eG1 g10 g9 g8 g7 g6' g6 g5 g4' g3 g2 g1 nol no s36 s35 nq2 nq3 nq5 nao nq10 s69 s16 s13 s1 s2 s3 s4 s5 s6 s7 s8 s9 s10 s11 hq1 hq2 hq3 hq4 hq5 hq6 hq7 hq8 hq9 hq10 ho
      -- begun
      refine ⟨_, rfl, _, rfl, _, rfl, _, _, rfl, rfl, by rw [SX.S_len]; show xs.length + 1 ≤ _; omega, _, rfl, _, rfl, w1, fun e1 he1 => ?_⟩
      refine ⟨xs, b, e1, [2], rfl, by omega, SqL.of upd_same, fun x hx => by rw [List.mem_singleton.mp hx]; decide, fun H8 s8 => ⟨w4, fun e2 he2 => ?_⟩⟩
      have s78 : Same H7 H8 := (same_new he1).trans s8
      have s79 : Same H7 (upd H8 e2 (.lst [V.str (SX.S xs), V.str (SX.S xs), V.str (SX.S xs ++ "b"), V.str (SX.S (sqs b xs [2]))])) := s78.trans (same_new he2)
      refine ⟨_, rfl, l, seed, c7, 4, rfl, S7.same s79, by omega, by decide, by decide, fun z8 c8 H9 z80 z81 S9 hc9 k9 => ?_⟩
      have ne2 : e2 ≠ l := (S7.same s78).ne he2
      obtain ⟨ys, at8, lys, _⟩ : ∃ ys, atI [V.str (SX.S xs), V.str (SX.S xs), V.str (SX.S xs ++ "b"), V.str (SX.S (sqs b xs [2]))] z8 = some (.str (SX.S ys)) ∧ ys.length ≤ 2000 ∧ True := by
        have c : z8 = 0 ∨ z8 = 1 ∨ z8 = 2 ∨ z8 = 3 := by omega
        rcases c with rfl | rfl | rfl | rfl
        · exact ⟨xs, rfl, by omega, trivial⟩
        · exact ⟨xs, rfl, by omega, trivial⟩
        · exact ⟨xs ++ [98], by rw [← SX.S_cat]; rfl, by rw [List.length_append]; show xs.length + 1 ≤ _; omega, trivial⟩
        · exact ⟨_, rfl, sqs_size (by omega) fun x hx => by rw [List.mem_singleton.mp hx]; decide, trivial⟩
      refine ⟨e2, _, z8, _, rfl, rfl, SqL.of (k9 _ _ upd_same ne2), at8, ?_⟩
      have k79 : Keep1 H7 H9 l := (Keep1.of s79).trans k9
      -- mark
      refine ⟨_, rfl, l, seed, c8, 4, rfl, S9, by omega, by decide, by decide, fun z9 cA HA z90 z91 SA hcA kA => ?_⟩
      obtain ⟨m9, rfl⟩ : ∃ m : Nat, z9 = m := ⟨z9.toNat, by omega⟩
      obtain ⟨b2, at9⟩ : ∃ b2, [V.str ⟨#[b]⟩, V.str ⟨#[b]⟩, V.str ⟨#[b]⟩, V.str "~"][m9]? = some (.str ⟨#[b2]⟩) := by
        have c : m9 = 0 ∨ m9 = 1 ∨ m9 = 2 ∨ m9 = 3 := by omega
        rcases c with rfl | rfl | rfl | rfl
        · exact ⟨b, rfl⟩
        · exact ⟨b, rfl⟩
        · exact ⟨b, rfl⟩
        · exact ⟨126, rfl⟩
      refine ⟨m9, _, _, _, rfl, rfl, rfl, rfl, at9, fun u1 n1 good1 ru1 => ?_⟩
      -- two
      have kk9 : Keep1 H4 HA l := (kk7.trans k79).trans kA
      refine ⟨_, rfl, _, rfl, _, rfl, fun ru2 => ⟨_, rfl, l, v, seed, cA, ys, b2, ms, rfl, SA, by omega, lys, kA _ _ (k79 _ _ gv nvl) nvl, nvl, rms, lms, good1, fun p2 dx2 r2 t2 T2 cB HB np2 ndx2 nr2 nt2 L2 kB SB hcB => ?_⟩⟩
      have kkB : Keep1 H4 HB l := kk9.trans kB
      obtain ⟨dg4, hl4⟩ := S4.ob
      have LB := L.keepx kkB hl4 nrl ntl
      have gaB := kkB _ _ ga4 na
      have gvB := kB _ _ (kA _ _ (k79 _ _ gv nvl) nvl) nvl
      -- due
      refine tellNx (fun σ2 H2 => H2 = HB ∧ σ2 = [some (.ref l), some (.str (SX.S xs)), some (.str ⟨#[b]⟩), some (.ref a), some (.ref p), some (.int (i : Int)), some (.int (m : Int)), some (.ref o), some (.ref v), some (.str (SX.S ys)), some (.str ⟨#[b2]⟩), some (.ref p2), some (.bl (decide (ys = xs) && (decide (ms = ns) && decide (b2 = b))))]) (fun N hN => ?_) (fun σ2 H2 hh => ?_)
      · show tAndV _ (tAndV _ _) _ _ _
        refine tAndV3 (c1 := decide (ys = xs)) (c2 := decide (ms = ns)) (c3 := decide (b2 = b)) (fun Q' q' => ⟨_, rfl, _, rfl, SX.S ys, SX.S xs, rfl, rfl, by rw [SX.S_beq_eq]; exact q'⟩)
          (fun Q' q' => ⟨_, rfl, _, rfl, .list (ms.map PyData.int), .list (ns.map PyData.int), .lst (SqL.of gvB) (dpIntsQ _), .lst (SqL.of gaB) (dpIntsQ _), shapedIntsQ _, shapedIntsQ _, by rw [eqv_ints]; exact q'⟩)
          (fun Q' q' => ⟨_, rfl, _, rfl, SX.S [b2], SX.S [b], rfl, rfl, by rw [show (SX.S [b2] == SX.S [b]) = decide (b2 = b) from (SX.S_beq_eq).trans (by simp)]; exact q'⟩) (hN _ _ ⟨rfl, rfl⟩)
      obtain ⟨rfl, rfl⟩ := hh
      have eX : (decide (xs = ys) && decide (b = b2) && decide (ns = ms)) = (decide (ys = xs) && (decide (ms = ns) && decide (b2 = b))) := by
        rw [decide_eq_decide.mpr (eq_comm (a := xs) (b := ys)), decide_eq_decide.mpr (eq_comm (a := b) (b := b2)), decide_eq_decide.mpr (eq_comm (a := ns) (b := ms)), Bool.and_assoc, Bool.and_comm (decide (b2 = b))]
      have eY : (decide (ys = xs) && decide (b2 = b) && decide (ms = ns)) = (decide (ys = xs) && (decide (ms = ns) && decide (b2 = b))) := by
        rw [Bool.and_assoc, Bool.and_comm (decide (b2 = b))]
      generalize (decide (ys = xs) && (decide (ms = ns) && decide (b2 = b))) = due at eX eY ⊢
      obtain ⟨m1, LL1, _⟩ := id LB.m
      obtain ⟨m2, LL2, _⟩ := id L2.m
      have bne : ∀ c : Bool, PyData.eqv (.bool c) (.bool c) = true := fun c => by cases c <;> rfl
      have bnn : ∀ c : Bool, PyData.eqv (.bool !c) (.bool c) = false := fun c => by cases c <;> rfl
      refine ⟨_, rfl, _, rfl, p, dx, m1, _, p2, dx2, m2, _, rfl, rfl, LL1, LL2, .inl ⟨p, dx, r, t, p2, dx2, r2, t2, u0, u1, b, b2, xs, ys, T, T2, ns, ms, rfl, LB, L2, _, rfl, ?_⟩⟩
      refine ⟨_, rfl, .bool _, .bool _, .bl _, .bl _, rfl, rfl, _, rfl, ?_⟩
      rw [eX, bne, Bool.not_true]
      refine iteF ?_
      refine ⟨_, rfl, _, rfl, p2, dx2, m2, _, p, dx, m1, _, rfl, rfl, LL2, LL1, .inl ⟨p2, dx2, r2, t2, p, dx, r, t, u1, u0, b2, b, ys, xs, T2, T, ms, ns, rfl, L2, LB, _, rfl, ?_⟩⟩
      refine ⟨_, rfl, .bool _, .bool _, .bl _, .bl _, rfl, rfl, _, rfl, ?_⟩
      rw [eY, bne, Bool.not_true]
      refine iteF ?_
      refine ⟨_, rfl, _, rfl, p, dx, m1, _, rfl, LL1, .inl ⟨p2, dx2, m2, _, rfl, LL2⟩, .inl ⟨p, dx, r, t, p2, dx2, r2, t2, u0, u1, b, b2, xs, ys, T, T2, ns, ms, rfl, LB, L2, _, rfl, ?_⟩⟩
      refine ⟨_, rfl, .bool _, .bool _, .bl _, .bl _, rfl, rfl, _, rfl, ?_⟩
      rw [eX, bnn]
      refine iteF ?_
      exact ⟨cB, _, _, _, _, _, _, _, _, rfl, SB, by omega, kkB⟩
    · rintro σ H5 ⟨c5, y5, y6, y7, y8, y9, y10, y11, y12, rfl, S5, hc5, k5⟩
      obtain ⟨dg4, hl4⟩ := S4.ob
      have L5 := L.keepx k5 hl4 nrl ntl
      have ga5 := k5 _ _ ga4 na
      obtain ⟨m1, LL1, _⟩ := id L5.m
      refine ⟨_, rfl, _, rfl, _, rfl, _, rfl, _, rfl, w2, fun q1 hq1 => ?_⟩
      have s1 := same_new (o := .tup [V.str (SX.S xs), .str ⟨#[b]⟩]) hq1
      refine ⟨_, rfl, _, rfl, w2, fun q2 hq2 => ?_⟩
      have s2 := s1.trans (same_new (o := .lst [V.str (SX.S xs), .ref a]) hq2)
      refine ⟨_, rfl, p, dx, m1, _, rfl, LL1.same s2, p, dx, r, t, u0, b, xs :: T, ns, rfl, L5.same s2, ?_⟩
      refine ⟨_, rfl, p, dx, m1, _, rfl, LL1.same s2, p, dx, r, t, u0, b, xs :: T, ns, rfl, L5.same s2, fun mx H6 im s6 => ?_⟩
      refine ⟨w9, fun q3 hq3 => ?_⟩
      have s3 := (s2.trans s6).trans (same_new (o := .lst [V.non, .str (SX.S xs), .ref a, .ref q1, .ref q2, .str (SX.S (lastT (xs :: T))), .int mx, .int 0, .str ""]) hq3)
      have each : ∀ (v : V) (T' : String), Oth (upd H6 q3 (.lst [V.non, .str (SX.S xs), .ref a, .ref q1, .ref q2, .str (SX.S (lastT (xs :: T))), .int mx, .int 0, .str ""])) v T' → (∃ TT, Oth (upd H6 q3 (.lst [V.non, .str (SX.S xs), .ref a, .ref q1, .ref q2, .str (SX.S (lastT (xs :: T))), .int mx, .int 0, .str ""])) v TT) ∧ spEqX C [.ref p, v] (upd H6 q3 (.lst [V.non, .str (SX.S xs), .ref a, .ref q1, .ref q2, .str (SX.S (lastT (xs :: T))), .int mx, .int 0, .str ""])) (fun r H2 => r = .bl false ∧ H2 = upd H6 q3 (.lst [V.non, .str (SX.S xs), .ref a, .ref q1, .ref q2, .str (SX.S (lastT (xs :: T))), .int mx, .int 0, .str ""])) E0 :=
        fun v T' o => ⟨⟨T', o⟩, .inr ⟨p, dx, m1, _, v, T', rfl, LL1.same s3, o, rfl, rfl⟩⟩
      refine ⟨p, dx, m1, _, q3, _, rfl, rfl, LL1.same s3, upd_same, fun v hv => ?_, q c5 _ (S5.same s3) (by omega) (kH4.trans (k5.trans (Keep1.of s3)))⟩
      have up : ∀ {x : Addr} {o : HO}, H6 x = some o → upd H6 q3 (.lst [V.non, .str (SX.S xs), .ref a, .ref q1, .ref q2, .str (SX.S (lastT (xs :: T))), .int mx, .int 0, .str ""]) x = some o := fun e => same_new hq3 _ _ e
      simp only [List.mem_cons, List.not_mem_nil, or_false] at hv
      rcases hv with rfl | rfl | rfl | rfl | rfl | rfl | rfl | rfl | rfl
      · exact each _ _ .non
      · exact each _ _ (.str _)
      · exact each _ _ (.lst (s3 _ _ ga5))
      · exact each _ _ (.tup (up (s6 _ _ (same_new (o := .lst [V.str (SX.S xs), .ref a]) hq2 _ _ upd_same))))
      · exact each _ _ (.lst (up (s6 _ _ upd_same)))
      · exact each _ _ (.str _)
      · exact each _ _ (.int _)
      · exact each _ _ (.int _)
      · exact each _ _ (.str _)
end
end Sq
set_option Elab.async false
set_option linter.all false
set_option maxRecDepth 100000
set_option maxHeartbeats 8000000
set_option exponentiation.threshold 2000
namespace Sq
open PySem PySem.Spec PyProof.Rows L2
abbrev s_law : Stmt := topS 24
theorem sc_law : FnScope ["script", "at", "pool", "turn"] ["script"] (defScope s_law) := ⟨rfl, rfl, rfl, by decide +kernel, rfl, by decide +kernel, by decide +kernel⟩
theorem pe_ofW {X : Cx} {e : Expr} {t : TE} (h : We X (fun s => 0 ≤ s.toks) e t) : PE X e t := ⟨fun pins s σ H Q I q => wpAny_mono (h.run pins s σ H Q I (Nat.zero_le _) q) (fun _ _ z => z.2) fun _ _ z => z⟩
section
variable {P : Program} {w : World} {K : PySem.W.Frag} {mg : Str → Option Value} {base : Heap}
def spLaw (K : PySem.W.Frag) : Sp := fun vs H Q _ => ∃ (a : Addr) (ns : List Int), vs = [.ref a] ∧ SqL K H a (ns.map V.int) ∧ ns.length ≤ 63 ∧ ∀ H', Q (.bl true) H'
theorem ok_law {f C : Addr} {fd : FuncData} (F : Fun K "law" "law" s_law f fd) (B : Bi mg) (D_lawpool : Df P w K mg base 1 "_law_pool" ["script", "at"] (spPool K)) (D_lawright : Df P w K mg base 7 "_law_right" ["pool"] spRight)
    (W_SqueezedText : MkW P w K mg base 2 "SqueezedText" C ["self", "text", "character"] 1 (spLvInit C)) (EM : EqM P w K mg base 1 C ["self", "other"] (spEqX C)) (NC : NeC K C) : Top P w K mg base 8 f fd "script" (spLaw K) := by
  refine atTop F sc_law ⟨rfl, by decide, by decide⟩ (fun vs H Q E h => ?_) (fun cdv outer s H vs Q E hr h => ?_)
  · obtain ⟨a, ns, rfl, _⟩ := h
    rfl
  · obtain ⟨a, ns, rfl, hS, hn, q⟩ := h
    refine ⟨_, (pss_cons (ps_for PassesOwn.never rfl (pi_range1 (by rfl) B.n_range (pa_cons (pe_callB (id := "max") (call_max2 rfl) (by rfl) B.n_max (by decide +kernel) (pa_cons pe_int (pa_cons (pe_callB (id := "min") (call_min2 rfl) (by rfl) B.n_min (by decide +kernel) (pa_cons pe_int (pa_cons (pe_callB (id := "len") (r := rLenK K) call_lenK (by rfl) B.n_len (by decide +kernel) (pa_cons (pv 0) pa_nil)) pa_nil))) pa_nil))) pa_nil)) (pg_name (i := 1) sc_law.nd rfl (Or.inl rfl))
 (pss_cons (ps_set (i := 2) sc_law.nd rfl (Or.inl rfl) (pe_callD D_lawpool (hr.mono (by omega)) (by rfl) (pa_cons (pv 0) (pa_cons (pv 1) pa_nil))))
 (pss_one (ps_for PassesOwn.never rfl (pi_range1 (by rfl) B.n_range (pa_cons pe_int pa_nil)) (pg_name (i := 3) sc_law.nd rfl (Or.inl rfl))
 (pss_one (ps_if (pt_not (pt_val (pe_callD D_lawright (hr.mono (by omega)) (by rfl) (pa_cons (pv 2) pa_nil))))
 (pss_one (ps_ret pe_bl))
 pss_nil)))))) (pss_one (ps_ret (pe_and (pe_ofW (we_cmp (ow_neL clo_n EM NC (hr.mono (by omega))) (we_new (n := 0) clo_n W_SqueezedText (fun _ h => h) (hr.mono (by omega)) (by rfl) (wq_skip (we_ofP pe_str) (wq_any (wa_ofP (pa_cons pe_str pa_nil))))) (we_ofP pe_str) (nomark _)))
      (pe_one (pe_ofW (we_cmp (ow_eqL clo_n EM (hr.mono (by omega))) (we_new (n := 0) clo_n W_SqueezedText (fun _ h => h) (hr.mono (by omega)) (by rfl) (wq_skip (we_ofP pe_str) (wq_any (wa_ofP (pa_cons pe_str pa_nil))))) (we_new (n := 0) clo_n W_SqueezedText (fun _ h => h) (hr.mono (by omega)) (by rfl) (wq_skip (we_ofP pe_str) (wq_any (wa_ofP (pa_cons pe_str pa_nil))))) (nomark _)))))))), ?_⟩
    have lim : sizeLine = 16777216 := sizeLine_eq
    refine ⟨_, rfl, a, _, rfl, .inl hS, 8, _, rfl, 1, _, rfl, ?_⟩
    rw [List.length_map]
    obtain ⟨N, eN⟩ : ∃ N, N = (if (if (ns.length : Int) < 8 then (ns.length : Int) else 8) > 1 then (if (ns.length : Int) < 8 then (ns.length : Int) else 8) else 1) := ⟨_, rfl⟩
    have hN : 1 ≤ N ∧ N ≤ 8 := by
      rw [eN]
      split <;> split <;> omega
    refine ⟨N, by subst eN; rfl, by omega, by omega, for_range (lo := 0) (n := N.toNat) (fun i σ H' => Same H H' ∧ ∃ y1 y2 y3, σ = [some (.ref a), y1, y2, y3]) ⟨Same.refl H, none, none, none, rfl⟩ ?_ ?_⟩
    · rintro i σ H1 hi ⟨s1, y1, y2, y3, rfl⟩
      refine ⟨_, rfl, _, rfl, a, ns, i, by rw [Int.zero_add]; rfl, s1.seq hS, hn, by omega, fun l seed H2 hl s2 S2 => ?_⟩
      refine ⟨4, rfl, by decide, by decide, for_range (lo := 0) (n := 4) (fun j σ H' => ∃ cnt y3, σ = [some (.ref a), some (.int (0 + (i : Int))), some (.ref l), y3] ∧ Rng H' l seed cnt ∧ cnt ≤ 2000 * j ∧ Same H1 H')
        ⟨0, y3, rfl, S2, by omega, s2⟩ ?_ ?_⟩
      · rintro j σ H3 hj ⟨cnt, y3, rfl, S3, hc3, s3⟩
        refine ⟨_, rfl, l, seed, cnt, rfl, S3, by omega, fun c4 H4 S4 hc4 k4 => ⟨_, rfl, iteF ⟨c4, _, rfl, S4, by omega, fun b o e => k4 _ _ (s3 _ _ e) (ne_of_none e hl)⟩⟩⟩
      · rintro σ H3 ⟨cnt, y3, rfl, S3, hc3, s3⟩
        exact ⟨s1.trans s3, _, _, _, rfl⟩
    · rintro σ H1 ⟨s1, y1, y2, y3, rfl⟩
      refine ⟨_, _, rfl, fun u0 ru x dx nx ndx nex => ⟨x, dx, [], 32, rfl, ⟨upd_same, by rw [upd_ne nex, upd_same], nex⟩, Nat.zero_le _, fun r t H2 nr nt L kd => ⟨rfl, ?_⟩⟩⟩
      obtain ⟨m, LL, _⟩ := id L.m
      refine ⟨x, dx, m, _, rfl, LL, .inr ⟨_, rfl⟩, .inr ⟨x, dx, m, _, .str "", "str", rfl, LL, .str _, false, rfl, true, rfl, iteT ?_⟩⟩
      refine ⟨_, _, rfl, fun u1 ru1 x1 dx1 nx1 ndx1 nex1 => ⟨x1, dx1, [97], 98, rfl, ⟨upd_same, by rw [upd_ne nex1, upd_same], nex1⟩, by decide, fun r1 t1 H3 nr1 nt1 L1 kd1 => ⟨rfl, ?_⟩⟩⟩
      refine ⟨_, _, rfl, fun u2 ru2 x2 dx2 nx2 ndx2 nex2 => ⟨x2, dx2, [97], 98, rfl, ⟨upd_same, by rw [upd_ne nex2, upd_same], nex2⟩, by decide, fun r2 t2 H4 nr2 nt2 L2 kd2 => ⟨rfl, ?_⟩⟩⟩
      have L14 := L1.same (bornS (C := C) nx2 ndx2 kd2)
      obtain ⟨m1, LL1, _⟩ := id L14.m
      obtain ⟨m2, LL2, _⟩ := id L2.m
      exact ⟨x1, dx1, m1, _, x2, dx2, m2, _, rfl, rfl, LL1, LL2, .inl ⟨x1, dx1, r1, t1, x2, dx2, r2, t2, u1, u2, 98, 98, [97], [97], [], [], [], [], rfl, L14, L2, true, rfl, q _⟩⟩
end
end Sq
set_option Elab.async false
set_option linter.all false
set_option maxRecDepth 100000
set_option maxHeartbeats 4000000
namespace Sq
open PySem PySem.Spec PyProof.Rows L2
theorem all_mk {l : PySem.W.OpenLaw} {w : World} {K : PySem.W.Frag} {h : Heap} {mg : Str → Option Value} {fa : Addr} (X : K.In h) (G : h.Ns mainGlobals mg) (hfa : mg "law" = some (.ref fa))
    {f_checklist : Addr} {od_checklist an_checklist : Option Addr} {sl_checklist : Array (Option Value)} {oc_checklist kV_checklist dc_checklist pm_checklist cd_checklist ct_checklist : Value}
    (a_checklist : PySem.W.nsIn K mainGlobals "check_list" = some (some (.ref f_checklist)))
    (l_checklist : K.lookup f_checklist = some ⟨oc_checklist, od_checklist, .func (PySem.W.fnOf "check_list" "check_list" (defArgs s_checklist) (defBody s_checklist) (defScope s_checklist) .none kV_checklist dc_checklist pm_checklist an_checklist cd_checklist ct_checklist), sl_checklist⟩)
    (c_checklist : PySem.W.codeIn K cd_checklist "check_list" = true) (k_checklist : PySem.W.keepIn K (.ref f_checklist) = true)
    {f_checkcharacter : Addr} {od_checkcharacter an_checkcharacter : Option Addr} {sl_checkcharacter : Array (Option Value)} {oc_checkcharacter kV_checkcharacter dc_checkcharacter pm_checkcharacter cd_checkcharacter ct_checkcharacter : Value}
    (a_checkcharacter : PySem.W.nsIn K mainGlobals "check_character" = some (some (.ref f_checkcharacter)))
    (l_checkcharacter : K.lookup f_checkcharacter = some ⟨oc_checkcharacter, od_checkcharacter, .func (PySem.W.fnOf "check_character" "check_character" (defArgs s_checkcharacter) (defBody s_checkcharacter) (defScope s_checkcharacter) .none kV_checkcharacter dc_checkcharacter pm_checkcharacter an_checkcharacter cd_checkcharacter ct_checkcharacter), sl_checkcharacter⟩)
    (c_checkcharacter : PySem.W.codeIn K cd_checkcharacter "check_character" = true) (k_checkcharacter : PySem.W.keepIn K (.ref f_checkcharacter) = true)
    {f_squeezetext : Addr} {od_squeezetext an_squeezetext : Option Addr} {sl_squeezetext : Array (Option Value)} {oc_squeezetext kV_squeezetext dc_squeezetext pm_squeezetext cd_squeezetext ct_squeezetext : Value}
    (a_squeezetext : PySem.W.nsIn K mainGlobals "squeeze_text" = some (some (.ref f_squeezetext)))
    (l_squeezetext : K.lookup f_squeezetext = some ⟨oc_squeezetext, od_squeezetext, .func (PySem.W.fnOf "squeeze_text" "squeeze_text" (defArgs s_squeezetext) (defBody s_squeezetext) (defScope s_squeezetext) .none kV_squeezetext dc_squeezetext pm_squeezetext an_squeezetext cd_squeezetext ct_squeezetext), sl_squeezetext⟩)
    (c_squeezetext : PySem.W.codeIn K cd_squeezetext "squeeze_text" = true) (k_squeezetext : PySem.W.keepIn K (.ref f_squeezetext) = true)
    {f_lengthafter : Addr} {od_lengthafter an_lengthafter : Option Addr} {sl_lengthafter : Array (Option Value)} {oc_lengthafter kV_lengthafter dc_lengthafter pm_lengthafter cd_lengthafter ct_lengthafter : Value}
    (a_lengthafter : PySem.W.nsIn K mainGlobals "length_after" = some (some (.ref f_lengthafter)))
    (l_lengthafter : K.lookup f_lengthafter = some ⟨oc_lengthafter, od_lengthafter, .func (PySem.W.fnOf "length_after" "length_after" (defArgs s_lengthafter) (defBody s_lengthafter) (defScope s_lengthafter) .none kV_lengthafter dc_lengthafter pm_lengthafter an_lengthafter cd_lengthafter ct_lengthafter), sl_lengthafter⟩)
    (c_lengthafter : PySem.W.codeIn K cd_lengthafter "length_after" = true) (k_lengthafter : PySem.W.keepIn K (.ref f_lengthafter) = true)
    {f_lengthafterone : Addr} {od_lengthafterone an_lengthafterone : Option Addr} {sl_lengthafterone : Array (Option Value)} {oc_lengthafterone kV_lengthafterone dc_lengthafterone pm_lengthafterone cd_lengthafterone ct_lengthafterone : Value}
    (a_lengthafterone : PySem.W.nsIn K mainGlobals "length_after_one" = some (some (.ref f_lengthafterone)))
    (l_lengthafterone : K.lookup f_lengthafterone = some ⟨oc_lengthafterone, od_lengthafterone, .func (PySem.W.fnOf "length_after_one" "length_after_one" (defArgs s_lengthafterone) (defBody s_lengthafterone) (defScope s_lengthafterone) .none kV_lengthafterone dc_lengthafterone pm_lengthafterone an_lengthafterone cd_lengthafterone ct_lengthafterone), sl_lengthafterone⟩)
    (c_lengthafterone : PySem.W.codeIn K cd_lengthafterone "length_after_one" = true) (k_lengthafterone : PySem.W.keepIn K (.ref f_lengthafterone) = true)
    {f_lengthsbetween : Addr} {od_lengthsbetween an_lengthsbetween : Option Addr} {sl_lengthsbetween : Array (Option Value)} {oc_lengthsbetween kV_lengthsbetween dc_lengthsbetween pm_lengthsbetween cd_lengthsbetween ct_lengthsbetween : Value}
    (a_lengthsbetween : PySem.W.nsIn K mainGlobals "lengths_between" = some (some (.ref f_lengthsbetween)))
    (l_lengthsbetween : K.lookup f_lengthsbetween = some ⟨oc_lengthsbetween, od_lengthsbetween, .func (PySem.W.fnOf "lengths_between" "lengths_between" (defArgs s_lengthsbetween) (defBody s_lengthsbetween) (defScope s_lengthsbetween) .none kV_lengthsbetween dc_lengthsbetween pm_lengthsbetween an_lengthsbetween cd_lengthsbetween ct_lengthsbetween), sl_lengthsbetween⟩)
    (c_lengthsbetween : PySem.W.codeIn K cd_lengthsbetween "lengths_between" = true) (k_lengthsbetween : PySem.W.keepIn K (.ref f_lengthsbetween) = true)
    {f_lawpool : Addr} {od_lawpool an_lawpool : Option Addr} {sl_lawpool : Array (Option Value)} {oc_lawpool kV_lawpool dc_lawpool pm_lawpool cd_lawpool ct_lawpool : Value}
    (a_lawpool : PySem.W.nsIn K mainGlobals "_law_pool" = some (some (.ref f_lawpool)))
    (l_lawpool : K.lookup f_lawpool = some ⟨oc_lawpool, od_lawpool, .func (PySem.W.fnOf "_law_pool" "_law_pool" (defArgs s_lawpool) (defBody s_lawpool) (defScope s_lawpool) .none kV_lawpool dc_lawpool pm_lawpool an_lawpool cd_lawpool ct_lawpool), sl_lawpool⟩)
    (c_lawpool : PySem.W.codeIn K cd_lawpool "_law_pool" = true) (k_lawpool : PySem.W.keepIn K (.ref f_lawpool) = true)
    {f_lawdraw : Addr} {od_lawdraw an_lawdraw : Option Addr} {sl_lawdraw : Array (Option Value)} {oc_lawdraw kV_lawdraw dc_lawdraw pm_lawdraw cd_lawdraw ct_lawdraw : Value}
    (a_lawdraw : PySem.W.nsIn K mainGlobals "_law_draw" = some (some (.ref f_lawdraw)))
    (l_lawdraw : K.lookup f_lawdraw = some ⟨oc_lawdraw, od_lawdraw, .func (PySem.W.fnOf "_law_draw" "_law_draw" (defArgs s_lawdraw) (defBody s_lawdraw) (defScope s_lawdraw) .none kV_lawdraw dc_lawdraw pm_lawdraw an_lawdraw cd_lawdraw ct_lawdraw), sl_lawdraw⟩)
    (c_lawdraw : PySem.W.codeIn K cd_lawdraw "_law_draw" = true) (k_lawdraw : PySem.W.keepIn K (.ref f_lawdraw) = true)
    {f_lawlist : Addr} {od_lawlist an_lawlist : Option Addr} {sl_lawlist : Array (Option Value)} {oc_lawlist kV_lawlist dc_lawlist pm_lawlist cd_lawlist ct_lawlist : Value}
    (a_lawlist : PySem.W.nsIn K mainGlobals "_law_list" = some (some (.ref f_lawlist)))
    (l_lawlist : K.lookup f_lawlist = some ⟨oc_lawlist, od_lawlist, .func (PySem.W.fnOf "_law_list" "_law_list" (defArgs s_lawlist) (defBody s_lawlist) (defScope s_lawlist) .none kV_lawlist dc_lawlist pm_lawlist an_lawlist cd_lawlist ct_lawlist), sl_lawlist⟩)
    (c_lawlist : PySem.W.codeIn K cd_lawlist "_law_list" = true) (k_lawlist : PySem.W.keepIn K (.ref f_lawlist) = true)
    {f_lawtext : Addr} {od_lawtext an_lawtext : Option Addr} {sl_lawtext : Array (Option Value)} {oc_lawtext kV_lawtext dc_lawtext pm_lawtext cd_lawtext ct_lawtext : Value}
    (a_lawtext : PySem.W.nsIn K mainGlobals "_law_text" = some (some (.ref f_lawtext)))
    (l_lawtext : K.lookup f_lawtext = some ⟨oc_lawtext, od_lawtext, .func (PySem.W.fnOf "_law_text" "_law_text" (defArgs s_lawtext) (defBody s_lawtext) (defScope s_lawtext) .none kV_lawtext dc_lawtext pm_lawtext an_lawtext cd_lawtext ct_lawtext), sl_lawtext⟩)
    (c_lawtext : PySem.W.codeIn K cd_lawtext "_law_text" = true) (k_lawtext : PySem.W.keepIn K (.ref f_lawtext) = true)
    {f_lawreplaced : Addr} {od_lawreplaced an_lawreplaced : Option Addr} {sl_lawreplaced : Array (Option Value)} {oc_lawreplaced kV_lawreplaced dc_lawreplaced pm_lawreplaced cd_lawreplaced ct_lawreplaced : Value}
    (a_lawreplaced : PySem.W.nsIn K mainGlobals "_law_replaced" = some (some (.ref f_lawreplaced)))
    (l_lawreplaced : K.lookup f_lawreplaced = some ⟨oc_lawreplaced, od_lawreplaced, .func (PySem.W.fnOf "_law_replaced" "_law_replaced" (defArgs s_lawreplaced) (defBody s_lawreplaced) (defScope s_lawreplaced) .none kV_lawreplaced dc_lawreplaced pm_lawreplaced an_lawreplaced cd_lawreplaced ct_lawreplaced), sl_lawreplaced⟩)
    (c_lawreplaced : PySem.W.codeIn K cd_lawreplaced "_law_replaced" = true) (k_lawreplaced : PySem.W.keepIn K (.ref f_lawreplaced) = true)
    {f_lawobject : Addr} {od_lawobject an_lawobject : Option Addr} {sl_lawobject : Array (Option Value)} {oc_lawobject kV_lawobject dc_lawobject pm_lawobject cd_lawobject ct_lawobject : Value}
    (a_lawobject : PySem.W.nsIn K mainGlobals "_law_object" = some (some (.ref f_lawobject)))
    (l_lawobject : K.lookup f_lawobject = some ⟨oc_lawobject, od_lawobject, .func (PySem.W.fnOf "_law_object" "_law_object" (defArgs s_lawobject) (defBody s_lawobject) (defScope s_lawobject) .none kV_lawobject dc_lawobject pm_lawobject an_lawobject cd_lawobject ct_lawobject), sl_lawobject⟩)
    (c_lawobject : PySem.W.codeIn K cd_lawobject "_law_object" = true) (k_lawobject : PySem.W.keepIn K (.ref f_lawobject) = true)
    {f_lawright : Addr} {od_lawright an_lawright : Option Addr} {sl_lawright : Array (Option Value)} {oc_lawright kV_lawright dc_lawright pm_lawright cd_lawright ct_lawright : Value}
    (a_lawright : PySem.W.nsIn K mainGlobals "_law_right" = some (some (.ref f_lawright)))
    (l_lawright : K.lookup f_lawright = some ⟨oc_lawright, od_lawright, .func (PySem.W.fnOf "_law_right" "_law_right" (defArgs s_lawright) (defBody s_lawright) (defScope s_lawright) .none kV_lawright dc_lawright pm_lawright an_lawright cd_lawright ct_lawright), sl_lawright⟩)
    (c_lawright : PySem.W.codeIn K cd_lawright "_law_right" = true) (k_lawright : PySem.W.keepIn K (.ref f_lawright) = true)
    {f_law : Addr} {od_law an_law : Option Addr} {sl_law : Array (Option Value)} {oc_law kV_law dc_law pm_law cd_law ct_law : Value}
    (a_law : PySem.W.nsIn K mainGlobals "law" = some (some (.ref f_law)))
    (l_law : K.lookup f_law = some ⟨oc_law, od_law, .func (PySem.W.fnOf "law" "law" (defArgs s_law) (defBody s_law) (defScope s_law) .none kV_law dc_law pm_law an_law cd_law ct_law), sl_law⟩)
    (c_law : PySem.W.codeIn K cd_law "law" = true) (k_law : PySem.W.keepIn K (.ref f_law) = true)
    (z_len : PySem.W.nsIn K mainGlobals "len" = some none)
    (z_min : PySem.W.nsIn K mainGlobals "min" = some none)
    (z_max : PySem.W.nsIn K mainGlobals "max" = some none)
    (z_abs : PySem.W.nsIn K mainGlobals "abs" = some none)
    (z_range : PySem.W.nsIn K mainGlobals "range" = some none)
    (z_isinstance : PySem.W.nsIn K mainGlobals "isinstance" = some none)
    (z_repr : PySem.W.nsIn K mainGlobals "repr" = some none)
    (z_enumerate : PySem.W.nsIn K mainGlobals "enumerate" = some none)
    (z_reversed : PySem.W.nsIn K mainGlobals "reversed" = some none)
    (z_sorted : PySem.W.nsIn K mainGlobals "sorted" = some none)
    (z_bool : PySem.W.nsIn K mainGlobals "bool" = some none)
    (z_int : PySem.W.nsIn K mainGlobals "int" = some none)
    (z_str : PySem.W.nsIn K mainGlobals "str" = some none)
    (z_list : PySem.W.nsIn K mainGlobals "list" = some none)
    (z_tuple : PySem.W.nsIn K mainGlobals "tuple" = some none)
    (z_set : PySem.W.nsIn K mainGlobals "set" = some none)
    (z_sum : PySem.W.nsIn K mainGlobals "sum" = some none)
    (z_zip : PySem.W.nsIn K mainGlobals "zip" = some none)
    (z_all : PySem.W.nsIn K mainGlobals "all" = some none)
    (z_any : PySem.W.nsIn K mainGlobals "any" = some none)
    (z_ValueError : PySem.W.nsIn K mainGlobals "ValueError" = some none)
    (z_divmod : PySem.W.nsIn K mainGlobals "divmod" = some none)
    {CT : Addr} (aCT : PySem.W.nsIn K mainGlobals "SqueezedText" = some (some (.ref CT)))
    (pgCT : PySem.W.plainGet K CT Str.empty = true)
    (hdCT : PySem.W.hasDictIn K CT = true)
    (poCT : PySem.W.plainOver K CT = true)
    (saCT : PySem.W.findIn K (.ref CT) "__setattr__" = some (some (.builtin "object.__setattr__")))
    (mkCT : PySem.W.makesIn K CT = true)
    (kcCT : PySem.W.keepIn K (.ref CT) = true)
    (nCT_0 : PySem.W.findIn K (.ref CT) "_character" = some none)
    (nCT_1 : PySem.W.findIn K (.ref CT) "_replacements" = some none)
    (nCT_2 : PySem.W.findIn K (.ref CT) "_texts" = some none)
    {f_SqueezedTextinit : Addr} {od_SqueezedTextinit an_SqueezedTextinit : Option Addr} {sl_SqueezedTextinit : Array (Option Value)} {oc_SqueezedTextinit kV_SqueezedTextinit dc_SqueezedTextinit pm_SqueezedTextinit cd_SqueezedTextinit ct_SqueezedTextinit : Value}
    (a_SqueezedTextinit : PySem.W.findIn K (.ref CT) "__init__" = some (some (.ref f_SqueezedTextinit))) (i_SqueezedTextinit : PySem.W.isFn K (.ref f_SqueezedTextinit) = true)
    (l_SqueezedTextinit : K.lookup f_SqueezedTextinit = some ⟨oc_SqueezedTextinit, od_SqueezedTextinit, .func (PySem.W.fnOf "__init__" "SqueezedText.__init__" (defArgs s_SqueezedTextinit) (defBody s_SqueezedTextinit) (defScope s_SqueezedTextinit) .none kV_SqueezedTextinit dc_SqueezedTextinit pm_SqueezedTextinit an_SqueezedTextinit cd_SqueezedTextinit ct_SqueezedTextinit), sl_SqueezedTextinit⟩)
    (c_SqueezedTextinit : PySem.W.codeIn K cd_SqueezedTextinit "SqueezedText.__init__" = true) (k_SqueezedTextinit : PySem.W.keepIn K (.ref f_SqueezedTextinit) = true)
    {f_SqueezedTexteq : Addr} {od_SqueezedTexteq an_SqueezedTexteq : Option Addr} {sl_SqueezedTexteq : Array (Option Value)} {oc_SqueezedTexteq kV_SqueezedTexteq dc_SqueezedTexteq pm_SqueezedTexteq cd_SqueezedTexteq ct_SqueezedTexteq : Value}
    (a_SqueezedTexteq : PySem.W.findIn K (.ref CT) "__eq__" = some (some (.ref f_SqueezedTexteq))) (i_SqueezedTexteq : PySem.W.isFn K (.ref f_SqueezedTexteq) = true)
    (l_SqueezedTexteq : K.lookup f_SqueezedTexteq = some ⟨oc_SqueezedTexteq, od_SqueezedTexteq, .func (PySem.W.fnOf "__eq__" "SqueezedText.__eq__" (defArgs s_SqueezedTexteq) (defBody s_SqueezedTexteq) (defScope s_SqueezedTexteq) .none kV_SqueezedTexteq dc_SqueezedTexteq pm_SqueezedTexteq an_SqueezedTexteq cd_SqueezedTexteq ct_SqueezedTexteq), sl_SqueezedTexteq⟩)
    (c_SqueezedTexteq : PySem.W.codeIn K cd_SqueezedTexteq "SqueezedText.__eq__" = true) (k_SqueezedTexteq : PySem.W.keepIn K (.ref f_SqueezedTexteq) = true)
    {f_SqueezedTextsqueeze : Addr} {od_SqueezedTextsqueeze an_SqueezedTextsqueeze : Option Addr} {sl_SqueezedTextsqueeze : Array (Option Value)} {oc_SqueezedTextsqueeze kV_SqueezedTextsqueeze dc_SqueezedTextsqueeze pm_SqueezedTextsqueeze cd_SqueezedTextsqueeze ct_SqueezedTextsqueeze : Value}
    (a_SqueezedTextsqueeze : PySem.W.findIn K (.ref CT) "squeeze" = some (some (.ref f_SqueezedTextsqueeze))) (i_SqueezedTextsqueeze : PySem.W.isFn K (.ref f_SqueezedTextsqueeze) = true)
    (l_SqueezedTextsqueeze : K.lookup f_SqueezedTextsqueeze = some ⟨oc_SqueezedTextsqueeze, od_SqueezedTextsqueeze, .func (PySem.W.fnOf "squeeze" "SqueezedText.squeeze" (defArgs s_SqueezedTextsqueeze) (defBody s_SqueezedTextsqueeze) (defScope s_SqueezedTextsqueeze) .none kV_SqueezedTextsqueeze dc_SqueezedTextsqueeze pm_SqueezedTextsqueeze an_SqueezedTextsqueeze cd_SqueezedTextsqueeze ct_SqueezedTextsqueeze), sl_SqueezedTextsqueeze⟩)
    (c_SqueezedTextsqueeze : PySem.W.codeIn K cd_SqueezedTextsqueeze "SqueezedText.squeeze" = true) (k_SqueezedTextsqueeze : PySem.W.keepIn K (.ref f_SqueezedTextsqueeze) = true)
    {f_SqueezedTextundo : Addr} {od_SqueezedTextundo an_SqueezedTextundo : Option Addr} {sl_SqueezedTextundo : Array (Option Value)} {oc_SqueezedTextundo kV_SqueezedTextundo dc_SqueezedTextundo pm_SqueezedTextundo cd_SqueezedTextundo ct_SqueezedTextundo : Value}
    (a_SqueezedTextundo : PySem.W.findIn K (.ref CT) "undo" = some (some (.ref f_SqueezedTextundo))) (i_SqueezedTextundo : PySem.W.isFn K (.ref f_SqueezedTextundo) = true)
    (l_SqueezedTextundo : K.lookup f_SqueezedTextundo = some ⟨oc_SqueezedTextundo, od_SqueezedTextundo, .func (PySem.W.fnOf "undo" "SqueezedText.undo" (defArgs s_SqueezedTextundo) (defBody s_SqueezedTextundo) (defScope s_SqueezedTextundo) .none kV_SqueezedTextundo dc_SqueezedTextundo pm_SqueezedTextundo an_SqueezedTextundo cd_SqueezedTextundo ct_SqueezedTextundo), sl_SqueezedTextundo⟩)
    (c_SqueezedTextundo : PySem.W.codeIn K cd_SqueezedTextundo "SqueezedText.undo" = true) (k_SqueezedTextundo : PySem.W.keepIn K (.ref f_SqueezedTextundo) = true)
    {f_SqueezedTexttext p_SqueezedTexttext : Addr} {od_SqueezedTexttext an_SqueezedTexttext : Option Addr} {sl_SqueezedTexttext : Array (Option Value)} {oc_SqueezedTexttext kV_SqueezedTexttext dc_SqueezedTexttext pm_SqueezedTexttext cd_SqueezedTexttext ct_SqueezedTexttext : Value}
    {rs_SqueezedTexttext : List Value} (a_SqueezedTexttext : PySem.W.findIn K (.ref CT) "text" = some (some (.ref p_SqueezedTexttext))) (g_SqueezedTexttext : PySem.W.specialIn K (.ref p_SqueezedTexttext) "__get__" = some (some (.builtin "property.__get__"))) (t_SqueezedTexttext : PySem.W.takesIn K (.ref p_SqueezedTexttext) = some true) (r_SqueezedTexttext : PySem.W.recIn K p_SqueezedTexttext "property" = some (.ref f_SqueezedTexttext :: rs_SqueezedTexttext))
    (l_SqueezedTexttext : K.lookup f_SqueezedTexttext = some ⟨oc_SqueezedTexttext, od_SqueezedTexttext, .func (PySem.W.fnOf "text" "SqueezedText.text" (defArgs s_SqueezedTexttext) (defBody s_SqueezedTexttext) (defScope s_SqueezedTexttext) .none kV_SqueezedTexttext dc_SqueezedTexttext pm_SqueezedTexttext an_SqueezedTexttext cd_SqueezedTexttext ct_SqueezedTexttext), sl_SqueezedTexttext⟩)
    (c_SqueezedTexttext : PySem.W.codeIn K cd_SqueezedTexttext "SqueezedText.text" = true) (k_SqueezedTexttext : PySem.W.keepIn K (.ref f_SqueezedTexttext) = true)
    {f_SqueezedTextreplacements p_SqueezedTextreplacements : Addr} {od_SqueezedTextreplacements an_SqueezedTextreplacements : Option Addr} {sl_SqueezedTextreplacements : Array (Option Value)} {oc_SqueezedTextreplacements kV_SqueezedTextreplacements dc_SqueezedTextreplacements pm_SqueezedTextreplacements cd_SqueezedTextreplacements ct_SqueezedTextreplacements : Value}
    {rs_SqueezedTextreplacements : List Value} (a_SqueezedTextreplacements : PySem.W.findIn K (.ref CT) "replacements" = some (some (.ref p_SqueezedTextreplacements))) (g_SqueezedTextreplacements : PySem.W.specialIn K (.ref p_SqueezedTextreplacements) "__get__" = some (some (.builtin "property.__get__"))) (t_SqueezedTextreplacements : PySem.W.takesIn K (.ref p_SqueezedTextreplacements) = some true) (r_SqueezedTextreplacements : PySem.W.recIn K p_SqueezedTextreplacements "property" = some (.ref f_SqueezedTextreplacements :: rs_SqueezedTextreplacements))
    (l_SqueezedTextreplacements : K.lookup f_SqueezedTextreplacements = some ⟨oc_SqueezedTextreplacements, od_SqueezedTextreplacements, .func (PySem.W.fnOf "replacements" "SqueezedText.replacements" (defArgs s_SqueezedTextreplacements) (defBody s_SqueezedTextreplacements) (defScope s_SqueezedTextreplacements) .none kV_SqueezedTextreplacements dc_SqueezedTextreplacements pm_SqueezedTextreplacements an_SqueezedTextreplacements cd_SqueezedTextreplacements ct_SqueezedTextreplacements), sl_SqueezedTextreplacements⟩)
    (c_SqueezedTextreplacements : PySem.W.codeIn K cd_SqueezedTextreplacements "SqueezedText.replacements" = true) (k_SqueezedTextreplacements : PySem.W.keepIn K (.ref f_SqueezedTextreplacements) = true)
    {f_SqueezedTextlongest p_SqueezedTextlongest : Addr} {od_SqueezedTextlongest an_SqueezedTextlongest : Option Addr} {sl_SqueezedTextlongest : Array (Option Value)} {oc_SqueezedTextlongest kV_SqueezedTextlongest dc_SqueezedTextlongest pm_SqueezedTextlongest cd_SqueezedTextlongest ct_SqueezedTextlongest : Value}
    {rs_SqueezedTextlongest : List Value} (a_SqueezedTextlongest : PySem.W.findIn K (.ref CT) "longest" = some (some (.ref p_SqueezedTextlongest))) (g_SqueezedTextlongest : PySem.W.specialIn K (.ref p_SqueezedTextlongest) "__get__" = some (some (.builtin "property.__get__"))) (t_SqueezedTextlongest : PySem.W.takesIn K (.ref p_SqueezedTextlongest) = some true) (r_SqueezedTextlongest : PySem.W.recIn K p_SqueezedTextlongest "property" = some (.ref f_SqueezedTextlongest :: rs_SqueezedTextlongest))
    (l_SqueezedTextlongest : K.lookup f_SqueezedTextlongest = some ⟨oc_SqueezedTextlongest, od_SqueezedTextlongest, .func (PySem.W.fnOf "longest" "SqueezedText.longest" (defArgs s_SqueezedTextlongest) (defBody s_SqueezedTextlongest) (defScope s_SqueezedTextlongest) .none kV_SqueezedTextlongest dc_SqueezedTextlongest pm_SqueezedTextlongest an_SqueezedTextlongest cd_SqueezedTextlongest ct_SqueezedTextlongest), sl_SqueezedTextlongest⟩)
    (c_SqueezedTextlongest : PySem.W.codeIn K cd_SqueezedTextlongest "SqueezedText.longest" = true) (k_SqueezedTextlongest : PySem.W.keepIn K (.ref f_SqueezedTextlongest) = true)
    (haT : PySem.W.findIn K (.ref CT) "__class__" = some (some (.builtin "object.__class__")))
    (hnT : PySem.W.specialIn K (.builtin "object.__class__") "__get__" = some (some (.builtin "getset_descriptor.__get__")))
    (htkT : PySem.W.takesIn K (.builtin "object.__class__") = some true)
    (hmT : PySem.W.mroIn K CT (.type "object") = some true)
    (meT : PySem.W.kitOne K (.ref CT) (.ref CT) = some true)
    (neT : PySem.W.findIn K (.ref CT) "__ne__" = some (some (.builtin "object.__ne__")))
    (nfT : PySem.W.notFirst K CT (.type "str") = true)
    (isNoneType : PySem.W.kitOne K (.type "NoneType") (.ref CT) = some false)
    (mroNoneType : PySem.W.mroIn K CT (.type "NoneType") = some false)
    (isint : PySem.W.kitOne K (.type "int") (.ref CT) = some false)
    (mroint : PySem.W.mroIn K CT (.type "int") = some false)
    (isstr : PySem.W.kitOne K (.type "str") (.ref CT) = some false)
    (mrostr : PySem.W.mroIn K CT (.type "str") = some false)
    (islist : PySem.W.kitOne K (.type "list") (.ref CT) = some false)
    (mrolist : PySem.W.mroIn K CT (.type "list") = some false)
    (istuple : PySem.W.kitOne K (.type "tuple") (.ref CT) = some false)
    (mrotuple : PySem.W.mroIn K CT (.type "tuple") = some false)
    : ∃ fd : FuncData, (∀ (s : Shared) (v : Value), BindsTo s fd ⟨[v], []⟩ [("script", v)]) ∧ ∀ base : Heap, K.In base → base.Ns mainGlobals mg → Top l.prog w K mg base 8 fa fd "script" (spLaw K) := by
  have e := hfa.symm.trans (PySem.W.mg_of X G a_law)
  cases e
  have B : Bi mg := ⟨PySem.W.mg_none_of X G z_len, PySem.W.mg_none_of X G z_min, PySem.W.mg_none_of X G z_max, PySem.W.mg_none_of X G z_abs, PySem.W.mg_none_of X G z_range, PySem.W.mg_none_of X G z_isinstance, PySem.W.mg_none_of X G z_repr, PySem.W.mg_none_of X G z_enumerate, PySem.W.mg_none_of X G z_reversed, PySem.W.mg_none_of X G z_sorted, PySem.W.mg_none_of X G z_bool, PySem.W.mg_none_of X G z_int, PySem.W.mg_none_of X G z_str, PySem.W.mg_none_of X G z_list, PySem.W.mg_none_of X G z_tuple, PySem.W.mg_none_of X G z_set, PySem.W.mg_none_of X G z_sum, PySem.W.mg_none_of X G z_zip, PySem.W.mg_none_of X G z_all, PySem.W.mg_none_of X G z_any, PySem.W.mg_none_of X G z_ValueError, PySem.W.mg_none_of X G z_divmod⟩
  have F_checklist := fun_mk (st := s_checklist) l_checklist c_checklist k_checklist
  have b_checklist := F_checklist.binds (ps := ["replacements"]) fun _ _ _ _ _ _ us hl => match us, hl with | [_], _ => rfl
  have g_checklist := PySem.W.mg_of X G a_checklist
  have F_checkcharacter := fun_mk (st := s_checkcharacter) l_checkcharacter c_checkcharacter k_checkcharacter
  have b_checkcharacter := F_checkcharacter.binds (ps := ["character"]) fun _ _ _ _ _ _ us hl => match us, hl with | [_], _ => rfl
  have g_checkcharacter := PySem.W.mg_of X G a_checkcharacter
  have F_squeezetext := fun_mk (st := s_squeezetext) l_squeezetext c_squeezetext k_squeezetext
  have b_squeezetext := F_squeezetext.binds (ps := ["text", "character", "replacements"]) fun _ _ _ _ _ _ us hl => match us, hl with | [_, _, _], _ => rfl
  have g_squeezetext := PySem.W.mg_of X G a_squeezetext
  have F_lengthafter := fun_mk (st := s_lengthafter) l_lengthafter c_lengthafter k_lengthafter
  have b_lengthafter := F_lengthafter.binds (ps := ["length", "replacements"]) fun _ _ _ _ _ _ us hl => match us, hl with | [_, _], _ => rfl
  have g_lengthafter := PySem.W.mg_of X G a_lengthafter
  have F_lengthafterone := fun_mk (st := s_lengthafterone) l_lengthafterone c_lengthafterone k_lengthafterone
  have b_lengthafterone := F_lengthafterone.binds (ps := ["length", "number"]) fun _ _ _ _ _ _ us hl => match us, hl with | [_, _], _ => rfl
  have g_lengthafterone := PySem.W.mg_of X G a_lengthafterone
  have F_lengthsbetween := fun_mk (st := s_lengthsbetween) l_lengthsbetween c_lengthsbetween k_lengthsbetween
  have b_lengthsbetween := F_lengthsbetween.binds (ps := ["text", "character"]) fun _ _ _ _ _ _ us hl => match us, hl with | [_, _], _ => rfl
  have g_lengthsbetween := PySem.W.mg_of X G a_lengthsbetween
  have F_lawpool := fun_mk (st := s_lawpool) l_lawpool c_lawpool k_lawpool
  have b_lawpool := F_lawpool.binds (ps := ["script", "at"]) fun _ _ _ _ _ _ us hl => match us, hl with | [_, _], _ => rfl
  have g_lawpool := PySem.W.mg_of X G a_lawpool
  have F_lawdraw := fun_mk (st := s_lawdraw) l_lawdraw c_lawdraw k_lawdraw
  have b_lawdraw := F_lawdraw.binds (ps := ["pool", "many"]) fun _ _ _ _ _ _ us hl => match us, hl with | [_, _], _ => rfl
  have g_lawdraw := PySem.W.mg_of X G a_lawdraw
  have F_lawlist := fun_mk (st := s_lawlist) l_lawlist c_lawlist k_lawlist
  have b_lawlist := F_lawlist.binds (ps := ["pool", "most", "far"]) fun _ _ _ _ _ _ us hl => match us, hl with | [_, _, _], _ => rfl
  have g_lawlist := PySem.W.mg_of X G a_lawlist
  have F_lawtext := fun_mk (st := s_lawtext) l_lawtext c_lawtext k_lawtext
  have b_lawtext := F_lawtext.binds (ps := ["pool", "most"]) fun _ _ _ _ _ _ us hl => match us, hl with | [_, _], _ => rfl
  have g_lawtext := PySem.W.mg_of X G a_lawtext
  have F_lawreplaced := fun_mk (st := s_lawreplaced) l_lawreplaced c_lawreplaced k_lawreplaced
  have b_lawreplaced := F_lawreplaced.binds (ps := ["written", "sign", "numbers"]) fun _ _ _ _ _ _ us hl => match us, hl with | [_, _, _], _ => rfl
  have g_lawreplaced := PySem.W.mg_of X G a_lawreplaced
  have F_lawobject := fun_mk (st := s_lawobject) l_lawobject c_lawobject k_lawobject
  have b_lawobject := F_lawobject.binds (ps := ["pool", "written", "sign", "numbers"]) fun _ _ _ _ _ _ us hl => match us, hl with | [_, _, _, _], _ => rfl
  have g_lawobject := PySem.W.mg_of X G a_lawobject
  have F_lawright := fun_mk (st := s_lawright) l_lawright c_lawright k_lawright
  have b_lawright := F_lawright.binds (ps := ["pool"]) fun _ _ _ _ _ _ us hl => match us, hl with | [_], _ => rfl
  have g_lawright := PySem.W.mg_of X G a_lawright
  have F_law := fun_mk (st := s_law) l_law c_law k_law
  exact ⟨_, fun s v => .of_eq rfl, fun base _ _ => by
    have F_SqueezedTextinit := fun_mk (st := s_SqueezedTextinit) l_SqueezedTextinit c_SqueezedTextinit k_SqueezedTextinit
    have F_SqueezedTexteq := fun_mk (st := s_SqueezedTexteq) l_SqueezedTexteq c_SqueezedTexteq k_SqueezedTexteq
    have F_SqueezedTextsqueeze := fun_mk (st := s_SqueezedTextsqueeze) l_SqueezedTextsqueeze c_SqueezedTextsqueeze k_SqueezedTextsqueeze
    have F_SqueezedTextundo := fun_mk (st := s_SqueezedTextundo) l_SqueezedTextundo c_SqueezedTextundo k_SqueezedTextundo
    have F_SqueezedTexttext := fun_mk (st := s_SqueezedTexttext) l_SqueezedTexttext c_SqueezedTexttext k_SqueezedTexttext
    have F_SqueezedTextreplacements := fun_mk (st := s_SqueezedTextreplacements) l_SqueezedTextreplacements c_SqueezedTextreplacements k_SqueezedTextreplacements
    have F_SqueezedTextlongest := fun_mk (st := s_SqueezedTextlongest) l_SqueezedTextlongest c_SqueezedTextlongest k_SqueezedTextlongest
    have clT : Cls K CT := ⟨pgCT, hdCT, poCT, saCT⟩
    have b_SqueezedTextinit := F_SqueezedTextinit.binds (ps := ["self", "text", "character"]) fun _ _ _ _ _ _ us hl => match us, hl with | [_, _, _], _ => rfl
    have b_SqueezedTexteq := F_SqueezedTexteq.binds (ps := ["self", "other"]) fun _ _ _ _ _ _ us hl => match us, hl with | [_, _], _ => rfl
    have b_SqueezedTextundo := F_SqueezedTextundo.binds (ps := ["self"]) fun _ _ _ _ _ _ us hl => match us, hl with | [_], _ => rfl
    have b_SqueezedTexttext := F_SqueezedTexttext.binds (ps := ["self"]) fun _ _ _ _ _ _ us hl => match us, hl with | [_], _ => rfl
    have b_SqueezedTextreplacements := F_SqueezedTextreplacements.binds (ps := ["self"]) fun _ _ _ _ _ _ us hl => match us, hl with | [_], _ => rfl
    have b_SqueezedTextlongest := F_SqueezedTextlongest.binds (ps := ["self"]) fun _ _ _ _ _ _ us hl => match us, hl with | [_], _ => rfl
    have TH : Lc K CT := ⟨clT, nCT_0, nCT_1, nCT_2⟩
    have D_checklistT : Df l.prog w K mg base 1 "check_list" ["replacements"] spCheckListT := .mk' F_checklist (ok_checklistT F_checklist B) g_checklist b_checklist
    have D_checklist : Df l.prog w K mg base 1 "check_list" ["replacements"] (spCheckList K) := .mk' F_checklist (ok_checklist F_checklist B) g_checklist b_checklist
    have D_checkcharacter : Df l.prog w K mg base 1 "check_character" ["character"] spCheckChr := .mk' F_checkcharacter (ok_checkcharacter F_checkcharacter B) g_checkcharacter b_checkcharacter
    have D_lengthafterone : Df l.prog w K mg base 1 "length_after_one" ["length", "number"] spOnceS := .mk' F_lengthafterone (ok_lengthafterone F_lengthafterone B) g_lengthafterone b_lengthafterone
    have D_lengthafter : Df l.prog w K mg base 2 "length_after" ["length", "replacements"] (spSqzS K) := .mk' F_lengthafter (ok_lengthafter F_lengthafter D_lengthafterone) g_lengthafter b_lengthafter
    have D_lengthsbetween : Df l.prog w K mg base 1 "lengths_between" ["text", "character"] spBetween := .mk' F_lengthsbetween (ok_between F_lengthsbetween B) g_lengthsbetween b_lengthsbetween
    have T_squeezetext : DfT l.prog w K mg base 4 "squeeze_text" ["text", "character", "replacements"] 1 (spSqT K) := ⟨_, _, ok_squeezetext F_squeezetext B D_checkcharacter D_checklist D_lengthsbetween D_lengthafter, g_squeezetext, k_squeezetext, b_squeezetext⟩
    have Mk_ : Mk K CT f_SqueezedTextinit := ⟨mkCT, a_SqueezedTextinit, i_SqueezedTextinit, kcCT⟩
    have P_text : Pr l.prog w K mg base 1 CT "text" (spText CT) := ⟨⟨_, _, _, ⟨a_SqueezedTexttext, g_SqueezedTexttext, t_SqueezedTexttext, ⟨_, r_SqueezedTexttext⟩⟩, ok_text F_SqueezedTexttext TH, b_SqueezedTexttext⟩, clT⟩
    have P_longest : Pr l.prog w K mg base 3 CT "longest" (spLongest CT) := ⟨⟨_, _, _, ⟨a_SqueezedTextlongest, g_SqueezedTextlongest, t_SqueezedTextlongest, ⟨_, r_SqueezedTextlongest⟩⟩, ok_longest F_SqueezedTextlongest B TH P_text D_lengthsbetween, b_SqueezedTextlongest⟩, clT⟩
    have MV_squeeze : MtV l.prog w K mg base 5 CT "squeeze" (spSqueeze CT) := ⟨⟨_, ok_squeeze F_SqueezedTextsqueeze B TH P_text P_longest D_lengthsbetween D_checklistT T_squeezetext, ⟨a_SqueezedTextsqueeze, i_SqueezedTextsqueeze, k_SqueezedTextsqueeze⟩⟩, clT⟩
    have M_undo : Mt CX0 l.prog w K mg base 1 CT "undo" ["self"] (spUndo CT) := ⟨⟨_, _, ok_undo F_SqueezedTextundo TH, ⟨a_SqueezedTextundo, i_SqueezedTextundo, k_SqueezedTextundo⟩, b_SqueezedTextundo⟩, clT⟩
    have FW_init := ok_lvinit F_SqueezedTextinit TH D_checkcharacter
    have W_SqueezedText : MkW l.prog w K mg base 2 "SqueezedText" CT ["self", "text", "character"] 1 (spLvInit CT) := ⟨⟨_, _, Mk_, FW_init, b_SqueezedTextinit⟩, PySem.W.mg_of X G aCT⟩
    have OC_ : OthC K CT := ⟨fun T h => by rcases h with rfl | rfl | rfl | rfl | rfl <;> assumption, fun T h => by rcases h with rfl | rfl | rfl | rfl | rfl <;> assumption⟩
    have NC_ : NeC K CT := ⟨neT, hmT, nfT⟩
    have IC_ : C8.InsC K CT := ⟨clT, haT, hnT, htkT, hmT, meT⟩
    have gT := PySem.W.mg_of X G aCT
    have EM_ : EqM l.prog w K mg base 1 CT ["self", "other"] (spEqX CT) := ⟨⟨_, _, FnOk.orS (ok_eqT F_SqueezedTexteq B TH IC_ gT) (ok_eqO F_SqueezedTexteq B OC_ gT), a_SqueezedTexteq, i_SqueezedTexteq, b_SqueezedTexteq⟩⟩
    have D_lawpool : Df l.prog w K mg base 1 "_law_pool" ["script", "at"] (spPool K) := .mk' F_lawpool (ok_lawpool F_lawpool B) g_lawpool b_lawpool
    have D_lawdraw : Df l.prog w K mg base 1 "_law_draw" ["pool", "many"] spDraw := .mk' F_lawdraw (ok_lawdraw F_lawdraw) g_lawdraw b_lawdraw
    have D_lawlist : Df l.prog w K mg base 2 "_law_list" ["pool", "most", "far"] spList := .mk' F_lawlist (ok_lawlist F_lawlist B D_lawdraw) g_lawlist b_lawlist
    have R_lawtext : DfR l.prog w K mg base 3 "_law_text" ["pool", "most"] spLtxt := ⟨_, _, ok_lawtext F_lawtext B D_lawdraw, g_lawtext, k_lawtext, b_lawtext⟩
    have T_lawreplaced : DfT l.prog w K mg base 1 "_law_replaced" ["written", "sign", "numbers"] 1 (spReplaced K) := ⟨_, _, ok_lawreplaced F_lawreplaced, g_lawreplaced, k_lawreplaced, b_lawreplaced⟩
    have W_lawobject : DfW l.prog w K mg base 6 "_law_object" ["pool", "written", "sign", "numbers"] 2 (spObj K CT) := ⟨_, _, ok_lawobject F_lawobject B D_lawdraw W_SqueezedText MV_squeeze M_undo, g_lawobject, k_lawobject, b_lawobject⟩
    have D_lawright : Df l.prog w K mg base 7 "_law_right" ["pool"] spRight := .mk' F_lawright (ok_lawright F_lawright B D_lawdraw D_lawlist R_lawtext W_lawobject T_lawreplaced EM_ OC_ NC_ P_text P_longest) g_lawright b_lawright
    exact ok_law F_law B D_lawpool D_lawright W_SqueezedText EM_ NC_⟩
end Sq
open PySem PySem.W PyProof.Rows
set_option maxRecDepth 100000 in
set_option maxHeartbeats 0 in
theorem PySem.Challenge.cw_squeezelists_k21_equal_live_texts_holds : PySem.Challenge.rw_squeezelists_k21_equal_live_texts.Holds := by
  w_on; o_law; k_head; (case hw => w_witness2)
  k_fill
  refine Sq.walkAt (l := PySem.Challenge.rw_squeezelists_k21_equal_live_texts) (n := 63) (k := 8) (x := "script") (sp := fun w => Sq.spLaw _) rfl (by decide) rfl (fun w h Y => PySem.W.kIn_of Y) ?F (fun _ _ a ns hl _ hS => ⟨a, ns, rfl, hS, hl, fun _ => rfl⟩)
  case F =>
    intro w mg fa h KX G hmg
    refine' Sq.all_mk KX G hmg ?a_checklist ?l_checklist ?c_checklist ?k_checklist ?a_checkcharacter ?l_checkcharacter ?c_checkcharacter ?k_checkcharacter ?a_squeezetext ?l_squeezetext ?c_squeezetext ?k_squeezetext ?a_lengthafter ?l_lengthafter ?c_lengthafter ?k_lengthafter ?a_lengthafterone ?l_lengthafterone ?c_lengthafterone ?k_lengthafterone ?a_lengthsbetween ?l_lengthsbetween ?c_lengthsbetween ?k_lengthsbetween ?a_lawpool ?l_lawpool ?c_lawpool ?k_lawpool ?a_lawdraw ?l_lawdraw ?c_lawdraw ?k_lawdraw ?a_lawlist ?l_lawlist ?c_lawlist ?k_lawlist ?a_lawtext ?l_lawtext ?c_lawtext ?k_lawtext ?a_lawreplaced ?l_lawreplaced ?c_lawreplaced ?k_lawreplaced ?a_lawobject ?l_lawobject ?c_lawobject ?k_lawobject ?a_lawright ?l_lawright ?c_lawright ?k_lawright ?a_law ?l_law ?c_law ?k_law ?z_len ?z_min ?z_max ?z_abs ?z_range ?z_isinstance ?z_repr ?z_enumerate ?z_reversed ?z_sorted ?z_bool ?z_int ?z_str ?z_list ?z_tuple ?z_set ?z_sum ?z_zip ?z_all ?z_any ?z_ValueError ?z_divmod ?aCT ?pgCT ?hdCT ?poCT ?saCT ?mkCT ?kcCT ?nCT_0 ?nCT_1 ?nCT_2 ?a_SqueezedTextinit ?i_SqueezedTextinit ?l_SqueezedTextinit ?c_SqueezedTextinit ?k_SqueezedTextinit ?a_SqueezedTexteq ?i_SqueezedTexteq ?l_SqueezedTexteq ?c_SqueezedTexteq ?k_SqueezedTexteq ?a_SqueezedTextsqueeze ?i_SqueezedTextsqueeze ?l_SqueezedTextsqueeze ?c_SqueezedTextsqueeze ?k_SqueezedTextsqueeze ?a_SqueezedTextundo ?i_SqueezedTextundo ?l_SqueezedTextundo ?c_SqueezedTextundo ?k_SqueezedTextundo ?a_SqueezedTexttext ?g_SqueezedTexttext ?t_SqueezedTexttext ?r_SqueezedTexttext ?l_SqueezedTexttext ?c_SqueezedTexttext ?k_SqueezedTexttext ?a_SqueezedTextreplacements ?g_SqueezedTextreplacements ?t_SqueezedTextreplacements ?r_SqueezedTextreplacements ?l_SqueezedTextreplacements ?c_SqueezedTextreplacements ?k_SqueezedTextreplacements ?a_SqueezedTextlongest ?g_SqueezedTextlongest ?t_SqueezedTextlongest ?r_SqueezedTextlongest ?l_SqueezedTextlongest ?c_SqueezedTextlongest ?k_SqueezedTextlongest ?haT ?hnT ?htkT ?hmT ?meT ?neT ?nfT ?isNoneType ?mroNoneType ?isint ?mroint ?isstr ?mrostr ?islist ?mrolist ?istuple ?mrotuple
    (case a_checklist => k_is); (case l_checklist => k_is); (case c_checklist => k_is); (case k_checklist => k_is); (case a_checkcharacter => k_is); (case l_checkcharacter => k_is); (case c_checkcharacter => k_is); (case k_checkcharacter => k_is); (case a_squeezetext => k_is); (case l_squeezetext => k_is); (case c_squeezetext => k_is); (case k_squeezetext => k_is); (case a_lengthafter => k_is); (case l_lengthafter => k_is); (case c_lengthafter => k_is); (case k_lengthafter => k_is); (case a_lengthafterone => k_is); (case l_lengthafterone => k_is); (case c_lengthafterone => k_is); (case k_lengthafterone => k_is); (case a_lengthsbetween => k_is); (case l_lengthsbetween => k_is); (case c_lengthsbetween => k_is); (case k_lengthsbetween => k_is); (case a_lawpool => k_is); (case l_lawpool => k_is); (case c_lawpool => k_is); (case k_lawpool => k_is); (case a_lawdraw => k_is); (case l_lawdraw => k_is); (case c_lawdraw => k_is); (case k_lawdraw => k_is); (case a_lawlist => k_is); (case l_lawlist => k_is); (case c_lawlist => k_is); (case k_lawlist => k_is); (case a_lawtext => k_is); (case l_lawtext => k_is); (case c_lawtext => k_is); (case k_lawtext => k_is); (case a_lawreplaced => k_is); (case l_lawreplaced => k_is); (case c_lawreplaced => k_is); (case k_lawreplaced => k_is); (case a_lawobject => k_is); (case l_lawobject => k_is); (case c_lawobject => k_is); (case k_lawobject => k_is); (case a_lawright => k_is); (case l_lawright => k_is); (case c_lawright => k_is); (case k_lawright => k_is); (case a_law => k_is); (case l_law => k_is); (case c_law => k_is); (case k_law => k_is); (case z_len => k_is); (case z_min => k_is); (case z_max => k_is); (case z_abs => k_is); (case z_range => k_is); (case z_isinstance => k_is); (case z_repr => k_is); (case z_enumerate => k_is); (case z_reversed => k_is); (case z_sorted => k_is); (case z_bool => k_is); (case z_int => k_is); (case z_str => k_is); (case z_list => k_is); (case z_tuple => k_is); (case z_set => k_is); (case z_sum => k_is); (case z_zip => k_is); (case z_all => k_is); (case z_any => k_is); (case z_ValueError => k_is); (case z_divmod => k_is); (case aCT => k_is); (case pgCT => k_is); (case hdCT => k_is); (case poCT => k_is); (case saCT => k_is); (case mkCT => k_is); (case kcCT => k_is); (case nCT_0 => k_is); (case nCT_1 => k_is); (case nCT_2 => k_is); (case a_SqueezedTextinit => k_is); (case i_SqueezedTextinit => k_is); (case l_SqueezedTextinit => k_is); (case c_SqueezedTextinit => k_is); (case k_SqueezedTextinit => k_is); (case a_SqueezedTexteq => k_is); (case i_SqueezedTexteq => k_is); (case l_SqueezedTexteq => k_is); (case c_SqueezedTexteq => k_is); (case k_SqueezedTexteq => k_is); (case a_SqueezedTextsqueeze => k_is); (case i_SqueezedTextsqueeze => k_is); (case l_SqueezedTextsqueeze => k_is); (case c_SqueezedTextsqueeze => k_is); (case k_SqueezedTextsqueeze => k_is); (case a_SqueezedTextundo => k_is); (case i_SqueezedTextundo => k_is); (case l_SqueezedTextundo => k_is); (case c_SqueezedTextundo => k_is); (case k_SqueezedTextundo => k_is); (case a_SqueezedTexttext => k_is); (case g_SqueezedTexttext => k_is); (case t_SqueezedTexttext => k_is); (case r_SqueezedTexttext => k_is); (case l_SqueezedTexttext => k_is); (case c_SqueezedTexttext => k_is); (case k_SqueezedTexttext => k_is); (case a_SqueezedTextreplacements => k_is); (case g_SqueezedTextreplacements => k_is); (case t_SqueezedTextreplacements => k_is); (case r_SqueezedTextreplacements => k_is); (case l_SqueezedTextreplacements => k_is); (case c_SqueezedTextreplacements => k_is); (case k_SqueezedTextreplacements => k_is); (case a_SqueezedTextlongest => k_is); (case g_SqueezedTextlongest => k_is); (case t_SqueezedTextlongest => k_is); (case r_SqueezedTextlongest => k_is); (case l_SqueezedTextlongest => k_is); (case c_SqueezedTextlongest => k_is); (case k_SqueezedTextlongest => k_is); (case haT => k_is); (case hnT => k_is); (case htkT => k_is); (case hmT => k_is); (case meT => kit_is); (case neT => k_is); (case nfT => k_is); (case isNoneType => kit_is); (case mroNoneType => k_is); (case isint => kit_is); (case mroint => k_is); (case isstr => kit_is); (case mrostr => k_is); (case islist => kit_is); (case mrolist => k_is); (case istuple => kit_is); (case mrotuple => k_is)
