import PyProof.Rows.All
import Wide.All
import OpenK.AllK
import Wide.FinOn
import HandS.ForMost
import HandS.IsInst
import HandS.Walk
import HandS.Defaults
import HandS.RaiseMore
import HandS.Wide
import HandS.Exc
import HandS.ExcOwn
import HandS.ExcInit
import HandS.ExcSuper
import KE.KExcSuper
import HandS.ExcValue
import HandS.ExcIs
import HandS.ExcField
import HandS.GenList
import HandS.WordsExc
import HandS.HotCalls
import HandS.Comp
import HandS.Deep
import HandS.Text
import HandS.StrMore
import HandS.Property
import HandS.MakeKw
import HandS.MakeKwOnly
import HandS.Style
import HandS.GenBody
import HandS.GenYield
import PyProof.GenComp
import PyProof.ForAny
import HandS.Strs
import HandS.SetBool
import HandS.SuiteRaise
import HandS.Iter
import PyProof.FactsSeq
import HandS.Replace
import HandS.GenOver
import HandS.Words
import HandS.WideBits
import HandS.SortInts
import HandS.Set
import HandS.SetFor
import HandS.Zip
import HandS.DictComp
import KE.GoesMore
import PyProof.LongRange
import HandS.More
import HandS.FStr
import HandS.NoneIn
import HandS.ReplaceList
import HandS.Codes
import KE.DataCmp
import HandS.OwnEq
import PyProof.InstNe
import PyProof.EqKinds
import HandS.ClsMeth
import HandS.MethStar
import PySem.Challenge.RW_squeezelists_k23_whole_texts_made_single
set_option Elab.async false
set_option linter.all false
set_option maxRecDepth 100000
set_option maxHeartbeats 2000000
/-! The layer for the laws: a def of the law run at the outermost call (where no repr is under way), repr of data, calls by keywords alone. -/
namespace Sq
open PySem PySem.Spec PyProof.Rows L2
/-! ### the law's own def, at one given surrounding -/
theorem fnAt {CX : CXT} {P : Program} {w : World} {K : PySem.W.Frag} {mg : Str → Option Value} {base : Heap} {k : Nat} {f : Addr} {nmF qualF : Str} {prm : Arguments} {bd : List Stmt} {scp : Scope}
    {dflt kwd docv pmv cdv ctv ocv : Value} {anv odv : Option Addr} {slv : Array (Option Value)} {names prs : List Str} {sp : Sp} {A : Around}
    (stands : K.lookup f = some ⟨ocv, odv, .func (PySem.W.fnOf nmF qualF prm bd scp dflt kwd docv pmv anv cdv ctv), slv⟩)
    (code : PySem.W.codeIn K cdv qualF = true) (sc : FnScope names prs scp)
    (count : ∀ vs H Q E, sp vs H Q E → vs.length = prs.length)
    (inner : ∀ (outer : List Env) (s : Shared) (H : Hp) (vs : List V) (Q : VK) (E : XK), Room k (A.deeper (envOfC qualF scp s.heap.objs.size f cdv)) → sp vs H Q E →
      ∃ t, PSs (cxOf CX P w K mg base names qualF scp f cdv A outer s H E) bd t ∧ t { nx := fun _ H' => Q .non H', rt := Q } (start names vs) H)
    {outer : List Env} {s : Shared} {H : Hp} {ag : Args} {us : List Value} {vs : List V} {Q : VK} {E : XK}
    (room : Room (k + 1) A) (entry : Env0 P w K mg base A outer s H)
    (bound : BindsTo s (PySem.W.fnOf nmF qualF prm bd scp dflt kwd docv pmv anv cdv ctv) ag (prs.zip us)) (rel : Vals vs us) (wish : sp vs H Q E) :
    codeAny (model P w) A (.call (.ref f) ag) (CR CX outer P w H s Q E) s := by
  have written : K.In s.heap := entry.mod.kin.keeps (fun b o e => (entry.bs b o e).1)
  have roomy : s.heap.NoLimit := entry.mod.nolimit.keeps (fun b o e => (entry.bs b o e).1)
  refine codeAny_call_function room.depth (written _ _ stands) rfl sc.co sc.gen rfl (PySem.W.codeRec_of written code) (bound _ _ _ _ ?_)
  refine wpAny_newFunctionEnv_cells sc.kind ?kinds ?body
  case kinds =>
    rintro ⟨n, v⟩ hn
    have inP := (List.of_mem_zip hn).1
    cases sc.par n inP with
    | inl q => exact Or.inl q
    | inr q => exact Or.inr ⟨q, PySem.W.cellsFrom_some _ _ _ (Or.inl q)⟩
  case body =>
    intro env eqn s1 fresh
    subst eqn
    refine ⟨roomy.keeps fresh.toInCall.keep, codeAny_func ?_⟩
    obtain ⟨t, steps, holds⟩ := inner outer s H vs Q E (room.deeper _) wish
    have inv := inv_start (CX := CX) (mg := mg) (base := base) (E := E) sc room.hd entry (count _ _ _ _ wish) rel fresh
    refine wpAny_mono (steps.run [] s1 (start names vs) H _ inv holds) ?_ (fun _ _ q => q)
    intro flow s' got
    cases flow with
    | ret u =>
      obtain ⟨v, σ', H', J, rv, q⟩ := got
      exact ⟨v, H', J.os, J.bare, J.base, J.hok, rv, q⟩
    | next =>
      obtain ⟨σ', H', J, q⟩ := got
      exact ⟨V.non, H', J.os, J.bare, J.base, J.hok, rfl, q⟩
    | brk => exact got.elim fun _ h => h.elim fun _ h => False.elim h.2
    | cont => exact got.elim fun _ h => h.elim fun _ h => False.elim h.2
/-- what the top's def promises at the outermost call alone -/
def Top (P : Program) (w : World) (K : PySem.W.Frag) (mg : Str → Option Value) (base : Heap) (k : Nat) (f : Addr) (fd : FuncData) (x : Str) (sp : Sp) : Prop :=
  ∀ (s : Shared) (H : Hp) (ag : Args) (u : Value) (v : V) (Q : VK), Env0 P w K mg base callerA [] s H → BindsTo s fd ag [(x, u)] → RelV v u → sp [v] H Q (fun _ _ _ => False) →
    codeAny (model P w) callerA (.call (.ref f) ag) (CR CX0 [] P w H s Q (fun _ _ _ => False)) s
theorem atTop {P : Program} {w : World} {K : PySem.W.Frag} {mg : Str → Option Value} {base : Heap} {k : Nat} {f : Addr} {fd : FuncData} {x y qual : Str} {st : Stmt} {names : List Str} {sp : Sp}
    (F : Fun K y qual st f fd) (sc : FnScope names [x] (defScope st)) (room : Room (k + 1) callerA) (count : ∀ vs H Q E, sp vs H Q E → vs.length = 1)
    (inner : ∀ (cdv : Value) (outer : List Env) (s : Shared) (H : Hp) (vs : List V) (Q : VK) (E : XK), Room k (callerA.deeper (envOfC qual (defScope st) s.heap.objs.size f cdv)) → sp vs H Q E →
      ∃ t, PSs (cxOf CX0 P w K mg base names qual (defScope st) f cdv callerA outer s H E).nox (defBody st) t ∧ t { nx := fun _ H' => Q .non H', rt := Q } (start names vs) H) :
    Top P w K mg base k f fd x sp := by
  intro s H ag u v Q e0 hb hv hs
  obtain ⟨oc, od, kV, doc, pm, an, cdv, ct, osl, rfl, lk, hcd⟩ := F.ex
  refine fnAt (us := [u]) (vs := [v]) lk hcd sc count (fun outer s' H' vs' Q' E' room' wish => ?_) room e0 hb (.cons hv .nil) hs
  obtain ⟨t, h, q⟩ := inner cdv outer s' H' vs' Q' E' room' wish
  exact ⟨t, h.nox, q⟩
/-- from the def's promise at the outermost call to the row's claim about that call -/
theorem lawAt {P : Program} {w : World} {K : PySem.W.Frag} {mg mb : Str → Option Value} {k : Nat} {fa a : Addr} {fd : FuncData} {x : Str} {sp : Sp} {s₁ : Shared} {cells : List Value} {nums : List Int}
    (inK : K.In s₁.heap) (nsM : s₁.heap.Ns mainGlobals mg) (nsB : s₁.heap.Ns builtinsNs mb) (boot : ∀ y : Str, y ≠ "__name__" → mb y = bootBuiltins y) (lim : s₁.heap.NoLimit) (gens : s₁.gens = #[])
    (script : s₁.heap.get? a = some { cls := .type "list", data := .seq cells.toArray }) (are : IntsAre cells nums) (few : nums.length ≤ sizeLine)
    (main : ∀ base : Heap, K.In base → base.Ns mainGlobals mg → Top P w K mg base k fa fd x sp) (binds : ∀ (s : Shared) (u : Value), BindsTo s fd ⟨[u], []⟩ [(x, u)])
    (told : ∀ H : Hp, Only H → SqL K H a (nums.map V.int) → sp [.ref a] H (fun v _ => v = .bl true) fun _ _ _ => False) :
    codeAny (model P w) callerA (.call (.ref fa) ⟨[.ref a], []⟩) (fun r s' => r = .ok (.ret (.bool true)) ∧ OldK s₁.heap s'.heap ∧ s'.os = s₁.os ∧ AllBare s'.gens) s₁ := by
  have rel := vals_ints are
  have same := are.length
  suffices goal : ∀ H : Hp, Only H → SqL K H a (nums.map V.int) → HOk P w H s₁.heap → (∀ b o, H b = some o → b = a ∧ K.lookup a = none) →
      codeAny (model P w) callerA (.call (.ref fa) ⟨[.ref a], []⟩) (fun r s' => r = .ok (.ret (.bool true)) ∧ OldK s₁.heap s'.heap ∧ s'.os = s₁.os ∧ AllBare s'.gens) s₁ by
    cases look : K.lookup a with
    | some o =>
      have here := inK a o look
      rw [script] at here
      cases here
      exact goal (fun _ => none) (fun _ => Or.inl rfl) (Or.inr ⟨_, cells.toArray, _, look, rfl, rfl, rfl, (by rw [List.size_toArray, same]; exact few), (by simpa using rel)⟩) (fun b u z => by cases (show (none : Option HO) = some u from z)) (fun b o z => by cases (show (none : Option HO) = some o from z))
    | none =>
      let Ha : Hp := fun b => if b = a then some (.frz { cls := .type "list", data := .seq cells.toArray } (.lst (nums.map V.int))) else none
      have at_a : Ha a = some (.frz { cls := .type "list", data := .seq cells.toArray } (.lst (nums.map V.int))) := if_pos rfl
      have off : ∀ b o, Ha b = some o → b = a := fun b o z => by
        by_cases hb : b = a
        · exact hb
        · rw [show Ha b = none from if_neg hb] at z
          cases z
      refine goal Ha (fun b => ?_) (Or.inl (Or.inr ⟨_, at_a⟩)) (fun b u z => ?_) (fun b o z => ⟨off b o z, look⟩)
      · by_cases hb : b = a
        · exact Or.inr ⟨_, _, if_pos hb⟩
        · exact Or.inl (if_neg hb)
      · obtain rfl := off b u z
        rw [at_a] at z
        cases z
        exact ⟨script, by rw [List.length_map]; exact few, cells, _, rel, script⟩
  intro H only seq hok apart
  have free : ∀ {b : Addr} {o : Obj}, s₁.heap.get? b = some o → (∀ u, H b = some u → False) → (hidT s₁.heap H).get? b = some o := fun {b o} e n =>
    hidT_get e (by
      cases q : H b with
      | none => rfl
      | some u => exact (n u q).elim)
  have nsH : ∀ {b : Addr} {m : Str → Option Value}, s₁.heap.Ns b m → (hidT s₁.heap H).Ns b m := by
    rintro b m ⟨o, es, ep, e, d, r⟩
    refine ⟨o, es, ep, free e fun u z => ?_, d, r⟩
    obtain ⟨rfl, _⟩ := apart b u z
    rw [script] at e
    cases e
    cases (show Data.seq cells.toArray _ = Data.dict es ep from d)
  have kH : K.In (hidT s₁.heap H) := fun b o e => free (inK b o e) fun u z => by
    obtain ⟨rfl, n⟩ := apart b u z
    rw [n] at e
    cases e
  have mod : Mod K mg (hidT s₁.heap H) := ⟨kH, nsH nsM, ⟨mb, nsH nsB, boot⟩, let ⟨mc, h1, h2⟩ := lim; ⟨mc, nsH h1, h2⟩⟩
  have entry : Env0 P w K mg (hidT s₁.heap H) callerA [] s₁ H :=
    ⟨rfl, mod, fun b o e => of_hidT e, Nat.le_of_eq (hidT_size _ _), trivial, fun b hb => absurd (show b ∈ ([] : List Addr) from hb) (by simp), hok, .of_eq gens⟩
  refine codeAny_mono (main _ kH (nsH nsM) s₁ H ⟨[.ref a], []⟩ (.ref a) (.ref a) _ entry (binds s₁ (.ref a)) rfl (told H only seq)) ?_
  intro r s' got
  match r, got with
  | .ok (.ret u), got =>
    obtain ⟨v, H', os, bare, un, hok', rv, q⟩ := got
    obtain rfl : v = .bl true := q
    obtain rfl : u = Value.bool true := rv
    refine ⟨rfl, OldK.of_keep fun b o e => ?_, os, bare⟩
    rcases only b with z | ⟨ob, xs, z⟩
    · exact un.keep b o e z (by intro y; exact absurd (show b ∈ ([] : List Addr) from y) (by simp)) (by simp)
    · obtain ⟨e1, _⟩ := hok b _ z
      obtain ⟨e2, _⟩ := hok' b _ (un.frzs b ob _ z)
      rw [e] at e1
      cases e1
      exact e2
/-- the goal that k_head leaves, from the law's promise at the outermost call -/
theorem walkAt {l : PySem.W.OpenLaw} {n k : Nat} {q : Program} {loose : List Str} {XP : (Str → Option Value) → Heap → Prop} {YP : World → Heap → Prop} {d : DefRec} {K : Params → PySem.W.Frag} {sp : World → Sp} {x : Str}
    (most : l.most = some n) (line : n ≤ sizeLine) (plain : d.params.defaults = []) (inK : ∀ (w : World) (h : Heap), YP w h → (K w.params).In h)
    (F : ∀ (w : World) (mg : Str → Option Value) (fa : Addr) (h : Heap), (K w.params).In h → h.Ns mainGlobals mg → mg d.name = some (.ref fa) →
      ∃ fd : FuncData, (∀ (s : Shared) (u : Value), BindsTo s fd ⟨[u], []⟩ [(x, u)]) ∧ ∀ base : Heap, (K w.params).In base → base.Ns mainGlobals mg → Top l.prog w (K w.params) mg base k fa fd x (sp w))
    (told : ∀ (w : World) (H : Hp) (a : Addr) (ns : List Int), ns.length ≤ n → Only H → SqL (K w.params) H a (ns.map V.int) → sp w [.ref a] H (fun v _ => v = .bl true) fun _ _ _ => False) :
    PySem.W.WalkO q loose XP YP l.row.toRowW d [] (fun f vs => PySem.call f vs) := by
  refine Att.attach_call most plain ?_
  intro w s₀ s₁ mg mb fa o pm cd doc a vs ns G Y ho hd hcd hmg hobj hints hlen hg
  obtain ⟨fd, hb, hF⟩ := F w mg fa _ (inK w _ Y) G.T.g hmg
  exact lawAt (inK w _ Y) G.T.g G.T.b G.T.builtins G.T.nolimit hg hobj hints (Nat.le_trans hlen line) hF hb fun H hO hS => told w H a ns hlen hO hS
/-! ### repr of data, where no repr is under way -/
/-! ### f(k = v, ..): keywords alone -/
end Sq
namespace Sq
open PySem PySem.Spec PyProof.Rows L2
/-- what a caller wants of a def of the text: it stands at its name and keeps its promise -/
structure Df (P : Program) (w : World) (K : PySem.W.Frag) (mg : Str → Option Value) (base : Heap) (k : Nat) (x : Str) (ps : List Str) (sp : Sp) : Prop where
  ex : ∃ f fd, FnOk P w K mg base CX0 k f fd ps sp ∧ mg x = some (.ref f) ∧ PySem.W.keepIn K (.ref f) = true ∧ Binds K fd ps []
section
variable {X : Cx} {k : Nat} {ps : List Str} {sp : Sp} {x : Str} {p pos : Pos} {e : Expr} {es : List Expr} {t : TA}
theorem pe_callD (D : Df X.prog X.w X.K X.mg X.base k x ps sp) (hr : Room k X.A) (hg : Gl X x) (ha : PA X (e :: es) t) (hdb : (x == ("__debug__" : Str)) = false := by decide)
    (he : starEach (e :: es) X.env = (false, eval e X.env) :: starEach es X.env := by rfl) (hpl : (backTo pos (starEach es X.env)).any (·.1) = false := by rfl) :
    PE X (.Call (.Name x p) (e :: es) [] pos) (tCall sp [] E0 t) := by
  obtain ⟨f, fd, F, g, kp, b⟩ := D.ex
  exact pe_call F hr hg g kp b .nil pass0 ha hdb he hpl
end
section
variable {P : Program} {w : World} {K : PySem.W.Frag} {mg : Str → Option Value} {base : Heap}
/-- a def without defaults, from its place in the text and its promise -/
theorem Df.mk' {k : Nat} {x : Str} {st : Stmt} {ps : List Str} {sp : Sp} {f : Addr} {fd : FuncData} (F : Fun K x x st f fd) (G : FnOk P w K mg base CX0 k f fd ps sp) (g : mg x = some (.ref f)) (b : Binds K fd ps []) : Df P w K mg base k x ps sp :=
  ⟨⟨f, fd, G, g, F.kp, b⟩⟩
end
end Sq
namespace Sq
open PySem PySem.Spec PyProof.Rows L2
/-- a def with defaults, no error leaves it -/
theorem okD {P : Program} {w : World} {K : PySem.W.Frag} {mg : Str → Option Value} {base : Heap} {x qual : Str} {prm : Arguments} {bd : List Stmt} {scp : Scope} {dvs : List V} {kws : List (Str × V)} {f : Addr} {fd : FuncData} {names ps : List Str} {k : Nat} {sp : Sp}
    (F : FunD K x qual prm bd scp dvs kws f fd) (sc : FnScope names ps scp) (count : ∀ vs H Q E, sp vs H Q E → vs.length = ps.length)
    (inner : ∀ (cdv : Value) (A : Around) (outer : List Env) (s : Shared) (H : Hp) (vs : List V) (Q : VK) (E : XK), Room k (A.deeper (envOfC qual scp s.heap.objs.size f cdv)) → sp vs H Q E →
      ∃ t, PSs (cxOf CX0 P w K mg base names qual scp f cdv A outer s H E).nox bd t ∧ t { nx := fun _ H' => Q .non H', rt := Q } (start names vs) H) : FnOk P w K mg base CX0 (k + 1) f fd ps sp :=
  F.ok sc count fun cdv A outer s H vs Q E hr h => let ⟨t, a, b⟩ := inner cdv A outer s H vs Q E hr h; ⟨t, a.nox, b⟩
/-- the same as Df for a call that leaves the last ones to their defaults dvs -/
structure Dv (P : Program) (w : World) (K : PySem.W.Frag) (mg : Str → Option Value) (base : Heap) (k : Nat) (x : Str) (ps : List Str) (dvs : List V) (sp : Sp) : Prop where
  ex : ∃ f fd ds, FnOk P w K mg base CX0 k f fd ps sp ∧ mg x = some (.ref f) ∧ PySem.W.keepIn K (.ref f) = true ∧ Vals dvs ds ∧ Binds K fd ps ds
section
variable {X : Cx} {k : Nat} {ps ks : List Str} {sp : Sp} {x : Str} {p pos : Pos} {e : Expr} {es : List Expr} {t tk : TA} {dvs : List V} {gV : List V → List V → List V} {kws : List Keyword}
theorem pe_callV (D : Dv X.prog X.w X.K X.mg X.base k x ps dvs sp) (hr : Room k X.A) (hg : Gl X x) (ha : PA X (e :: es) t) (hdb : (x == ("__debug__" : Str)) = false := by decide)
    (he : starEach (e :: es) X.env = (false, eval e X.env) :: starEach es X.env := by rfl) (hpl : (backTo pos (starEach es X.env)).any (·.1) = false := by rfl) :
    PE X (.Call (.Name x p) (e :: es) [] pos) (tCall sp dvs E0 t) := by
  obtain ⟨f, fd, ds, F, g, kp, hd, b⟩ := D.ex
  exact pe_call F hr hg g kp b hd pass0 ha hdb he hpl
end
theorem vals_nil {ds : List Value} (h : Vals [] ds) : ds = [] := by
  cases h
  rfl
end Sq
set_option Elab.async false
set_option linter.all false
set_option maxRecDepth 100000
set_option maxHeartbeats 2000000
/-! Own errors whose __init__ says super().__init__(..) and stores its argument as value. -/
namespace SqX
open PySem PySem.W PySem.Calls PyProof.Rows PySem.HandSPX
def xA (p1 p2 : Pos) : Arguments := { posonlyargs := [], args := [{ arg := "self", annotation := none, pos := p1 }, { arg := "value", annotation := none, pos := p2 }], vararg := none, kwonlyargs := [], kw_defaults := [], kwarg := none, defaults := [] }
def xB (msg : Str) (j : Nat) (q0 q1 q2 q3 q4 q5 r1 r2 r3 r4 : Pos) : List Stmt :=
  [.Expr (.Call (.Attribute (.Call (.Name "super" q0) [] [] q1) "__init__" q2) [.Constant (.str msg) j q3] [] q4) q5, .Assign [.Attribute (.Name "self" r1) "value" r2] (.Name "value" r3) r4]
def xS : Scope := { kind := .function, names := [(PySem.Str.ofString "self", .local), (PySem.Str.ofString "value", .local), (PySem.Str.ofString "__class__", .free), (PySem.Str.ofString "super", .globalImplicit)], isGenerator := false, isCoroutine := false, more := [] }
/-- what the written part says of such a class at C, of its __init__ at fI -/
structure Er (K : Frag) (prog : Program) (C fI : Addr) (q : Str) : Prop where
  cls : ∃ nm qn N bs bm sn sub ab col dd k0 k1 k2 k3 k5, K.lookup C = some (excClassObj nm qn C N bs bm true sn sub ab col dd k0 k1 k2 k3 k5 "ValueError.__new__") ∧ refsVE bm = true
  sa : findIn K (.ref C) "__setattr__" = some (some (.builtin "object.__setattr__"))
  noV : findIn K (.ref C) "value" = some none
  iC : findIn K (.ref C) "__init__" = some (some (.ref fI))
  tC : typeIn K (.ref fI) = some (.type "function")
  kC : keepIn K (.ref C) = true
  exC : subIn K (.ref C) (.type "BaseException") = some true
  veC : subIn K (.ref C) (.type "ValueError") = some true
  tyC : typeIn K (.ref C) = some (.type "type")
  mC : mroIn K C (.ref C) = some true
  suC : ks_superIn K C C "__init__" = some (some (.builtin "ValueError.__init__"))
  third : nsIn K cStatics "thirdparty.any" = some none
  super : nsIn K mainGlobals "super" = some none
  top : (prog.main.scope.names.lookup ("super" : Str)).isSome = false
  fn : ∃ (oc : Value) (od : Option Addr) (doc pm : Value) (an : Option Addr) (ct : Value) (osl : Array (Option Value)) (cda cc : Addr) (msg : Str) (j : Nat) (p1 p2 q0 q1 q2 q3 q4 q5 r1 r2 r3 r4 : Pos) (ccl : Value) (cdd : Option Addr) (vs : Array Value) (ccs : Array (Option Value)) (file : Str) (tf : Tok) (cl : Value) (cld : Option Addr) (csl : Array (Option Value)),
    K.lookup fI = some ⟨oc, od, .func (ksFn "__init__" q (xA p1 p2) (xB msg j q0 q1 q2 q3 q4 q5 r1 r2 r3 r4) xS .none .none doc pm an (.ref cda) ct cc), osl⟩ ∧ codeIn K (.ref cda) q = true ∧
    K.lookup cda = some ⟨ccl, cdd, .fields vs, ccs⟩ ∧ vs[2]? = some (.str file tf) ∧ ((prog.main.file : Str) == file) = true ∧ K.lookup cc = some ⟨cl, cld, .cell (some (.ref C)), csl⟩ ∧ (q2.endLine == q4.line) = true
/-- what __init__ leaves of a fresh exception at x -/
structure Inited (h h' : Heap) (x C dx t1 : Addr) (v : Value) : Prop where
  keep : ∀ b o, b ≠ x → h.get? b = some o → h'.get? b = some o
  obj : h'.get? x = some { cls := .ref C, dict := some dx, data := .fields #[.ref t1, .none, .none, .none, .bool false, .none] }
  dbig : h.objs.size ≤ dx
  dne : dx ≠ x
  ns : h'.Ns1 dx (fun y => if y = "value" then some v else none)
theorem one_size (v : Value) : [v].length ≤ sizeLine := by
  rw [sizeLine_eq]
  exact (by decide : 1 ≤ 16777216)
theorem call_is {o e : Expr} {name : Str} {apos pos : Pos} {env : Env} (hline : (apos.endLine == pos.line) = true) (he : starEach [e] env = [(false, eval e env)]) :
    eval (.Call (.Attribute o name apos) [e] [] pos) env = (do
      let ov ← attributeBase o name env (eval o env)
      standAt apos.atName
      let (f, first) ← holding [ov] (getMethod ov name (do return (← importBound o env).getD true))
      callWith pos f first (backTo pos (starEach [e] env)) []) := by
  rw [arm_eval_Call]
  have hf : methodCallForm 1 (backTo pos (starEach [e] env)) (backToKw pos (keywordEach [] env)) = true := by
    rw [he]
    rfl
  have hp : methodCallPos true o env apos pos = pure pos := by
    unfold methodCallPos
    simp [hline]
  refine congrArg _ (funext fun ov => congrArg _ (funext fun _ => ?_))
  show methodCall o name apos pos env ov 1 (backTo pos (starEach [e] env)) (backToKw pos (keywordEach [] env)) = _
  unfold methodCall
  rw [hf, hp]
  rfl
/-- the bound ValueError.__init__ called: the args are laid anew -/
theorem call_mw {prog : Program} {w : World} {A : Around} {E : Value → Shared → Prop} {h : Heap} {g : Array GenState} {d : Drawn} {t : Nat} {os : OsState}
    {nm qn : Str} {C N : Addr} {bs bm : List Value} {hdct : Bool} {sn : List Str} {sub : List Value} {ab : Bool} {col : Option Bool} {dd : Option Addr} {k0 k1 k2 k3 k5 : Option Value} {u e t0 : Addr} {rest : List Value} {Q : Value → Shared → Prop}
    (atC : h.get? C = some (excClassObj nm qn C N bs bm hdct sn sub ab col dd k0 k1 k2 k3 k5 "ValueError.__new__")) (atE : h.get? e = some (excO C t0)) (atU : h.get? u = some (kxs_mw "ValueError.__init__" e)) (line : rest.length ≤ sizeLine)
    (fin : ∀ h' t1, (∀ b o, b ≠ e → h.get? b = some o → h'.get? b = some o) → h'.get? e = some (excO C t1) → Q .none ⟨h', g, d, t, os⟩) :
    wpAny (model prog w) A (call (.ref u) rest) Q E ⟨h, g, d, t, os⟩ := by
  refine wpAny_call (codeAny_of_tree ?_)
  show wpAny _ A.in1 (callAny (.ref u) ⟨rest, []⟩) _ _ _
  simp only [callAny]
  refine wpAny_bind (wpAny_load atU ?_)
  simp only [kxs_mw, show (Value.type "method-wrapper" == Value.type "method" || Value.type "method-wrapper" == Value.type "builtin_function_or_method" || Value.type "method-wrapper" == Value.type "method-wrapper") = true by decide, if_true]
  refine W.KFB.if_so (by decide) ?_
  refine wpAny_bind (ESX.check_bound F.excBase_ValueError atC atE rfl ?_)
  refine wpAny_bind (wpAny_pure (wpAny_pure ?_))
  refine ⟨Code.quiet_builtin _ (by decide +kernel), codeAny_builtin F.excBase_ValueError.initEntry ?_⟩
  rw [Around.under_plainId F.excBase_ValueError.init.plain _]
  wp_walk
  refine fin _ h.objs.size (fun b o nb hb => ?_) ?_
  · exact (Heap.get?_update_other _ _ (Ne.symm nb)).trans (Heap.get?_push_of_some _ hb)
  · exact (Heap.get?_update_self _ (Heap.get?_push_of_some _ atE) rfl).trans rfl
section
variable {prog : Program} {w : World} {A : Around} {E : Value → Shared → Prop} {R : Result → Shared → Prop} {s : Shared} {K : Frag} {mg : Str → Option Value} {base : Heap} {C fI : Addr} {q : Str}
theorem init (T : Er K prog C fI q) {x t0 : Addr} {v : Value} {args : Args} (X : K.In s.heap) (hg : s.heap.Ns mainGlobals mg) (hlim : s.heap.NoLimit) {mb : Str → Option Value} (hb : s.heap.Ns builtinsNs mb) (boot : ∀ y : Str, y ≠ "__name__" → mb y = bootBuiltins y)
    (hx : s.heap.get? x = some (excO C t0)) (hnx : K.lookup x = none) (hroom : A.depth < recursionLimit)
    (hargs : ∀ fd : FuncData, (∃ p1 p2 bd doc pm an cda ct cc, fd = ksFn "__init__" q (xA p1 p2) bd xS .none .none doc pm an (.ref cda) ct cc) → BindsTo s fd args [("self", .ref x), ("value", v)])
    (hq : ∀ h' tk dx t1, Inited s.heap h' x C dx t1 v → R (.ok (.ret .none)) { s with heap := h', toks := tk }) :
    codeAny (model prog w) A (.call (.ref fI) args) R s := by
  obtain ⟨oc, od, doc, pm, an, ct, osl, cda, cc, msg, j, p1, p2, q0, q1, q2, q3, q4, q5, r1, r2, r3, r4, ccl, cdd, vs, ccs, file, tf, cl, cld, csl, ho, hcd, hcode, hvs, hfile, hcell, hline⟩ := T.fn
  obtain ⟨nm, qn, N, bs, bm, sn, sub, ab, col, dd, k0, k1, k2, k3, k5, hC, hbm⟩ := T.cls
  have hcl : clsIn K C = some { name := nm, bases := bs, mro := .ref C :: bm, ns := N, qualname := qn, hasDict := true, slotNames := sn, subclasses := sub, abstract := ab, collection := col, hasDel := false } := by unfold clsIn; rw [hC] <;> rfl
  refine ks_codeAny_call_defAt (fd := ksFn "__init__" q (xA p1 p2) (xB msg j q0 q1 q2 q3 q4 q5 r1 r2 r3 r4) xS .none .none doc pm an (.ref cda) ct cc) (binds := [("self", .ref x), ("value", v)]) hroom (X _ _ ho) rfl hlim (codeRec_of X hcd) rfl
    (hargs _ ⟨_, _, _, _, _, _, _, _, _, rfl⟩) (show ∀ x ∈ xS.names, x.2 ≠ .cell by decide) (fun y hy => ?loc) (fun h₁ hns k => ?_)
  case loc =>
    rcases List.mem_cons.mp hy with rfl | hy
    · exact (show xS.names.lookup ("self" : Str) = some .local by decide)
    · obtain rfl := List.mem_singleton.mp hy
      exact (show xS.names.lookup ("value" : Str) = some .local by decide)
  have X₁ : K.In h₁ := X.keeps k
  have hx₁ := k _ _ hx
  obtain ⟨hh, g, d, t, os⟩ := s
  show _root_.PySem.wpAt _ _ _ (execs (xB msg j q0 q1 q2 q3 q4 q5 r1 r2 r3 r4) _) _ _ _
  refine ks_wpAt_execs_cons (ks_wpAt_Expr_any (ks_wpAt_MethodCall ?_ (call_is hline rfl)))
  obtain ⟨oD, hD1, hD2⟩ : ∃ oD, h₁.get? C = some oD ∧ ∃ cdD, oD.data = .cls cdD := ⟨_, X₁ _ _ hC, _, rfl⟩
  obtain ⟨cdD, hD2⟩ := hD2
  have I₁ : InstAt h₁ x (excO C t0) C none := ⟨hx₁, rfl, rfl, trivial⟩
  refine ks_wpAt_super_base (f := fI) (cc := cda) rfl rfl rfl rfl (X₁ _ _ ho) rfl rfl rfl (X₁ _ _ hcode) rfl hvs hfile T.top ?_
  refine ks_loadName_global rfl rfl (loadGlobal_builtin (hg.keeps k) (mg_none_of X hg T.super) (hb.keeps k) ((boot _ (by decide +kernel)).trans (by decide +kernel)) ⟨rfl, ?_⟩)
  refine wpAny_loadName_free rfl rfl rfl ⟨_, X₁ _ _ hcell, rfl⟩ ?_
  refine wpAny_loadName_local (v := .ref x) rfl rfl hns rfl ?_
  refine ks_wpAny_isType_cls hD1 hD2 ⟨rfl, ?_⟩
  refine ks_wpAny_call_super hD1 hD2 I₁.at_ I₁.cls (fun c e => by cases e) (looks_mroIn X₁ T.mC) (fun h₂ e₂ k₂ => ?_)
  have X₂ : K.In h₂ := X₁.keeps k₂
  have hx₂ := k₂ _ _ hx₁
  have I₂ : InstAt h₂ x (excO C t0) C none := ⟨hx₂, rfl, rfl, trivial⟩
  have al := T.suC
  unfold ks_superIn at al
  rw [hcl] at al
  refine kxs_getMethod kxs_ValueError e₂ (looks_opaque X₂ T.third) (l₀ := .ref C :: bm) ((looks_clsIn X₂ hcl).andThen .now) rfl X₂ al (I₂.type.andThen (looks_subIn X₂ T.veC)) (ks_ne X₂ I₂ hcl) (by decide) ?_
  have k₃ : ∀ b o, h₂.get? b = some o → (h₂.push (kxs_mw "ValueError.__init__" x)).get? b = some o := fun b o e => Heap.get?_push_of_some _ e
  have hu : (h₂.push (kxs_mw "ValueError.__init__" x)).get? h₂.objs.size = some (kxs_mw "ValueError.__init__" x) := Heap.get?_push_at rfl rfl
  refine kxs_callWith (i := "ValueError.__init__") (x := x) rfl (evalArgs_plain ?_)
  refine Calls.spliced_cons ?_
  show wpAny _ _ (eval (.Constant (.str msg) j q3) _) _ _ _
  refine Calls.Constant_str ?_
  refine Calls.spliced_nil ⟨hu, ?_⟩
  refine call_mw (k₃ _ _ (X₂ _ _ hC)) (k₃ _ _ hx₂) hu (one_size _) (fun h₄ t1 k₄ hx₄ => ?_)
  have kk : ∀ b o, b ≠ x → hh.get? b = some o → h₄.get? b = some o := fun b o nb e => k₄ b o nb (k₃ _ _ (k₂ _ _ (k _ _ e)))
  have X₄ : K.In h₄ := fun a o e => kk a o (fun z => by rw [z, hnx] at e; cases e) (X a o e)
  have nx : hh.objs.size ≠ x := fun z => by
    have := Heap.lt_size hx
    rw [← z] at this
    exact absurd this (Nat.lt_irrefl _)
  have ns₄ : h₄.Ns hh.objs.size (fun y => List.lookup y [(("self" : Str), Value.ref x), ("value", v)].reverse) :=
    hns.at fun o e => k₄ _ _ nx (k₃ _ _ (k₂ _ _ e))
  -- self.value = value
  refine ks_wpAt_execs_cons (wpAt_of_wpAny (plainObj_wpAny_Assign_Attribute ?_))
  refine wpAny_Name (wpAny_loadName_local (v := v) rfl rfl ns₄ rfl ?_) (by decide)
  refine wpAny_Name (wpAny_loadName_local (v := .ref x) rfl rfl ns₄ rfl ?_) (by decide)
  refine set_plain X₄ (ox := excO C t1) (od := none) ⟨hx₄, rfl, rfl, trivial⟩ T.sa ?_
  refine exc_osa X₄ hx₄ hcl (show refsVE (.ref C :: bm) = true from hbm) rfl T.noV (fun h₅ tk₅ dx k₅ dn dne hx₅ hn₅ => ?_)
  have big : hh.objs.size ≤ dx := by
    have l1 : hh.objs.size < h₁.objs.size := hns.lt
    have l2 : h₁.objs.size < h₂.objs.size := Heap.lt_size e₂
    have nu : h₂.objs.size ≠ x := Nat.ne_of_gt (Heap.lt_size hx₂)
    have l4 : h₂.objs.size < h₄.objs.size := Heap.lt_size (k₄ _ _ nu hu)
    have l5 : h₄.objs.size ≤ dx := dn
    exact Nat.le_trans (Nat.le_of_lt (Nat.lt_trans l1 (Nat.lt_trans l2 l4))) l5
  refine wpAt_of_wpAny (wpAny_execs_nil ?_)
  exact hq h₅ tk₅ dx t1 ⟨fun b o nb e => k₅ b o nb (kk b o nb e), hx₅, big, dne, hn₅⟩
end
end SqX
set_option Elab.async false
set_option linter.all false
set_option maxRecDepth 100000
set_option maxHeartbeats 2000000
namespace SqX
open PySem PySem.W PySem.Calls PyProof.Rows PySem.HandSPX
/-- a new error at e, its dict at d -/
structure New (h h' : Heap) (e C d t1 : Addr) (v : Value) : Prop where
  keep : ∀ b o, h.get? b = some o → h'.get? b = some o
  big : h.objs.size ≤ e
  obj : h'.get? e = some { cls := .ref C, dict := some d, data := .fields #[.ref t1, .none, .none, .none, .bool false, .none] }
  dbig : h.objs.size ≤ d
  dne : d ≠ e
  ns : h'.Ns1 d (fun y => if y = "value" then some v else none)
section
variable {prog : Program} {w : World} {A : Around} {E : Value → Shared → Prop} {R : Result → Shared → Prop} {K : Frag} {mg mb : Str → Option Value} {C fI : Addr} {q : Str}
theorem bind2 {s : Shared} {q : Str} {x v : Value} : ∀ fd : FuncData, (∃ p1 p2 bd doc pm an cda ct cc, fd = ksFn "__init__" q (xA p1 p2) bd xS .none .none doc pm an (.ref cda) ct cc) → BindsTo s fd ⟨[x, v], []⟩ [("self", x), ("value", v)] := by
  rintro fd ⟨p1, p2, bd, doc, pm, an, cda, ct, cc, rfl⟩
  exact BindsTo.of_eq (by first | rfl | with_unfolding_all rfl)
theorem made {s : Shared} (T : Er K prog C fI q) {v : Value} (X : K.In s.heap) (hg : s.heap.Ns mainGlobals mg) (hlim : s.heap.NoLimit) (hb : s.heap.Ns builtinsNs mb) (boot : ∀ y : Str, y ≠ "__name__" → mb y = bootBuiltins y)
    (hroom : A.depth + 1 < recursionLimit)
    (fin : ∀ h' tk e d t1, New s.heap h' e C d t1 v → R (.ok (.ret (.ref e))) { s with heap := h', toks := tk }) :
    codeAny (model prog w) A (.call (.ref C) ⟨[v], []⟩) R s := by
  obtain ⟨nm, qn, N, bs, bm, sn, sub, ab, col, dd, k0, k1, k2, k3, k5, hC, hbm⟩ := T.cls
  obtain ⟨hp, g, dr, tk, os⟩ := s
  have k : ∀ b o, hp.get? b = some o → ((hp.push (kdv_tup [v])).push (excO C hp.objs.size)).get? b = some o := fun b o e => Heap.get?_push_of_some _ (Heap.get?_push_of_some _ e)
  have atE : ((hp.push (kdv_tup [v])).push (excO C hp.objs.size)).get? (hp.objs.size + 1) = some (excO C hp.objs.size) := by heap_get
  have off : K.lookup (hp.objs.size + 1) = none := by
    cases e : K.lookup (hp.objs.size + 1) with
    | none => rfl
    | some o => exact absurd (Nat.lt_of_succ_lt (Heap.lt_size (X _ _ e))) (Nat.lt_irrefl _)
  refine call_own F.excBase_ValueError (fun Y => refsVE_contains Y bm hbm) (X _ _ hC) (looks_findIn X T.iC) (fun self => bind_fn X self T.tC) (one_size v) ?_
  refine init (s := ⟨(hp.push (kdv_tup [v])).push (excO C hp.objs.size), g, dr, tk, os⟩) T (X.keeps k) (hg.keeps k) (hlim.keeps k) (hb.keeps k) boot atE off (show A.depth + 1 < recursionLimit from hroom) bind2 ?_
  rintro h' tk' dx t1 ⟨kp, ob, dn, dne, ns⟩
  have old : ∀ b o, hp.get? b = some o → h'.get? b = some o := fun b o e => kp b o (Nat.ne_of_lt (Nat.lt_succ_of_lt (Heap.lt_size e))) (k b o e)
  have z : hp.objs.size + 1 + 1 ≤ dx := by
    first
      | (simpa only [Heap.size_push] using dn)
      | exact dn
      | (have y := dn; rw [Heap.size_push, Heap.size_push] at y; exact y)
  exact ⟨rfl, fin h' tk' (hp.objs.size + 1) dx t1 ⟨old, Nat.le_succ _, ob, Nat.le_trans (Nat.le_trans (Nat.le_succ _) (Nat.le_succ _)) z, dne, ns⟩⟩
end
end SqX
set_option Elab.async false
set_option linter.all false
set_option maxRecDepth 100000
set_option maxHeartbeats 4000000
/-! The same by keyword. -/
set_option Elab.async false
set_option linter.all false
set_option maxRecDepth 100000
set_option maxHeartbeats 2000000
/-! Own errors as values of the layer: made by position and by name, isinstance of them, their value. -/
namespace Sq
open PySem PySem.Spec PyProof.Rows L2
/-- an error of the class at C stands at a, its dict at d; it holds v -/
def ErrAt (H : Hp) (a d C : Addr) (v : V) : Prop := H a = some (exo a C (some d)) ∧ H d = some (exd d [(("value" : Str), v)])
theorem ErrAt.same {H H' : Hp} {a d C : Addr} {v : V} (s : Same H H') (e : ErrAt H a d C v) : ErrAt H' a d C v := ⟨s _ _ e.1, s _ _ e.2⟩
end Sq
set_option Elab.async false
set_option linter.all false
set_option maxRecDepth 100000
set_option maxHeartbeats 2000000
set_option Elab.async false
set_option linter.all false
set_option maxRecDepth 100000
set_option maxHeartbeats 2000000
/-! Own errors raised; a caught one kept behind its suite. -/
namespace Sq
open PySem PySem.Spec PyProof.Rows L2
/-- an error that was raised: its class and its dict are known -/
def exq (a C : Addr) (d : Option Addr) : HO := .ext fun h => ∃ (oe : Obj) (vs : Array Value), h.get? a = some oe ∧ Zc (.ref C) d oe ∧ oe.data = .fields vs
end Sq
set_option Elab.async false
set_option linter.all false
set_option maxRecDepth 100000
set_option maxHeartbeats 4000000
/-! try: .. except X as n: suite, where the caught error is still known behind it. -/
namespace Sq
open PySem PySem.Spec PyProof.Rows L2
/-! ### what is asked of a caught error -/
/-- an error of the class at C was caught at a, its dict at d; it holds v -/
def CaughtAt (H : Hp) (a d C : Addr) (v : V) : Prop := H a = some (exq a C (some d)) ∧ H d = some (exd d [(("value" : Str), v)])
theorem CaughtAt.same {H H' : Hp} {a d C : Addr} {v : V} (s : Same H H') (e : CaughtAt H a d C v) : CaughtAt H' a d C v := ⟨s _ _ e.1, s _ _ e.2⟩
end Sq
set_option Elab.async false
set_option linter.all false
set_option maxRecDepth 100000
set_option maxHeartbeats 2000000
/-! A walk that is left at its first item: for x in g(..): break. -/
namespace Sq
open PySem PySem.Spec PyProof.Rows L2 GenW
def Y1 (P : Program) (w : World) (outer : List Env) (H : Hp) (s : Shared) (a : Addr) (g : Nat) (q : V → Hp → Prop) : Protocol := fun _ _ v s1 _ =>
  s1.os = s.os ∧ AllBare s1.gens ∧ s1.heap.IsGen a g ∧ ∃ x H', Un (frs outer) [] H H' s.heap s1.heap ∧ HOk P w H' s1.heap ∧ RelV x v ∧ q x H'
def R1 (P : Program) (w : World) (outer : List Env) (H : Hp) (s : Shared) (a : Addr) (g : Nat) (E : XK) : GenEnd := fun _ _ r s1 => ∃ e, r = .error e ∧ CX P w outer H s E e s1 ∧ s1.heap.IsGen a g
/-- a generator that has not begun: its first item, or an error -/
def GFst (P : Program) (w : World) (k : Nat) (outer : List Env) (H : Hp) (s : Shared) (q : V → Hp → Prop) (E : XK) (u : Value) (s' : Shared) : Prop :=
  ∃ (a : Addr) (g : Nat) (c : Code), u = .ref a ∧ s.heap.objs.size ≤ a ∧ s'.heap.IsGen a g ∧ s'.gens[g]? = some (.fresh c) ∧ s'.os = s.os ∧ AllBare s'.gens ∧ s'.heap.NoLimit ∧ (∀ b o, s.heap.get? b = some o → s'.heap.get? b = some o) ∧
    ∀ (A : Around) (s2 : Shared), Room k A → A.frames = some outer → (∀ b o, s'.heap.get? b = some o → s2.heap.get? b = some o) → s2.os = s.os → AllBare s2.gens →
      Seg (model P w) A (R1 P w outer H s a g E) (Y1 P w outer H s a g q) 1 s2 c ((model P w).den c) [] s2
abbrev SpF := List V → Hp → (V → Hp → Prop) → XK → Prop
structure GFn1 (P : Program) (w : World) (K : PySem.W.Frag) (mg : Str → Option Value) (base : Heap) (k : Nat) (f : Addr) (fd : FuncData) (ps : List Str) (sp : SpF) : Prop where
  len : ∀ vs H Q E, sp vs H Q E → vs.length = ps.length
  run : ∀ (A : Around) (outer : List Env) (s : Shared) (H : Hp) (args : Args) (us : List Value) (vs : List V) (Q : V → Hp → Prop) (E : XK), Room k A → Env0 P w K mg base A outer s H → BindsTo s fd args (ps.zip us) → Vals vs us → sp vs H Q E →
    codeAny (model P w) A (.call (.ref f) args) (fun r s' => match r with | .ok (.ret u) => GFst P w k outer H s Q E u s' | _ => False) s
end Sq
set_option Elab.async false
set_option linter.all false
set_option maxRecDepth 100000
set_option maxHeartbeats 2000000
/-! Calls that may raise. -/
namespace Sq
open PySem PySem.Spec PyProof.Rows L2
structure Dx (P : Program) (w : World) (K : PySem.W.Frag) (mg : Str → Option Value) (base : Heap) (k : Nat) (x : Str) (ps : List Str) (sp : Sp) : Prop where
  ex : ∃ f fd, FnOk P w K mg base (L2.CX P w) k f fd ps sp ∧ mg x = some (.ref f) ∧ PySem.W.keepIn K (.ref f) = true ∧ Binds K fd ps []
theorem Dx.mk' {P : Program} {w : World} {K : PySem.W.Frag} {mg : Str → Option Value} {base : Heap} {k : Nat} {x : Str} {st : Stmt} {ps : List Str} {sp : Sp} {f : Addr} {fd : FuncData} (F : Fun K x x st f fd) (G : FnOk P w K mg base (L2.CX P w) k f fd ps sp) (g : mg x = some (.ref f)) (b : Binds K fd ps []) : Dx P w K mg base k x ps sp :=
  ⟨⟨f, fd, G, g, F.kp, b⟩⟩
end Sq
set_option Elab.async false
set_option linter.all false
set_option maxRecDepth 100000
set_option maxHeartbeats 4000000
/-! A def called within an except suite: walks over lists, pairs unpacked, comprehensions, the handled error asked. -/
namespace Sq
open PySem PySem.Spec PyProof.Rows L2 HotX L2H
/-! ### hot contexts -/
/-- wherever the context's invariant holds an error is handled whose context is None -/
def HotW (X : Cx) : Prop := ∀ (pins : List (Addr × Obj)) (σ : L2.St) (H : Hp) (s : Shared), Inv X pins σ H s → ∃ x1, HotAt X.A x1 s.heap
theorem HotC.w {X : Cx} (c : HotC X) : HotW X := fun _ _ _ _ I => c.at I
end Sq
set_option Elab.async false
set_option linter.all false
set_option maxRecDepth 100000
set_option maxHeartbeats 4000000
/-! A def of the law called within an except suite with the caught error. -/
namespace Sq
open PySem PySem.Spec PyProof.Rows L2 HotX L2H
/-- what a def promises there: e the handled error, its class, its dict -/
abbrev SpZ := Addr → Value → Option Addr → Sp
structure FnHZ (P : Program) (w : World) (K : PySem.W.Frag) (mg : Str → Option Value) (base : Heap) (CX : CXT) (k : Nat) (f : Addr) (fd : FuncData) (ps : List Str) (sp : SpZ) : Prop where
  len : ∀ a c d vs H Q E, sp a c d vs H Q E → vs.length = ps.length
  run : ∀ (A : Around) (outer : List Env) (s : Shared) (H : Hp) (args : Args) (us : List Value) (vs : List V) (Q : VK) (E : XK) (p : Addr × Obj) (cls : Value) (d : Option Addr), RoomH k A → Hot1 A p → L2N.Zn cls d p.2 → PinOk outer H s p → Env0 P w K mg base A outer s H → BindsTo s fd args (ps.zip us) → Vals vs us → sp p.1 cls d vs H Q E →
    codeAny (model P w) A (.call (.ref f) args) (CR CX outer P w H s Q E) s
/-- it stands at its name -/
structure Dz (P : Program) (w : World) (K : PySem.W.Frag) (mg : Str → Option Value) (base : Heap) (k : Nat) (x : Str) (ps : List Str) (sp : SpZ) : Prop where
  ex : ∃ f fd, FnHZ P w K mg base CX0 k f fd ps sp ∧ mg x = some (.ref f) ∧ PySem.W.keepIn K (.ref f) = true ∧ Binds K fd ps []
/-! ### what is asked of the handled error -/
end Sq
set_option Elab.async false
set_option linter.all false
set_option maxRecDepth 100000
set_option maxHeartbeats 4000000
/-! Calls that may raise, where the error's context is known to be None. -/
namespace Sq
open PySem PySem.Spec PyProof.Rows L2
structure Dn (P : Program) (w : World) (K : PySem.W.Frag) (mg : Str → Option Value) (base : Heap) (k : Nat) (x : Str) (ps : List Str) (sp : Sp) : Prop where
  ex : ∃ f fd, FnOk P w K mg base (L2N.CX P w) k f fd ps sp ∧ mg x = some (.ref f) ∧ PySem.W.keepIn K (.ref f) = true ∧ Binds K fd ps []
theorem Dn.mk' {P : Program} {w : World} {K : PySem.W.Frag} {mg : Str → Option Value} {base : Heap} {k : Nat} {x : Str} {st : Stmt} {ps : List Str} {sp : Sp} {f : Addr} {fd : FuncData} (F : Fun K x x st f fd) (G : FnOk P w K mg base (L2N.CX P w) k f fd ps sp) (g : mg x = some (.ref f)) (b : Binds K fd ps []) : Dn P w K mg base k x ps sp :=
  ⟨⟨f, fd, G, g, F.kp, b⟩⟩
theorem Dz.mk' {P : Program} {w : World} {K : PySem.W.Frag} {mg : Str → Option Value} {base : Heap} {k : Nat} {x : Str} {st : Stmt} {ps : List Str} {sp : SpZ} {f : Addr} {fd : FuncData} (F : Fun K x x st f fd) (G : FnHZ P w K mg base CX0 k f fd ps sp) (g : mg x = some (.ref f)) (b : Binds K fd ps []) : Dz P w K mg base k x ps sp :=
  ⟨⟨f, fd, G, g, F.kp, b⟩⟩
end Sq
set_option Elab.async false
set_option linter.all false
set_option maxRecDepth 100000
set_option maxHeartbeats 2000000
/-! Data read off the layer's heap. -/
namespace Sq
open PySem PySem.Spec PyProof.Rows L2
theorem same_new {H : Hp} {p : Addr} {o : HO} (h : H p = none) : Same H (upd H p o) := fun b x e => by
  rw [upd_ne (ne_of_none e h)]
  exact e
theorem map_at {ks : List Int} {i : Nat} {x : V} (h : (ks.map V.int)[i]? = some x) : ∃ k, ks[i]? = some k ∧ V.int k = x := by
  rw [List.getElem?_map] at h
  exact Option.map_eq_some_iff.mp h
/-! ### data of ints and short lists -/
mutual
def il : PyData → Bool
  | .int _ => true
  | .list xs => decide (xs.length ≤ 1000) && ilAll xs
  | _ => false
def ilAll : List PyData → Bool
  | [] => true
  | x :: xs => il x && ilAll xs
end
mutual
theorem Dp.same {K : PySem.W.Frag} {H H' : Hp} (s : Same H H') : ∀ {d : PyData} {x : V}, Dp K H x d → Dp K H' x d
  | .none, _, .non => .non
  | .bool b, _, .bl _ => .bl b
  | .int i, _, .int _ => .int i
  | .str x, _, .str _ => .str x
  | .list ds, _, .lst h a => .lst (s.seq h) (DpAll.same s a)
  | .tuple ds, _, .tup h a => .tup (by
      rcases h with (h | ⟨o, h⟩) | h
      · exact .inl (.inl (s _ _ h))
      · exact .inl (.inr ⟨o, s _ _ h⟩)
      · exact .inr h) (DpAll.same s a)
theorem DpAll.same {K : PySem.W.Frag} {H H' : Hp} (s : Same H H') : ∀ {ds : List PyData} {xs : List V}, DpAll K H xs ds → DpAll K H' xs ds
  | [], _, .nil => .nil
  | _ :: _, _, .cons h t => .cons (Dp.same s h) (DpAll.same s t)
end
/-! ### the text of a list of ints -/
end Sq
namespace Sq
open PySem PySem.Spec PyProof.Rows L2
/-! ### repr of any value whose data is known -/
structure Shown (K : PySem.W.Frag) (H : Hp) (x : V) (d : PyData) : Prop where
  dp : Dp K H x d
  sh : d.showable = true
  nd : d.hasDict = false
  dep : d.depth ≤ 40
  fit : d.shown.length ≤ sizeLine
theorem Shown.same {K : PySem.W.Frag} {H H' : Hp} {x : V} {d : PyData} (S : Shown K H x d) (s : Same H H') : Shown K H' x d := ⟨Dp.same s S.dp, S.sh, S.nd, S.dep, S.fit⟩
theorem fits40 {d : PyData} (h : d.leavesShort 40 = true) (hw : d.weight ≤ 100000) : d.shown.length ≤ sizeLine := by
  have e := PyData.shown_le 40 (by decide) d h
  rw [sizeLine_eq]
  omega
/-! ### powers of greater numbers -/
def CPowW (i j : Int) : Prop := 0 ≤ j ∧ (Builtin.Int.intBits i : Int) * j ≤ 2 ^ 27
theorem op_powW {X : Cx} : OpR X (binaryOp .Pow) (rI CPowW fun i j => .int (i ^ j.toNat)) := opI fun _ _ _ _ _ _ _ hc q => pow_int hc.1 hc.2 q
theorem powW_of {i j : Int} {m : Nat} (h0 : 0 ≤ j) (hi : i.natAbs < 2 ^ m) (hm : 0 < m) (hj : (m : Int) * j ≤ 2 ^ 27) : CPowW i j := by
  refine ⟨h0, Int.le_trans (Int.mul_le_mul_of_nonneg_right ?_ h0) hj⟩
  unfold Builtin.Int.intBits
  split
  · omega
  · have := PySem.Flt.log2_lt_of hm hi
    omega
end Sq
namespace Sq
open PySem PySem.Spec PyProof.Rows L2
def rMulS : R2 := fun x y H Q => ∃ a n, x = .str a ∧ y = .int n ∧ _root_.PySem.MulOk a n ∧ Q (.str (_root_.PySem.Txt.mul a n)) H
theorem op_mulS {X : Cx} : OpR X (binaryOp .Mult) rMulS := by
  intro pins s σ H x y v u Q I rx ry h
  obtain ⟨a, n, rfl, rfl, hok, q⟩ := h
  obtain ⟨t, rfl⟩ := rx
  obtain ⟨t', rfl⟩ := ry
  exact SB.mul hok fun t2 k => ⟨.str _, H, I.tok k, ⟨_, rfl⟩, q⟩
end Sq
set_option Elab.async false
set_option linter.all false
/-! Squeezing and reaches in plain Lean. -/
namespace Sq
def once (n k : Int) : Int := n / k + n % k
def sq (n : Int) (ks : List Int) : Int := ks.foldl once n
def rw1 (k R : Int) : Int := if k > R + 1 then R else (R + 3 - k) * k - 2
def rch (ks : List Int) (v : Int) : Int := ks.foldr rw1 v
theorem once_nonneg {k n : Int} (hk : 2 ≤ k) (h0 : 0 ≤ n) : 0 ≤ once n k := by
  unfold once
  have h1 := Int.ediv_nonneg h0 (by omega : 0 ≤ k)
  have h2 := Int.emod_nonneg n (by omega : k ≠ 0)
  omega
theorem sq_concat (n : Int) (ks : List Int) (k : Int) : sq n (ks ++ [k]) = once (sq n ks) k := by
  unfold sq
  rw [List.foldl_append]
  rfl
end Sq
set_option Elab.async false
set_option linter.all false
set_option maxRecDepth 100000
set_option maxHeartbeats 2000000
/-! What the laws share: the built-in names, the error classes, low numbers, data that can be shown, keeping heaps. -/
namespace Sq
open PySem PySem.Spec PyProof.Rows L2
structure Bi (mg : Str → Option Value) : Prop where
  n_len : mg "len" = none
  n_min : mg "min" = none
  n_max : mg "max" = none
  n_abs : mg "abs" = none
  n_range : mg "range" = none
  n_isinstance : mg "isinstance" = none
  n_repr : mg "repr" = none
  n_enumerate : mg "enumerate" = none
  n_reversed : mg "reversed" = none
  n_sorted : mg "sorted" = none
  n_bool : mg "bool" = none
  n_int : mg "int" = none
  n_str : mg "str" = none
  n_list : mg "list" = none
  n_tuple : mg "tuple" = none
  n_set : mg "set" = none
  n_sum : mg "sum" = none
  n_zip : mg "zip" = none
  n_all : mg "all" = none
  n_any : mg "any" = none
  n_ValueError : mg "ValueError" = none
  n_divmod : mg "divmod" = none
/-! ### data that can be shown -/
structure Gd (n : Nat) (d : PyData) : Prop where
  sh : d.showable = true
  nd : d.hasDict = false
  dep : d.depth ≤ 4
  lf : d.leavesShort 40 = true
  wt : d.weight ≤ n
structure GdA (n : Nat) (ds : List PyData) : Prop where
  sh : PyData.showableAll ds = true
  nd : PyData.hasDictAll ds = false
  dep : PyData.depthAll ds ≤ 3
  lf : PyData.leavesShortAll 40 ds = true
  wt : PyData.weightAll ds ≤ n
theorem GdA.nil : GdA 0 [] := ⟨rfl, rfl, Nat.zero_le _, rfl, Nat.le_refl _⟩
theorem GdA.cons {n m : Nat} {d : PyData} {ds : List PyData} (h : Gd n d) (dp : d.depth ≤ 3) (t : GdA m ds) : GdA (n + 1 + m) (d :: ds) := by
  refine ⟨?_, ?_, Nat.max_le.mpr ⟨dp, t.dep⟩, ?_, ?_⟩
  · show (d.showable && PyData.showableAll ds) = true
    rw [h.sh, t.sh]; rfl
  · show (d.hasDict || PyData.hasDictAll ds) = false
    rw [h.nd, t.nd]; rfl
  · show (d.leavesShort 40 && PyData.leavesShortAll 40 ds) = true
    rw [h.lf, t.lf]; rfl
  · have a := h.wt
    have b := t.wt
    show d.weight + 1 + PyData.weightAll ds ≤ n + 1 + m
    omega
theorem GdA.list {n : Nat} {ds : List PyData} (t : GdA n ds) : Gd n (.list ds) := ⟨t.sh, t.nd, Nat.add_le_add_right t.dep 1, t.lf, t.wt⟩
theorem Gd.shown {n : Nat} {K : PySem.W.Frag} {H : Hp} {x : V} {d : PyData} (h : Gd n d) (l : n ≤ 100000) (dp : Dp K H x d) : Shown K H x d :=
  ⟨dp, h.sh, h.nd, Nat.le_trans h.dep (by decide), fits40 h.lf (Nat.le_trans h.wt l)⟩
/-! ### the low numbers -/
/-- the heap without one cell -/
def wo (H : Hp) (D : Addr) : Hp := fun b => if b = D then none else H b
theorem wo_upd {H : Hp} {D : Addr} {o : HO} : wo (upd H D o) D = wo H D := by
  funext b
  unfold wo
  by_cases h : b = D
  · rw [if_pos h, if_pos h]
  · rw [if_neg h, if_neg h, upd_ne h]
theorem wo_ne {H : Hp} {D b : Addr} (h : b ≠ D) : wo H D b = H b := by
  unfold wo
  rw [if_neg h]
theorem wo_same {H : Hp} {D : Addr} : Same (wo H D) H := fun b o e => by
  unfold wo at e
  by_cases h : b = D
  · rw [if_pos h] at e; cases e
  · rw [if_neg h] at e; exact e
theorem same_wo {G H : Hp} {D : Addr} (s : Same G H) (h : G D = none) : Same G (wo H D) := fun b o e => by
  rw [wo_ne (fun z => by subst z; rw [h] at e; cases e)]
  exact s b o e
theorem wo_self {H : Hp} {D : Addr} : wo H D D = none := by
  unfold wo
  rw [if_pos rfl]
end Sq
set_option Elab.async false
set_option linter.all false
set_option maxHeartbeats 1000000
/-! Small numbers as texts. -/
set_option Elab.async false
set_option linter.all false
set_option maxRecDepth 100000
set_option maxHeartbeats 1000000
/-! Texts of lists, read: in plain Lean, over the lists of signs. -/
set_option Elab.async false
set_option linter.all false
set_option maxRecDepth 100000
set_option maxHeartbeats 1000000
/-! What is written is read. -/
namespace Sq
open PySem PySem.Spec PyProof.Rows L2 TL
open NumText (digitsVal AllDigits)
def outL (ps : List (Nat × Nat)) : List Int := (ps.map fun p => List.replicate p.2 (p.1 : Int)).flatten
/-- neighbours differ -/
def Alt : Option Int → List (Nat × Nat) → Prop
  | _, [] => True
  | o, p :: r => o ≠ some (p.1 : Int) ∧ Alt (some (p.1 : Int)) r
theorem last_rep {F : List Int} {k : Nat} {x : Int} (h : 1 ≤ k) : (F ++ List.replicate k x).getLast? = some x := by
  obtain ⟨m, rfl⟩ : ∃ m, k = m + 1 := ⟨k - 1, by omega⟩
  rw [List.replicate_succ', ← List.append_assoc, List.getLast?_concat]
end Sq
set_option Elab.async false
set_option linter.all false
set_option maxRecDepth 100000
set_option maxHeartbeats 1000000
/-! Texts of lists, written: the groups of equal neighbours, the digits of great numbers. -/
namespace Sq
open PySem PySem.Spec PyProof.Rows L2 TL
open NumText (digitsVal AllDigits)
/-- the number of the last group -/
def lastN (o : Option Int) (ps : List (Nat × Nat)) : Option Int := match ps.getLast? with
  | some p => some (p.1 : Int)
  | none => o
theorem lastN_snoc (o : Option Int) (ps : List (Nat × Nat)) (p : Nat × Nat) : lastN o (ps ++ [p]) = some (p.1 : Int) := by
  unfold lastN
  rw [List.getLast?_concat]
theorem lastN_cons (o : Option Int) (p : Nat × Nat) (ps : List (Nat × Nat)) : lastN o (p :: ps) = lastN (some (p.1 : Int)) ps := by
  unfold lastN
  cases ps with
  | nil => rfl
  | cons q r => rw [List.getLast?_cons_cons]; cases h : (q :: r).getLast? with
    | some z => rfl
    | none => simp at h
theorem alt_snoc : ∀ (ps : List (Nat × Nat)) (o : Option Int) (p : Nat × Nat), Alt o (ps ++ [p]) ↔ Alt o ps ∧ lastN o ps ≠ some (p.1 : Int)
  | [], o, p => ⟨fun h => ⟨trivial, h.1⟩, fun h => ⟨h.2, trivial⟩⟩
  | q :: r, o, p => by
    rw [lastN_cons]
    show (o ≠ some (q.1 : Int) ∧ Alt (some (q.1 : Int)) (r ++ [p])) ↔ (o ≠ some (q.1 : Int) ∧ Alt (some (q.1 : Int)) r) ∧ _
    rw [alt_snoc r]
    exact ⟨fun h => ⟨⟨h.1, h.2.1⟩, h.2.2⟩, fun h => ⟨h.1.1, h.1.2, h.2⟩⟩
/-- ks by its groups of equal neighbours -/
structure Grp (ks : List Int) (ps : List (Nat × Nat)) : Prop where
  alt : Alt none ps
  one : ∀ p ∈ ps, 1 ≤ p.2
  out : outL ps = ks
theorem outL_cons (p : Nat × Nat) (ps : List (Nat × Nat)) : outL (p :: ps) = List.replicate p.2 (p.1 : Int) ++ outL ps := rfl
theorem outL_snoc (ps : List (Nat × Nat)) (p : Nat × Nat) : outL (ps ++ [p]) = outL ps ++ List.replicate p.2 (p.1 : Int) := by
  unfold outL
  rw [List.map_append, List.flatten_append]
  simp
theorem Grp.nil : Grp [] [] := ⟨trivial, fun p h => (nomatch h), rfl⟩
/-- one more number, another one -/
theorem Grp.new {ks : List Int} {ps : List (Nat × Nat)} {k : Nat} (g : Grp ks ps) (h : lastN none ps ≠ some (k : Int)) : Grp (ks ++ [(k : Int)]) (ps ++ [(k, 1)]) := by
  refine ⟨(alt_snoc _ _ _).mpr ⟨g.alt, h⟩, fun p hp => ?_, ?_⟩
  · rcases List.mem_append.mp hp with z | z
    · exact g.one p z
    · rw [List.mem_singleton.mp z]
      exact Nat.le_refl _
  · rw [outL_snoc, g.out]
    rfl
theorem outL_head {p : Nat × Nat} {ps : List (Nat × Nat)} (h : 1 ≤ p.2) : ∃ r, outL (p :: ps) = (p.1 : Int) :: r := by
  rw [outL_cons]
  obtain ⟨m, e⟩ : ∃ m, p.2 = m + 1 := ⟨p.2 - 1, by omega⟩
  rw [e, List.replicate_succ]
  exact ⟨_, rfl⟩
theorem outL_eq_nil {ps : List (Nat × Nat)} (h : ∀ p ∈ ps, 1 ≤ p.2) (e : outL ps = []) : ps = [] := by
  cases ps with
  | nil => rfl
  | cons p r =>
    obtain ⟨s, z⟩ := outL_head (ps := r) (h p List.mem_cons_self)
    rw [z] at e
    cases e
theorem rep_cut {x : Int} {A B : List Int} : ∀ (m n : Nat), m ≤ n → List.replicate m x ++ A = List.replicate n x ++ B → A = List.replicate (n - m) x ++ B
  | 0, n, _, h => h
  | m + 1, 0, l, _ => absurd l (by omega)
  | m + 1, n + 1, l, h => by
    rw [List.replicate_succ, List.replicate_succ, List.cons_append, List.cons_append] at h
    rw [rep_cut m n (by omega) (List.cons.inj h).2, Nat.add_sub_add_right]
theorem alt_ne_head {k : Nat} {ps : List (Nat × Nat)} {B : List Int} {d : Nat} (a : Alt (some (k : Int)) ps) (o : ∀ p ∈ ps, 1 ≤ p.2) (hd : 0 < d) : outL ps ≠ List.replicate d (k : Int) ++ B := fun e => by
  obtain ⟨m, rfl⟩ : ∃ m, d = m + 1 := ⟨d - 1, by omega⟩
  rw [List.replicate_succ] at e
  cases ps with
  | nil => cases e
  | cons p r =>
    obtain ⟨s, z⟩ := outL_head (ps := r) (o p List.mem_cons_self)
    rw [z] at e
    have h := (List.cons.inj e).1
    exact a.1 (by rw [h])
theorem grp_one : ∀ (ps qs : List (Nat × Nat)) (o o' : Option Int), Alt o ps → Alt o' qs → (∀ p ∈ ps, 1 ≤ p.2) → (∀ p ∈ qs, 1 ≤ p.2) → outL ps = outL qs → ps = qs
  | [], qs, _, _, _, _, _, h2, e => (outL_eq_nil h2 e.symm).symm
  | p :: r, [], _, _, _, _, h1, _, e => outL_eq_nil h1 e
  | (k, m) :: r, (l, n) :: s, o, o', a1, a2, h1, h2, e => by
    have m1 : 1 ≤ m := h1 (k, m) List.mem_cons_self
    have n1 : 1 ≤ n := h2 (l, n) List.mem_cons_self
    have kl : (k : Int) = (l : Int) := by
      obtain ⟨x, e1⟩ := outL_head (p := (k, m)) (ps := r) m1
      obtain ⟨y, e2⟩ := outL_head (p := (l, n)) (ps := s) n1
      rw [e1, e2] at e
      exact (List.cons.inj e).1
    have kl' : k = l := Int.ofNat.inj kl
    subst kl'
    have e' : List.replicate m (k : Int) ++ outL r = List.replicate n (k : Int) ++ outL s := e
    have mn : m = n := by
      by_cases c : m < n
      · exact absurd (rep_cut m n (by omega) e') (alt_ne_head a1.2 (fun p hp => h1 p (List.mem_cons_of_mem _ hp)) (by omega))
      · by_cases c2 : n < m
        · exact absurd (rep_cut n m (by omega) e'.symm) (alt_ne_head a2.2 (fun p hp => h2 p (List.mem_cons_of_mem _ hp)) (by omega))
        · omega
    subst mn
    have e3 := rep_cut m m (Nat.le_refl _) e'
    rw [Nat.sub_self] at e3
    rw [grp_one r s _ _ a1.2 a2.2 (fun p hp => h1 p (List.mem_cons_of_mem _ hp)) (fun p hp => h2 p (List.mem_cons_of_mem _ hp)) e3]
theorem Grp.uniq {ks : List Int} {ps qs : List (Nat × Nat)} (a : Grp ks ps) (b : Grp ks qs) : ps = qs := grp_one ps qs none none a.alt b.alt a.one b.one (a.out.trans b.out.symm)
theorem Grp.mem {ks : List Int} {ps : List (Nat × Nat)} (g : Grp ks ps) : ∀ p ∈ ps, (p.1 : Int) ∈ ks := fun p hp => by
  rw [← g.out]
  unfold outL
  have h1 := g.one p hp
  exact List.mem_flatten.mpr ⟨_, List.mem_map.mpr ⟨p, hp, rfl⟩, List.mem_replicate.mpr ⟨by omega, rfl⟩⟩
theorem outL_len : ∀ (ps : List (Nat × Nat)), (outL ps).length = (ps.map (·.2)).sum
  | [] => rfl
  | p :: r => by
    rw [outL_cons, List.length_append, List.length_replicate, outL_len r]
    rfl
theorem sum_ge {ps : List (Nat × Nat)} : (∀ p ∈ ps, 1 ≤ p.2) → ps.length ≤ (ps.map (·.2)).sum ∧ ∀ p ∈ ps, p.2 ≤ (ps.map (·.2)).sum := by
  induction ps with
  | nil => exact fun _ => ⟨Nat.le_refl _, fun p hp => (nomatch hp)⟩
  | cons q r ih =>
    intro h
    obtain ⟨a, b⟩ := ih fun p hp => h p (List.mem_cons_of_mem _ hp)
    have h1 := h q List.mem_cons_self
    refine ⟨?_, fun p hp => ?_⟩
    · simp only [List.length_cons, List.map_cons, List.sum_cons]
      omega
    · simp only [List.map_cons, List.sum_cons]
      rcases List.mem_cons.mp hp with z | z
      · rw [z]; omega
      · have := b p z; omega
theorem Grp.len {ks : List Int} {ps : List (Nat × Nat)} (g : Grp ks ps) : ps.length ≤ ks.length ∧ ∀ p ∈ ps, p.2 ≤ ks.length := by
  rw [← g.out, outL_len]
  exact sum_ge g.one
/-! ### great numbers, piece by piece -/
end Sq
namespace Sq
open PySem PySem.Spec PyProof.Rows L2 TL
/-- one group's way of writing: the state of a writer that has closed the groups C and stands t signs in the next -/
structure OwnS (ks : List Int) (i : Nat) (C : List (Nat × Nat)) (t : Nat) : Prop where
  alt : Alt none C
  one : ∀ p ∈ C, 1 ≤ p.2
  nx : ∀ n, ks[i]? = some n → ks.take i = outL C ++ List.replicate t n ∧ lastN none C ≠ some n
  fin : ks[i]? = none → t = 0 ∧ outL C = ks
theorem OwnS.start (ks : List Int) : OwnS ks 0 [] 0 := ⟨trivial, fun p h => (nomatch h), fun n _ => ⟨rfl, fun z => (nomatch z)⟩, fun h => ⟨rfl, by
  cases ks with
  | nil => rfl
  | cons k r => cases h⟩⟩
theorem OwnS.same {ks : List Int} {i : Nat} {C : List (Nat × Nat)} {t : Nat} {n : Int} (h : OwnS ks i C t) (e : ks[i]? = some n) (e2 : ks[i + 1]? = some n) : OwnS ks (i + 1) C (t + 1) := by
  obtain ⟨a, b⟩ := h.nx n e
  refine ⟨h.alt, h.one, fun m hm => ?_, fun z => by rw [e2] at z; cases z⟩
  rw [e2] at hm
  cases hm
  refine ⟨?_, b⟩
  rw [List.take_add_one, e, a, List.replicate_succ', List.append_assoc]
  rfl
end Sq
set_option Elab.async false
set_option linter.all false
set_option maxRecDepth 100000
set_option maxHeartbeats 1000000
/-! What is read is written. -/
namespace Sq
open PySem PySem.Spec PyProof.Rows L2 TL
open NumText (digitsVal AllDigits)
theorem last_of {F : List Int} {ps : List (Nat × Nat)} (g : Grp F ps) : F.getLast? = lastN none ps := by
  rcases List.eq_nil_or_concat ps with e | ⟨qs, p, e⟩
  · have := g.out
    rw [e] at this ⊢
    rw [← this]
    rfl
  · rw [List.concat_eq_append] at e
    have o := g.out
    have h1 := g.one p (by rw [e]; exact List.mem_append_right _ (List.mem_singleton.mpr rfl))
    rw [e] at o ⊢
    rw [lastN_snoc, ← o, outL_snoc, last_rep h1]
theorem Grp.block {F : List Int} {ps : List (Nat × Nat)} {n k : Nat} (g : Grp F ps) (h : F.getLast? ≠ some (n : Int)) (hk : 1 ≤ k) : Grp (F ++ List.replicate k (n : Int)) (ps ++ [(n, k)]) := by
  rw [last_of g] at h
  refine ⟨(alt_snoc _ _ _).mpr ⟨g.alt, h⟩, fun p hp => ?_, ?_⟩
  · rcases List.mem_append.mp hp with z | z
    · exact g.one p z
    · rw [List.mem_singleton.mp z]
      exact hk
  · rw [outL_snoc, g.out]
/-! ### few digits behind each ^ -/
def isDg (c : Nat) : Bool := decide (48 ≤ c) && decide (c ≤ 57)
/-- of the two signs that stand second and third behind a ^ none is a digit -/
def Gap (l : List Nat) : Prop := ∀ i, l[i]? = some 94 → (∀ b, l[i + 2]? = some b → isDg b = false) ∧ (∀ c, l[i + 3]? = some c → isDg c = false)
theorem Gap.cons {c : Nat} {l : List Nat} (h : Gap l) (hc : c ≠ 94) : Gap (c :: l) := fun i e => by
  cases i with
  | zero => exact absurd (Option.some.inj e) hc
  | succ i => exact h i e
theorem Gap.app : ∀ {p l : List Nat}, Gap l → 94 ∉ p → Gap (p ++ l)
  | [], l, h, _ => h
  | c :: p, l, h, hp => by
    show Gap (c :: (p ++ l))
    exact Gap.cons (Gap.app h fun z => hp (List.mem_cons_of_mem _ z)) fun z => hp (by rw [z]; exact List.mem_cons_self)
theorem Gap.nil : Gap [] := fun i e => (nomatch e)
end Sq
set_option Elab.async false
set_option linter.all false
set_option maxRecDepth 100000
set_option maxHeartbeats 1000000
/-! What is asked of the handled error in its suite, whatever its class. -/
set_option Elab.async false
set_option linter.all false
set_option maxRecDepth 100000
set_option maxHeartbeats 1000000
/-! A def that may raise, called where it doesn't; keywords of such a def. -/
set_option Elab.async false
set_option linter.all false
set_option maxRecDepth 100000
set_option maxHeartbeats 2000000
/-! Objects of an own class: made, their methods called, their properties read, where these may raise too. -/
namespace Sq
open PySem PySem.Spec PyProof.Rows L2
/-- a method of the class at C -/
structure Mt (CXf : CXT) (P : Program) (w : World) (K : PySem.W.Frag) (mg : Str → Option Value) (base : Heap) (k : Nat) (C : Addr) (m : Str) (ps : List Str) (sp : Sp) : Prop where
  ex : ∃ f fd, FnOk P w K mg base CXf k f fd ps sp ∧ Meth K C m f ∧ Binds K fd ps []
  cl : Cls K C
/-- a property -/
structure Pr (P : Program) (w : World) (K : PySem.W.Frag) (mg : Str → Option Value) (base : Heap) (k : Nat) (C : Addr) (m : Str) (sp : Sp) : Prop where
  ex : ∃ p g fd, PropOf K C m p g ∧ FnOk P w K mg base CX0 k g fd ["self"] sp ∧ Binds K fd ["self"] []
  cl : Cls K C
theorem at0 {X : Cx} : ∀ σ, PassesAt CX0 X σ ((fun _ => E0 : L2.St → XK) σ) := fun _ _ _ _ _ _ _ h => h.elim
end Sq
set_option Elab.async false
set_option linter.all false
set_option maxHeartbeats 1000000
/-! Two lists part at the run between their greatest origins of 1. -/
set_option Elab.async false
set_option linter.all false
set_option maxHeartbeats 1000000
/-! What parting_run returns. -/
set_option Elab.async false
set_option linter.all false
set_option maxHeartbeats 1000000
/-! A hidden list, found by questions. -/
set_option Elab.async false
set_option linter.all false
/-! A statement told apart from what follows. -/
namespace Sq
open PySem PySem.Spec PyProof.Rows L2
theorem tellSeq {t u : TS} {D : Ends} {σ : L2.St} {H : Hp} (T : L2.St → Hp → Prop) (h : ∀ N : L2.St → Hp → Prop, (∀ σ2 H2, T σ2 H2 → N σ2 H2) → t { D with nx := N } σ H) (hT : ∀ σ2 H2, T σ2 H2 → u D σ2 H2) : tSeq t u D σ H := h (u D) hT
theorem tellNx {t u : TS} {D : Ends} {r : VK} {b c : L2.St → Hp → Prop} {σ : L2.St} {H : Hp} (T : L2.St → Hp → Prop) (h : ∀ N : L2.St → Hp → Prop, (∀ σ2 H2, T σ2 H2 → N σ2 H2) → t { D with nx := N } σ H) (hT : ∀ σ2 H2, T σ2 H2 → u D σ2 H2) : Ends.nx { nx := tSeq t u D, rt := r, bk := b, ct := c } σ H := h (u D) hT
end Sq
set_option Elab.async false
set_option linter.all false
set_option maxHeartbeats 1000000
/-! Lists of replacements in the heap; slices of them. -/
namespace Sq
open PySem PySem.Spec PyProof.Rows L2
/-- replacements, not too great -/
def Rpl (ks : List Int) : Prop := ∀ k ∈ ks, 2 ≤ k ∧ k < 1073741824
theorem Rpl.two {ks : List Int} (h : Rpl ks) : ∀ k ∈ ks, 2 ≤ k := fun k hk => (h k hk).1
theorem Rpl.app {ks ls : List Int} (h : Rpl ks) (g : Rpl ls) : Rpl (ks ++ ls) := fun k hk => by
  rcases List.mem_append.mp hk with z | z
  · exact h k z
  · exact g k z
/-- a list of at most n replacements -/
def RL (H : Hp) (p : Addr) (n : Nat) : Prop := ∃ ks : List Int, H p = some (.lst (ks.map V.int)) ∧ ks.length ≤ n ∧ Rpl ks
theorem RL.same {H H' : Hp} {p : Addr} {n : Nat} (h : RL H p n) (s : Same H H') : RL H' p n := by
  obtain ⟨ks, g, l, r⟩ := h
  exact ⟨ks, s _ _ g, l, r⟩
end Sq
set_option Elab.async false
set_option linter.all false
set_option maxRecDepth 100000
set_option maxHeartbeats 2000000
/-! A def of the law that asks for a repr: run where no repr is under way. -/
namespace Sq
open PySem PySem.Spec PyProof.Rows L2
structure FnG (P : Program) (w : World) (K : PySem.W.Frag) (mg : Str → Option Value) (base : Heap) (k : Nat) (f : Addr) (fd : FuncData) (ps : List Str) (sp : Sp) : Prop where
  count : ∀ vs H Q E, sp vs H Q E → vs.length = ps.length
  go : ∀ (A : Around) (outer : List Env) (s : Shared) (H : Hp) (ag : Args) (us : List Value) (vs : List V) (Q : VK) (E : XK), Room k A → A.guards = some [] → Env0 P w K mg base A outer s H →
    BindsTo s fd ag (ps.zip us) → Vals vs us → sp vs H Q E → codeAny (model P w) A (.call (.ref f) ag) (CR CX0 outer P w H s Q E) s
structure Dgr (P : Program) (w : World) (K : PySem.W.Frag) (mg : Str → Option Value) (base : Heap) (k : Nat) (x : Str) (ps : List Str) (sp : Sp) : Prop where
  ex : ∃ f fd, FnG P w K mg base k f fd ps sp ∧ mg x = some (.ref f) ∧ PySem.W.keepIn K (.ref f) = true ∧ Binds K fd ps []
theorem Dgr.mk' {P : Program} {w : World} {K : PySem.W.Frag} {mg : Str → Option Value} {base : Heap} {k : Nat} {x : Str} {st : Stmt} {ps : List Str} {sp : Sp} {f : Addr} {fd : FuncData} (F : Fun K x x st f fd) (G : FnG P w K mg base k f fd ps sp) (g : mg x = some (.ref f)) (b : Binds K fd ps []) : Dgr P w K mg base k x ps sp :=
  ⟨⟨f, fd, G, g, F.kp, b⟩⟩
end Sq
set_option Elab.async false
set_option linter.all false
/-! The best replacements, in plain Lean. -/
namespace Sq
def low (R : Int) : Int := (R + 3) / 2
def high (R : Int) : Int := (R + 4) / 2
def bests (R : Int) : List Int := if low R = high R then [low R] else [low R, high R]
def grow (R : Int) : Int := rw1 (low R) R
def up : Nat → Int → Int
  | 0, v => v
  | n + 1, v => grow (up n v)
theorem low_ge {R : Int} (h : 1 ≤ R) : 2 ≤ low R := by unfold low; omega
theorem low_le {R : Int} (h : 1 ≤ R) : low R ≤ R + 1 := by unfold low; omega
theorem high_le {R : Int} (h : 1 ≤ R) : high R ≤ R + 2 := by unfold high; omega
theorem rw1_low {k R : Int} (hk : k ≤ R + 2) : rw1 k R = (R + 3 - k) * k - 2 := by
  unfold rw1
  split
  · have e : k = R + 2 := by omega
    subst e
    rw [show R + 3 - (R + 2) = 1 by omega, Int.one_mul]
    omega
  · rfl
/-- how far a replacement stands from the middle decides -/
theorem sq_gap (R k : Int) : 4 * ((R + 3 - k) * k) = (R + 3) * (R + 3) - (2 * k - (R + 3)) * (2 * k - (R + 3)) := by
  simp only [Int.sub_mul, Int.mul_sub, Int.add_mul, Int.mul_add]
  have h1 := Int.mul_comm k R
  have h2 : 2 * k * (2 * k) = 4 * (k * k) := by
    rw [Int.mul_assoc, ← Int.mul_assoc k 2 k, Int.mul_comm k 2, Int.mul_assoc 2 k k]
    omega
  have h3 : 2 * k * R = 2 * (k * R) := Int.mul_assoc ..
  have h4 : R * (2 * k) = 2 * (k * R) := by rw [Int.mul_comm R, Int.mul_assoc]
  rw [h2, h3, h4, h1]
  omega
theorem one_sq {d : Int} (h : d = 0 ∨ d = 1 ∨ d = -1) : d * d ≤ 1 := by rcases h with h | h | h <;> subst h <;> decide
theorem two_sq {d : Int} (h : 2 ≤ d ∨ d ≤ -2) : 4 ≤ d * d := by
  rcases h with h | h
  · exact Int.mul_le_mul h h (by omega) (by omega)
  · have := Int.mul_le_mul (a := 2) (b := 2) (c := -d) (d := -d) (by omega) (by omega) (by omega) (by omega)
    rw [Int.neg_mul_neg] at this
    exact this
theorem rw1_le_grow {k R : Int} (hk : 2 ≤ k) (hR : 1 ≤ R) : rw1 k R ≤ grow R ∧ (rw1 k R = grow R ↔ k ∈ bests R) := by
  have l1 := low_ge hR
  have l2 := low_le hR
  have g : grow R = (R + 3 - low R) * low R - 2 := rw1_low (by omega)
  have e1 := sq_gap R (low R)
  by_cases c : k ≤ R + 2
  · have e := sq_gap R k
    rw [g, rw1_low c]
    by_cases ev : R % 2 = 0
    · -- the middle lies between two
      have d1 : 2 * low R - (R + 3) = -1 := by unfold low; omega
      have ne : low R ≠ high R := by unfold low high; omega
      have mem : k ∈ bests R ↔ (k = low R ∨ k = high R) := by
        unfold bests
        rw [if_neg ne]
        simp
      rw [d1] at e1
      by_cases m : k = low R ∨ k = high R
      · have d2 : 2 * k - (R + 3) = -1 ∨ 2 * k - (R + 3) = 1 := by unfold low high at m; omega
        have e2 : (2 * k - (R + 3)) * (2 * k - (R + 3)) = 1 := by rcases d2 with d2 | d2 <;> rw [d2] <;> rfl
        rw [e2] at e
        exact ⟨by omega, fun _ => mem.mpr m, fun _ => by omega⟩
      · have d2 : 2 ≤ 2 * k - (R + 3) ∨ 2 * k - (R + 3) ≤ -2 := by unfold low high at m; omega
        have e2 := two_sq d2
        exact ⟨by omega, fun z => by omega, fun z => absurd (mem.mp z) m⟩
    · have d1 : 2 * low R - (R + 3) = 0 := by unfold low; omega
      have eq : low R = high R := by unfold low high; omega
      have mem : k ∈ bests R ↔ k = low R := by
        unfold bests
        rw [if_pos eq]
        simp
      rw [d1] at e1
      by_cases m : k = low R
      · subst m
        exact ⟨by omega, fun _ => mem.mpr rfl, fun _ => by omega⟩
      · have d2 : 2 ≤ 2 * k - (R + 3) ∨ 2 * k - (R + 3) ≤ -2 := by unfold low at m; omega
        have e2 := two_sq d2
        exact ⟨by omega, fun z => by omega, fun z => absurd (mem.mp z) m⟩
  · have e2 : rw1 k R = R := by
      unfold rw1
      rw [if_pos (by omega)]
    have e3 : R < grow R := by
      rw [g]
      have e4 : (R + 3 - 2) * 2 ≤ (R + 3 - low R) * low R := by
        have a := sq_gap R 2
        have b : (2 * low R - (R + 3)) * (2 * low R - (R + 3)) ≤ 1 := one_sq (by unfold low; omega)
        by_cases h1 : R = 1
        · subst h1
          decide
        · by_cases h2 : R = 2
          · subst h2; decide
          · have c2 : 1 ≤ (2 * 2 - (R + 3)) * (2 * 2 - (R + 3)) := by
              have := two_sq (d := 2 * 2 - (R + 3)) (by omega)
              omega
            omega
      omega
    refine ⟨by omega, fun z => by omega, fun z => ?_⟩
    exfalso
    have := high_le hR
    unfold bests at z
    split at z
    · have := List.mem_singleton.mp z
      omega
    · simp at z
      omega
theorem grow_gt {R : Int} (hR : 1 ≤ R) : R < grow R := by
  have a := (rw1_le_grow (k := 2) (R := R) (by omega) hR).1
  rw [rw1_low (by omega)] at a
  by_cases h : R = 1
  · subst h; decide
  · omega
theorem grow_pos {R : Int} (hR : 1 ≤ R) : 1 ≤ grow R := by have := grow_gt hR; omega
theorem up_pos {v : Int} (hv : 1 ≤ v) : ∀ n, 1 ≤ up n v
  | 0 => hv
  | n + 1 => grow_pos (up_pos hv n)
/-- the choices of each place -/
def chs : Nat → Int → List (List Int)
  | 0, _ => []
  | n + 1, v => bests (up n v) :: chs n v
end Sq
set_option Elab.async false
set_option linter.all false
/-! One of each choice, by its place. -/
namespace Sq
def lens : List (List Int) → Int
  | [] => 1
  | c :: cs => (c.length : Int) * lens cs
def pick : List (List Int) → Int → List Int
  | [], _ => []
  | c :: cs, p => c.getD ((p / lens cs) % (c.length : Int)).toNat 0 :: pick cs p
def Full (cs : List (List Int)) : Prop := ∀ c ∈ cs, 0 < c.length
theorem Full.tl {c : List Int} {cs : List (List Int)} (h : Full (c :: cs)) : Full cs := fun x hx => h x (List.mem_cons_of_mem _ hx)
theorem Full.hd {c : List Int} {cs : List (List Int)} (h : Full (c :: cs)) : 0 < c.length := h c (List.mem_cons_self ..)
theorem lens_pos : ∀ {cs : List (List Int)}, Full cs → 0 < lens cs
  | [], _ => by decide
  | c :: cs, h => Int.mul_pos (by have := h.hd; omega) (lens_pos h.tl)
theorem pick_len : ∀ (cs : List (List Int)) (p : Int), (pick cs p).length = cs.length
  | [], _ => rfl
  | _ :: cs, p => congrArg Nat.succ (pick_len cs p)
theorem bests_len (R : Int) : (bests R).length = if R % 2 = 0 then 2 else 1 := by
  unfold bests
  by_cases h : R % 2 = 0
  · rw [if_pos h, if_neg (show ¬ low R = high R by unfold low high; omega)]
    rfl
  · rw [if_neg h, if_pos (show low R = high R by unfold low high; omega)]
    rfl
theorem chs_len : ∀ (n : Nat) (v : Int), (chs n v).length = n
  | 0, _ => rfl
  | n + 1, v => congrArg Nat.succ (chs_len n v)
theorem chs_mem : ∀ {n : Nat} {v : Int} {c : List Int}, c ∈ chs n v → ∃ i, i < n ∧ c = bests (up i v)
  | n + 1, v, c, h => by
    rcases List.mem_cons.mp h with e | h
    · exact ⟨n, by omega, e⟩
    · obtain ⟨i, hi, e⟩ := chs_mem h
      exact ⟨i, by omega, e⟩
theorem chs_full (n : Nat) (v : Int) : Full (chs n v) := fun c h => by
  obtain ⟨i, _, rfl⟩ := chs_mem h
  rw [bests_len]
  split <;> omega
/-- the even reaches -/
def evens (n : Nat) (v : Int) : Nat := match n with
  | 0 => 0
  | n + 1 => evens n v + if up n v % 2 = 0 then 1 else 0
theorem lens_chs : ∀ (n : Nat) (v : Int), lens (chs n v) = (2 : Int) ^ evens n v
  | 0, _ => rfl
  | n + 1, v => by
    show ((bests (up n v)).length : Int) * lens (chs n v) = (2 : Int) ^ (evens n v + if up n v % 2 = 0 then 1 else 0)
    rw [lens_chs n v, bests_len]
    by_cases h : up n v % 2 = 0
    · rw [if_pos h, if_pos h, Int.pow_succ]
      omega
    · rw [if_neg h, if_neg h]
      show (1 : Int) * _ = _
      rw [Int.one_mul]
      rfl
theorem evens_le (n : Nat) (v : Int) : evens n v ≤ n := by
  induction n with
  | zero => exact Nat.le_refl _
  | succ n ih =>
    show evens n v + (if up n v % 2 = 0 then 1 else 0) ≤ n + 1
    split <;> omega
theorem lens_le {n : Nat} (h : n ≤ 8) (v : Int) : lens (chs n v) ≤ 256 := by
  rw [lens_chs]
  have : (2 : Nat) ^ evens n v ≤ 2 ^ 8 := Nat.pow_le_pow_right (by decide) (Nat.le_trans (evens_le n v) h)
  have e : ((2 ^ evens n v : Nat) : Int) = (2 : Int) ^ evens n v := by push_cast; rfl
  omega
end Sq
set_option Elab.async false
set_option linter.all false
set_option maxRecDepth 100000
set_option maxHeartbeats 1000000
/-! `for` in a generator's body, with yields in its suite. -/
namespace PySem
open Sem (wp)
section
variable {M : Model} {A : Around} {R : GenEnd} {Y : Protocol} {n : Nat} {s₀ : Shared} {c : Code} {fs : List Frame} {s : Shared} {env : Env}
  {K : Flow → Sem Fin} {H : Value → Sem Fin} {gd : Bool → Bool} {lv : List Value → List Value}
theorem segFor {target iter : Expr} {body orelse : List Stmt} {pos : Pos}
    (h : wpAny M (A.over c fs) (eval iter env) (fun x s₁ => wpAny M (A.over c fs) (pyIter x) (fun it s₂ =>
        ∀ p, Seg M A R Y n s₀ (.forLoop target it body orelse env) (M.den (.forLoop target it body orelse env))
      (.ret (fun r => ((match r with | .ok f => (.pure f : Sem Flow) | .error e => .raise e).onRaise fun (x : Value) => do
        if (← field x 1) == Value.none then unsupported "frame.own-activation:exception-without-traceback"
        setFlight x env.frame).wrap K H gd lv) none (gd false) (lv []) c p [] :: fs) s₂) (fun x s' => Seg M A R Y n s₀ c (H x) fs s') s₁)
      (fun x s' => Seg M A R Y n s₀ c (H x) fs s') s)
    (hs : ∀ x, foldedSetIterable iter env x = pure x := by intro _; rfl) :
    Seg M A R Y n s₀ c ((exec (.For target iter body orelse pos) env).wrap K H gd lv) fs s := by
  rw [exec_For]
  refine seg_bind_wrap (wpAny_standAt ?_)
  refine seg_bind_wrap (wpAny_mono h (fun x s₁ h₁ => ?_) fun _ _ h' => h')
  refine seg_bind_wrap (wpAny_of_eq (hs x) ?_)
  refine seg_bind_wrap (wpAny_standAt ?_)
  refine seg_bind_wrap (wpAny_holding (wpAny_mono h₁ (fun it s₂ h₂ => ?_) fun _ _ h' => h'))
  exact seg_call h₂
end
section
variable {prog : Program} {w : World} {A : Around} {R : GenEnd} {Y : Protocol} {n : Nat} {s₀ : Shared} {fs : List Frame} {s : Shared} {env : Env}
theorem segForLoop {target : Expr} {it : Value} {body orelse : List Stmt}
    (h : wpAny (model prog w) (A.over (.forLoop target it body orelse env) fs) (pyNext it) (fun r s₁ => match r with
        | none => Seg (model prog w) A R Y n s₀ (.forLoop target it body orelse env) (.pure (.again (.block orelse env))) fs s₁
        | some v => wpAny (model prog w) (A.over (.forLoop target it body orelse env) fs) (letOwnedTupleGo target it v) (fun _ s₂ =>
            wpAny (model prog w) (A.over (.forLoop target it body orelse env) fs) (assign target env v) (fun _ s₃ =>
              Seg (model prog w) A R Y n s₀ (.forLoop target it body orelse env) ((execs body env).wrap (fun f => match f with
            | .next | .cont => .pure (.again (.forLoop target it body orelse env))
            | .brk => .pure (.done .next)
            | .ret v => .pure (.done (.ret v))) (fun e => (do noteFrame e env; theTreesLotGoes e : Sem Unit).wrap (fun _ => .raise e) .raise id id) id id) fs s₃)
              (fun x s' => Seg (model prog w) A R Y n s₀ (.forLoop target it body orelse env) ((do noteFrame x env; theTreesLotGoes x : Sem Unit).wrap (fun _ => .raise x) .raise id id) fs s') s₂)
            (fun x s' => Seg (model prog w) A R Y n s₀ (.forLoop target it body orelse env) ((do noteFrame x env; theTreesLotGoes x : Sem Unit).wrap (fun _ => .raise x) .raise id id) fs s') s₁)
      (fun x s' => Seg (model prog w) A R Y n s₀ (.forLoop target it body orelse env) ((do noteFrame x env; theTreesLotGoes x : Sem Unit).wrap (fun _ => .raise x) .raise id id) fs s') s) :
    Seg (model prog w) A R Y n s₀ (.forLoop target it body orelse env) ((model prog w).den (.forLoop target it body orelse env)) fs s := by
  show Seg _ A R Y n s₀ _ ((forTurn target it body orelse env).onRaise (fun x => do noteFrame x env; theTreesLotGoes x)) fs s
  unfold forTurn
  rw [Sem.onRaise_eq_wrap]
  have he : ∀ (x : Value) (s' : Shared), Seg (model prog w) A R Y n s₀ (.forLoop target it body orelse env) ((do noteFrame x env; theTreesLotGoes x : Sem Unit).wrap (fun _ => .raise x) .raise id id) fs s' →
      Seg (model prog w) A R Y n s₀ (.forLoop target it body orelse env) ((do noteFrame x env; theTreesLotGoes x : Sem Unit).bind fun _ => .raise x) fs s' := fun x s' hx => by
    rw [Sem.bind_eq_wrap]; exact hx
  refine seg_bind_wrap (wpAny_standAt ?_)
  refine seg_bind_wrap (wpAny_onRaise (wpAny_mono h (fun r s₁ h₁ => ?_) fun x s' hx => wpAny_standAt (he x s' hx)))
  cases r with
  | none => exact h₁
  | some v =>
    refine seg_bind_wrap (wpAny_mono h₁ (fun _ s₂ h₂ => ?_) fun x s' hx => he x s' hx)
    refine seg_bind_wrap (wpAny_mono h₂ (fun _ s₃ h₃ => ?_) fun x s' hx => he x s' hx)
    rw [Sem.bind_eq_wrap', Sem.wrap_wrap]
    rw [Sem.wrap_congr (execs body env) _ _ (K' := fun f => match f with
            | .next | .cont => .pure (.again (.forLoop target it body orelse env))
            | .brk => .pure (.done .next)
            | .ret v => .pure (.done (.ret v))) (H' := (fun e => (do noteFrame e env; theTreesLotGoes e : Sem Unit).wrap (fun _ => .raise e) .raise id id))
        (fun f => by cases f <;> rfl)
        (fun e => by first | exact Sem.bind_eq_wrap _ _ | (show (do noteFrame e env; theTreesLotGoes e : Sem Unit).bind (fun _ => .raise e) = _; rw [Sem.bind_eq_wrap]))]
    exact h₃
theorem segBlockNil (h : Seg (model prog w) A R Y n s₀ (.block [] env) (.pure (.done .next)) fs s) :
    Seg (model prog w) A R Y n s₀ (.block [] env) ((model prog w).den (.block [] env)) fs s := h
end
end PySem
namespace L2
open PySem PySem.Spec PyProof.Rows GenW
section
variable {X : Cx} {tg : Expr}
theorem gc_more {S : Addr} {ip ip' : List (Addr × Obj)} {A : Around} {c : Code} {fs : List Frame} {gd : Bool → Bool} (g : GC X S ip A c fs gd) (h : ∀ p ∈ ip', p.1 ≠ S) : GC X S (ip ++ ip') A c fs gd where
  pn := g.pn
  ip := fun p hp => (List.mem_append.mp hp).elim (g.ip p) (h p)
  apart := g.apart
  over := g.over
  split := g.split
  guard := g.guard
  gd := g.gd
theorem GI.less {S : Addr} {ip ip' : List (Addr × Obj)} {ys : List V} {σ : St} {H : Hp} {s : Shared} (h : GI X S (ip ++ ip') ys σ H s) : GI X S ip ys σ H s := by
  obtain ⟨acc, c, r, I⟩ := h
  exact ⟨acc, c, r, I.pins_of fun p hp => I.pin p (List.mem_append_right _ ((List.mem_cons.mp hp).elim (fun e => e ▸ List.mem_cons_self) fun z => List.mem_cons_of_mem _ (List.mem_append_left _ z)))⟩
/-- as tFor, with what is out -/
def tGFor (wi : TI) (g : TG) (tb : TGn) : TGn := fun D ys σ H => wi σ H fun J H1 => ∃ W : Nat → Nat → List V → St → Hp → Prop, (∃ m, W 0 m ys σ H1) ∧ ∀ i m ys σ H, W i m ys σ H →
  (J.stop i H ∧ D.nx ys σ H) ∨ (J.go i H ∧ ∃ N : List V → St → Hp → Prop, (∀ ys' σ' H', N ys' σ' H' → ∃ m', m' < m ∧ W (i + 1) m' ys' σ' H') ∧ ∀ x H', J.yld i H x H' → g x σ H' fun σ2 H2 => tb { D with nx := N, ct := N, bk := D.nx } ys σ2 H2)
theorem gs_for {iter : Expr} {body : List Stmt} {wi : TI} {g : TG} {tb : TGn} {pos : Pos} (hp : PassesOwn (model X.prog X.w) X.A X.env X.xe) (hcalm : X.calm = true) (hi : PI X tg iter wi) (hg : PG X tg g) (hb : GSs X body tb)
    (hs : ∀ x, foldedSetIterable iter X.env x = pure x := by intro _; rfl) : GS X (.For tg iter body [] pos) (tGFor wi g tb) := by
  refine ⟨fun A S ip R n ys s₀ c fs K J gd lv s σ H D gc hn k hI ht => ?_⟩
  obtain ⟨acc, cc, r, I⟩ := hI
  refine segFor ?_ hs
  rw [gc.over]
  refine wpAny_mono (hi.run _ s σ H _ I ht) (fun v s1 h1 => ?_) fun x s' hx => k.exc n s₀ x s' hx
  refine wpAny_mono h1 (fun itv s2 h2 => ?_) fun x s' hx => k.exc n s₀ x s' hx
  obtain ⟨it, fp, tn, J', H2, e, I2, T, st2, f2, W, ⟨m0, w0⟩, turn⟩ := h2
  subst e
  intro p
  have gl := fun (kk : Result → Sem PySem.Fin) => gc_loop (k := kk) (c' := .forLoop tg (.ref it) body [] X.env) (l := lv []) (kp := []) (p := p) gc rfl rfl
  have fpS : ∀ b ∈ fp, b ≠ S := fun b hb e => by
    obtain ⟨_, q1, q2, q3, q4, q5⟩ := f2 b hb
    exact q5 (S, lstObj acc cc) (List.mem_append_right _ List.mem_cons_self) e.symm
  have stat : ∀ {H' : Hp}, (∀ b ∈ fp, H' b = none) → ∀ {acc : Array Value} {c : Nat}, ∀ b ∈ fp, FpOk X ((S, lstObj acc c) :: ip) H' b := fun {H'} hn {acc c} b hb => by
    obtain ⟨_, q1, q2, q3, q4, q5⟩ := f2 b hb
    refine ⟨hn b hb, q1, q2, q3, q4, fun p hp => ?_⟩
    rcases List.mem_append.mp hp with z | z
    · exact q5 p (List.mem_append_left _ z)
    · rcases List.mem_cons.mp z with z | z
      · rw [z]
        exact fun e => fpS b hb e.symm
      · exact q5 p (List.mem_append_right _ (List.mem_cons_of_mem _ z))
  have loop : ∀ (m i n : Nat) (ys : List V) (s₀ s : Shared) (σ : St) (H : Hp), n + ys.length = sizeLine → W i m ys σ H → tn i s.heap → (∀ b ∈ fp, H b = none) → GI X S ip ys σ H s →
      Seg (model X.prog X.w) A R (GY X S) n s₀ (.forLoop tg (.ref it) body [] X.env) ((model X.prog X.w).den (.forLoop tg (.ref it) body [] X.env))
        (.ret (fun r => ((match r with | .ok f => (.pure f : Sem Flow) | .error e => .raise e).onRaise (cameBack X.env)).wrap K J gd lv) none (gd false) (lv []) c p [] :: fs) s := by
    intro m
    induction m using Nat.strongRecOn with
    | ind m ih =>
      intro i n ys s₀ s σ H hn w st fr hI
      have ee : ∀ (n : Nat) (s₀ : Shared) (x : Value) (s' : Shared), X.xe x s' → Seg (model X.prog X.w) A R (GY X S) n s₀ (.forLoop tg (.ref it) body [] X.env)
          ((do noteFrame x X.env; theTreesLotGoes x : Sem Unit).wrap (fun _ => .raise x) .raise id id)
          (.ret (fun r => ((match r with | .ok f => (.pure f : Sem Flow) | .error e => .raise e).onRaise (cameBack X.env)).wrap K J gd lv) none (gd false) (lv []) c p [] :: fs) s' := fun n s₀ x s' hx => by
        refine seg_wrap ?_
        rw [(gl _).over]
        refine wpAny_bind (wpAny_mono (hp x s' hx) (fun _ s'' hcb => wpAny_theTreesLotGoes ?_) fun y s'' hcb => ?_)
        · exact seg_leaf (.error x) (seg_cameBack gc k hcb)
        · exact seg_leaf (.error y) (seg_cameBack gc k hcb)
      refine segForLoop ?_
      rw [(gl _).over]
      obtain ⟨acc, cc, r, I⟩ := hI
      rcases turn i m ys σ H w with ⟨stop, qn⟩ | ⟨go, N, hN, step⟩
      · refine wpAny_mono (T.done X rfl rfl rfl hcalm i _ s σ H X.xe I (stat fr) st stop) (fun rr s4 hh => ?_) fun x s' hx => ee n s₀ x s' hx
        obtain ⟨hr, I4⟩ := hh
        subst hr
        refine seg_again rfl (segBlockNil ?_)
        exact seg_leaf (.ok .next) (k.ok n ys s₀ s4 .next hn ⟨σ, H, ⟨acc, cc, r, I4⟩, qn⟩)
      · refine wpAny_mono (T.item X rfl rfl rfl hcalm i _ s σ H X.xe I (stat fr) st go) (fun rr s4 hh => ?_) fun x s' hx => ee n s₀ x s' hx
        obtain ⟨u, hr, h4⟩ := hh
        subst hr
        refine wpAny_mono h4 (fun _ s5 hh => ?_) fun x s' hx => ee n s₀ x s' hx
        obtain ⟨x, H5, I5, r5, y5, st5, fr5⟩ := hh
        have I5' := I5.pinned (stat fr5) (T.obj _ _ st5)
        refine wpAny_mono (hg.run _ s5 σ H5 x u _ I5' r5 (step x H5 y5)) (fun _ s6 hh => ?_) fun x s' hx => ee n s₀ x s' hx
        obtain ⟨σ6, H6, I6, q6⟩ := hh
        have gm : GC X S (ip ++ pinsAt fp s5.heap) A (.forLoop tg (.ref it) body [] X.env) (.ret (fun r => ((match r with | .ok f => (.pure f : Sem Flow) | .error e => .raise e).onRaise (cameBack X.env)).wrap K J gd lv) none (gd false) (lv []) c p [] :: fs) id :=
          gc_more (gl _) fun q hq => fpS q.1 (of_pinsAt hq).1
        have again : ∀ {n' : Nat} {ys' : List V} {s₀' s7 : Shared} {σ7 : St} {H7 : Hp}, n' + ys'.length = sizeLine → GI X S (ip ++ pinsAt fp s5.heap) ys' σ7 H7 s7 → N ys' σ7 H7 →
            Seg (model X.prog X.w) A R (GY X S) n' s₀' (.forLoop tg (.ref it) body [] X.env) (.pure (.again (.forLoop tg (.ref it) body [] X.env)))
              (.ret (fun r => ((match r with | .ok f => (.pure f : Sem Flow) | .error e => .raise e).onRaise (cameBack X.env)).wrap K J gd lv) none (gd false) (lv []) c p [] :: fs) s7 := fun {n' ys' s₀' s7 σ7 H7} hn' I7 n7 => by
          obtain ⟨m', hm, w7⟩ := hN ys' σ7 H7 n7
          have pz : ∀ b ∈ fp, ∀ o, s5.heap.get? b = some o → s7.heap.get? b = some o ∧ H7 b = none := fun b hb o e => by
            obtain ⟨acc7, c7, _, I7'⟩ := I7
            have z := I7'.pin (b, o) (List.mem_append_right _ (List.mem_cons_of_mem _ (List.mem_append_right _ (mem_pinsAt hb e))))
            exact ⟨z.1, z.2.1⟩
          refine seg_again rfl (ih m' hm (i + 1) n' ys' s₀' s7 σ7 H7 hn' w7 (T.keep _ _ _ st5 fun b hb o e => (pz b hb o e).1) (fun b hb => ?_) I7.less)
          obtain ⟨o, e, d⟩ := T.obj _ _ st5 b hb
          exact (pz b hb o e).2
        refine hb.run A S (ip ++ pinsAt fp s5.heap) R n ys s₀ _ _ _ _ id id s6 σ6 H6 { D with nx := N, ct := N, bk := D.nx } gm hn ⟨fun n' ys' s₀' s3 f hn' hs => ?_, fun n' s₀' x s3 hx => ee n' s₀' x s3 hx⟩ ⟨acc, cc, r, I6⟩ q6
        cases f with
        | next =>
          obtain ⟨σ3, H3, I3, n3⟩ := hs
          exact again hn' I3 n3
        | cont =>
          obtain ⟨σ3, H3, I3, n3⟩ := hs
          exact again hn' I3 n3
        | brk =>
          obtain ⟨σ3, H3, I3, n3⟩ := hs
          exact seg_leaf (.ok .next) (k.ok n' ys' s₀' s3 .next hn' ⟨σ3, H3, I3.less, n3⟩)
        | ret v =>
          obtain ⟨x3, σ3, H3, I3, r3, n3⟩ := hs
          exact seg_leaf (.ok (.ret v)) (k.ok n' ys' s₀' s3 (.ret v) hn' ⟨x3, σ3, H3, I3.less, r3, n3⟩)
  exact loop m0 0 n ys s₀ s2 σ H2 hn w0 st2 (fun b hb => (f2 b hb).1) ⟨acc, cc, r, I2⟩
end
end L2
set_option Elab.async false
set_option linter.all false
set_option maxRecDepth 100000
set_option maxHeartbeats 2000000
/-! Lists of lists of ints; a walk in a generator. -/
namespace Sq
open PySem PySem.Spec PyProof.Rows L2
theorem gfor_it {J : It} {n : Nat} {G : Hp → Prop} {Y : Nat → Hp → V → Hp → Prop} (w : Walk J n G Y) {g : TG} {tb : TGn} {D : GEnds} {ys : List V} {σ : L2.St} {H : Hp} (Pv : Nat → List V → L2.St → Hp → Prop) (h0 : Pv 0 ys σ H) (hG : ∀ i ys σ H, i ≤ n → Pv i ys σ H → G H)
    (hs : ∀ i x ys σ H H', i < n → Pv i ys σ H → Y i H x H' → g x σ H' fun σ2 H2 => tb { D with nx := Pv (i + 1), ct := Pv (i + 1), bk := D.nx } ys σ2 H2) (hd : ∀ ys σ H, Pv n ys σ H → D.nx ys σ H) :
    ∃ W : Nat → Nat → List V → L2.St → Hp → Prop, (∃ m, W 0 m ys σ H) ∧ ∀ i m ys σ H, W i m ys σ H →
      (J.stop i H ∧ D.nx ys σ H) ∨ (J.go i H ∧ ∃ N : List V → L2.St → Hp → Prop, (∀ ys' σ' H', N ys' σ' H' → ∃ m', m' < m ∧ W (i + 1) m' ys' σ' H') ∧ ∀ x H', J.yld i H x H' → g x σ H' fun σ2 H2 => tb { D with nx := N, ct := N, bk := D.nx } ys σ2 H2) := by
  refine ⟨fun i m ys σ H => m = n - i ∧ i ≤ n ∧ Pv i ys σ H, ⟨n, by simp, Nat.zero_le _, h0⟩, ?_⟩
  rintro i m ys σ H ⟨rfl, hi, p⟩
  have q := hG i ys σ H hi p
  by_cases hlt : i < n
  · exact .inr ⟨w.goes i H hlt q, Pv (i + 1), fun ys' σ' H' p' => ⟨n - (i + 1), by omega, rfl, hlt, p'⟩, fun x H' y => hs i x ys σ H H' hlt p (w.yields i H x H' hlt q y)⟩
  · have e : i = n := by omega
    subst e
    exact .inl ⟨w.stops H q, hd ys σ H p⟩
/-- at each of them stands its list of ints -/
def RowsAt (H : Hp) : List Addr → List (List Int) → Prop
  | [], [] => True
  | a :: as, c :: cs => H a = some (.lst (c.map V.int)) ∧ RowsAt H as cs
  | _, _ => False
theorem RowsAt.same {H H' : Hp} (s : Same H H') : ∀ {as : List Addr} {cs : List (List Int)}, RowsAt H as cs → RowsAt H' as cs
  | [], [], _ => trivial
  | _ :: _, _ :: _, h => ⟨s _ _ h.1, RowsAt.same s h.2⟩
  | [], _ :: _, h => h.elim
  | _ :: _, [], h => h.elim
theorem RowsAt.len {H : Hp} : ∀ {as : List Addr} {cs : List (List Int)}, RowsAt H as cs → as.length = cs.length
  | [], [], _ => rfl
  | _ :: _, _ :: _, h => congrArg Nat.succ (RowsAt.len h.2)
  | [], _ :: _, h => h.elim
  | _ :: _, [], h => h.elim
theorem RowsAt.app {H : Hp} : ∀ {as : List Addr} {cs : List (List Int)} {bs : List Addr} {ds : List (List Int)}, RowsAt H as cs → RowsAt H bs ds → RowsAt H (as ++ bs) (cs ++ ds)
  | [], [], _, _, _, h2 => h2
  | _ :: _, _ :: _, _, _, h, h2 => ⟨h.1, RowsAt.app h.2 h2⟩
  | [], _ :: _, _, _, h, _ => h.elim
  | _ :: _, [], _, _, h, _ => h.elim
theorem RowsAt.rev {H : Hp} : ∀ {as : List Addr} {cs : List (List Int)}, RowsAt H as cs → RowsAt H as.reverse cs.reverse
  | [], [], _ => trivial
  | _ :: _, _ :: _, h => by
    rw [List.reverse_cons, List.reverse_cons]
    exact (RowsAt.rev h.2).app ⟨h.1, trivial⟩
  | [], _ :: _, h => h.elim
  | _ :: _, [], h => h.elim
theorem RowsAt.get {H : Hp} : ∀ {as : List Addr} {cs : List (List Int)} {i : Nat} {c : List Int}, RowsAt H as cs → cs[i]? = some c → ∃ a, as[i]? = some a ∧ H a = some (.lst (c.map V.int))
  | _ :: _, _ :: _, 0, _, h, e => by
    cases e
    exact ⟨_, rfl, h.1⟩
  | _ :: _, _ :: _, i + 1, _, h, e => RowsAt.get (i := i) h.2 e
  | [], _ :: _, _, _, h, _ => h.elim
  | _, [], _, _, _, e => by simp at e
theorem RowsAt.upd {H : Hp} {p : Addr} {o : HO} : ∀ {as : List Addr} {cs : List (List Int)}, RowsAt H as cs → p ∉ as → RowsAt (upd H p o) as cs
  | [], [], _, _ => trivial
  | a :: _, _ :: _, h, n => ⟨by rw [upd_ne (fun z => n (by rw [z]; exact List.mem_cons_self ..))]; exact h.1, RowsAt.upd h.2 (fun z => n (List.mem_cons_of_mem _ z))⟩
  | [], _ :: _, h, _ => h.elim
  | _ :: _, [], h, _ => h.elim
theorem map_ref {as : List Addr} {i : Nat} {x : V} (h : (as.map V.ref)[i]? = some x) : ∃ a, as[i]? = some a ∧ V.ref a = x := by
  rw [List.getElem?_map] at h
  exact Option.map_eq_some_iff.mp h
end Sq
set_option Elab.async false
set_option linter.all false
set_option maxRecDepth 100000
set_option maxHeartbeats 1000000
/-! Lists of lists of ints as data. -/
namespace Sq
open PySem PySem.Spec PyProof.Rows L2
theorem eqvAll_ints : ∀ xs ys : List Int, PyData.eqvAll (xs.map PyData.int) (ys.map PyData.int) = decide (xs = ys)
  | [], [] => rfl
  | [], _ :: _ => rfl
  | _ :: _, [] => rfl
  | x :: xs, y :: ys => by
    show (PyData.eqv (.int x) (.int y) && PyData.eqvAll (xs.map PyData.int) (ys.map PyData.int)) = decide (x :: xs = y :: ys)
    rw [eqvAll_ints xs ys]
    have e : PyData.eqv (.int x) (.int y) = decide (x = y) := by
      show (x == y) = decide (x = y)
      by_cases h : x = y
      · rw [decide_eq_true h]; exact beq_iff_eq.mpr h
      · rw [decide_eq_false h]; exact beq_eq_false_iff_ne.mpr h
    rw [e]
    by_cases h1 : x = y
    · by_cases h2 : xs = ys
      · subst h1 h2
        simp
      · simp [h1, h2]
    · simp [h1]
theorem eqv_ints (xs ys : List Int) : PyData.eqv (.list (xs.map PyData.int)) (.list (ys.map PyData.int)) = decide (xs = ys) := eqvAll_ints xs ys
def rLenK (K : PySem.W.Frag) : List V → Hp → VK → Prop := fun xs H Q => ∃ p ys, xs = [V.ref p] ∧ (SqL K H p ys ∨ SqT K H p ys) ∧ Q (V.int (ys.length : Nat)) H
theorem call_lenK {X : Cx} : CallR X (.builtin "len") (rLenK X.K) := call_len_seq
def rListK (K : PySem.W.Frag) : List V → Hp → VK → Prop := fun xs H Q => ∃ p ys, xs = [V.ref p] ∧ (SqL K H p ys ∨ SqT K H p ys) ∧ ∀ l, H l = none → Q (.ref l) (upd H l (.lst ys))
theorem call_listK {X : Cx} : CallR X (.type "list") (rListK X.K) := call_list_of
/-- kept by what turns the source alone -/
theorem RowsAt.keep {H H' : Hp} {l d : Addr} (k : ∀ b o, H b = some o → b ≠ l → b ≠ d → H' b = some o) : ∀ {as : List Addr} {cs : List (List Int)}, RowsAt H as cs → l ∉ as → d ∉ as → RowsAt H' as cs
  | [], [], _, _, _ => trivial
  | a :: _, _ :: _, h, n1, n2 => ⟨k _ _ h.1 (fun z => n1 (by rw [z]; exact List.mem_cons_self ..)) (fun z => n2 (by rw [z]; exact List.mem_cons_self ..)), RowsAt.keep k h.2 (fun z => n1 (List.mem_cons_of_mem _ z)) (fun z => n2 (List.mem_cons_of_mem _ z))⟩
  | [], _ :: _, h, _, _ => h.elim
  | _ :: _, [], h, _, _ => h.elim
end Sq
set_option Elab.async false
set_option linter.all false
set_option maxRecDepth 100000
set_option maxHeartbeats 4000000
/-! {e for a in xs for b in ys}, e an int: over the library's rules of the same with a list. -/
set_option Elab.async false
set_option linter.all false
set_option maxHeartbeats 1000000
/-! Choices counted: the longest run after a replacement, and how many choices are good. -/
namespace Sq
def la (L k : Int) : Int := if k > L then L else (L + 1) / k + k - 2
/-- 2, 3, .., g -/
def cand (g : Int) : List Int := (List.range (g - 1).toNat).map fun i : Nat => 2 + (i : Int)
def cnt (g : Int) : Nat → Int → Nat
  | 0, L => if L ≤ 1 then 1 else 0
  | n + 1, L => ((cand g).map fun k => cnt g n (la L k)).sum
end Sq
set_option Elab.async false
set_option linter.all false
set_option maxRecDepth 100000
set_option maxHeartbeats 1000000
/-! Walks with an open step; members without doubles; the lengths by place. -/
namespace Sq
open PySem PySem.Spec PyProof.Rows L2
theorem walkL {K : PySem.W.Frag} {a : Addr} {xs : List V} {Qd : Hp → Prop} {St : V → Hp → (Hp → Prop) → Prop} {H0 : Hp} (Pv : Nat → Hp → Prop) (h0 : Pv 0 H0) (hl : ∀ i H, i ≤ xs.length → Pv i H → SqL K H a xs)
    (hs : ∀ i x H, xs[i]? = some x → Pv i H → St x H (Pv (i + 1))) (hd : ∀ H, Pv xs.length H → Qd H) :
    ∃ W : Nat → Nat → Hp → Prop, (∃ m, W 0 m H0) ∧ ∀ i m H, W i m H → ((Itl K a).stop i H ∧ Qd H) ∨ ((Itl K a).go i H ∧ ∃ Nx : Hp → Prop, (∀ H', Nx H' → ∃ m', m' < m ∧ W (i + 1) m' H') ∧ ∀ x H', (Itl K a).yld i H x H' → St x H' Nx) := by
  refine ⟨fun i m H => m = xs.length - i ∧ i ≤ xs.length ∧ Pv i H, ⟨_, rfl, Nat.zero_le _, h0⟩, ?_⟩
  rintro i m H ⟨rfl, le, p⟩
  have there := hl i H le p
  by_cases lt : i < xs.length
  · exact .inr ⟨⟨xs, xs[i], there, List.getElem?_eq_getElem lt⟩, Pv (i + 1), fun H' p' => ⟨xs.length - (i + 1), by omega, rfl, lt, p'⟩, fun x H' y => by
      obtain ⟨rfl, e⟩ := y
      exact hs i x _ (e xs there) p⟩
  · obtain rfl : i = xs.length := by omega
    exact .inl ⟨⟨xs, there, Nat.le_refl _⟩, hd H p⟩
/-! ### without doubles -/
/-! ### the lengths by place -/
structure Lens (n : Nat) (g L : Int) (i : Nat) (rows : List (List Int)) : Prop where
  len : rows.length = i + 1
  zero : rows[0]? = some [L]
  asc : ∀ (p : Nat) (r : List Int), rows[p]? = some r → r.Pairwise (· < ·)
  mem : ∀ (p : Nat) (r : List Int), rows[p]? = some r → ∀ x ∈ r, 0 ≤ x ∧ x ≤ L
  next : ∀ (p : Nat) (r r' : List Int), rows[p]? = some r → rows[p + 1]? = some r' → ∀ x, x ∈ r' ↔ (∃ l ∈ r, ∃ k, 2 ≤ k ∧ k ≤ g ∧ x = la l k) ∧ x ≤ up (n - (p + 1)) 1
  short : L < 63 ∨ ∀ (p : Nat) (r : List Int), rows[p]? = some r → r.length ≤ 6
theorem Lens.start {n : Nat} {g L : Int} (h0 : 0 ≤ L) : Lens n g L 0 [[L]] where
  len := rfl
  zero := rfl
  asc := fun p r e => by
    match p, e with
    | 0, e => cases e; exact List.pairwise_singleton _ _
  mem := fun p r e x hx => by
    match p, e with
    | 0, e =>
      cases e
      rw [List.mem_singleton.mp hx]
      exact ⟨h0, Int.le_refl _⟩
  next := fun p r r' e e' => by
    match p, e' with
    | 0, e' => cases e'
    | p + 1, e' => cases e'
  short := .inr fun p r e => by
    match p, e with
    | 0, e => cases e; exact (show 1 ≤ 6 by decide)
theorem asc_nodup {ns : List Int} (h : ns.Pairwise (· < ·)) : ns.Nodup := List.Pairwise.imp (fun {a b} z e => by omega) h
end Sq
set_option Elab.async false
set_option linter.all false
set_option maxRecDepth 100000
set_option maxHeartbeats 2000000
/-! Generators that live beside their consumer: what stands, seen from either side. -/
set_option Elab.async false
set_option linter.all false
set_option maxRecDepth 100000
set_option maxHeartbeats 2000000
set_option Elab.async false
set_option linter.all false
set_option maxRecDepth 100000
set_option maxHeartbeats 1000000
/-! Counting: how many lengths up to a limit become one that is told. -/
set_option Elab.async false
set_option linter.all false
set_option maxRecDepth 100000
set_option maxHeartbeats 1000000
/-! A dict of limits, each with how often it counts: what it says of a length. -/
namespace Sq
open PySem PySem.Spec PyProof.Rows L2
/-! ### dicts from ints to ints -/
def one (b : Bool) : Int := if b = true then 1 else 0
/-! ### counts -/
end Sq
set_option Elab.async false
set_option linter.all false
set_option maxRecDepth 100000
set_option maxHeartbeats 1000000
/-! One replacement more: the next dict of limits. -/
set_option Elab.async false
set_option linter.all false
set_option maxRecDepth 100000
set_option maxHeartbeats 1000000
/-! a <= b <= c <= d as a test; the number of all origins. -/
set_option Elab.async false
set_option linter.all false
set_option maxRecDepth 100000
set_option maxHeartbeats 1000000
/-! The number of all origins, replacement by replacement. -/
set_option Elab.async false
set_option linter.all false
set_option maxRecDepth 100000
set_option maxHeartbeats 1000000
/-! yield from a list. -/
namespace L2
open PySem PySem.Spec PyProof.Rows GenW
end L2
set_option Elab.async false
set_option linter.all false
set_option maxRecDepth 100000
set_option maxHeartbeats 2000000
namespace Sq
open PySem PySem.Spec PyProof.Rows L2 GenW
structure GEndL where
  nx : Nat → Hp → L2.St → Hp → Prop
  rt : Nat → Hp → VK
  bk : Nat → Hp → L2.St → Hp → Prop := fun _ _ _ _ => False
  ct : Nat → Hp → L2.St → Hp → Prop := fun _ _ _ _ => False
def GEndL.at (D : GEndL) (i : Nat) (Hb : Hp) : Ends := { nx := D.nx i Hb, rt := D.rt i Hb, bk := D.bk i Hb, ct := D.ct i Hb }
end Sq
set_option Elab.async false
set_option linter.all false
set_option maxRecDepth 100000
set_option maxHeartbeats 2000000
set_option Elab.async false
set_option linter.all false
set_option maxRecDepth 100000
set_option maxHeartbeats 2000000
set_option Elab.async false
set_option linter.all false
set_option maxRecDepth 100000
set_option maxHeartbeats 2000000
/-! Code that leaves the generators' table as it is. -/
set_option Elab.async false
set_option linter.all false
set_option maxRecDepth 100000
set_option maxHeartbeats 2000000
/-! for x in g(e, ..): body, where g is a generator def that lives beside its consumer. -/
set_option Elab.async false
set_option linter.all false
set_option maxRecDepth 100000
set_option maxHeartbeats 2000000
set_option Elab.async false
set_option linter.all false
set_option maxRecDepth 100000
set_option maxHeartbeats 2000000
/-! More code that leaves the generators' table as it is: calls of defs, operators, tuples, enumerate. -/
set_option Elab.async false
set_option linter.all false
set_option maxRecDepth 100000
set_option maxHeartbeats 2000000
/-! Methods called by keywords: one value by place, the rest by name. -/
namespace Sq
open PySem PySem.Spec PyProof.Rows L2
theorem kbn_mk1 {K : PySem.W.Frag} {x qual : Str} {st : Stmt} {f : Addr} {fd : FuncData} {ps : List Str} (F : Fun K x qual st f fd) (ks : List Str) (g : List Value → List Value → List Value) (gV : List V → List V → List V)
    (rel : ∀ {vs : List V} {us : List Value} {zs : List V} {ws : List Value}, Vals vs us → Vals zs ws → Vals (gV vs zs) (g us ws))
    (h : ∀ (kV doc pm : Value) (an : Option Addr) (cdv ct u : Value) (ws : List Value), ws.length = ks.length → bindArgs (PySem.W.fnOf x qual (defArgs st) (defBody st) (defScope st) .none kV doc pm an cdv ct) ⟨[u], ks.zip ws⟩ = pure (ps.zip (g [u] ws))) : KBn K fd ps 1 ks g gV := by
  obtain ⟨oc, od, kV, doc, pm, an, cdv, ct, osl, rfl, lk, hcd⟩ := F.ex
  refine ⟨fun s us ws X l1 l2 => ?_, rel⟩
  match us, l1 with
  | [u], _ => exact .of_eq (h kV doc pm an cdv ct u ws l2)
theorem vals_app : ∀ {vs : List V} {us : List Value} {zs : List V} {ws : List Value}, Vals vs us → Vals zs ws → Vals (vs ++ zs) (us ++ ws)
  | _, _, _, _, .nil, s => s
  | _, _, _, _, .cons a r, s => .cons a (vals_app r s)
end Sq
set_option Elab.async false
set_option linter.all false
set_option maxRecDepth 100000
set_option maxHeartbeats 2000000
/-! A def that may raise, called by keywords. -/
set_option Elab.async false
set_option linter.all false
set_option maxRecDepth 100000
set_option maxHeartbeats 2000000
/-! sorted of a set of ints, any number of members. -/
namespace Sq
open PySem PySem.Spec PyProof.Rows L2
theorem set_sorted {P : Program} {w : World} {A : Around} {E : Value → Shared → Prop} {s : Shared} {a : Addr} {S : Int → Bool} {n : Nat} {Q : Value → Shared → Prop} (R : SetR w s.heap a S n) (quiet : A.handled = none) (few : n ≤ sizeLine)
    (fin : ∀ s' p (got : List Value) (ep : Nat) (ns : List Int), (∀ b o, s.heap.get? b = some o → s'.heap.get? b = some o) → s'.gens = s.gens → s'.os = s.os → s.heap.objs.size ≤ p → s'.heap.get? p = some (seqObj "list" got.toArray ep) →
      IntsAre got ns → ns.Pairwise (· < ·) → (∀ k, k ∈ ns ↔ S k = true) → ns.length = n → Q (.ref p) s') : wpAny (model P w) A (call (.builtin "sorted") [.ref a]) Q E s := by
  obtain ⟨o, es, ep, t, get, exact', data, good, once, mem, bound, fits, size, ris, led⟩ := R
  apply Calls.call_function_entry kind_sorted plain_sorted entry_sorted (args_sorted1 _)
  unfold Builtin.«sorted»
  apply wpAny_bind (m := checkCount "sorted" 1 1 _)
  apply wpAny_pure
  apply wpAny_bind
  refine collect_set (A := A.in1) quiet ⟨o, get, exact'.1, data⟩ fits bound ris led fun s1 vs kept grown gens os perm => ?_
  have len : vs.length = n := by
    rw [perm.length_eq, List.length_map, Array.length_toList]
    exact size
  have areInts : IntsAre vs (vs.map Builtin.Re.reRawOf) := ints_of vs fun v hv => by
    obtain ⟨e, he, q⟩ := List.mem_map.mp (perm.mem_iff.mp hv)
    obtain ⟨k, tk, h1, _⟩ := good e he
    exact ⟨k, tk, q ▸ h1⟩
  have keys : (vs.map Builtin.Re.reRawOf).Perm (es.toList.map keyOf) := by
    have := perm.map Builtin.Re.reRawOf
    rwa [List.map_map] at this
  apply wpAny_bind
  refine wpAny_newList ?_ (by omega)
  have fresh : (s1.heap.push (seqObj "list" vs.toArray 0)).get? s1.heap.objs.size = some (seqObj "list" vs.toArray 0) := Heap.get?_push_size _ rfl
  apply wpAny_bind
  apply wpAny_holding
  refine wpAny_call_entry slot_list_sort ⟨_, fresh, rfl⟩ entry_list_sort ?_ (args_list_sort _)
  refine SrtO.list_sort_ord SrtO.swo_int fresh (by omega) (fun two => SrtO.ints_sortable areInts two) fun out up stable => ⟨_, rfl, ?_⟩
  obtain ⟨i1, i2, i3⟩ := SrtO.ints_out areInts up stable
  obtain ⟨c, hc⟩ := sortedHeap_at (vs := vs) (out := out.toArray) fresh
  have all := i2.trans keys
  apply wpAny_pure
  refine ⟨_, rfl, fin _ s1.heap.objs.size out c (out.map SrtO.iv) (fun b u e => ?_) gens os grown hc i1 (lt_of_le_nodup _ i3 (all.nodup_iff.mpr once)) (fun k => by rw [all.mem_iff, ← mem k]) ?_⟩
  · have old := kept b u e
    have lt := Heap.lt_size old
    refine (sortedHeap_old (Nat.ne_of_lt lt) ?_).trans (Heap.get?_push_of_some _ old)
    rw [size_push']
    exact Nat.lt_succ_of_lt lt
  · rw [all.length_eq, List.length_map, Array.length_toList, size]
def rSortedSetI (w : World) : List V → Hp → VK → Prop := fun vs H Q => ∃ (a : Addr) (S : Int → Bool) (n : Nat), vs = [V.ref a] ∧ H a = some (SetO w a S n) ∧ n ≤ sizeLine ∧
  ∀ (ns : List Int) (p : Addr), ns.Pairwise (· < ·) → (∀ k : Int, k ∈ ns ↔ S k = true) → ns.length = n → H p = none → Q (.ref p) (upd H p (.lst (ns.map V.int)))
end Sq
set_option Elab.async false
set_option linter.all false
set_option maxHeartbeats 1000000
/-! The runs that a list makes single: the greatest two, and how many runs one replacement makes equal. -/
set_option Elab.async false
set_option linter.all false
set_option maxHeartbeats 1000000
/-! Reading a list back: one step. -/
namespace Sq
theorem len_le_of {α : Type} [DecidableEq α] : ∀ {A B : List α}, A.Nodup → (∀ x ∈ A, x ∈ B) → A.length ≤ B.length
  | [], B, _, _ => Nat.zero_le _
  | a :: A, B, nd, sub => by
    have nd' := List.nodup_cons.mp nd
    have h := len_le_of (A := A) (B := B.erase a) nd'.2 fun x hx => (List.mem_erase_of_ne (fun z : x = a => nd'.1 (by rw [← z]; exact hx))).mpr (sub x (List.mem_cons_of_mem _ hx))
    have l := List.length_erase_of_mem (sub a (List.mem_cons_self ..))
    have p : 0 < B.length := List.length_pos_of_mem (sub a (List.mem_cons_self ..))
    rw [List.length_cons]
    omega
end Sq
set_option Elab.async false
set_option linter.all false
set_option maxRecDepth 100000
set_option maxHeartbeats 4000000
/-! set(l) of a list of ints, kept so that it may be sorted; its len. -/
namespace Sq
open PySem PySem.Spec PyProof.Rows L2
abbrev emptyS (w : World) : Obj := { cls := .type "set", dict := none, data := .set #[] 0 (.fresh 0 0 (!w.params.followText "set-order")) }
section
variable {P : Program} {w : World} {A : Around} {E : Value → Shared → Prop} {s : Shared}
theorem set_of_list {l : Addr} {its : Array Value} {zs : List Int} {Q : Value → Shared → Prop} (quiet : A.handled = none) (isL : s.heap.IsList l its) (areI : IntsAre its.toList zs) (few : zs.length + 1 < scanBound)
    (fin : ∀ (g : Heap) (tk m : Nat), SetR w g s.heap.objs.size (fun j => decide (j ∈ zs)) m → m ≤ zs.length → (∀ b o, s.heap.get? b = some o → g.get? b = some o) → Q (.ref s.heap.objs.size) { s with heap := g, toks := tk }) :
    wpAny (model P w) A (call (.type "set") [.ref l]) Q E s := by
  have size : its.size = zs.length := by
    rw [← Array.length_toList]
    exact IntsAre.length areI
  obtain ⟨c0, tl0, mro0⟩ := F.called_set.mro
  have made0 := F.called_set.made
  have sub0 := F.called_set.sub
  refine wpAny_call (codeAny_of_tree (show wpAny _ _ (callAny (.type "set") _) _ _ _ from ?_))
  refine wpAny_pure ⟨Code.quiet_builtin _ (by decide +kernel), codeAny_builtin F.entry_type_call ?_⟩
  rw [Around.under_plain (weight_type_call_type "set" [.ref l] []) rfl]
  have t1 := F.called_set.notType
  have t2 := F.called_set.canCreate
  have t3 := F.typeCall_set_1 (.ref l)
  repeat (any_goals (first | assumption | wp_step))
  refine codeAny_mono (code_set_led1 (.ref l) (E := E) (Q₁ := fun ob s' => ob = .ref s.heap.objs.size ∧ s' = { s with heap := s.heap.push (emptyS w) }) ⟨rfl, rfl⟩) fun r s' hr => ?_
  match r, hr with
  | .error e, hr => exact hr
  | .ok .next, hr => exact hr.elim
  | .ok .brk, hr => exact hr.elim
  | .ok .cont, hr => exact hr.elim
  | .ok (.ret ob), hr =>
    obtain ⟨rfl, rfl⟩ := hr
    have gS : (s.heap.push (emptyS w)).get? s.heap.objs.size = some (emptyS w) := Heap.get?_push_size _ rfl
    have tS : Shared.TypeIs { s with heap := s.heap.push (emptyS w) } (.ref s.heap.objs.size) "set" := ⟨_, gS, rfl⟩
    have i1 := F.called_set.init.lookup
    have i2 := F.called_set.init.bind (.ref s.heap.objs.size)
    repeat (any_goals (first | assumption | wp_step))
    refine codeAny_mono (codeAny_call_builtin (R := wants (fun r s2 => r = .none ∧ ∃ g tk m, s2 = { s with heap := g, toks := tk } ∧ SetR w g s.heap.objs.size (fun j => decide (j ∈ zs)) m ∧ m ≤ zs.length ∧
        ∀ b o, s.heap.get? b = some o → g.get? b = some o) E) F.called_set.init.plain F.entry_set_init (check_set_init_1 tS ?_)) fun r2 s2 hr2 => ?_
    · obtain ⟨⟨cl, di, da, sl⟩, ol, isC, nl, isD⟩ := isL
      simp only at isC isD
      subst isC isD
      have ol1 : (s.heap.push (emptyS w)).get? l = some { cls := .type "list", dict := di, data := .seq its nl, slots := sl } := Heap.get?_push_of_some _ ol
      have n1 := F.sub_list_set
      have n2 := F.sub_list_frozenset
      have n3 : (Value.type "list" == Value.type "dict") = false := by decide
      have isL1 : (s.heap.push (emptyS w)).IsList l its := ⟨_, ol1, rfl, nl, rfl⟩
      unfold Builtin.«set.__init__» noKeywords Builtin.Frozenset.updateFrom
      generalize pk : pyIter = PK
      wp_walk
      subst pk
      refine wpAny_pyIter_list isL1 (wpAny_bind (wpAny_runValue ?_))
      have low : l < s.heap.objs.size := Heap.lt_size ol
      have q3 : A.in1.in1.in1.handled = none := by simp [quiet]
      have big : (s.heap.push (emptyS w)).objs.size = s.heap.objs.size + 1 := Heap.size_push ..
      have apart : l ≠ (s.heap.push (emptyS w)).objs.size := by rw [big]; exact Nat.ne_of_lt (Nat.lt_succ_of_lt low)
      have notIn : s.heap.objs.size ∉ [(s.heap.push (emptyS w)).objs.size, l] := by
        rw [big]
        intro z
        rcases List.mem_cons.mp z with z | z
        · exact absurd z (Nat.ne_of_lt (Nat.lt_succ_self _))
        · exact absurd (List.mem_singleton.mp z) (Nat.ne_of_gt low)
      have vals : ∀ (i : Nat) (v : Value), its[i]? = some v → ∃ k t, zs[i]? = some k ∧ v = .int k t := fun i v hv => by
        have li : i < zs.length := by rw [← size]; exact (Array.getElem?_eq_some_iff.mp hv).1
        obtain ⟨t, e⟩ := IntsAre.int_at areI i v (by rw [Array.getElem?_toList]; exact hv)
        refine ⟨zs[i], t, List.getElem?_eq_getElem li, ?_⟩
        rw [e, List.getD_eq_getElem?_getD, List.getElem?_eq_getElem li] <;> rfl
      refine set_update_ints ((Walks.list q3 _ l apart its).toS) s.heap.objs.size notIn zs size few vals (its.size - 0) 0 _ (by omega) (Nat.zero_le _) ⟨⟨_, Heap.get?_push_size _ rfl, rfl, rfl⟩, isL1.push _⟩ ⟨0, Nat.le_refl 0, setR_new_at (Heap.get?_push_of_some _ gS)⟩ ?_
      intro s3 m mv lm R3
      obtain ⟨g, gn, dr, tk, os⟩ := s3
      obtain rfl : gn = s.gens := mv.gens
      obtain rfl : dr = s.drawn := mv.drawn
      obtain rfl : os = s.os := mv.os
      rw [size] at lm
      refine (show wpAny _ _ _ _ _ _ from wpAny_pure (show wpAny _ _ (ret Value.none) _ _ _ from ?_))
      refine wpAny_pure ⟨rfl, g, tk, m, rfl, R3, lm, fun b o e => ?_⟩
      have lb : b < s.heap.objs.size := Heap.lt_size e
      refine mv.heap b o (fun z => ?_) (Heap.get?_push_of_some _ (Heap.get?_push_of_some _ e))
      rcases List.mem_cons.mp z with z | z
      · exact absurd z (Nat.ne_of_lt lb)
      · have z := List.mem_singleton.mp z
        rw [big] at z
        exact absurd z (Nat.ne_of_lt (Nat.lt_succ_of_lt lb))
    · match r2, hr2 with
      | .error e, hr2 => exact hr2
      | .ok .next, hr2 => exact hr2.elim
      | .ok .brk, hr2 => exact hr2.elim
      | .ok .cont, hr2 => exact hr2.elim
      | .ok (.ret v), hr2 =>
        obtain ⟨rfl, g, tk, m, rfl, R3, lm, kept⟩ := hr2
        repeat (any_goals (first | assumption | wp_step))
        exact fin _ _ _ R3 lm kept
end
theorem perm_of_sub {α : Type} [DecidableEq α] : ∀ {A B : List α}, A.Nodup → (∀ x ∈ A, x ∈ B) → B.length = A.length → A.Perm B
  | [], B, _, _, l => by rw [List.length_eq_zero_iff.mp l]
  | a :: A, B, nd, sub, l => by
    have nd' := List.nodup_cons.mp nd
    have ha := sub a List.mem_cons_self
    have le := List.length_erase_of_mem ha
    rw [List.length_cons] at l
    have ih := perm_of_sub (A := A) (B := B.erase a) nd'.2 (fun x hx => (List.mem_erase_of_ne (fun z : x = a => nd'.1 (by rw [← z]; exact hx))).mpr (sub x (List.mem_cons_of_mem _ hx))) (by omega)
    exact (ih.cons a).trans (List.perm_cons_erase ha).symm
theorem setR_count {w : World} {h : Heap} {a : Addr} {zs : List Int} {m : Nat} (R : SetR w h a (fun j => decide (j ∈ zs)) m) : m = zs.length ↔ zs.Nodup := by
  obtain ⟨o, es, ep, t, get, ex, data, good, once, mem, bound, fits, size, ris, led⟩ := R
  have len : (es.toList.map keyOf).length = m := by rw [List.length_map, Array.length_toList]; exact size
  have sub : ∀ x, x ∈ es.toList.map keyOf ↔ x ∈ zs := fun x => by rw [← mem x]; exact decide_eq_true_iff
  constructor
  · intro e
    exact (perm_of_sub once (fun x hx => (sub x).mp hx) (by rw [len, e])).nodup_iff.mp once
  · intro nd
    have a := len_le_of nd fun x hx => (sub x).mpr hx
    have b := len_le_of once fun x hx => (sub x).mp hx
    omega
section
variable {X : Cx}
def rSetL (K : PySem.W.Frag) (w : World) : List V → Hp → VK → Prop := fun vs H Q => ∃ (l : Addr) (zs : List Int), vs = [.ref l] ∧ SqL K H l (zs.map V.int) ∧ zs.length ≤ 4000 ∧ ∀ p m, H p = none → m ≤ zs.length → (m = zs.length ↔ zs.Nodup) → Q (.ref p) (upd H p (SetO w p (fun j => decide (j ∈ zs)) m))
end
end Sq
set_option Elab.async false
set_option linter.all false
set_option maxRecDepth 100000
set_option maxHeartbeats 1000000
/-! Texts of lists: what the laws share. -/
namespace Sq
open PySem PySem.Spec PyProof.Rows L2
open TL (numL numL_len)
theorem cutS_take (z : Str) (n : Nat) (h : n ≤ z.length) : TL.tl (cutS z none (some (n : Int))) = (TL.tl z).take n := by
  show ((z.cps.toList.drop (HT.sIx z.length 0 none)).take (HT.sIx z.length z.length (some (n : Int)) - HT.sIx z.length 0 none)) = _
  rw [HT.sIx_nat, HT.sIx_none, List.drop_zero, Nat.min_eq_left h, Nat.sub_zero]
end Sq
set_option Elab.async false
set_option linter.all false
set_option maxRecDepth 100000
set_option maxHeartbeats 2000000
/-! list(text); texts cut at ^ or at ", "; how long a shown list of numbers is. -/
namespace Sq
open PySem PySem.Spec PyProof.Rows L2
open NumText (digitsVal AllDigits)
def signsV (x : Str) : List V := (TL.tl x).map fun c => V.str ⟨#[c]⟩
def rListStr : List V → Hp → VK → Prop := fun xs H Q => ∃ x : Str, xs = [.str x] ∧ x.length ≤ sizeLine ∧ ∀ p, H p = none → Q (.ref p) (upd H p (.lst (signsV x)))
theorem vals_signs {x : Str} {acc : Array Value} (h : ItemsOf (SignAt x) acc x.cps.size) : Vals (signsV x) acc.toList := by
  obtain ⟨sz, items⟩ := h
  have key : ∀ (cs : List Nat) (vs : List Value), cs.length = vs.length → (∀ (j : Nat) (v : Value), vs[j]? = some v → ∃ c u, cs[j]? = some c ∧ v = Value.str ⟨#[c]⟩ u) → Vals (cs.map fun c => V.str ⟨#[c]⟩) vs := fun cs => by
    induction cs with
    | nil =>
      intro vs l _
      cases vs with
      | nil => exact .nil
      | cons v vs => cases l
    | cons c cs ih =>
      intro vs l it
      cases vs with
      | nil => cases l
      | cons v vs =>
        obtain ⟨c', u, e, rfl⟩ := it 0 v rfl
        cases e
        exact .cons ⟨u, rfl⟩ (ih vs (Nat.succ.inj l) fun j w e => it (j + 1) w e)
  refine key (TL.tl x) acc.toList ?_ fun j v e => ?_
  · show x.cps.toList.length = _
    rw [Array.length_toList, Array.length_toList, sz]
  · obtain ⟨c, u, e2, e3⟩ := items j v (by rw [← Array.getElem?_toList]; exact e)
    exact ⟨c, u, by show x.cps.toList[j]? = some c; rw [Array.getElem?_toList]; exact e2, e3⟩
theorem call_listStr {X : Cx} (hc : X.calm = true) : CallR X (.type "list") rListStr := by
  intro pins s σ H xs us Q I r h
  obtain ⟨x, rfl, hl, q⟩ := h
  obtain ⟨u, rfl, t, rfl⟩ := vals1 r
  refine PySem.call_list_str (I.ok.hd hc) x t (fun h' tk acc' c' keep got items => ?_) hl
  have free : H s.heap.objs.size = none := I.hok.fresh (Nat.le_refl _)
  have len : (signsV x).length ≤ sizeLine := by
    unfold signsV
    rw [List.length_map, ← TL.len_tl]
    exact hl
  refine ⟨.ref s.heap.objs.size, upd H s.heap.objs.size (.lst (signsV x)), ?_, rfl, q _ free⟩
  exact I.call (ch := []) (Un.laid keep (Nat.le_refl _) free) (I.hok.laid keep (Nat.le_refl _) ⟨len, acc'.toList, c', vals_signs items, by rw [Array.toArray_toList]; exact got⟩) I.bare (fun _ z => nomatch z)
end Sq
set_option Elab.async false
set_option linter.all false
set_option maxRecDepth 100000
set_option maxHeartbeats 2000000
/-! Code that leaves one cell of the frame as it is, to the token of its text: for str.replace. -/
namespace Sq
open PySem PySem.Spec PyProof.Rows L2 GenW
/-- the object at c is as it was -/
def Kc (c : Addr) (s s' : Shared) : Prop := ∀ o, s.heap.get? c = some o → s'.heap.get? c = some o
theorem Kc.refl {c : Addr} {s : Shared} : Kc c s s := fun _ e => e
theorem Kc.trans {c : Addr} {s s1 s2 : Shared} (a : Kc c s s1) (b : Kc c s1 s2) : Kc c s s2 := fun o e => b o (a o e)
/-- c is the cell of a name of the def's own -/
structure Cel (X : Cx) (y : Str) (c : Addr) : Prop where
  is : X.env.cells.lookup y = some c
  own : X.fn y = true
section
variable {X : Cx} {y : Str} {c : Addr} {pins : List (Addr × Obj)} {σ : L2.St} {H H' : Hp} {s s' : Shared}
theorem Cel.free (C : Cel X y c) (I : Inv X pins σ H s) : H c = none := I.freeC _ _ C.is
theorem Cel.nofs (C : Cel X y c) (I : Inv X pins σ H s) : c ∉ X.fs := fun hb => by
  obtain ⟨_, o, ho, _⟩ := I.ok.funs.mem hb
  exact absurd (Nat.lt_of_lt_of_le (Heap.lt_size ho) (I.ok.cab _ _ C.own C.is)) (Nat.lt_irrefl _)
theorem Cel.nostk (C : Cel X y c) (I : Inv X pins σ H s) : c ∉ frs X.stack := by
  rcases I.ok.stk with e | ⟨e, fr⟩
  · rw [e]
    exact C.nofs I
  · rw [e]
    intro h
    obtain ⟨en, hm, hf⟩ := List.mem_filterMap.mp h
    rcases List.mem_cons.mp hm with z | z
    · rw [z, fr] at hf
      exact I.cne _ _ C.is (Option.some.inj hf).symm
    · exact C.nofs I (List.mem_filterMap.mpr ⟨en, z, hf⟩)
theorem Cel.un (C : Cel X y c) (I : Inv X pins σ H s) (u : Un (frs X.stack) [] H H' s.heap s'.heap) : Kc c s s' := fun o e => u.keep c o e (C.free I) (C.nostk I) (by simp)
end
structure JE (X : Cx) (c : Addr) (e : Expr) (t : TE) : Prop where
  run : ∀ (pins : List (Addr × Obj)) (s : Shared) (σ : L2.St) (H : Hp) (Q : VK), Inv X pins σ H s → t σ H Q → wpAny (model X.prog X.w) X.A (eval e X.env) (fun u s' => Kc c s s' ∧ EP X pins σ Q u s') X.xe s
structure JA (X : Cx) (c : Addr) (es : List Expr) (t : TA) : Prop where
  run : ∀ (pos : Pos) (pins : List (Addr × Obj)) (s : Shared) (σ : L2.St) (H : Hp) (Q : List V → Hp → Prop), Inv X pins σ H s → t σ H Q → wpAny (model X.prog X.w) X.A (spliced (backTo pos (starEach es X.env))) (fun us s' => Kc c s s' ∧ AP X pins σ Q us s') X.xe s
structure JSt (X : Cx) (c : Addr) (st : Stmt) (t : TS) : Prop where
  run : ∀ (pins : List (Addr × Obj)) (s : Shared) (σ : L2.St) (H : Hp) (D : Ends), Inv X pins σ H s → t D σ H → wpAny (model X.prog X.w) X.A (exec st X.env) (fun f s' => Kc c s s' ∧ SP X pins D f s') X.xe s
def CallJ (X : Cx) (c : Addr) (f : Value) (r : List V → Hp → VK → Prop) : Prop := ∀ (pins : List (Addr × Obj)) (s : Shared) (σ : L2.St) (H : Hp) (vs : List V) (us : List Value) (Q : VK), Inv X pins σ H s → Vals vs us → r vs H Q → wpAny (model X.prog X.w) X.A (call f us) (fun u s' => Kc c s s' ∧ EP X pins σ Q u s') X.xe s
section
variable {X : Cx} {y : Str} {c : Addr} {pins : List (Addr × Obj)} {σ : L2.St} {H : Hp} {s : Shared} {x : Str} {p pos : Pos} {e : Expr} {es : List Expr} {te : TE} {t : TA}
/-! ### expressions -/
theorem je_var {i : Nat} (hN : X.N[i]? = some x) (hv : Vis X.env.scope x) (hd : (x == ("__debug__" : Str)) = false := by decide) (hcd : (x == ("__classdict__" : Str)) = false := by decide) : JE X c (.Name x pos) (tVar i) :=
  ⟨fun pins s σ H Q I h => by
    obtain ⟨v, e, q⟩ := h
    exact raw_name hN hv I e (fun u r => ⟨Kc.refl, v, H, I, r, q⟩) hd hcd⟩
theorem jv (i : Nat) (hN : X.N[i]? = some x := by rfl) (hv : Vis X.env.scope x := by first | exact Or.inl rfl | exact Or.inr (Or.inl rfl) | exact Or.inr (Or.inr rfl)) (hd : (x == ("__debug__" : Str)) = false := by decide)
    (hcd : (x == ("__classdict__" : Str)) = false := by decide) : JE X c (.Name x pos) (tVar i) := je_var hN hv hd hcd
theorem ja_nil : JA X c [] tNil := ⟨fun pos pins s σ H Q I h => Calls.spliced_nil ⟨Kc.refl, [], H, I, .nil, h⟩⟩
theorem ja_cons (ha : JE X c e te) (hr : JA X c es t) (hs : starEach (e :: es) X.env = (false, eval e X.env) :: starEach es X.env := by rfl) : JA X c (e :: es) (tCons te t) := by
  refine ⟨fun pos pins s σ H Q I h => ?_⟩
  rw [hs]
  show wpAny _ _ (spliced ((false, eval e X.env) :: backTo pos (starEach es X.env))) _ _ s
  refine Calls.spliced_cons (thn (ha.run pins s σ H _ I h) fun u s1 hh => ?_)
  obtain ⟨g1, x, H1, I1, r1, q1⟩ := hh
  exact thn (hr.run pos pins s1 σ H1 _ I1 q1) fun us s2 ⟨g2, xs, H2, I2, r2, q2⟩ => ⟨g1.trans g2, x :: xs, H2, I2, .cons r1 r2, q2⟩
theorem run_fnJ {CX : CXT} {k : Nat} {f : Addr} {fd : FuncData} {ps : List Str} {sp : Sp} {dvs : List V} {ds : List Value} {E : XK} {Q : VK} {us : List Value} {vs : List V} (C : Cel X y c) (F : FnOk X.prog X.w X.K X.mg X.base CX k f fd ps sp) (hr : Room k X.A) (hb : Binds X.K fd ps ds) (hd : Vals dvs ds) (hx : Passes CX X E)
    (I : Inv X pins σ H s) (r : Vals vs us) (h : sp (vs ++ dvs) H Q E) : wpAny (model X.prog X.w) X.A (call (.ref f) us) (fun u s' => Kc c s s' ∧ EP X pins σ Q u s') X.xe s := by
  have r2 : Vals (vs ++ dvs) (us ++ ds) := r.append hd
  have hl : (us ++ ds).length = ps.length := by rw [← r2.length]; exact F.len _ _ _ _ h
  refine wpAny_call (codeAny_mono (F.run X.A X.stack s H ⟨us, []⟩ (us ++ ds) (vs ++ dvs) Q E hr I.env0 (hb s us I.kIn hl) r2 h) fun r s' hq => ?_)
  match r, hq with
  | .error e, hq => exact hx pins σ H s e s' I hq
  | .ok (.ret u), hq =>
    have ce : CE X.stack X.prog X.w H s Q u s' := hq
    obtain ⟨_, _, _, _, un, _⟩ := id ce
    exact ⟨C.un I un, I.after ce⟩
  | .ok .next, hq => exact False.elim hq
  | .ok .brk, hq => exact False.elim hq
  | .ok .cont, hq => exact False.elim hq
theorem je_call {CX : CXT} {k : Nat} {f : Addr} {fd : FuncData} {ps : List Str} {sp : Sp} {dvs : List V} {ds : List Value} {E : XK} (C : Cel X y c) (F : FnOk X.prog X.w X.K X.mg X.base CX k f fd ps sp) (hr : Room k X.A) (hg : Gl X x) (hm : X.mg x = some (.ref f)) (hk : PySem.W.keepIn X.K (.ref f) = true) (hb : Binds X.K fd ps ds) (hd : Vals dvs ds) (hx : Passes CX X E)
    (ha : JA X c (e :: es) t) (hdb : (x == ("__debug__" : Str)) = false := by decide) (he : starEach (e :: es) X.env = (false, eval e X.env) :: starEach es X.env := by rfl) (hpl : (backTo pos (starEach es X.env)).any (·.1) = false := by rfl) :
    JE X c (.Call (.Name x p) (e :: es) [] pos) (tCall sp dvs E t) := by
  refine ⟨fun pins s σ H Q I h => ?_⟩
  refine wpAny_Call_Name_kw (ld_glob I hg hm ?_ hdb)
  refine PySem.W.callWith_K (h₀ := X.base) I.ok.mod.kin hk (thn (ha.run pos pins s σ H _ I h) fun us s1 hh => ?_) he hpl
  obtain ⟨g1, vs, H1, I1, r, q⟩ := hh
  exact ⟨I1.kIn, thn (run_fnJ C F hr hb hd hx I1 r q) fun u s2 ⟨g2, q2⟩ => ⟨g1.trans g2, q2⟩⟩
theorem je_callD {k : Nat} {ps : List Str} {sp : Sp} (C : Cel X y c) (D : Df X.prog X.w X.K X.mg X.base k x ps sp) (hr : Room k X.A) (hg : Gl X x) (ha : JA X c (e :: es) t) (hdb : (x == ("__debug__" : Str)) = false := by decide)
    (he : starEach (e :: es) X.env = (false, eval e X.env) :: starEach es X.env := by rfl) (hpl : (backTo pos (starEach es X.env)).any (·.1) = false := by rfl) : JE X c (.Call (.Name x p) (e :: es) [] pos) (tCall sp [] E0 t) := by
  obtain ⟨f, fd, F, g, kp, b⟩ := D.ex
  exact je_call C F hr hg g kp b .nil pass0 ha hdb he hpl
theorem je_callB {id : String} {r : List V → Hp → VK → Prop} (hc : CallJ X c (.builtin id) r) (hg : Gl X x) (hm : X.mg x = none) (hv : bootBuiltins x = some (.builtin id)) (ha : JA X c (e :: es) t) (hn : x ≠ "__name__" := by decide) (hdb : (x == ("__debug__" : Str)) = false := by decide)
    (he : starEach (e :: es) X.env = (false, eval e X.env) :: starEach es X.env := by rfl) (hpl : (backTo pos (starEach es X.env)).any (·.1) = false := by rfl) : JE X c (.Call (.Name x p) (e :: es) [] pos) (tCB r t) := by
  refine ⟨fun pins s σ H Q I h => ?_⟩
  refine wpAny_Call_Name_kw (ld_blt I hg hm hv ?_ hn hdb)
  refine PyProof.Rows.callWith_builtin1 (thn (ha.run pos pins s σ H _ I h) fun us s1 hh => ?_) he hpl
  obtain ⟨g1, vs, H1, I1, r1, q1⟩ := hh
  exact thn (hc pins s1 σ H1 vs us Q I1 r1 q1) fun u s2 ⟨g2, q2⟩ => ⟨g1.trans g2, q2⟩
theorem cj_sortedSetI (hc : X.calm = true) : CallJ X c (.builtin "sorted") (rSortedSetI X.w) := by
  intro pins s σ H vs us Q I r h
  obtain ⟨a, S, n, rfl, ha, few, q⟩ := h
  rw [Vals.ref1 r]
  refine set_sorted (setO_get I ha) (I.ok.hd hc) few fun s' p got ep ns kept g os lp hg areI up mem len => ?_
  have free : H p = none := I.hok.fresh lp
  have sz : (ns.map V.int).length ≤ sizeLine := by
    rw [List.length_map]
    omega
  have same : s' = { s with heap := s'.heap, gens := s'.gens, drawn := s'.drawn, toks := s'.toks } := by
    cases s'
    cases s
    cases os
    rfl
  rw [same]
  exact ⟨fun o e => kept _ _ e, .ref p, upd H p (.lst (ns.map V.int)), I.call (ch := []) (Un.laid kept lp free) (I.hok.laid kept lp ⟨sz, got, ep, vals_of_ints areI, hg⟩) (by rw [g]; exact I.bare) (fun _ z => nomatch z), rfl, q ns p up mem len free⟩
/-! ### statements -/
theorem jst_expr (he : JE X c e te) (hs : swapsWith e none pos.line X.env = pure false := by rfl) : JSt X c (.Expr e pos) (tDrop te) := by
  refine ⟨fun pins s σ H D I h => ?_⟩
  refine wpAny_Expr_any (thn (he.run pins s σ H _ I h) fun v s1 hh => ?_) I.quiet hs
  obtain ⟨g1, x, H1, I1, r1, q1⟩ := hh
  exact ⟨g1, σ, H1, I1, q1⟩
theorem jst_set {i : Nat} {pos' : Pos} (C : Cel X y c) (ne : x ≠ y) (hN : X.N.Nodup) (hi : X.N[i]? = some x) (hx : Loc X.env.scope x) (he : JE X c e te) (hs : swapsWith e (some (.Name x pos')) pos.line X.env = pure false := by rfl) (hf : X.fn x = true ∨ X.env.scope.names.lookup x = some .local := by first | exact .inl rfl | exact .inr rfl | assumption) :
    JSt X c (.Assign [.Name x pos'] e pos) (tAsg te (gName i)) := by
  refine ⟨fun pins s σ H D I h => ?_⟩
  refine wpAny_Assign_Name (thn (he.run pins s σ H _ I h) fun v s1 hh => ?_) hs
  obtain ⟨g1, z, H1, I1, r1, q1⟩ := hh
  refine store_ok2 I1 hN hi hx r1 (fun s2 I2 hh => ?_) hf
  obtain ⟨a, sb, ha⟩ := hh
  have ca : c ≠ a := fun z => by
    rcases ha with ha | ha
    · exact I1.cne _ _ C.is (z.trans ha)
    · rw [← z] at ha
      exact ne (I1.ok.inj _ _ _ ha C.is)
  exact ⟨g1.trans fun o e => (sb.2 c ca).trans e, _, H1, I2, q1⟩
end
end Sq
set_option Elab.async false
set_option linter.all false
set_option maxRecDepth 100000
set_option maxHeartbeats 4000000
/-! More code that leaves one cell as it is: a dict comprehension with one for, set(l), list(x). -/
namespace Sq
open PySem PySem.Spec PyProof.Rows L2 GenW
section
variable {X : Cx}
/-- where a loop's items come from -/
structure JI (X : Cx) (c : Addr) (tg iter : Expr) (wi : TI) : Prop where
  run : ∀ (pins : List (Addr × Obj)) (s : Shared) (σ : L2.St) (H : Hp) (R : It → Hp → Prop), Inv X pins σ H s → wi σ H R →
    wpAny (model X.prog X.w) X.A (eval iter X.env) (fun v s1 => wpAny (model X.prog X.w) X.A (pyIter v) (fun u s2 => Kc c s s2 ∧ PIE X pins σ tg R u s2) X.xe s1) X.xe s
theorem ji_list {c : Addr} {tg l : Expr} {tl : TE} (hl : JE X c l tl) : JI X c tg l (iList X.K tl) := by
  refine ⟨fun pins s σ H R I h => ?_⟩
  refine thn (hl.run pins s σ H _ I h) fun v s1 hh => ?_
  obtain ⟨g1, x, H1, I1, r1, a, e, ⟨xs, hq⟩, q⟩ := hh
  subst e
  cases r1
  obtain ⟨its, rv, p, hz⟩ := I1.list hq
  refine wpAny_pyIter_list p.isList ⟨g1.trans fun o e => Heap.get?_push_of_some _ e, ?_⟩
  have lo : s1.heap.objs.size ≤ s1.heap.objs.size := Nat.le_refl _
  refine ⟨s1.heap.objs.size, [s1.heap.objs.size], _, _, H1, rfl, I1.kept (t' := s1.toks) fun b o e => Heap.get?_push_of_some _ e, turn_list a _, ⟨_, Heap.get?_push_size _ rfl, rfl, rfl⟩, fun b hb => ?_, q⟩
  rw [List.mem_singleton.mp hb]
  exact I1.fpOk lo (I1.hok.fresh lo)
theorem dcJ_core {y0 : Str} {c0 : Addr} (Ce : Cel X y0 c0) {pins : List (Addr × Obj)} {s : Shared} {σ : L2.St} {H : Hp} {Q : VK} {elt eltv tg iter : Expr} {ifs : List Expr} {scope : Scope} {own : List (Str × Nat)} {pos pos' : Pos} {wi : TI} {g : TG} {tt : TT} {te tf : TE} {use : Option (Value → Sem Unit)} {Qf : Value → Shared → Prop}
    (mood : X.calm = true) (nodupN : X.N.Nodup) (I : Inv X pins σ H s) (sourceA : JI X c0 tg iter wi) (ok : BlkOk X.N X.env.scope scope own)
    (targetA : ∀ (s : Shared) (H : Hp) (C : Addr) (cl : List (Str × Addr)) (fp : List Addr), PG (X.blk s H scope (compEnvC scope cl C X.env) fp) tg g) (testsA : ∀ (s : Shared) (H : Hp) (C : Addr) (cl : List (Str × Addr)) (fp : List Addr), PTs (X.blk s H scope (compEnvC scope cl C X.env) fp) ifs tt)
    (elemA : ∀ (s : Shared) (H : Hp) (C : Addr) (cl : List (Str × Addr)) (fp : List Addr), PE (X.blk s H scope (compEnvC scope cl C X.env) fp) elt te)
    (valA : ∀ (s : Shared) (H : Hp) (C : Addr) (cl : List (Str × Addr)) (fp : List Addr), PE (X.blk s H scope (compEnvC scope cl C X.env) fp) eltv tf) (plainA : ∀ x, foldedSetIterable iter X.env x = pure x)
    (h : tDc wi g tt te tf (own.map (·.2)) σ H Q)
    (back : ∀ D C s' m H', Kc c0 s s' → Inv X pins σ H' s' → Q (.ref D) H' → s'.heap.Ns C m → FpOk X pins H' C → compPost (model X.prog X.w) X.A X.xe use Qf (.ref D) C (.ok .next) s') :
    wpAny (model X.prog X.w) X.A (comprehension (.DictComp elt eltv [⟨tg, iter, ifs, 0⟩] scope pos) scope X.env pos' newDict false (eval iter X.env) use) Qf X.xe s := by
  have captured : ∀ y ∈ scope.names, y.2 = .free → ∃ c, X.env.cells.lookup y.1 = some c := fun y hy e => by
    rcases ok.free y hy e with k | k
    · exact I.ok.has _ (.inl k)
    · exact I.ok.has _ (.inr k)
  refine wpAny_comprehension_free (use := use) rfl plainA (closure_ok captured) ok.kind (fun y hy e => by rw [ok.uniq y hy, e])
    (thn (sourceA.run pins s σ H _ I h) fun srcV sA gotX => thn gotX fun itV sB hB2 => ?_)
  obtain ⟨kB, h2⟩ := hB2
  obtain ⟨it, fp, tn, J, HB, e, I2, T, st2, f2, q⟩ := h2
  subst e
  refine wpAny_newObj_type (newEnv_comp ?_)
  generalize atD : sB.heap.objs.size = D
  have freshD : HB D = none := I2.hok.fresh (Nat.le_of_eq atD)
  obtain ⟨W, ⟨mes0, inv0⟩, walk0⟩ := q D freshD
  -- the new dict
  generalize laid3 : ({ sB with heap := sB.heap.push { cls := .type "dict", data := .dict #[] } } : Shared) = sC
  have J3 : Inv X pins σ (upd HB D (.dK [])) sC := by
    rw [← laid3]
    refine I2.laid (t' := sB.toks) (fun b o e => Heap.get?_push_of_some _ e) (Nat.le_of_eq atD) ?_
    rw [← atD]
    exact dk_empty sB.heap I2.big
  have heap3 : sC.heap = sB.heap.push { cls := .type "dict", data := .dict #[] } := by rw [← laid3]
  have below : ∀ b ∈ fp, b < sB.heap.objs.size := fun b hb => by
    obtain ⟨o, e, _⟩ := T.obj _ _ st2 b hb
    exact Heap.lt_size e
  have roam3 : ∀ b ∈ fp, FpOk X pins (upd HB D (.dK [])) b ∧ b < sC.heap.objs.size := fun b hb => by
    have hlt := below b hb
    refine ⟨⟨?_, (f2 b hb).2⟩, by rw [heap3, Heap.size_push]; exact Nat.lt_succ_of_lt hlt⟩
    rw [upd_ne (by rw [← atD]; exact Nat.ne_of_lt hlt)]
    exact (f2 b hb).1
  have turn3 : tn 0 sC.heap := T.keep _ _ _ st2 fun b _ o e => by rw [heap3]; exact Heap.get?_push_of_some _ e
  have J4 := block_start J3 ok nodupN roam3
  have tgt := targetA sC (upd HB D (.dK [])) sC.heap.objs.size (cellsFrom (sC.heap.objs.size + 1) scope.names (cloFrom X.env.cells scope.names [])) fp
  have elv := valA sC (upd HB D (.dK [])) sC.heap.objs.size (cellsFrom (sC.heap.objs.size + 1) scope.names (cloFrom X.env.cells scope.names [])) fp
  have tst := testsA sC (upd HB D (.dK [])) sC.heap.objs.size (cellsFrom (sC.heap.objs.size + 1) scope.names (cloFrom X.env.cells scope.names [])) fp
  have elm := elemA sC (upd HB D (.dK [])) sC.heap.objs.size (cellsFrom (sC.heap.objs.size + 1) scope.names (cloFrom X.env.cells scope.names [])) fp
  show codeAny _ _ (.compStart (.DictComp elt eltv [⟨tg, iter, ifs, 0⟩] scope pos) 0 (.ref it) (.ref D) (compEnvC scope (cellsFrom (sC.heap.objs.size + 1) scope.names (cloFrom X.env.cells scope.names [])) sC.heap.objs.size X.env)) (compPost (model X.prog X.w) X.A X.xe use Qf (.ref D) sC.heap.objs.size) { sC with heap := pushCells (sC.heap.push { cls := .type "dict", data := .dict #[] }) scope.names }
  have untr : ∀ b ∈ fp, (upd HB D (.dK [])) b = none := fun b hb => (roam3 b hb).1.1
  generalize blkE : compEnvC scope (cellsFrom (sC.heap.objs.size + 1) scope.names (cloFrom X.env.cells scope.names [])) sC.heap.objs.size X.env = ce at J4 tgt tst elm elv ⊢
  have locE : ce.locals = sC.heap.objs.size := by subst blkE; rfl
  generalize heapE : upd HB D (.dK []) = HC at J3 J4 tgt tst elm elv inv0 untr roam3
  generalize laid4 : ({ sC with heap := pushCells (sC.heap.push { cls := .type "dict", data := .dict #[] }) scope.names } : Shared) = sD at J4 ⊢
  have turn4 : tn 0 sD.heap := T.keep _ _ _ turn3 fun b _ o e => by rw [← laid4]; exact pushCells_keeps _ _ _ _ (Heap.get?_push_of_some _ e)
  have roams : ∀ {σ' : L2.St} {H' : Hp} {s' : Shared}, Inv (X.blk sC HC scope ce fp) [] σ' H' s' → (∀ b ∈ fp, H' b = none) → ∀ b ∈ fp, FpOk (X.blk sC HC scope ce fp) [] H' b := fun {σ' H' s'} I' nsC b hb =>
    ⟨nsC b hb, (I'.ok.exf b hb).1, I'.ok.exfs b hb, .inl hb, fun x c e => (I'.ok.exf b hb).2 x c e, fun p hp => absurd (show p ∈ ([] : List (Addr × Obj)) ++ [] from hp) (by simp)⟩
  have outer0 : codeAny (model X.prog X.w) X.A (.compLoop (.DictComp elt eltv [⟨tg, iter, ifs, 0⟩] scope pos) 0 (.ref it) (.ref D) ce) (compPost (model X.prog X.w) X.A X.xe use Qf (.ref D) sC.heap.objs.size) sD := by
    refine compLoop_anyD (fun n s' => ∃ i H', Inv (X.blk sC HC scope ce fp) [] (wipe σ (own.map (·.2))) H' s' ∧ tn i s'.heap ∧ (∀ b ∈ fp, H' b = none) ∧ W i n H') ?_ mes0 ⟨0, HC, J4, turn4, untr, inv0⟩
    rintro n sE ⟨i, HE, J5, turn5, un5, inv5⟩
    rcases walk0 i n HE inv5 with ⟨atEnd, done0⟩ | ⟨more, NxA, reach, body0⟩
    · have ended := T.done (X.blk sC HC scope ce fp) rfl rfl rfl mood i [] sE _ HE (fun _ _ => False) J5 (roams J5 un5) turn5 atEnd
      refine thnF ended fun r sF ⟨hr, J6⟩ => ?_
      subst hr
      have J7 : Inv X pins σ HE sF := J3.call' (ch := fp) J6.os J6.base J6.hok J6.bare fun b hb => ⟨(roam3 b hb).1.2.2.2.1, (roam3 b hb).1.2.1, (roam3 b hb).1.2.2.2.2.1, (roam3 b hb).1.2.2.2.2.2⟩
      have freeC : HE sC.heap.objs.size = none := by
        have z : HE ce.locals = none := J6.free
        rw [locE] at z
        exact z
      obtain ⟨m, nsC, _⟩ := J6.loc
      have nsC : sF.heap.Ns ce.locals m := nsC
      rw [locE] at nsC
      have kAll : Kc c0 s sF := fun o eo => by
        have e3 : sC.heap.get? c0 = some o := by
          rw [heap3]
          exact Heap.get?_push_of_some _ (kB o eo)
        refine J6.base.keep c0 o e3 (Ce.free J3) (Ce.nostk J3) fun hb => ?_
        exact (roam3 c0 hb).1.2.2.2.2.1 _ _ Ce.is rfl
      exact back D sC.heap.objs.size sF m HE kAll J7 done0 nsC (J3.fpOk (Nat.le_refl _) freeC)
    · have given := T.item (X.blk sC HC scope ce fp) rfl rfl rfl mood i [] sE _ HE (fun _ _ => False) J5 (roams J5 un5) turn5 more
      refine thnF given fun r sF ⟨u, hr, got6⟩ => ?_
      subst hr
      refine thnF got6 fun _ sG ⟨x, HG, J7, rel7, yld7, turn7, un7⟩ => ?_
      have J7p := J7.pinned (roams J7 un7) (T.obj _ _ turn7)
      refine thnF (tgt.run _ sG _ HG x u _ J7p rel7 (body0 x HG yld7)) fun _ sH ⟨τ, HH, J8, wip8, go8⟩ => ?_
      refine thnF (tst.run _ sH τ HH _ J8 go8) fun b sI ⟨HI, J9, go9⟩ => ?_
      have close : ∀ {s' : Shared} {H' : Hp}, Inv (X.blk sC HC scope ce fp) ([] ++ pinsAt fp sG.heap) τ H' s' → NxA H' →
          ∃ m, m < n ∧ ∃ i H', Inv (X.blk sC HC scope ce fp) [] (wipe σ (own.map (·.2))) H' s' ∧ tn i s'.heap ∧ (∀ b ∈ fp, H' b = none) ∧ W i m H' := fun {s' H'} I' nextW => by
        obtain ⟨m', lessM, invM⟩ := reach H' nextW
        have kept : ∀ b ∈ fp, ∀ o, sG.heap.get? b = some o → s'.heap.get? b = some o ∧ H' b = none := fun b hb o e =>
          let z := I'.pin (b, o) (List.mem_append_right _ (List.mem_append_right _ (mem_pinsAt hb e)))
          ⟨z.1, z.2.1⟩
        refine ⟨m', lessM, i + 1, H', (I'.unpinned (pins := [])).weak (by rw [← wip8, wipe_length]) (fun j v e => by rw [← wip8] at e; exact (wipe_some e).1), T.keep _ _ _ turn7 fun b hb o e => (kept b hb o e).1, fun b hb => ?_, invM⟩
        obtain ⟨o, e, _⟩ := T.obj _ _ turn7 b hb
        exact (kept b hb o e).2
      cases b with
      | false =>
        simp only [Bool.false_eq_true, if_false] at go9 ⊢
        exact close J9 go9
      | true =>
        simp only [if_true] at go9 ⊢
        refine thnF (elm.run _ sI τ HI _ J9 go9) fun z sQ ⟨yv, HQ, J17, rel17, go17⟩ => ?_
        refine thnF (elv.run _ sQ τ HQ _ J17 go17) fun z2 sR ⟨yw, HR, J18, rel18, kvs, kk, ey, acc18, room18, nextW⟩ => ?_
        subst ey
        exact d_dictSet (X := X.blk sC HC scope ce fp) J18 acc18 room18 rel17 rel18 fun sS J19 => close J19 nextW
  exact codeAny_compStart_dict outer0 (T.self X.A 0 _ _ _ turn4 outer0)
/-- as a value -/
theorem je_dc {y0 : Str} {c0 : Addr} (Ce : Cel X y0 c0) {elt eltv tg iter : Expr} {ifs : List Expr} {scope : Scope} {own : List (Str × Nat)} {pos : Pos} {wi : TI} {g : TG} {tt : TT} {te tf : TE} (mood : X.calm = true) (nodupN : X.N.Nodup) (sourceA : JI X c0 tg iter wi) (ok : BlkOk X.N X.env.scope scope own)
    (targetA : ∀ (s : Shared) (H : Hp) (C : Addr) (cl : List (Str × Addr)) (fp : List Addr), PG (X.blk s H scope (compEnvC scope cl C X.env) fp) tg g) (testsA : ∀ (s : Shared) (H : Hp) (C : Addr) (cl : List (Str × Addr)) (fp : List Addr), PTs (X.blk s H scope (compEnvC scope cl C X.env) fp) ifs tt)
    (elemA : ∀ (s : Shared) (H : Hp) (C : Addr) (cl : List (Str × Addr)) (fp : List Addr), PE (X.blk s H scope (compEnvC scope cl C X.env) fp) elt te)
    (valA : ∀ (s : Shared) (H : Hp) (C : Addr) (cl : List (Str × Addr)) (fp : List Addr), PE (X.blk s H scope (compEnvC scope cl C X.env) fp) eltv tf) (plainA : ∀ x, foldedSetIterable iter X.env x = pure x := by intro _; rfl) :
    JE X c0 (.DictComp elt eltv [⟨tg, iter, ifs, 0⟩] scope pos) (tDc wi g tt te tf (own.map (·.2))) := by
  refine ⟨fun pins s σ H Q I h => ?_⟩
  rw [arm_eval_DictComp]
  refine dcJ_core Ce mood nodupN I sourceA ok targetA testsA elemA valA plainA h fun D C s' m H' kAll I' q nsC f => ⟨m, nsC, fun h'' sb => ?_⟩
  obtain ⟨f0, f1, f2, roam3, f4, f5⟩ := f
  have away : c0 ≠ C := f4 _ _ Ce.is
  exact ⟨kAll.trans fun o e => (sb.2 c0 away).trans e, .ref D, H', I'.turned (t' := s'.toks) (fun b o hb e => (sb.2 b hb).trans e) f0 f1 roam3 f4 f5, rfl, q⟩
theorem je_callTy {c : Addr} {T : String} {r : List V → Hp → VK → Prop} {x : Str} {p pos : Pos} {e : Expr} {es : List Expr} {t : TA} (hc : CallJ X c (.type T) r) (hg : Gl X x) (hm : X.mg x = none) (hv : bootBuiltins x = some (.type T)) (ha : JA X c (e :: es) t) (hn : x ≠ "__name__" := by decide) (hdb : (x == ("__debug__" : Str)) = false := by decide)
    (he : starEach (e :: es) X.env = (false, eval e X.env) :: starEach es X.env := by rfl) (hpl : (backTo pos (starEach es X.env)).any (·.1) = false := by rfl) : JE X c (.Call (.Name x p) (e :: es) [] pos) (tCB r t) := by
  refine ⟨fun pins s σ H Q I h => ?_⟩
  refine wpAny_Call_Name_kw (ld_blt I hg hm hv ?_ hn hdb)
  refine PyProof.Rows.callWith_type1 (thn (ha.run pos pins s σ H _ I h) fun us s1 hh => ?_) he hpl
  obtain ⟨g1, vs, H1, I1, r1, q1⟩ := hh
  exact thn (hc pins s1 σ H1 vs us Q I1 r1 q1) fun u s2 ⟨g2, q2⟩ => ⟨g1.trans g2, q2⟩
theorem cj_setL {c : Addr} (hc : X.calm = true) : CallJ X c (.type "set") (rSetL X.K X.w) := by
  intro pins s σ H vs us Q I r h
  obtain ⟨l, zs, rfl, hs, few, q⟩ := h
  rw [Vals.ref1 r]
  obtain ⟨its, rv, pl, _⟩ := I.list hs
  refine set_of_list (I.ok.hd hc) pl.isList (by simpa using ints_of_vals rv) (by unfold scanBound; omega) fun g tk m R lm kept => ?_
  have free : H s.heap.objs.size = none := I.hok.fresh (Nat.le_refl _)
  exact ⟨fun o e => kept _ _ e, .ref s.heap.objs.size, upd H s.heap.objs.size (SetO X.w s.heap.objs.size (fun j => decide (j ∈ zs)) m), I.laid kept (Nat.le_refl _) (setO_new R), rfl, q _ m free lm (setR_count R)⟩
end
end Sq
set_option Elab.async false
set_option linter.all false
set_option maxRecDepth 100000
set_option maxHeartbeats 4000000
/-! Code that knows what stands in one cell, to the token: text.replace(character, ''). -/
namespace Sq
open PySem PySem.Spec PyProof.Rows L2 GenW
theorem Kc.cell {c : Addr} {s s' : Shared} {v : Option Value} (k : Kc c s s') (h : s.heap.IsCell c v) : s'.heap.IsCell c v := by
  obtain ⟨o, e, d⟩ := h
  exact ⟨o, k o e, d⟩
structure JR (X : Cx) (c : Addr) (u0 : Value) (n : Nat) (e : Expr) (t : TE) : Prop where
  run : ∀ (pins : List (Addr × Obj)) (s : Shared) (σ : L2.St) (H : Hp) (Q : VK), Inv X pins σ H s → n ≤ s.toks → s.heap.IsCell c (some u0) → t σ H Q → wpAny (model X.prog X.w) X.A (eval e X.env) (EP X pins σ Q) X.xe s
structure JRs (X : Cx) (c : Addr) (u0 : Value) (n : Nat) (sts : List Stmt) (t : TS) : Prop where
  run : ∀ (pins : List (Addr × Obj)) (s : Shared) (σ : L2.St) (H : Hp) (D : Ends), Inv X pins σ H s → n ≤ s.toks → s.heap.IsCell c (some u0) → t D σ H → wpAny (model X.prog X.w) X.A (execs sts X.env) (SP X pins D) X.xe s
section
variable {X : Cx} {c : Addr} {u0 : Value} {n : Nat} {x y : Str} {p pos : Pos} {e e2 : Expr} {es : List Expr} {te tf : TE} {t : TA} {st : Stmt} {rest : List Stmt} {ts tr : TS}
theorem jrs_cons (h1 : JSt X c st ts) (h2 : JRs X c u0 n rest tr) : JRs X c u0 n (st :: rest) (tSeq ts tr) := by
  refine ⟨fun pins s σ H D I hn hc h => ?_⟩
  refine wpAny_execs_cons (wpAny_mono (PySem.wpAny_toks (h1.run pins s σ H { D with nx := tr D } I h)) (fun f s1 hh => ?_) fun _ _ z => z.2)
  obtain ⟨hk, kc, q⟩ := hh
  match f, q with
  | .next, ⟨σ', H', I', q⟩ => exact h2.run pins s1 σ' H' D I' (Nat.le_trans hn hk) (kc.cell hc) q
  | .ret v, q => exact q
  | .brk, q => exact q
  | .cont, q => exact q
/-- the last one that knows it: x = e, then what doesn't -/
theorem jrs_set {i : Nat} {pos' : Pos} (hN : X.N.Nodup) (hi : X.N[i]? = some x) (hx : Loc X.env.scope x) (he : JR X c u0 n e te) (h2 : PSs X rest tr) (hs : swapsWith e (some (.Name x pos')) pos.line X.env = pure false := by rfl) (hf : X.fn x = true ∨ X.env.scope.names.lookup x = some .local := by first | exact .inl rfl | exact .inr rfl | assumption) :
    JRs X c u0 n (.Assign [.Name x pos'] e pos :: rest) (tSeq (tAsg te (gName i)) tr) := by
  refine ⟨fun pins s σ H D I hn hc h => ?_⟩
  refine wpAny_execs_cons (wpAny_Assign_Name (thn (he.run pins s σ H _ I hn hc h) fun v s1 hh => ?_) hs)
  obtain ⟨z, H1, I1, r1, q1⟩ := hh
  exact store_ok I1 hN hi hx r1 (fun s2 I2 => h2.run pins s2 _ H1 D I2 q1) hf
theorem jr_op {op : Operator} {r : R2} (ho : OpR X (binaryOp op) r) (ha : JR X c u0 n e te) (hb : PE X e2 tf) : JR X c u0 n (.BinOp e op e2 pos) (tOp r te tf) := by
  refine ⟨fun pins s σ H Q I hn hc h => ?_⟩
  refine wpAny_BinOp (thn (ha.run pins s σ H _ I hn hc h) fun v s1 hh => ?_)
  obtain ⟨a, H1, I1, r1, q1⟩ := hh
  exact thn (hb.run pins s1 σ H1 _ I1 q1) fun u s2 ⟨b, H2, I2, r2, q2⟩ => ho pins s2 σ H2 a b v u Q I2 r1 r2 q2
/-- T(e) -/
theorem jr_callTy {T : String} {r : List V → Hp → VK → Prop} (hc : CallR X (.type T) r) (hg : Gl X x) (hm : X.mg x = none) (hv : bootBuiltins x = some (.type T)) (ha : JR X c u0 n e te) (hn : x ≠ "__name__" := by decide) (hdb : (x == ("__debug__" : Str)) = false := by decide)
    (he : starEach [e] X.env = (false, eval e X.env) :: starEach [] X.env := by rfl) (hpl : (backTo pos (starEach [] X.env)).any (·.1) = false := by rfl) : JR X c u0 n (.Call (.Name x p) [e] [] pos) (tCB r (tCons te tNil)) := by
  refine ⟨fun pins s σ H Q I hn' hcell h => ?_⟩
  refine wpAny_Call_Name_kw (ld_blt I hg hm hv ?_ hn hdb)
  refine PyProof.Rows.callWith_type1 ?_ he hpl
  rw [he]
  show wpAny _ _ (spliced ((false, eval e X.env) :: backTo pos (starEach [] X.env))) _ _ s
  refine Calls.spliced_cons (thn (ha.run pins s σ H _ I hn' hcell h) fun u s1 hh => ?_)
  obtain ⟨v, H1, I1, r1, q1⟩ := hh
  exact Calls.spliced_nil (hc pins s1 σ H1 [v] [u] Q I1 (.cons r1 .nil) q1)
/-- the name's own value, to the token -/
theorem raw_cell {pins : List (Addr × Obj)} {σ : L2.St} {H : Hp} {s : Shared} {Q E : Value → Shared → Prop} (I : Inv X pins σ H s) (hk : X.env.kindOf y = some .cell) (hc : X.env.cells.lookup y = some c) (hcell : s.heap.IsCell c (some u0)) (fin : Q u0 s)
    (hd : (y == ("__debug__" : Str)) = false := by decide) : wpAny (model X.prog X.w) X.A (eval (.Name y pos) X.env) Q E s :=
  wpAny_Name (wpAny_loadName_cell I.ok.kind hk hc hcell fin) hd
/-- text.replace(character, z): the text in a slot, the character in the cell, z written -/
def tRepJ (i : Nat) (b z : Str) : TE := fun σ H Q => ∃ a : Str, σ[i]? = some (some (.str a)) ∧ a.length + (a.length + 1) * z.length ≤ 16777216 ∧ Q (.str (Txt.replace a b z)) H
theorem jr_rep {i : Nat} {kx : Str} {b z : Str} {tb : Tok} {j : Nat} {p1 p2 c1 apos : Pos} (hN : X.N[i]? = some kx) (hv : Vis X.env.scope kx) (hk : X.env.kindOf y = some .cell) (hc : X.env.cells.lookup y = some c) (good : tb ≠ 0 ∧ tb < n) (hbz : (b == z) = false)
    (hd : (kx == ("__debug__" : Str)) = false := by decide) (hcd : (kx == ("__classdict__" : Str)) = false := by decide) (hdy : (y == ("__debug__" : Str)) = false := by decide)
    (hst : starEach [.Name y p2, .Constant (.str z) j c1] X.env = [(false, eval (.Name y p2) X.env), (false, eval (.Constant (.str z) j c1) X.env)] := by rfl)
    (hbase : attributeBase (.Name kx p1) "replace" X.env (eval (.Name kx p1) X.env) = eval (.Name kx p1) X.env := by rfl) (hline : (apos.endLine == pos.line) = true := by rfl) :
    JR X c (.str b tb) n (.Call (.Attribute (.Name kx p1) "replace" apos) [.Name y p2, .Constant (.str z) j c1] [] pos) (tRepJ i b z) := by
  refine ⟨fun pins s σ H Q I hn hcell h => ?_⟩
  obtain ⟨a, ha, few, q⟩ := h
  refine PySem.Call_method2 hbase hst hline (raw_name hN hv I ha (fun v r => ?_) hd hcd)
  obtain ⟨ta, e1⟩ := r
  subst e1
  refine ⟨"str", _, PySem.F.plainAttrs_str, PySem.F.slot_str_replace, PySem.F.type_str_replace, typeIs_str _ _ _, (fun _ e => nomatch e), Calls.callWith_builtin rfl (Calls.evalArgs_plain (Calls.spliced_cons (raw_cell I hk hc hcell ?_ hdy)))⟩
  refine Calls.spliced_cons (Calls.Constant_str (Calls.spliced_nil ?_))
  have g1 : tb ≠ 0 := good.1
  have g2 : tb < n := good.2
  exact PySem.SC.replace g1 (Nat.ne_of_gt (Nat.lt_of_lt_of_le (Nat.lt_of_le_of_lt (Nat.zero_le tb) g2) hn)) (Nat.ne_of_lt (Nat.lt_of_lt_of_le g2 hn)) hbz few fun t' k => ⟨.str (Txt.replace a b z), H, I.tok k, ⟨t', rfl⟩, q⟩
end
/-- a def whose promise needs one argument's token: it isn't 0 and was given out before -/
def Tkn (j : Nat) (us : List Value) (n : Nat) : Prop := ∀ b t, us[j]? = some (.str b t) → b.length = 1 → t ≠ 0 ∧ t < n
structure FnT (P : Program) (w : World) (K : PySem.W.Frag) (mg : Str → Option Value) (base : Heap) (k : Nat) (f : Addr) (fd : FuncData) (ps : List Str) (j : Nat) (sp : Sp) : Prop where
  len : ∀ vs H Q E, sp vs H Q E → vs.length = ps.length
  run : ∀ (A : Around) (outer : List Env) (s : Shared) (H : Hp) (args : Args) (us : List Value) (vs : List V) (Q : VK), Room k A → Env0 P w K mg base A outer s H → BindsTo s fd args (ps.zip us) → Vals vs us → Tkn j us s.toks → sp vs H Q E0 →
    codeAny (model P w) A (.call (.ref f) args) (fun r s' => match r with | .ok (.ret u) => CE outer P w H s Q u s' | _ => False) s
theorem fnt_of {P : Program} {w : World} {K : PySem.W.Frag} {mg : Str → Option Value} {base : Heap} {x qual y : Str} {st : Stmt} {f : Addr} {fd : FuncData} {N ps : List Str} {k j : Nat} {sp : Sp} (F : Fun K x qual st f fd) (S : FnScope N ps (defScope st)) (len : ∀ vs H Q E, sp vs H Q E → vs.length = ps.length)
    (hy : ps[j]? = some y) (hk : (defScope st).names.lookup y = some .cell)
    (walk : ∀ (cdv : Value) (A : Around) (outer : List Env) (s : Shared) (H : Hp) (us : List Value) (vs : List V) (Q : VK) (c : Addr) (u0 : Value), Room k (A.deeper (envOfC qual (defScope st) s.heap.objs.size f cdv)) → sp vs H Q E0 → Vals vs us → Tkn j us s.toks → us[j]? = some u0 → Cel (cxOf CX0 P w K mg base N qual (defScope st) f cdv A outer s H E0).nox y c →
      ∃ t, JRs (cxOf CX0 P w K mg base N qual (defScope st) f cdv A outer s H E0).nox c u0 s.toks (defBody st) t ∧ t { nx := fun _ H' => Q .non H', rt := Q } (L2.start N vs) H) : FnT P w K mg base (k + 1) f fd ps j sp := by
  obtain ⟨oc, od, kV, doc, pm, an, cdv, ct, osl, rfl, lk, hcd⟩ := F.ex
  refine ⟨len, fun A outer s H args us vs Q hr e0 hb r tkn hsp => ?_⟩
  have hl := len _ _ _ _ hsp
  have KX : K.In s.heap := e0.mod.kin.keeps fun b o e => (e0.bs b o e).1
  have lim : s.heap.NoLimit := e0.mod.nolimit.keeps fun b o e => (e0.bs b o e).1
  have hkind : ∀ y ∈ ps.zip us, (defScope st).names.lookup y.1 = some .local ∨ ((defScope st).names.lookup y.1 = some .cell ∧ ((cellsFrom (s.heap.objs.size + 1) (defScope st).names []).lookup y.1).isSome = true) := fun ⟨n, v⟩ hy =>
    (S.par n (List.of_mem_zip hy).1).elim .inl fun z => .inr ⟨z, PySem.W.cellsFrom_some _ _ _ (.inl z)⟩
  refine codeAny_call_function hr.depth (KX _ _ lk) rfl S.co S.gen rfl (PySem.W.codeRec_of KX hcd) (hb _ _ _ _ ?_)
  refine PySem.wpAny_with_toks (Nat.le_refl s.toks) (wpAny_newFunctionEnv_cells S.kind hkind fun env he s1 made toks1 => ?_)
  subst he
  refine ⟨lim.keeps made.toInCall.keep, codeAny_func ?_⟩
  obtain ⟨c, hc⟩ := cell_has (n := s.heap.objs.size + 1) hk
  have jl : j < ps.length := (List.getElem?_eq_some_iff.mp hy).1
  obtain ⟨u0, hu⟩ : ∃ u0, us[j]? = some u0 := ⟨us[j]'(by rw [← r.length, hl]; exact jl), List.getElem?_eq_getElem _⟩
  have ndP : ps.Nodup := by rw [← S.pre]; exact S.nd.sublist (List.take_sublist _ _)
  have at1 := made.cell y c hc
  rw [bindC_get ndP hy hu (by show (defScope st).names.lookup y ≠ _; rw [hk]; decide)] at at1
  obtain ⟨t, ht, hq⟩ := walk cdv A outer s H us vs Q c u0 (hr.deeper _) hsp r tkn hu ⟨hc, rfl⟩
  have I : Inv (cxOf CX0 P w K mg base N qual (defScope st) f cdv A outer s H E0).nox [] (start N vs) H s1 := (inv_start S hr.hd e0 hl r made).wish _
  refine wpAny_mono (ht.run [] s1 (start N vs) H _ I toks1 at1 hq) (fun fl s' hs => ?_) fun e s' hs => False.elim hs
  match fl, hs with
  | .ret u, ⟨v, σ', H', J, rv, q⟩ => exact ⟨v, H', J.os, J.bare, J.base, J.hok, rv, q⟩
  | .next, ⟨σ', H', J, q⟩ => exact ⟨V.non, H', J.os, J.bare, J.base, J.hok, rfl, q⟩
  | .brk, ⟨_, _, _, q⟩ => exact False.elim q
  | .cont, ⟨_, _, _, q⟩ => exact False.elim q
end Sq
set_option Elab.async false
set_option linter.all false
set_option maxRecDepth 100000
set_option maxHeartbeats 4000000
/-! for i, c in enumerate(text). -/
set_option Elab.async false
set_option linter.all false
set_option maxRecDepth 100000
set_option maxHeartbeats 4000000
/-! Code that keeps one cell and may use what stands in it: expressions, tests, statements. -/
namespace Sq
open PySem PySem.Spec PyProof.Rows L2 GenW
/-- the cell is kept, and n tokens were given out -/
def Kn2 (c : Addr) (n : Nat) (s s' : Shared) : Prop := Kc c s s' ∧ n ≤ s'.toks
theorem Kn2.trans {c : Addr} {n : Nat} {s s1 s2 : Shared} (a : Kn2 c n s s1) (b : Kn2 c n s1 s2) : Kn2 c n s s2 := ⟨a.1.trans b.1, b.2⟩
structure JKT (X : Cx) (c : Addr) (u0 : Value) (n : Nat) (e : Expr) (t : TT) : Prop where
  run : ∀ (pins : List (Addr × Obj)) (s : Shared) (σ : L2.St) (H : Hp) (Q : Bool → Hp → Prop), Inv X pins σ H s → n ≤ s.toks → s.heap.IsCell c (some u0) → t σ H Q → wpAny (model X.prog X.w) X.A (isTrue e X.env (eval e X.env)) (fun b s' => Kn2 c n s s' ∧ TP X pins σ Q b s') X.xe s
end Sq
set_option Elab.async false
set_option linter.all false
set_option maxRecDepth 100000
set_option maxHeartbeats 4000000
/-! Calls of a def whose promise needs one argument's token. -/
namespace Sq
open PySem PySem.Spec PyProof.Rows L2 GenW
structure DfT (P : Program) (w : World) (K : PySem.W.Frag) (mg : Str → Option Value) (base : Heap) (k : Nat) (x : Str) (ps : List Str) (j : Nat) (sp : Sp) : Prop where
  ex : ∃ f fd, FnT P w K mg base k f fd ps j sp ∧ mg x = some (.ref f) ∧ PySem.W.keepIn K (.ref f) = true ∧ Binds K fd ps []
end Sq
set_option Elab.async false
set_option linter.all false
set_option maxRecDepth 100000
set_option maxHeartbeats 4000000
/-! More code that keeps one cell: lists compared, repr, an item of a list, tests. -/
set_option Elab.async false
set_option linter.all false
set_option maxRecDepth 100000
set_option maxHeartbeats 4000000
/-! A name that is a cell is stored: what stands in the cell is known from then on. -/
namespace Sq
open PySem PySem.Spec PyProof.Rows L2 GenW
section
variable {X : Cx} {c : Addr} {n : Nat} {x : Str} {p pos : Pos} {e : Expr} {te : TE} {pins : List (Addr × Obj)} {σ : L2.St} {H : Hp} {s : Shared} {rest : List Stmt} {tr : TS}
theorem store_cellS {M : Model} {A : Around} {E : Value → Shared → Prop} {i : Nat} {v : V} {u : Value} {Q : Unit → Shared → Prop} (I : Inv X pins σ H s) (hN : X.N.Nodup) (hi : X.N[i]? = some x) (hk : X.env.kindOf x = some .cell) (C : Cel X x c) (r : RelV v u)
    (h : ∀ h', Inv X pins (σ.set i (some v)) H { s with heap := h' } → h'.IsCell c (some u) → Heap.SameBut c s.heap h' → Q () { s with heap := h' }) : wpAny M A (storeName X.env x u) Q E s := by
  obtain ⟨m, hn, hl⟩ := id I.loc
  have hiσ : i < σ.length := by rw [I.len]; exact (List.getElem?_eq_some_iff.mp hi).1
  obtain ⟨w0, old⟩ := I.cell x c C.is
  refine wpAny_storeName_cell I.ok.kind hk C.is old fun h' new sb => h h' ?_ new sb
  obtain ⟨oc, hoc, hod⟩ := id old
  have above : ∀ b o, X.s_0.heap.get? b = some o → b ≠ c := fun b o e => Nat.ne_of_lt (Nat.lt_of_lt_of_le (Heap.lt_size e) (I.ok.cab x c C.own C.is))
  have freeC := I.freeC x c C.is
  have loc2 : ∀ (j : Nat) (z : Str) (v' : V), X.N[j]? = some z → (σ.set i (some v))[j]? = some (some v') → Vis X.env.scope z → ∃ u', RelV v' u' ∧ Look X.env h' m z u' := fun j z v' e1 e2 e3 => by
    by_cases hj : j = i
    · subst hj
      rw [hi] at e1
      cases e1
      rw [List.getElem?_set_self hiσ] at e2
      cases e2
      exact ⟨u, r, .inr ⟨.inl hk, c, C.is, new⟩⟩
    · rw [List.getElem?_set_ne (Ne.symm hj)] at e2
      obtain ⟨u', r', q⟩ := hl j z v' e1 e2 e3
      rcases q with q | ⟨k, c2, e4, z4⟩
      · exact ⟨u', r', .inl q⟩
      · have away : c2 ≠ c := fun y => by
          rw [y] at e4
          exact hj (nodup_ix hN e1 (I.ok.inj _ _ _ e4 C.is ▸ hi))
        exact ⟨u', r', .inr ⟨k, c2, e4, z4.sameBut sb away⟩⟩
  refine ⟨I.ok, I.os, I.bare, ⟨fun b o e n hb hx => (sb.2 b (above b o e)).trans (I.base.keep b o e n hb hx), fun b o e n hb hx => ?_, I.base.free, fun b o e hx => ?_, I.base.tups, I.base.frzs, I.base.tbls⟩, ⟨m, hn.sameBut sb (Ne.symm (I.cne x c C.is)), loc2⟩, fun z c2 e => ?_, I.free, I.freeC, fun p hp => ?_, fun b ob e => ?_, by simpa using I.len⟩
  · obtain ⟨sl, e1⟩ := I.base.slot b o e n hb hx
    exact ⟨sl, (sb.2 b (above b o e)).trans e1⟩
  · obtain ⟨o2, e1⟩ := I.base.there b o e hx
    exact ⟨o2, (sb.2 b (above b o e)).trans e1⟩
  · by_cases y : c2 = c
    · rw [y]
      exact ⟨_, new⟩
    · obtain ⟨w2, z2⟩ := I.cell z c2 e
      exact ⟨w2, z2.sameBut sb y⟩
  · obtain ⟨e1, n1, ne1, nf1, d1⟩ := I.pin p hp
    have away : p.1 ≠ c := fun y => by
      rw [y, hoc] at e1
      exact d1 w0 (by rw [← Option.some.inj e1]; exact hod)
    exact ⟨(sb.2 p.1 away).trans e1, n1, ne1, nf1, d1⟩
  · refine (I.hok b ob e).stay (fun b2 w2 hb2 q => (sb.2 b2 fun y => ?_).trans q) (fun _ q => q) fun _ _ q => q
    rw [y, freeC] at hb2
    rcases hb2 with z | z
    · rw [← z, freeC] at e
      cases e
    · cases z
end
end Sq
set_option Elab.async false
set_option linter.all false
set_option maxRecDepth 100000
set_option maxHeartbeats 4000000
/-! for over a list, one cell kept. -/
namespace Sq
open PySem PySem.Spec PyProof.Rows L2 GenW
section
variable {X : Cx} {c : Addr} {u0 : Value} {n : Nat} {x y : Str} {p pos : Pos} {e : Expr} {te : TE} {tb : TS} {body : List Stmt}
def tForJ (K : PySem.W.Frag) (te : TE) (g : TG) (tb : TS) : TS := fun D σ H => te σ H fun v H1 => ∃ (a : Addr) (xs : List V), v = .ref a ∧ SqL K H1 a xs ∧ ∃ Pv : Nat → L2.St → Hp → Prop, Pv 0 σ H1 ∧ (∀ i σ H, Pv i σ H → SqL K H a xs) ∧
  (∀ (i : Nat) (z : V) (σ : L2.St) (H : Hp), xs[i]? = some z → Pv i σ H → g z σ H fun σ2 H2 => tb { nx := Pv (i + 1), ct := Pv (i + 1), bk := D.nx, rt := D.rt } σ2 H2) ∧ ∀ σ H, Pv xs.length σ H → D.nx σ H
end
end Sq
set_option Elab.async false
set_option linter.all false
set_option maxRecDepth 100000
set_option maxHeartbeats 4000000
/-! A list comprehension with one for, one cell kept. -/
set_option Elab.async false
set_option linter.all false
set_option maxRecDepth 100000
set_option maxHeartbeats 4000000
/-! Slices of lists, texts compared, `or` of tests, the signs of a text: one cell kept. -/
namespace Sq
open PySem PySem.Spec PyProof.Rows L2 GenW
section
variable {X : Cx} {c : Addr} {u0 : Value} {n : Nat} {x y : Str} {p pos p2 : Pos} {e e2 : Expr} {es : List Expr} {te tf : TE} {t tA tB' : TT} {lo hi : Option Expr} {tl th : TO}
/-! ### slices -/
/-! ### or -/
structure JW (X : Cx) (c : Addr) (u0 : Value) (n : Nat) (e : Expr) (t : TT) : Prop where
  run : ∀ (whole : Sem Value) (pins : List (Addr × Obj)) (s : Shared) (σ : L2.St) (H : Hp) (Q : Bool → Hp → Prop), Inv X pins σ H s → n ≤ s.toks → s.heap.IsCell c (some u0) → t σ H Q → wpAny (model X.prog X.w) X.A (isTrue e X.env whole) (fun b s' => Kn2 c n s s' ∧ TP X pins σ Q b s') X.xe s
theorem JW.pt (h : JW X c u0 n e t) : JKT X c u0 n e t := ⟨h.run _⟩
/-! ### the signs of a text, as a comprehension's source -/
end
end Sq
set_option Elab.async false
set_option linter.all false
set_option maxRecDepth 100000
set_option maxHeartbeats 4000000
/-! a, b = e, f: one cell kept. -/
set_option Elab.async false
set_option linter.all false
set_option maxRecDepth 100000
set_option maxHeartbeats 4000000
/-! A def whose promise needs one argument's token, called by keywords. -/
set_option Elab.async false
set_option linter.all false
set_option maxRecDepth 100000
set_option maxHeartbeats 4000000
/-! Written texts and truth values, return: one cell kept. -/
set_option Elab.async false
set_option linter.all false
set_option maxRecDepth 100000
set_option maxHeartbeats 4000000
/-! A call with a written sign, outside of any cell: something before it has given a token out. -/
set_option Elab.async false
set_option linter.all false
set_option maxRecDepth 100000
set_option maxHeartbeats 4000000
/-! Code that keeps what is known of the state (Θ): the raw value of a name, how many tokens were given out. -/
namespace Sq
open PySem PySem.Spec PyProof.Rows L2 GenW
/-- u was stored as x -/
def Put (X : Cx) (x : Str) (u : Value) (s s' : Shared) : Prop :=
  (X.env.scope.names.lookup x = some .local ∧ Heap.SameBut X.env.locals s.heap s'.heap ∧ ∃ m, s.heap.Ns X.env.locals m ∧ s'.heap.Ns X.env.locals (fun z => if z = x then some u else m z)) ∨
  (∃ c, X.env.cells.lookup x = some c ∧ Heap.SameBut c s.heap s'.heap ∧ s'.heap.IsCell c (some u))
/-- what code keeps that doesn't store to ys -/
structure Clo (X : Cx) (ys : List Str) (Θ : Shared → Prop) : Prop where
  but : ∀ {pins : List (Addr × Obj)} {σ : L2.St} {H : Hp} {s s' : Shared} (fp : List Addr), Inv X pins σ H s → s.toks ≤ s'.toks → (∀ b ∈ fp, b ≠ X.env.locals ∧ ∀ x c, X.env.cells.lookup x = some c → c ≠ b) → (∀ b o, b ∉ fp → s.heap.get? b = some o → s'.heap.get? b = some o) → Θ s → Θ s'
  un : ∀ {pins : List (Addr × Obj)} {σ : L2.St} {H H' : Hp} {s s' : Shared} (ex : List Addr), Inv X pins σ H s → s.toks ≤ s'.toks → (∀ b ∈ ex, b ≠ X.env.locals ∧ ∀ x c, X.env.cells.lookup x = some c → c ≠ b) → Un (frs X.stack) ex H H' s.heap s'.heap → Θ s → Θ s'
  st : ∀ {pins : List (Addr × Obj)} {σ : L2.St} {H : Hp} {s s' : Shared} {x : Str} {u : Value}, Inv X pins σ H s → x ∉ ys → s.toks ≤ s'.toks → Put X x u s s' → Θ s → Θ s'
theorem Clo.kept {X : Cx} {ys : List Str} {Θ : Shared → Prop} (C : Clo X ys Θ) {pins : List (Addr × Obj)} {σ : L2.St} {H : Hp} {s s' : Shared} (I : Inv X pins σ H s) (t : s.toks ≤ s'.toks) (k : ∀ b o, s.heap.get? b = some o → s'.heap.get? b = some o) (θ : Θ s) : Θ s' :=
  C.but [] I t (fun _ z => nomatch z) (fun b o _ e => k b o e) θ
theorem Clo.tok {X : Cx} {ys : List Str} {Θ : Shared → Prop} (C : Clo X ys Θ) {pins : List (Addr × Obj)} {σ : L2.St} {H : Hp} {s : Shared} (I : Inv X pins σ H s) (θ : Θ s) : Θ { s with toks := s.toks + 1 } :=
  C.kept I (Nat.le_add_right _ _) (fun _ _ e => e) θ
theorem Clo.push {X : Cx} {ys : List Str} {Θ : Shared → Prop} (C : Clo X ys Θ) {pins : List (Addr × Obj)} {σ : L2.St} {H : Hp} {s : Shared} {o : Obj} (I : Inv X pins σ H s) (θ : Θ s) : Θ { s with heap := s.heap.push o } :=
  C.kept I (Nat.le_refl _) (fun _ _ e => Heap.get?_push_of_some _ e) θ
theorem Clo.un0 {X : Cx} {ys : List Str} {Θ : Shared → Prop} (C : Clo X ys Θ) {pins : List (Addr × Obj)} {σ : L2.St} {H H' : Hp} {s s' : Shared} (I : Inv X pins σ H s) (t : s.toks ≤ s'.toks) (u : Un (frs X.stack) [] H H' s.heap s'.heap) (θ : Θ s) : Θ s' :=
  C.un [] I t (fun _ z => nomatch z) u θ
/-- n tokens were given out -/
theorem clo_n {X : Cx} {n : Nat} : Clo X [] (fun s => n ≤ s.toks) :=
  ⟨fun _ _ t _ _ h => Nat.le_trans h t, fun _ _ t _ _ h => Nat.le_trans h t, fun _ _ t _ h => Nat.le_trans h t⟩
theorem Clo.and {X : Cx} {ys zs : List Str} {Θ Φ : Shared → Prop} (a : Clo X ys Θ) (b : Clo X zs Φ) : Clo X (ys ++ zs) (fun s => Θ s ∧ Φ s) :=
  ⟨fun fp I t f k h => ⟨a.but fp I t f k h.1, b.but fp I t f k h.2⟩, fun ex I t f u h => ⟨a.un ex I t f u h.1, b.un ex I t f u h.2⟩,
    fun I n t p h => ⟨a.st I (fun z => n (List.mem_append_left _ z)) t p h.1, b.st I (fun z => n (List.mem_append_right _ z)) t p h.2⟩⟩
/-- the raw value of a local name -/
def Raw (X : Cx) (y : Str) (u : Value) (s : Shared) : Prop := ∃ m, s.heap.Ns X.env.locals m ∧ m y = some u
theorem clo_raw {X : Cx} {y : Str} {u : Value} (hl : X.env.scope.names.lookup y = some .local) : Clo X [y] (Raw X y u) := by
  refine ⟨fun {pins σ H s s'} fp I t f k h => ?_, fun {pins σ H H' s s'} ex I t f un h => ?_, fun {pins σ H s s' x v} I n t p h => ?_⟩
  · obtain ⟨m, ⟨o, es, ep, ho, rest⟩, e⟩ := h
    exact ⟨m, ⟨o, es, ep, k _ _ (fun z => (f _ z).1 rfl) ho, rest⟩, e⟩
  · obtain ⟨m, ⟨o, es, ep, ho, rest⟩, e⟩ := h
    obtain ⟨sl, e2⟩ := un.any ho I.free (fun z => (f _ z).1 rfl)
    exact ⟨m, ⟨_, es, ep, e2, rest⟩, e⟩
  · obtain ⟨m, ns, e⟩ := h
    have ne : y ≠ x := fun z => n (by rw [z]; exact List.mem_singleton_self _)
    rcases p with ⟨_, _, m2, ns2, new⟩ | ⟨c, hc, sb, _⟩
    · refine ⟨_, new, ?_⟩
      show (if y = x then some v else m2 y) = some u
      rw [if_neg ne, ns2.agree ns y]
      exact e
    · exact ⟨m, ns.sameBut sb (Ne.symm (I.cne x c hc)), e⟩
section
variable {X : Cx} {pins : List (Addr × Obj)} {σ : L2.St} {H : Hp} {s : Shared} {x : Str}
/-- a name is stored; what is known of the state afterwards -/
theorem put_ok {M : Model} {A : Around} {E : Value → Shared → Prop} {i : Nat} {v : V} {u : Value} {Q : Unit → Shared → Prop} (I : Inv X pins σ H s) (hN : X.N.Nodup) (hi : X.N[i]? = some x) (hx : Loc X.env.scope x) (r : RelV v u)
    (h : ∀ s', Inv X pins (σ.set i (some v)) H s' → s.toks ≤ s'.toks → Put X x u s s' → Q () s') (hf : X.fn x = true ∨ X.env.scope.names.lookup x = some .local) : wpAny M A (storeName X.env x u) Q E s := by
  rcases hx with hk | hk
  · obtain ⟨m, ns, look⟩ := id I.loc
    have inside : i < σ.length := by rw [I.len]; exact (List.getElem?_eq_some_iff.mp hi).1
    have notcls : (X.env.scope.kind == .class || (X.env.scope.kind == .module && X.env.locals != X.env.globals)) = false := by rw [I.ok.kind]; rfl
    refine wpAny_storeName_local hk ns (fun g ns2 sb => ?_) notcls
    obtain ⟨oF, _, _, hoF, _⟩ := id ns
    have low : ∀ b o, X.s_0.heap.get? b = some o → b ≠ X.env.locals := fun b o e => Nat.ne_of_lt (Nat.lt_of_lt_of_le (Heap.lt_size e) I.ok.above)
    have objs : HOk X.prog X.w H g := fun b ob e => by
      refine (I.hok b ob e).stay (fun c2 w2 h2 q => (sb.2 c2 fun z => ?_).trans q) (fun _ q => q) fun _ _ q => q
      subst z
      rcases h2 with z | z
      · rw [← z, I.free] at e
        cases e
      · rw [I.free] at z
        cases z
    have loc2 : ∀ (j : Nat) (z : Str) (w : V), X.N[j]? = some z → (σ.set i (some v))[j]? = some (some w) → Vis X.env.scope z → ∃ u', RelV w u' ∧ Look X.env g (fun y => if y = x then some u else m y) z u' := fun j z w e1 e2 e3 => by
      by_cases ji : j = i
      · subst ji
        rw [hi] at e1
        cases e1
        rw [List.getElem?_set_self inside] at e2
        cases e2
        exact ⟨u, r, .inl ⟨hk, by simp⟩⟩
      · rw [List.getElem?_set_ne (Ne.symm ji)] at e2
        obtain ⟨u', r', q⟩ := look j z w e1 e2 e3
        have zx : z ≠ x := fun e => ji (nodup_ix hN e1 (e ▸ hi))
        rcases q with ⟨k, e⟩ | ⟨k, c2, e, z4⟩
        · exact ⟨u', r', .inl ⟨k, by simp [zx, e]⟩⟩
        · exact ⟨u', r', .inr ⟨k, c2, e, z4.sameBut sb (I.cne z c2 e)⟩⟩
    refine h _ ⟨I.ok, I.os, I.bare, ⟨fun b o e n hb hx2 => (sb.2 b (low b o e)).trans (I.base.keep b o e n hb hx2), fun b o e n hb hx2 => ?_, I.base.free, fun b o e hx2 => ?_, I.base.tups, I.base.frzs, I.base.tbls⟩, ⟨_, ns2, loc2⟩, fun z c2 e => ?_, I.free, I.freeC, fun p hp => ?_, objs, by simpa using I.len⟩ (Nat.le_add_right _ _) (.inl ⟨hk, sb, m, ns, ns2⟩)
    · obtain ⟨sl, e1⟩ := I.base.slot b o e n hb hx2
      exact ⟨sl, (sb.2 b (low b o e)).trans e1⟩
    · obtain ⟨o2, e1⟩ := I.base.there b o e hx2
      exact ⟨o2, (sb.2 b (low b o e)).trans e1⟩
    · obtain ⟨w2, z2⟩ := I.cell z c2 e
      exact ⟨w2, z2.sameBut sb (I.cne z c2 e)⟩
    · obtain ⟨e, n, ne, nf, d⟩ := I.pin p hp
      exact ⟨(sb.2 p.1 ne).trans e, n, ne, nf, d⟩
  · have own : X.fn x = true := by
      rcases hf with z | z
      · exact z
      · rw [z] at hk; cases hk
    obtain ⟨c, hc⟩ := I.ok.has x (.inl hk)
    exact store_cellS I hN hi hk ⟨hc, own⟩ r fun h' I2 cell sb => h _ I2 (Nat.le_refl _) (.inr ⟨c, hc, sb, cell⟩)
end
end Sq
set_option Elab.async false
set_option linter.all false
set_option maxRecDepth 100000
set_option maxHeartbeats 4000000
/-! Judgements that keep what is known of the state. -/
namespace Sq
open PySem PySem.Spec PyProof.Rows L2 GenW
structure We (X : Cx) (Θ : Shared → Prop) (e : Expr) (t : TE) : Prop where
  run : ∀ (pins : List (Addr × Obj)) (s : Shared) (σ : L2.St) (H : Hp) (Q : VK), Inv X pins σ H s → Θ s → t σ H Q → wpAny (model X.prog X.w) X.A (eval e X.env) (fun u s' => Θ s' ∧ EP X pins σ Q u s') X.xe s
structure Wa (X : Cx) (Θ : Shared → Prop) (es : List Expr) (t : TA) : Prop where
  run : ∀ (pos : Pos) (pins : List (Addr × Obj)) (s : Shared) (σ : L2.St) (H : Hp) (Q : List V → Hp → Prop), Inv X pins σ H s → Θ s → t σ H Q → wpAny (model X.prog X.w) X.A (spliced (backTo pos (starEach es X.env))) (fun us s' => Θ s' ∧ AP X pins σ Q us s') X.xe s
structure Wt (X : Cx) (Θ : Shared → Prop) (e : Expr) (t : TT) : Prop where
  run : ∀ (pins : List (Addr × Obj)) (s : Shared) (σ : L2.St) (H : Hp) (Q : Bool → Hp → Prop), Inv X pins σ H s → Θ s → t σ H Q → wpAny (model X.prog X.w) X.A (isTrue e X.env (eval e X.env)) (fun b s' => Θ s' ∧ TP X pins σ Q b s') X.xe s
structure Ws (X : Cx) (Θ : Shared → Prop) (st : Stmt) (t : TS) : Prop where
  run : ∀ (pins : List (Addr × Obj)) (s : Shared) (σ : L2.St) (H : Hp) (D : Ends), Inv X pins σ H s → Θ s → t D σ H → wpAny (model X.prog X.w) X.A (exec st X.env) (fun f s' => Θ s' ∧ SP X pins D f s') X.xe s
structure Wss (X : Cx) (Θ : Shared → Prop) (sts : List Stmt) (t : TS) : Prop where
  run : ∀ (pins : List (Addr × Obj)) (s : Shared) (σ : L2.St) (H : Hp) (D : Ends), Inv X pins σ H s → Θ s → t D σ H → wpAny (model X.prog X.w) X.A (execs sts X.env) (fun f s' => Θ s' ∧ SP X pins D f s') X.xe s
/-- where it need not be known behind it -/
structure Wu (X : Cx) (Θ : Shared → Prop) (sts : List Stmt) (t : TS) : Prop where
  run : ∀ (pins : List (Addr × Obj)) (s : Shared) (σ : L2.St) (H : Hp) (D : Ends), Inv X pins σ H s → Θ s → t D σ H → wpAny (model X.prog X.w) X.A (execs sts X.env) (SP X pins D) X.xe s
/-- raw arguments of which the j-th is known -/
structure Wx (X : Cx) (Θ : Shared → Prop) (j : Nat) (es : List Expr) (t : TA) : Prop where
  run : ∀ (pos : Pos) (pins : List (Addr × Obj)) (s : Shared) (σ : L2.St) (H : Hp) (Q : List V → Hp → Prop), Inv X pins σ H s → Θ s → t σ H Q → wpAny (model X.prog X.w) X.A (spliced (backTo pos (starEach es X.env))) (fun us s' => (Θ s' ∧ Tkn j us s'.toks) ∧ AP X pins σ Q us s') X.xe s
structure Wk (X : Cx) (Θ : Shared → Prop) (kws : List Keyword) (t : TA) : Prop where
  run : ∀ (pos : Pos) (pins : List (Addr × Obj)) (s : Shared) (σ : L2.St) (H : Hp) (Q : List V → Hp → Prop), Inv X pins σ H s → Θ s → t σ H Q → wpAny (model X.prog X.w) X.A (evalAll ((backToKw pos (keywordEach kws X.env)).map (·.2))) (fun us s' => Θ s' ∧ AP X pins σ Q us s') X.xe s
/-- the raw value u of the name y is known, and if it is a text of one sign, its token -/
structure Known (X : Cx) (Θ : Shared → Prop) (y : Str) : Prop where
  kn : ∀ (s : Shared), Θ s → ∃ u, Tkn 0 [u] s.toks ∧ ((X.env.kindOf y = some .local ∧ Raw X y u s) ∨ (X.env.kindOf y = some .cell ∧ ∃ c, X.env.cells.lookup y = some c ∧ s.heap.IsCell c (some u)))
def OpW (X : Cx) (Θ : Shared → Prop) (op : Value → Value → Sem Value) (r : R2) : Prop :=
  ∀ (pins : List (Addr × Obj)) (s : Shared) (σ : L2.St) (H : Hp) (x y : V) (v u : Value) (Q : VK), Inv X pins σ H s → Θ s → RelV x v → RelV y u → r x y H Q → wpAny (model X.prog X.w) X.A (op v u) (fun w s' => Θ s' ∧ EP X pins σ Q w s') X.xe s
def CallW (X : Cx) (Θ : Shared → Prop) (f : Value) (r : List V → Hp → VK → Prop) : Prop := ∀ (pins : List (Addr × Obj)) (s : Shared) (σ : L2.St) (H : Hp) (vs : List V) (us : List Value) (Q : VK), Inv X pins σ H s → Θ s → Vals vs us → r vs H Q → wpAny (model X.prog X.w) X.A (call f us) (fun u s' => Θ s' ∧ EP X pins σ Q u s') X.xe s
section
variable {X : Cx} {Θ : Shared → Prop} {ys : List Str} {pins : List (Addr × Obj)} {σ : L2.St} {H : Hp} {s : Shared} {x y : Str} {p pos kpos : Pos} {e e2 : Expr} {es : List Expr} {te tf : TE} {t tk : TA} {st : Stmt} {a b rest : List Stmt} {ts tr : TS} {tt : TT} {kws : List Keyword} {nm : Option Str} {n j : Nat}
/-! ### expressions -/
theorem we_var {i : Nat} (hN : X.N[i]? = some x) (hv : Vis X.env.scope x) (hd : (x == ("__debug__" : Str)) = false := by decide) (hcd : (x == ("__classdict__" : Str)) = false := by decide) : We X Θ (.Name x pos) (tVar i) :=
  ⟨fun pins s σ H Q I θ h => by
    obtain ⟨v, e, q⟩ := h
    exact raw_name hN hv I e (fun u r => ⟨θ, v, H, I, r, q⟩) hd hcd⟩
theorem wv (i : Nat) (hN : X.N[i]? = some x := by rfl) (hv : Vis X.env.scope x := by first | exact Or.inl rfl | exact Or.inr (Or.inl rfl) | exact Or.inr (Or.inr rfl)) (hd : (x == ("__debug__" : Str)) = false := by decide)
    (hcd : (x == ("__classdict__" : Str)) = false := by decide) : We X Θ (.Name x pos) (tVar i) := we_var hN hv hd hcd
theorem we_int (C : Clo X ys Θ) {i : Int} {k : Nat} : We X Θ (.Constant (.int i) k pos) (tC (.int i)) :=
  ⟨fun pins s σ H Q I θ h => wpAny_Constant_int ⟨C.tok I θ, .int i, H, I.tok _, ⟨_, rfl⟩, h⟩⟩
theorem we_str (C : Clo X ys Θ) {z : Str} {k : Nat} : We X Θ (.Constant (.str z) k pos) (tC (.str z)) :=
  ⟨fun pins s σ H Q I θ h => Calls.Constant_str ⟨C.tok I θ, .str z, H, I.tok _, ⟨_, rfl⟩, h⟩⟩
theorem we_bl {b : Bool} {k : Nat} : We X Θ (.Constant (.bool b) k pos) (tC (.bl b)) :=
  ⟨fun pins s σ H Q I θ h => Constant_bool ⟨θ, .bl b, H, I, rfl, h⟩⟩
theorem wa_nil : Wa X Θ [] tNil := ⟨fun pos pins s σ H Q I θ h => Calls.spliced_nil ⟨θ, [], H, I, .nil, h⟩⟩
theorem wa_cons (ha : We X Θ e te) (hr : Wa X Θ es t) (hs : starEach (e :: es) X.env = (false, eval e X.env) :: starEach es X.env := by rfl) : Wa X Θ (e :: es) (tCons te t) := by
  refine ⟨fun pos pins s σ H Q I θ h => ?_⟩
  rw [hs]
  show wpAny _ _ (spliced ((false, eval e X.env) :: backTo pos (starEach es X.env))) _ _ s
  refine Calls.spliced_cons (thn (ha.run pins s σ H _ I θ h) fun u s1 hh => ?_)
  obtain ⟨g1, x, H1, I1, r1, q1⟩ := hh
  exact thn (hr.run pos pins s1 σ H1 _ I1 g1 q1) fun us s2 ⟨g2, xs, H2, I2, r2, q2⟩ => ⟨g2, x :: xs, H2, I2, .cons r1 r2, q2⟩
/-- [e, ..] -/
theorem we_lst (C : Clo X ys Θ) (h : Wa X Θ es t) : We X Θ (.List es pos) (tLst t) := by
  refine ⟨fun pins s σ H Q I θ hq => ?_⟩
  refine wpAny_List_spliced (thn (h.run pos pins s σ H _ I θ hq) fun us s1 hh => ?_)
  obtain ⟨g1, xs, H1, I1, r, z, q⟩ := hh
  refine ⟨by rw [← r.length]; exact z, C.push I1 g1, .ref s1.heap.objs.size, upd H1 s1.heap.objs.size (.lst xs), I1.laid (t' := s1.toks) (fun b u e => Heap.get?_push_of_some _ e) (Nat.le_refl _) ?_, rfl, q _ (I1.hok.fresh (Nat.le_refl _))⟩
  exact ⟨z, us, 0, r, Heap.get?_push_size _ rfl⟩
theorem we_op {op : Operator} {r : R2} (ho : OpW X Θ (binaryOp op) r) (ha : We X Θ e te) (hb : We X Θ e2 tf) : We X Θ (.BinOp e op e2 pos) (tOp r te tf) := by
  refine ⟨fun pins s σ H Q I θ h => ?_⟩
  refine wpAny_BinOp (thn (ha.run pins s σ H _ I θ h) fun v s1 hh => ?_)
  obtain ⟨g1, a, H1, I1, r1, q1⟩ := hh
  refine thn (hb.run pins s1 σ H1 _ I1 g1 q1) fun u s2 hh => ?_
  obtain ⟨g2, b, H2, I2, r2, q2⟩ := hh
  exact ho pins s2 σ H2 a b v u Q I2 g2 r1 r2 q2
theorem we_callD {k : Nat} {ps : List Str} {sp : Sp} (C : Clo X ys Θ) (D : Df X.prog X.w X.K X.mg X.base k x ps sp) (hr : Room k X.A) (hg : Gl X x) (ha : Wa X Θ (e :: es) t) (hdb : (x == ("__debug__" : Str)) = false := by decide)
    (he : starEach (e :: es) X.env = (false, eval e X.env) :: starEach es X.env := by rfl) (hpl : (backTo pos (starEach es X.env)).any (·.1) = false := by rfl) : We X Θ (.Call (.Name x p) (e :: es) [] pos) (tCall sp [] E0 t) := by
  obtain ⟨f, fd, F, g, kp, b⟩ := D.ex
  refine ⟨fun pins s σ H Q I θ h => ?_⟩
  refine wpAny_Call_Name_kw (ld_glob I hg g ?_ hdb)
  refine PySem.W.callWith_K (h₀ := X.base) I.ok.mod.kin kp (thn (ha.run pos pins s σ H _ I θ h) fun us s1 hh => ?_) he hpl
  obtain ⟨g1, vs, H1, I1, r, q⟩ := hh
  refine ⟨I1.kIn, ?_⟩
  rw [List.append_nil] at q
  have hl : us.length = ps.length := by rw [← r.length]; exact F.len _ _ _ _ q
  have bind := b s1 us I1.kIn (by rw [List.append_nil]; exact hl)
  rw [List.append_nil] at bind
  have called : wpAny (model X.prog X.w) X.A (call (.ref f) us) (fun u s' => (s1.toks ≤ s'.toks → Θ s') ∧ EP X pins σ Q u s') X.xe s1 := by
    refine wpAny_call (codeAny_mono (F.run X.A X.stack s1 H1 ⟨us, []⟩ us vs Q E0 hr I1.env0 bind r q) fun r s' hq => ?_)
    match r, hq with
    | .error e, hq => exact pass0 pins σ H1 s1 e s' I1 hq
    | .ok (.ret u), hq =>
      have ce : CE X.stack X.prog X.w H1 s1 Q u s' := hq
      obtain ⟨_, _, _, _, un, _⟩ := id ce
      exact ⟨fun up => C.un0 I1 up un g1, I1.after ce⟩
  exact wpAny_mono (PySem.wpAny_toks called) (fun u s' z => ⟨z.2.1 z.1, z.2.2⟩) fun _ _ z => z.2
end
end Sq
set_option Elab.async false
set_option linter.all false
set_option maxRecDepth 100000
set_option maxHeartbeats 4000000
/-! Calls with a raw argument that is known; tests, statements, loops. -/
namespace Sq
open PySem PySem.Spec PyProof.Rows L2 GenW
section
variable {X : Cx} {Θ : Shared → Prop} {ys : List Str} {pins : List (Addr × Obj)} {σ : L2.St} {H : Hp} {s : Shared} {x y : Str} {p pos kpos : Pos} {e e2 : Expr} {es : List Expr} {te tf : TE} {t tk : TA} {st : Stmt} {a b rest : List Stmt} {ts tr : TS} {tt tu : TT} {kws : List Keyword} {nm : Option Str} {n j : Nat}
/-! ### a known name -/
theorem known_eval {E : Value → Shared → Prop} {Q : Value → Shared → Prop} {i : Nat} {v : V} (Kn : Known X Θ y) (I : Inv X pins σ H s) (θ : Θ s) (hN : X.N[i]? = some y) (hv : Vis X.env.scope y) (h : σ[i]? = some (some v)) (fin : ∀ u, RelV v u → Tkn 0 [u] s.toks → Q u s) (hd : (y == ("__debug__" : Str)) = false := by decide) :
    wpAny (model X.prog X.w) X.A (eval (.Name y p) X.env) Q E s := by
  obtain ⟨u, tk, where_⟩ := Kn.kn s θ
  obtain ⟨m, hns, look⟩ := I.loc
  obtain ⟨u2, r, l⟩ := look i y v hN h hv
  rcases where_ with ⟨k, m2, ns2, e2⟩ | ⟨k, c, hc, cell⟩
  · have eu : u2 = u := by
      rcases l with ⟨_, q⟩ | ⟨k1, _⟩
      · rw [hns.agree ns2 y, e2] at q
        exact (Option.some.inj q).symm
      · rw [k] at k1
        rcases k1 with z | z <;> cases z
    subst eu
    exact wpAny_Name (wpAny_loadName_local I.ok.kind k ns2 e2 (fin _ r tk)) hd
  · have eu : u2 = u := by
      rcases l with ⟨k1, _⟩ | ⟨_, c1, e1, cell1⟩
      · rw [k] at k1
        cases k1
      · rw [hc] at e1
        obtain rfl : c = c1 := Option.some.inj e1
        obtain ⟨o1, g1, d1⟩ := cell
        obtain ⟨o2, g2, d2⟩ := cell1
        rw [g1] at g2
        obtain rfl : o1 = o2 := Option.some.inj g2
        rw [d1] at d2
        injection d2 with d2
        exact (Option.some.inj d2).symm
    subst eu
    exact wpAny_Name (wpAny_loadName_cell I.ok.kind k hc cell (fin _ r tk)) hd
theorem wx_name {i : Nat} (Kn : Known X Θ y) (hN : X.N[i]? = some y) (hv : Vis X.env.scope y) (hr : Wa X Θ es t) (hs : starEach (.Name y p :: es) X.env = (false, eval (.Name y p) X.env) :: starEach es X.env := by rfl) (hd : (y == ("__debug__" : Str)) = false := by decide) :
    Wx X Θ 0 (.Name y p :: es) (tCons (tVar i) t) := by
  refine ⟨fun pos pins s σ H Q I θ h => ?_⟩
  rw [hs]
  show wpAny _ _ (spliced ((false, eval (.Name y p) X.env) :: backTo pos (starEach es X.env))) _ _ s
  obtain ⟨v, e, q⟩ := h
  refine Calls.spliced_cons (known_eval Kn I θ hN hv e (fun u r good => ?_) hd)
  refine wpAny_mono (PySem.wpAny_toks (hr.run pos pins s σ H _ I θ q)) (fun us s2 hh => ?_) fun _ _ z => z.2
  obtain ⟨up, g2, xs, H2, I2, r2, q2⟩ := hh
  exact ⟨⟨g2, fun b tk eb one => ⟨(good b tk eb one).1, Nat.lt_of_lt_of_le (good b tk eb one).2 up⟩⟩, v :: xs, H2, I2, .cons r r2, q2⟩
theorem wx_skip (ha : We X Θ e te) (hr : Wx X Θ j es t) (hs : starEach (e :: es) X.env = (false, eval e X.env) :: starEach es X.env := by rfl) : Wx X Θ (j + 1) (e :: es) (tCons te t) := by
  refine ⟨fun pos pins s σ H Q I θ h => ?_⟩
  rw [hs]
  show wpAny _ _ (spliced ((false, eval e X.env) :: backTo pos (starEach es X.env))) _ _ s
  refine Calls.spliced_cons (thn (ha.run pins s σ H _ I θ h) fun u s1 hh => ?_)
  obtain ⟨g1, v, H1, I1, r1, q1⟩ := hh
  exact thn (hr.run pos pins s1 σ H1 _ I1 g1 q1) fun us s2 ⟨g2, xs, H2, I2, r2, q2⟩ => ⟨g2, v :: xs, H2, I2, .cons r1 r2, q2⟩
/-- f(..) -/
theorem we_callT {k : Nat} {ps : List Str} {sp : Sp} (C : Clo X ys Θ) (D : DfT X.prog X.w X.K X.mg X.base k x ps j sp) (hr : Room k X.A) (hg : Gl X x) (ha : Wx X Θ j (e :: es) t) (hdb : (x == ("__debug__" : Str)) = false := by decide)
    (he : starEach (e :: es) X.env = (false, eval e X.env) :: starEach es X.env := by rfl) (hpl : (backTo pos (starEach es X.env)).any (·.1) = false := by rfl) : We X Θ (.Call (.Name x p) (e :: es) [] pos) (tCall sp [] E0 t) := by
  obtain ⟨f, fd, F, g, kp, b⟩ := D.ex
  refine ⟨fun pins s σ H Q I θ h => ?_⟩
  refine wpAny_Call_Name_kw (ld_glob I hg g ?_ hdb)
  refine PySem.W.callWith_K (h₀ := X.base) I.ok.mod.kin kp (thn (ha.run pos pins s σ H _ I θ h) fun us s1 hh => ?_) he hpl
  obtain ⟨⟨g1, tk⟩, vs, H1, I1, r, q⟩ := hh
  refine ⟨I1.kIn, ?_⟩
  rw [List.append_nil] at q
  have hl : us.length = ps.length := by rw [← r.length]; exact F.len _ _ _ _ q
  have bind := b s1 us I1.kIn (by rw [List.append_nil]; exact hl)
  rw [List.append_nil] at bind
  have called : wpAny (model X.prog X.w) X.A (call (.ref f) us) (fun u s' => (s1.toks ≤ s'.toks → Θ s') ∧ EP X pins σ Q u s') X.xe s1 := by
    refine wpAny_call (codeAny_mono (F.run X.A X.stack s1 H1 ⟨us, []⟩ us vs Q hr I1.env0 bind r tk q) fun r s' hq => ?_)
    match r, hq with
    | .ok (.ret u), hq =>
      have ce : CE X.stack X.prog X.w H1 s1 Q u s' := hq
      obtain ⟨_, _, _, _, un, _⟩ := id ce
      exact ⟨fun up => C.un0 I1 up un g1, I1.after ce⟩
  exact wpAny_mono (PySem.wpAny_toks called) (fun u s' z => ⟨z.2.1 z.1, z.2.2⟩) fun _ _ z => z.2
/-! ### keywords -/
theorem wk_nil : Wk X Θ [] tNil := ⟨fun _ _ _ _ H Q I θ h => wpAny_evalAll_nil ⟨θ, [], H, I, .nil, h⟩⟩
theorem wk_cons (ha : We X Θ e te) (hr : Wk X Θ kws t) : Wk X Θ (⟨nm, e, kpos⟩ :: kws) (tCons te t) := by
  refine ⟨fun pos pins s σ H Q I θ h => ?_⟩
  show wpAny _ _ (evalAll ((do let v ← eval e X.env; standAt pos; pure v) :: (backToKw pos (keywordEach kws X.env)).map (·.2))) _ _ s
  refine wpAny_evalAll_cons (wpAny_bind (thn (ha.run pins s σ H _ I θ h) fun u s1 hh => wpAny_bind (wpAny_standAt (wpAny_pure ?_))))
  obtain ⟨g1, v, H1, I1, r1, q1⟩ := hh
  exact thn (hr.run pos pins s1 σ H1 _ I1 g1 q1) fun us s2 ⟨g2, xs, H2, I2, r2, q2⟩ => ⟨g2, v :: xs, H2, I2, .cons r1 r2, q2⟩
/-! ### tests -/
theorem wt_cmp {op : CmpOp} {r : R2} (ho : OpW X Θ (compareOp op) r) (ha : We X Θ e te) (hb : We X Θ e2 tf) (hm : behindInMarks op e2 = false) : Wt X Θ (.Compare e [op] [e2] pos) (tTest (tOp r te tf)) := by
  refine ⟨fun pins s σ H Q I θ h => ?_⟩
  refine wpAny_isTrue_Compare1 (thn (ha.run pins s σ H _ I θ h) fun v s1 hh => ?_) hm
  obtain ⟨g1, a, H1, I1, r1, q1⟩ := hh
  refine thn (hb.run pins s1 σ H1 _ I1 g1 q1) fun u s2 hh => ?_
  obtain ⟨g2, b, H2, I2, r2, q2⟩ := hh
  refine thn (ho pins s2 σ H2 a b v u _ I2 g2 r1 r2 q2) (fun w s3 z => ?_)
  obtain ⟨g3, b3, H3, I3, r3, k, e3, q3⟩ := z
  subst e3
  cases r3
  exact wpAny_truthy_bool ⟨g3, H3, I3, q3⟩
/-! ### statements -/
theorem wss_nil : Wss X Θ [] tNext := ⟨fun _ _ σ H _ I θ h => wpAny_execs_nil ⟨θ, σ, H, I, h⟩⟩
theorem wss_cons (h1 : Ws X Θ st ts) (h2 : Wss X Θ rest tr) : Wss X Θ (st :: rest) (tSeq ts tr) := by
  refine ⟨fun pins s σ H D I θ h => ?_⟩
  refine wpAny_execs_cons (thn (h1.run pins s σ H { D with nx := tr D } I θ h) fun f s1 hh => ?_)
  obtain ⟨g1, q⟩ := hh
  match f, q with
  | .next, ⟨σ', H', I', q⟩ => exact h2.run pins s1 σ' H' D I' g1 q
  | .ret v, q => exact ⟨g1, q⟩
  | .brk, q => exact ⟨g1, q⟩
  | .cont, q => exact ⟨g1, q⟩
theorem wss_one (h1 : Ws X Θ st ts) : Wss X Θ [st] ts := by
  refine ⟨fun pins s σ H D I θ h => ?_⟩
  refine wpAny_execs_cons (thn (h1.run pins s σ H D I θ h) fun f s1 hh => ?_)
  obtain ⟨g1, q⟩ := hh
  match f, q with
  | .next, q => exact wpAny_execs_nil ⟨g1, q⟩
  | .ret v, q => exact ⟨g1, q⟩
  | .brk, q => exact ⟨g1, q⟩
  | .cont, q => exact ⟨g1, q⟩
theorem pss_no : PSs X rest (fun _ _ _ => False) := ⟨fun _ _ _ _ _ _ h => h.elim⟩
theorem wu_of (h : Wss X Θ rest tr) : Wu X Θ rest tr := ⟨fun pins s σ H D I θ q => wpAny_mono (h.run pins s σ H D I θ q) (fun _ _ z => z.2) fun _ _ z => z⟩
theorem wu_ps (h : PSs X rest tr) : Wu X Θ rest tr := ⟨fun pins s σ H D I θ q => h.run pins s σ H D I q⟩
theorem wu_cons (h1 : Ws X Θ st ts) (h2 : Wu X Θ rest tr) : Wu X Θ (st :: rest) (tSeq ts tr) := by
  refine ⟨fun pins s σ H D I θ h => ?_⟩
  refine wpAny_execs_cons (thn (h1.run pins s σ H { D with nx := tr D } I θ h) fun f s1 hh => ?_)
  obtain ⟨g1, q⟩ := hh
  match f, q with
  | .next, ⟨σ', H', I', q⟩ => exact h2.run pins s1 σ' H' D I' g1 q
  | .ret v, q => exact q
  | .brk, q => exact q
  | .cont, q => exact q
theorem ws_expr (he : We X Θ e te) (hs : swapsWith e none pos.line X.env = pure false := by rfl) : Ws X Θ (.Expr e pos) (tDrop te) := by
  refine ⟨fun pins s σ H D I θ h => ?_⟩
  refine wpAny_Expr_any (thn (he.run pins s σ H _ I θ h) fun v s1 hh => ?_) I.quiet hs
  obtain ⟨g1, x, H1, I1, r1, q1⟩ := hh
  exact ⟨g1, σ, H1, I1, q1⟩
theorem ws_set {i : Nat} {pos' : Pos} (C : Clo X ys Θ) (ne : x ∉ ys) (hN : X.N.Nodup) (hi : X.N[i]? = some x) (hx : Loc X.env.scope x) (he : We X Θ e te) (hs : swapsWith e (some (.Name x pos')) pos.line X.env = pure false := by rfl) (hf : X.fn x = true ∨ X.env.scope.names.lookup x = some .local := by first | exact .inl rfl | exact .inr rfl | assumption) :
    Ws X Θ (.Assign [.Name x pos'] e pos) (tAsg te (gName i)) := by
  refine ⟨fun pins s σ H D I θ h => ?_⟩
  refine wpAny_Assign_Name (thn (he.run pins s σ H _ I θ h) fun v s1 hh => ?_) hs
  obtain ⟨g1, z, H1, I1, r1, q1⟩ := hh
  exact put_ok I1 hN hi hx r1 (fun s2 I2 up pt => ⟨C.st I1 ne up pt g1, _, H1, I2, q1⟩) hf
theorem ws_if {ce : Expr} (hc : Wt X Θ ce tt) (ha : Wss X Θ a ts) (hb : Wss X Θ b tr) : Ws X Θ (.If ce a b pos) (tIfS tt ts tr) := by
  refine ⟨fun pins s σ H D I θ h => ?_⟩
  refine wpAny_If (thn (hc.run pins s σ H _ I θ h) fun d s1 hh => ?_)
  obtain ⟨g1, H1, I1, q1⟩ := hh
  cases d with
  | true => exact ha.run pins s1 σ H1 D I1 g1 q1
  | false => exact hb.run pins s1 σ H1 D I1 g1 q1
theorem ws_ret (he : We X Θ e te) : Ws X Θ (.Return (some e) pos) (tRet te) := by
  refine ⟨fun pins s σ H D I θ h => ?_⟩
  refine wpAny_Return_some (thn (he.run pins s σ H _ I θ h) fun v s1 hh => ?_)
  obtain ⟨g1, x, H1, I1, r1, q1⟩ := hh
  exact ⟨g1, x, σ, H1, I1, r1, q1⟩
end
/-- Known, of a local name -/
theorem known_local {X : Cx} {y : Str} {u : Value} {n : Nat} (hk : X.env.kindOf y = some .local) (good : Tkn 0 [u] n) : Known X (fun s => Raw X y u s ∧ n ≤ s.toks) y :=
  ⟨fun s h => ⟨u, fun b t e one => ⟨(good b t e one).1, Nat.lt_of_lt_of_le (good b t e one).2 h.2⟩, .inl ⟨hk, h.1⟩⟩⟩
end Sq
set_option Elab.async false
set_option linter.all false
set_option maxRecDepth 100000
set_option maxHeartbeats 4000000
/-! Promises that want one argument's token, from walks that know it. -/
namespace Sq
open PySem PySem.Spec PyProof.Rows L2 GenW
section
variable {P : Program} {w : World} {K : PySem.W.Frag} {mg : Str → Option Value} {base : Heap} {k j : Nat} {f : Addr} {fd : FuncData} {ps : List Str} {sp spA spB : Sp}
theorem FnT.of (F : FnOk P w K mg base CX0 k f fd ps sp) : FnT P w K mg base k f fd ps j sp :=
  ⟨F.len, fun A outer s H args us vs Q hr e0 hb r _ h => codeAny_mono (F.run A outer s H args us vs Q E0 hr e0 hb r h) fun r s' hq => by
    match r, hq with
    | .error e, hq => exact hq
    | .ok (.ret u), hq => exact hq
    | .ok .next, hq => exact hq
    | .ok .brk, hq => exact hq
    | .ok .cont, hq => exact hq⟩
theorem FnT.mono {k2 : Nat} (a : FnT P w K mg base k f fd ps j sp) (h : k ≤ k2) : FnT P w K mg base k2 f fd ps j sp :=
  ⟨a.len, fun A outer s H args us vs Q hr e0 hb r tk q => a.run A outer s H args us vs Q (hr.mono h) e0 hb r tk q⟩
end
end Sq
set_option Elab.async false
set_option linter.all false
set_option maxRecDepth 100000
set_option maxHeartbeats 4000000
/-! A comprehension whose elements know what stands in a cell of the def. -/
set_option Elab.async false
set_option linter.all false
set_option maxRecDepth 100000
set_option maxHeartbeats 4000000
/-! More code that keeps a cell; a sign out of a written list. -/
set_option Elab.async false
set_option linter.all false
set_option maxRecDepth 100000
set_option maxHeartbeats 4000000
/-! name = ['x', 'y', ..][e], the name in a cell: the rest knows it. -/
set_option Elab.async false
set_option linter.all false
set_option maxRecDepth 100000
set_option maxHeartbeats 4000000
/-! Objects of an own class of which the raw values of the attributes are known. -/
namespace Sq
open PySem PySem.Spec PyProof.Rows L2 GenW
/-- the instance at a of the class at C, its dict at dx -/
def insO (a C dx : Addr) : HO := .ext fun h => h.get? a = some (PySem.W.instObj C dx)
/-- a dict of attributes: m, no names but ks -/
def dicO (dx : Addr) (m : Str → Option Value) (ks : List Str) : HO := .ext fun h => h.Ns1 dx m ∧ PySem.Within m ks
structure Live (H : Hp) (a C dx : Addr) (m : Str → Option Value) (ks : List Str) : Prop where
  i : H a = some (insO a C dx)
  d : H dx = some (dicO dx m ks)
  ne : dx ≠ a
theorem Live.same {H H' : Hp} {a C dx : Addr} {m : Str → Option Value} {ks : List Str} (L : Live H a C dx m ks) (s : Same H H') : Live H' a C dx m ks := ⟨s _ _ L.i, s _ _ L.d, L.ne⟩
theorem Live.obj {P : Program} {w : World} {H : Hp} {h : Heap} {a C dx : Addr} {m : Str → Option Value} {ks : List Str} (L : Live H a C dx m ks) (ok : HOk P w H h) : ObjM h a dx C m ∧ PySem.Within m ks := by
  have x1 : ObjOk P w H h a (insO a C dx) := ok a _ L.i
  have x2 : ObjOk P w H h dx (dicO dx m ks) := ok dx _ L.d
  exact ⟨⟨x1.1, x2.1.1, L.ne⟩, x2.1.2⟩
/-- one more attribute -/
def putM (m : Str → Option Value) (f : Str) (u : Value) : Str → Option Value := fun y => if y = f then some u else m y
theorem within_put {m : Str → Option Value} {ks : List Str} {f : Str} {u : Value} (w : PySem.Within m ks) : PySem.Within (putM m f u) (f :: ks) := fun y hy => by
  by_cases e : y = f
  · rw [e]; exact List.mem_cons_self
  · refine List.mem_cons_of_mem _ (w y ?_)
    have z : putM m f u y = m y := if_neg e
    rw [← z]
    exact hy
section
variable {X : Cx} {pins : List (Addr × Obj)} {σ : L2.St} {H : Hp} {s : Shared} {a C dx : Addr} {m : Str → Option Value} {ks : List Str} {f : Str} {A : Around} {E : Value → Shared → Prop}
theorem live_get {b : Bool} {u : Value} {Q : Value → Shared → Prop} (I : Inv X pins σ H s) (L : Live H a C dx m ks) (c : Cls X.K C) (n : NoAttr X.K C f) (hu : m f = some u) (hh : PySem.W.handedIn u = true)
    (h : Inv X pins σ H { s with toks := s.toks + 1 } → Q u { s with toks := s.toks + 1 }) : wpAny (model X.prog X.w) A (getAttr (.ref a) f b) Q E s :=
  get_map I.kIn (L.obj I.hok).1 (c.get f) c.hd n hu hh (h (I.tok _))
theorem live_meth {g : Addr} {pl : Sem Bool} {Q : Value × List Value → Shared → Prop} (I : Inv X pins σ H s) (L : Live H a C dx m ks) (c : Cls X.K C) (k : Meth X.K C f g) (hn : m f = none)
    (h : Q (.ref g, [.ref a]) s) : wpAny (model X.prog X.w) A (getMethod (.ref a) f pl) Q E s :=
  get_meth I.kIn (L.obj I.hok).1 (c.get f) k.at_ k.fn hn h
theorem live_set {u : Value} {Q : Unit → Shared → Prop} (I : Inv X pins σ H s) (L : Live H a C dx m ks) (c : Cls X.K C) (n : NoAttr X.K C f) (hl : ks.length < 1000)
    (h : ∀ s', Inv X pins σ (upd H dx (dicO dx (putM m f u) (f :: ks))) s' → Live (upd H dx (dicO dx (putM m f u) (f :: ks))) a C dx (putM m f u) (f :: ks) → s.toks ≤ s'.toks → Q () s') : wpAny (model X.prog X.w) A (setAttr (.ref a) f u) Q E s := by
  obtain ⟨O, wi⟩ := L.obj I.hok
  have hz : ks.length ≤ sizeLine := by rw [sizeLine_eq]; omega
  refine set_map I.kIn O c.sa c.po n.taker c.hd wi hz fun h' O' sb => h _ ?_ ⟨by rw [upd_ne (Ne.symm L.ne)]; exact L.i, upd_same, L.ne⟩ (Nat.le_add_right _ _)
  have hd : ∃ o, h'.get? dx = some o := let ⟨o, _, _, e', _⟩ := O'.ns; ⟨o, e'⟩
  refine I.write (x := dx) (e := dx) (by rw [L.d]; exact True.intro) (.inl rfl) (fun b q hb z => (sb.2 b hb).trans z) hd ⟨⟨O'.ns, within_put wi⟩, hd, fun h1 h2 p k => ⟨?_, p.2⟩⟩
  obtain ⟨o, es, ep, e1, rest⟩ := p.1
  exact ⟨o, es, ep, k o e1, rest⟩
/-- a new instance -/
theorem live_made (I : Inv X pins σ H s) : Inv X pins σ (upd (upd H s.heap.objs.size (dicO s.heap.objs.size (fun _ => none) [])) (s.heap.objs.size + 1) (insO (s.heap.objs.size + 1) C s.heap.objs.size))
    { s with heap := (s.heap.push PySem.W.emptyDict).push (PySem.W.instObj C s.heap.objs.size) } := by
  have e1 : (s.heap.push PySem.W.emptyDict).get? s.heap.objs.size = some PySem.W.emptyDict := Heap.get?_push_size s.heap rfl
  have e2 : ((s.heap.push PySem.W.emptyDict).push (PySem.W.instObj C s.heap.objs.size)).get? (s.heap.objs.size + 1) = some (PySem.W.instObj C s.heap.objs.size) := by
    have := Heap.get?_push_size (s.heap.push PySem.W.emptyDict) (o := PySem.W.instObj C s.heap.objs.size) rfl
    rwa [Heap.size_push] at this
  have e3 : (s.heap.push PySem.W.emptyDict).Ns s.heap.objs.size (fun _ => none) := ⟨PySem.W.emptyDict, #[], _, e1, rfl, (fun e he => absurd he (by simp)), fun _ => rfl⟩
  have I1 := I.laid (a := s.heap.objs.size) (o := dicO s.heap.objs.size (fun _ => none) []) (h' := s.heap.push PySem.W.emptyDict) (t' := s.toks) (fun b u q => Heap.get?_push_of_some _ q) (Nat.le_refl _)
    ⟨⟨Heap.Ns1.of_empty e3, fun y hy => absurd rfl hy⟩, ⟨_, e1⟩, fun h1 h2 p k => ⟨p.1.at k, p.2⟩⟩
  exact I1.laid (a := s.heap.objs.size + 1) (o := insO (s.heap.objs.size + 1) C s.heap.objs.size) (t' := s.toks) (fun b u q => Heap.get?_push_of_some _ q) (Nat.le_of_eq (Heap.size_push _ _)) ⟨e2, ⟨_, e2⟩, fun h1 h2 p k => k _ p⟩
end
/-! ### promises that know how many tokens were given out, and one raw argument -/
structure FnW (P : Program) (w : World) (K : PySem.W.Frag) (mg : Str → Option Value) (base : Heap) (k : Nat) (f : Addr) (fd : FuncData) (ps : List Str) (j : Nat) (sp : Nat → Value → Sp) : Prop where
  len : ∀ n u vs H Q E, sp n u vs H Q E → vs.length = ps.length
  run : ∀ (A : Around) (outer : List Env) (s : Shared) (H : Hp) (args : Args) (us : List Value) (vs : List V) (Q : VK) (n : Nat) (u0 : Value), Room k A → Env0 P w K mg base A outer s H → BindsTo s fd args (ps.zip us) → Vals vs us → n ≤ s.toks → us[j]? = some u0 → sp n u0 vs H Q E0 →
    codeAny (model P w) A (.call (.ref f) args) (fun r s' => match r with | .ok (.ret u) => CE outer P w H s Q u s' | _ => False) s
section
variable {P : Program} {w : World} {K : PySem.W.Frag} {mg : Str → Option Value} {base : Heap} {k j : Nat} {f : Addr} {fd : FuncData} {ps : List Str}
/-- .. from a walk that knows a plain argument's raw value too -/
theorem fnw_ofL {x qual y : Str} {st : Stmt} {N : List Str} {sp : Nat → Value → Sp} (F : Fun K x qual st f fd) (S : FnScope N ps (defScope st)) (len : ∀ n u vs H Q E, sp n u vs H Q E → vs.length = ps.length)
    (hy : ps[j]? = some y) (hk : (defScope st).names.lookup y = some .local)
    (walk : ∀ (cdv : Value) (A : Around) (outer : List Env) (s : Shared) (H : Hp) (us : List Value) (vs : List V) (Q : VK) (n : Nat) (u0 : Value), Room k (A.deeper (envOfC qual (defScope st) s.heap.objs.size f cdv)) → sp n u0 vs H Q E0 → Vals vs us → us[j]? = some u0 →
      ∃ t, Wu (cxOf CX0 P w K mg base N qual (defScope st) f cdv A outer s H E0).nox (fun s' => Raw (cxOf CX0 P w K mg base N qual (defScope st) f cdv A outer s H E0).nox y u0 s' ∧ n ≤ s'.toks) (defBody st) t ∧ t { nx := fun _ H' => Q .non H', rt := Q } (L2.start N vs) H) : FnW P w K mg base (k + 1) f fd ps j sp := by
  obtain ⟨oc, od, kV, doc, pm, an, cdv, ct, osl, rfl, lk, hcd⟩ := F.ex
  refine ⟨len, fun A outer s H args us vs Q n u0 hr e0 hb r hn hu hsp => ?_⟩
  have hl := len _ _ _ _ _ _ hsp
  have KX : K.In s.heap := e0.mod.kin.keeps fun b o e => (e0.bs b o e).1
  have lim : s.heap.NoLimit := e0.mod.nolimit.keeps fun b o e => (e0.bs b o e).1
  have hkind : ∀ y ∈ ps.zip us, (defScope st).names.lookup y.1 = some .local ∨ ((defScope st).names.lookup y.1 = some .cell ∧ ((cellsFrom (s.heap.objs.size + 1) (defScope st).names []).lookup y.1).isSome = true) := fun ⟨n, v⟩ hy =>
    (S.par n (List.of_mem_zip hy).1).elim .inl fun z => .inr ⟨z, PySem.W.cellsFrom_some _ _ _ (.inl z)⟩
  refine codeAny_call_function hr.depth (KX _ _ lk) rfl S.co S.gen rfl (PySem.W.codeRec_of KX hcd) (hb _ _ _ _ ?_)
  refine PySem.wpAny_with_toks (Nat.le_refl s.toks) (wpAny_newFunctionEnv_cells S.kind hkind fun env he s1 made toks1 => ?_)
  subst he
  refine ⟨lim.keeps made.toInCall.keep, codeAny_func ?_⟩
  have ndP : ps.Nodup := by rw [← S.pre]; exact S.nd.sublist (List.take_sublist _ _)
  have at1 := bindL_get (kindOf := (envOfC qual (defScope st) s.heap.objs.size f cdv).kindOf) (m := fun _ => none) ndP hy hu hk
  obtain ⟨t, ht, hq⟩ := walk cdv A outer s H us vs Q n u0 (hr.deeper _) hsp r hu
  have I : Inv (cxOf CX0 P w K mg base N qual (defScope st) f cdv A outer s H E0).nox [] (start N vs) H s1 := (inv_start S hr.hd e0 hl r made).wish _
  refine wpAny_mono (ht.run [] s1 (start N vs) H _ I ⟨⟨_, made.toInCall.ns, at1⟩, Nat.le_trans hn toks1⟩ hq) (fun fl s' hs => ?_) fun e s' hs => False.elim hs
  match fl, hs with
  | .ret u, ⟨v, σ', H', J, rv, q⟩ => exact ⟨v, H', J.os, J.bare, J.base, J.hok, rv, q⟩
  | .next, ⟨σ', H', J, q⟩ => exact ⟨V.non, H', J.os, J.bare, J.base, J.hok, rfl, q⟩
  | .brk, ⟨_, _, _, q⟩ => exact False.elim q
  | .cont, ⟨_, _, _, q⟩ => exact False.elim q
end
end Sq
set_option Elab.async false
set_option linter.all false
set_option maxRecDepth 100000
set_option maxHeartbeats 4000000
/-! A def of one argument and *others; rules for live objects. -/
namespace Sq
open PySem PySem.Spec PyProof.Rows L2 GenW
/-- f(self, *others) -/
structure FnV (P : Program) (w : World) (K : PySem.W.Frag) (mg : Str → Option Value) (base : Heap) (k : Nat) (f : Addr) (sp : Nat → Sp) : Prop where
  run : ∀ (A : Around) (outer : List Env) (s : Shared) (H : Hp) (u1 : Value) (us : List Value) (x : V) (vs : List V) (Q : VK) (n : Nat), Room k A → Env0 P w K mg base A outer s H → Vals (x :: vs) (u1 :: us) → n ≤ s.toks → us.length ≤ sizeLine → (∀ T, H T = none → sp n [x, .ref T] (upd H T (.tup vs)) Q E0) →
    codeAny (model P w) A (.call (.ref f) ⟨u1 :: us, []⟩) (fun r s' => match r with | .ok (.ret u) => CE outer P w H s Q u s' | _ => False) s
section
variable {P : Program} {w : World} {K : PySem.W.Frag} {mg : Str → Option Value} {base : Heap} {k : Nat} {f : Addr} {fd : FuncData}
theorem fnv_of {x qual y1 y2 : Str} {st : Stmt} {N : List Str} {sp : Nat → Sp} (F : Fun K x qual st f fd) (S : FnScope N [y1, y2] (defScope st)) (len : ∀ n vs H Q E, sp n vs H Q E → vs.length = 2)
    (bind : ∀ (kV doc pm : Value) (an : Option Addr) (cdv ct : Value) (u1 : Value) (us : List Value), bindArgs (PySem.W.fnOf x qual (defArgs st) (defBody st) (defScope st) .none kV doc pm an cdv ct) ⟨u1 :: us, []⟩ = (newTuple us >>= fun t => pure [(y1, u1), (y2, t)]))
    (walk : ∀ (cdv : Value) (A : Around) (outer : List Env) (s : Shared) (H : Hp) (vs : List V) (Q : VK) (n : Nat), Room k (A.deeper (envOfC qual (defScope st) s.heap.objs.size f cdv)) → sp n vs H Q E0 →
      ∃ t, Wu (cxOf CX0 P w K mg base N qual (defScope st) f cdv A outer s H E0).nox (fun s' => n ≤ s'.toks) (defBody st) t ∧ t { nx := fun _ H' => Q .non H', rt := Q } (L2.start N vs) H) : FnV P w K mg base (k + 1) f sp := by
  obtain ⟨oc, od, kV, doc, pm, an, cdv, ct, osl, rfl, lk, hcd⟩ := F.ex
  refine ⟨fun A outer s H u1 us x1 vs Q n hr e0 r hn few hsp => ?_⟩
  have KX : K.In s.heap := e0.mod.kin.keeps fun b o e => (e0.bs b o e).1
  have lim : s.heap.NoLimit := e0.mod.nolimit.keeps fun b o e => (e0.bs b o e).1
  refine codeAny_call_function hr.depth (KX _ _ lk) rfl S.co S.gen rfl (PySem.W.codeRec_of KX hcd) ?_
  rw [bind]
  refine wpAny_bind (wpAny_newTuple (wpAny_pure ?_) few)
  -- the tuple stands
  have kept : ∀ b o, s.heap.get? b = some o → (s.heap.push { cls := .type "tuple", data := .seq us.toArray }).get? b = some o := fun b o e => Heap.get?_push_of_some _ e
  have fresh : H s.heap.objs.size = none := e0.hok.fresh (Nat.le_refl _)
  have tup : ObjOk P w (upd H s.heap.objs.size (.tup vs)) (s.heap.push { cls := .type "tuple", data := .seq us.toArray }) s.heap.objs.size (.tup vs) := by
    cases r with
    | cons r1 rr => exact ⟨by rw [rr.length]; exact few, us, rr, IsTup.new s.heap _⟩
  have un1 : Un (frs outer) [] H (upd H s.heap.objs.size (.tup vs)) s.heap (s.heap.push { cls := .type "tuple", data := .seq us.toArray }) := Un.laid kept (Nat.le_refl _) fresh
  have hok1 : HOk P w (upd H s.heap.objs.size (.tup vs)) (s.heap.push { cls := .type "tuple", data := .seq us.toArray }) := e0.hok.laid kept (Nat.le_refl _) tup
  have neB : ∀ b, (∃ o, s.heap.get? b = some o) → b ≠ s.heap.objs.size := fun b ⟨o, e⟩ => Nat.ne_of_lt (Heap.lt_size e)
  have e1 : Env0 P w K mg base A outer { s with heap := s.heap.push { cls := .type "tuple", data := .seq us.toArray } } (upd H s.heap.objs.size (.tup vs)) := by
    refine ⟨e0.frames, e0.mod, fun b o e => ?_, ?_, ?_, fun b hb => ?_, hok1, e0.bare⟩
    · obtain ⟨q1, q2⟩ := e0.bs b o e
      exact ⟨kept _ _ q1, by rw [upd_ne (neB b ⟨o, q1⟩)]; exact q2⟩
    · exact Nat.le_trans e0.bsz (by rw [Heap.size_push]; exact Nat.le_succ _)
    · exact Heap.FunFrames.of_keeps (fun b o e _ => ⟨o, kept b o e, rfl⟩) e0.funs
    · have q := e0.funs.mem hb
      obtain ⟨_, o, e, _⟩ := q
      rw [upd_ne (neB b ⟨o, e⟩)]
      exact e0.frf b hb
  have r2 : Vals [x1, V.ref s.heap.objs.size] [u1, Value.ref s.heap.objs.size] := by
    cases r with
    | cons r1 rr => exact .cons r1 (.cons rfl .nil)
  have hq0 := hsp s.heap.objs.size fresh
  generalize es : ({ s with heap := s.heap.push { cls := .type "tuple", data := .seq us.toArray } } : Shared) = s1 at e1
  have hs1 : s1.heap = s.heap.push { cls := .type "tuple", data := .seq us.toArray } := by rw [← es]
  have ht1 : s1.toks = s.toks := by rw [← es]
  have ho1 : s1.os = s.os := by rw [← es]
  generalize upd H s.heap.objs.size (.tup vs) = H1 at e1 hq0 un1
  have hkind : ∀ y ∈ [y1, y2].zip [u1, Value.ref s.heap.objs.size], (defScope st).names.lookup y.1 = some .local ∨ ((defScope st).names.lookup y.1 = some .cell ∧ ((cellsFrom (s1.heap.objs.size + 1) (defScope st).names []).lookup y.1).isSome = true) := fun ⟨n, v⟩ hy =>
    (S.par n (List.of_mem_zip hy).1).elim .inl fun z => .inr ⟨z, PySem.W.cellsFrom_some _ _ _ (.inl z)⟩
  show wpAny _ _ (newFunctionEnv _ _ _ ([y1, y2].zip [u1, Value.ref s.heap.objs.size]) _ _ _ _ _) _ _ s1
  refine PySem.wpAny_with_toks (Nat.le_refl s1.toks) (wpAny_newFunctionEnv_cells S.kind hkind fun env he s2 made toks1 => ?_)
  subst he
  have lim1 : s1.heap.NoLimit := by rw [hs1]; exact lim.keeps kept
  refine ⟨lim1.keeps made.toInCall.keep, codeAny_func ?_⟩
  obtain ⟨t, ht, hq⟩ := walk cdv A outer s1 H1 [x1, V.ref s.heap.objs.size] Q n (hr.deeper _) hq0
  have I : Inv (cxOf CX0 P w K mg base N qual (defScope st) f cdv A outer s1 H1 E0).nox [] (start N [x1, V.ref s.heap.objs.size]) H1 s2 := (inv_start S hr.hd e1 rfl r2 made).wish _
  refine wpAny_mono (ht.run [] s2 (start N [x1, V.ref s.heap.objs.size]) H1 _ I (Nat.le_trans (by rw [ht1]; exact hn) toks1) hq) (fun fl s' hs => ?_) fun e s' hs => False.elim hs
  have fin : ∀ {v : V} {u : Value} {σ' H'}, Inv (cxOf CX0 P w K mg base N qual (defScope st) f cdv A outer s1 H1 E0).nox [] σ' H' s' → RelV v u → Q v H' → CE outer P w H s Q u s' := fun {v u σ' H'} J rv q =>
    ⟨v, H', J.os.trans ho1, J.bare, un1.trans (by rw [← hs1]; exact J.base), J.hok, rv, q⟩
  match fl, hs with
  | .ret u, ⟨v, σ', H', J, rv, q⟩ => exact fin J rv q
  | .next, ⟨σ', H', J, q⟩ => exact fin (v := V.non) J rfl q
  | .brk, ⟨_, _, _, q⟩ => exact False.elim q
  | .cont, ⟨_, _, _, q⟩ => exact False.elim q
end
end Sq
set_option Elab.async false
set_option linter.all false
set_option maxRecDepth 100000
set_option maxHeartbeats 4000000
/-! Rules for live objects: attributes, methods, properties, making. -/
namespace Sq
open PySem PySem.Spec PyProof.Rows L2 GenW
/-! ### readings -/
def tFldL (K : PySem.W.Frag) (ta : TE) (f : Str) : TE := fun σ H Q => ta σ H fun x H1 => ∃ a C dx m ks u v, x = .ref a ∧ Live H1 a C dx m ks ∧ Cls K C ∧ NoAttr K C f ∧ m f = some u ∧ RelV v u ∧ Q v H1
def sFldL (K : PySem.W.Frag) (ta tv : TE) (f : Str) : TS := fun D σ H => tv σ H fun y H1 => ta σ H1 fun x H2 => ∃ a C dx m ks, x = .ref a ∧ Live H2 a C dx m ks ∧ Cls K C ∧ NoAttr K C f ∧ ks.length < 1000 ∧
  ∀ u, RelV y u → D.nx σ (upd H2 dx (dicO dx (putM m f u) (f :: ks)))
/-- .. of the name in slot i, whose raw value is u -/
def sFldK (K : PySem.W.Frag) (ta : TE) (i : Nat) (u : Value) (f : Str) : TS := fun D σ H => ∃ y, σ[i]? = some (some y) ∧ (RelV y u → ta σ H fun x H2 => ∃ a C dx m ks, x = .ref a ∧ Live H2 a C dx m ks ∧ Cls K C ∧ NoAttr K C f ∧ ks.length < 1000 ∧
  D.nx σ (upd H2 dx (dicO dx (putM m f u) (f :: ks))))
def tML (C : Addr) (m : Str) (sp : Sp) (ta : TE) (t : TA) : TE := fun σ H Q => ta σ H fun x H1 => ∃ a dx mA ks, x = .ref a ∧ Live H1 a C dx mA ks ∧ mA m = none ∧ t σ H1 fun vs H2 => sp (x :: vs) H2 Q E0
def tMV (C : Addr) (m : Str) (sp : Sp) (ta : TE) (t : TA) : TE := fun σ H Q => ta σ H fun x H1 => ∃ a dx mA ks, x = .ref a ∧ Live H1 a C dx mA ks ∧ mA m = none ∧ t σ H1 fun vs H2 => vs.length ≤ sizeLine ∧ ∀ T, H2 T = none → sp [x, .ref T] (upd H2 T (.tup vs)) Q E0
def tPrL (C : Addr) (sp : Sp) (ta : TE) : TE := fun σ H Q => ta σ H fun x H1 => ∃ a dx m ks, x = .ref a ∧ Live H1 a C dx m ks ∧ sp [.ref a] H1 Q E0
/-- the making: the raw value of the argument behind the first is u -/
def tNewW (C : Addr) (sp : Value → Sp) (t : L2.St → Hp → (Value → List V → Hp → Prop) → Prop) : TE := fun σ H Q => t σ H fun u vs H1 => ∀ x dx, H1 x = none → H1 dx = none → dx ≠ x → sp u (.ref x :: vs) (upd (upd H1 dx (dicO dx (fun _ => none) [])) x (insO x C dx)) (fun v H2 => v = .non ∧ Q (.ref x) H2) E0
/-- raw arguments of which the j-th is u -/
structure Wq (X : Cx) (Θ : Shared → Prop) (j : Nat) (es : List Expr) (t : L2.St → Hp → (Value → List V → Hp → Prop) → Prop) : Prop where
  run : ∀ (pos : Pos) (pins : List (Addr × Obj)) (s : Shared) (σ : L2.St) (H : Hp) (Q : Value → List V → Hp → Prop), Inv X pins σ H s → Θ s → t σ H Q → wpAny (model X.prog X.w) X.A (spliced (backTo pos (starEach es X.env))) (fun us s' => Θ s' ∧ ∃ u, us[j]? = some u ∧ AP X pins σ (Q u) us s') X.xe s
def tQName (i : Nat) (u : Value) (t : TA) : L2.St → Hp → (Value → List V → Hp → Prop) → Prop := fun σ H Q => ∃ v, σ[i]? = some (some v) ∧ (RelV v u → t σ H fun vs H1 => Q u (v :: vs) H1)
def tQSkip (te : TE) (t : L2.St → Hp → (Value → List V → Hp → Prop) → Prop) : L2.St → Hp → (Value → List V → Hp → Prop) → Prop := fun σ H Q => te σ H fun v H1 => t σ H1 fun u vs H2 => Q u (v :: vs) H2
/-- the raw value of the name y is u -/
structure KnownU (X : Cx) (Θ : Shared → Prop) (y : Str) (u : Value) : Prop where
  kn : ∀ (s : Shared), Θ s → (X.env.kindOf y = some .local ∧ Raw X y u s) ∨ (X.env.kindOf y = some .cell ∧ ∃ c, X.env.cells.lookup y = some c ∧ s.heap.IsCell c (some u))
section
variable {X : Cx} {Θ : Shared → Prop} {ys : List Str} {pins : List (Addr × Obj)} {σ : L2.St} {H : Hp} {s : Shared} {x y f m : Str} {p pos pos' apos : Pos} {o e value : Expr} {es : List Expr} {ta te tv : TE} {t : TA} {C : Addr} {sp : Sp} {k i j n : Nat} {u0 : Value} {tq : L2.St → Hp → (Value → List V → Hp → Prop) → Prop} {pl : Sem Bool} {st : Stmt} {ts : TS} {tt : TT} {sts : List Stmt} {ps : List Str}
/-! ### what knows the number of tokens alone keeps it -/
theorem we_ofP (h : PE X e te) : We X (fun s => n ≤ s.toks) e te := ⟨fun pins s σ H Q I θ q => wpAny_mono (PySem.wpAny_toks_of θ (h.run pins s σ H Q I q)) (fun _ _ z => z) fun _ _ z => z.2⟩
theorem wa_ofP (h : PA X es t) : Wa X (fun s => n ≤ s.toks) es t := ⟨fun pos pins s σ H Q I θ q => wpAny_mono (PySem.wpAny_toks_of θ (h.run pos pins s σ H Q I q)) (fun _ _ z => z) fun _ _ z => z.2⟩
theorem wt_ofP (h : PT X e tt) : Wt X (fun s => n ≤ s.toks) e tt := ⟨fun pins s σ H Q I θ q => wpAny_mono (PySem.wpAny_toks_of θ (h.run pins s σ H Q I q)) (fun _ _ z => z) fun _ _ z => z.2⟩
theorem ws_ofP (h : PS X st ts) : Ws X (fun s => n ≤ s.toks) st ts := ⟨fun pins s σ H D I θ q => wpAny_mono (PySem.wpAny_toks_of θ (h.run pins s σ H D I q)) (fun _ _ z => z) fun _ _ z => z.2⟩
/-! ### attributes -/
theorem pe_fldL (he : PE X e ta) (hb : attributeBase e f X.env (eval e X.env) = eval e X.env := by rfl) : PE X (.Attribute e f pos) (tFldL X.K ta f) := by
  refine ⟨fun pins s σ H Q I h => ?_⟩
  refine attr_of hb (thn (he.run pins s σ H _ I h) fun u s1 hh => ?_)
  obtain ⟨x, H1, I1, rx, a, C, dx, m, ks, u1, v, ex, L, c, n, hu, rv, q⟩ := hh
  subst ex
  obtain rfl : u = Value.ref a := rx
  exact live_get I1 L c n hu (handed_of rv) fun I2 => ⟨v, H1, I2, rv, q⟩
theorem ps_fldL (ha : PE X o ta) (hv : PE X value tv) (hs : swapsWith value (some (.Attribute o f pos')) pos.line X.env = pure false := by rfl) : PS X (.Assign [.Attribute o f pos'] value pos) (sFldL X.K ta tv f) := by
  refine ⟨fun pins s σ H D I h => ?_⟩
  refine plainObj_wpAny_Assign_Attribute (thn (hv.run pins s σ H _ I h) fun u s1 hh => ?_) hs
  obtain ⟨y, H1, I1, ry, q⟩ := hh
  refine thn (ha.run pins s1 σ H1 _ I1 q) fun ov s2 hh => ?_
  obtain ⟨x, H2, I2, rx, a, C, dx, m, ks, ex, L, c, n, l, q2⟩ := hh
  subst ex
  obtain rfl : ov = Value.ref a := rx
  exact live_set I2 L c n l fun s3 I3 _ _ => ⟨σ, _, I3, q2 u ry⟩
theorem knownU_eval {E Q : Value → Shared → Prop} {v : V} (Kn : KnownU X Θ y u0) (I : Inv X pins σ H s) (θ : Θ s) (hN : X.N[i]? = some y) (hv : Vis X.env.scope y) (h : σ[i]? = some (some v)) (fin : RelV v u0 → Q u0 s) (hd : (y == ("__debug__" : Str)) = false := by decide) :
    wpAny (model X.prog X.w) X.A (eval (.Name y p) X.env) Q E s := by
  obtain ⟨mm, hns, look⟩ := I.loc
  obtain ⟨u2, r, l⟩ := look i y v hN h hv
  rcases Kn.kn s θ with ⟨k, m2, ns2, e2⟩ | ⟨k, c, hc, cell⟩
  · have eu : u2 = u0 := by
      rcases l with ⟨_, q⟩ | ⟨k1, _⟩
      · rw [hns.agree ns2 y, e2] at q
        exact (Option.some.inj q).symm
      · rw [k] at k1
        rcases k1 with z | z <;> cases z
    exact wpAny_Name (wpAny_loadName_local I.ok.kind k ns2 e2 (fin (eu ▸ r))) hd
  · have eu : u2 = u0 := by
      rcases l with ⟨k1, _⟩ | ⟨_, c1, e1, cell1⟩
      · rw [k] at k1
        cases k1
      · rw [hc] at e1
        obtain rfl : c = c1 := Option.some.inj e1
        obtain ⟨o1, g1, d1⟩ := cell
        obtain ⟨o2, g2, d2⟩ := cell1
        rw [g1] at g2
        obtain rfl : o1 = o2 := Option.some.inj g2
        rw [d1] at d2
        injection d2 with d2
        exact (Option.some.inj d2).symm
    exact wpAny_Name (wpAny_loadName_cell I.ok.kind k hc cell (fin (eu ▸ r))) hd
theorem ps_fldK (Kn : KnownU X Θ y u0) (hN : X.N[i]? = some y) (hv : Vis X.env.scope y) (ha : We X Θ o ta) (hr : Wu X (fun s => n ≤ s.toks) sts ts) (hn : ∀ s, Θ s → n ≤ s.toks) (hs : swapsWith (.Name y p) (some (.Attribute o f pos')) pos.line X.env = pure false := by rfl) (hd : (y == ("__debug__" : Str)) = false := by decide) :
    Wu X Θ (.Assign [.Attribute o f pos'] (.Name y p) pos :: sts) (tSeq (sFldK X.K ta i u0 f) ts) := by
  refine ⟨fun pins s σ H D I θ h => ?_⟩
  obtain ⟨v, e, q⟩ := h
  refine wpAny_execs_cons (plainObj_wpAny_Assign_Attribute (knownU_eval Kn I θ hN hv e (fun r => ?_) hd) hs)
  refine thn (ha.run pins s σ H _ I θ (q r)) fun ov s2 hh => ?_
  obtain ⟨g2, x, H2, I2, rx, a, C, dx, m, ks, ex, L, c, nn, l, q2⟩ := hh
  subst ex
  obtain rfl : ov = Value.ref a := rx
  exact live_set I2 L c nn l fun s3 I3 _ up => hr.run pins s3 σ _ D I3 (Nat.le_trans (hn s2 g2) up) q2
/-! ### raw arguments -/
theorem wq_name (Kn : KnownU X Θ y u0) (hN : X.N[i]? = some y) (hv : Vis X.env.scope y) (hr : Wa X Θ es t) (hs : starEach (.Name y p :: es) X.env = (false, eval (.Name y p) X.env) :: starEach es X.env := by rfl) (hd : (y == ("__debug__" : Str)) = false := by decide) :
    Wq X Θ 0 (.Name y p :: es) (tQName i u0 t) := by
  refine ⟨fun pos pins s σ H Q I θ h => ?_⟩
  rw [hs]
  show wpAny _ _ (spliced ((false, eval (.Name y p) X.env) :: backTo pos (starEach es X.env))) _ _ s
  obtain ⟨v, e, q⟩ := h
  refine Calls.spliced_cons (knownU_eval Kn I θ hN hv e (fun r => ?_) hd)
  refine thn (hr.run pos pins s σ H _ I θ (q r)) fun us s2 hh => ?_
  obtain ⟨g2, xs, H2, I2, r2, q2⟩ := hh
  exact ⟨g2, u0, rfl, v :: xs, H2, I2, .cons r r2, q2⟩
theorem wq_skip (ha : We X Θ e te) (hr : Wq X Θ j es tq) (hs : starEach (e :: es) X.env = (false, eval e X.env) :: starEach es X.env := by rfl) : Wq X Θ (j + 1) (e :: es) (tQSkip te tq) := by
  refine ⟨fun pos pins s σ H Q I θ h => ?_⟩
  rw [hs]
  show wpAny _ _ (spliced ((false, eval e X.env) :: backTo pos (starEach es X.env))) _ _ s
  refine Calls.spliced_cons (thn (ha.run pins s σ H _ I θ h) fun v s1 hh => ?_)
  obtain ⟨g1, w, H1, I1, r1, q1⟩ := hh
  exact thn (hr.run pos pins s1 σ H1 _ I1 g1 q1) fun us s2 ⟨g2, u, eu, xs, H2, I2, r2, q2⟩ => ⟨g2, u, eu, w :: xs, H2, I2, .cons r1 r2, q2⟩
/-! ### methods of live objects -/
/-- o.m(..), m a def with *others -/
structure MtV (P : Program) (w : World) (K : PySem.W.Frag) (mg : Str → Option Value) (base : Heap) (k : Nat) (C : Addr) (m : Str) (sp : Nat → Sp) : Prop where
  ex : ∃ f, FnV P w K mg base k f sp ∧ Meth K C m f
  cl : Cls K C
theorem we_mV {spn : Nat → Sp} (Cl : Clo X ys Θ) (D : MtV X.prog X.w X.K X.mg X.base k C m spn) (hn : ∀ s, Θ s → n ≤ s.toks) (hr : Room k X.A) (he : We X Θ o ta) (ha : Wa X Θ (e :: es) t)
    (hst : starEach (e :: es) X.env = (false, eval e X.env) :: starEach es X.env := by rfl) (hpl : (backTo pos (starEach es X.env)).any (·.1) = false := by rfl)
    (ht : eval (.Call (.Attribute o m apos) (e :: es) [] pos) X.env = (do
      let ov ← eval o X.env
      standAt apos.atName
      let (f, first) ← holding [ov] (getMethod ov m pl)
      callWith pos f first (backTo pos (starEach (e :: es) X.env)) (backToKw pos (keywordEach [] X.env))) := by rfl) :
    We X Θ (.Call (.Attribute o m apos) (e :: es) [] pos) (tMV C m (spn n) ta t) := by
  obtain ⟨⟨g, F, hm⟩, c⟩ := D
  refine ⟨fun pins s σ H Q I θ h => ?_⟩
  refine PySem.W.methodCall_KW (pl := pl) (thn (he.run pins s σ H _ I θ h) fun u s1 hh => ?_) ht
  obtain ⟨g1, x, H1, I1, rx, a, dx, mA, ks, ex, L, l, q⟩ := hh
  subst ex
  obtain rfl : u = Value.ref a := rx
  refine live_meth I1 L c hm l ?_
  refine PySem.W.callWith_K (first := [.ref a]) (h₀ := X.base) I.ok.mod.kin hm.kp (thn (ha.run pos pins s1 σ H1 _ I1 g1 q) fun us s2 hh => ?_) hst hpl
  obtain ⟨g2, vs, H2, I2, r, few, q2⟩ := hh
  refine ⟨I2.kIn, ?_⟩
  have called : wpAny (model X.prog X.w) X.A (call (.ref g) (.ref a :: us)) (fun u s' => (s2.toks ≤ s'.toks → Θ s') ∧ EP X pins σ Q u s') X.xe s2 := by
    refine wpAny_call (codeAny_mono (F.run X.A X.stack s2 H2 (.ref a) us (.ref a) vs Q n hr I2.env0 (.cons rfl r) (hn s2 g2) (by rw [← r.length]; exact few) q2) fun r s' hq => ?_)
    match r, hq with
    | .ok (.ret u), hq =>
      have ce : CE X.stack X.prog X.w H2 s2 Q u s' := hq
      obtain ⟨_, _, _, _, un, _⟩ := id ce
      exact ⟨fun up => Cl.un0 I2 up un g2, I2.after ce⟩
  exact wpAny_mono (PySem.wpAny_toks called) (fun u s' z => ⟨z.2.1 z.1, z.2.2⟩) fun _ _ z => z.2
/-- a property -/
theorem pe_prL (D : Pr X.prog X.w X.K X.mg X.base k C f sp) (hr : Room (k + 1) X.A) (he : PE X e ta) (hab : attributeBase e f X.env (eval e X.env) = eval e X.env := by rfl) : PE X (.Attribute e f pos) (tPrL C sp ta) := by
  obtain ⟨⟨q, g, fd, hp, F, hb⟩, c⟩ := D
  refine ⟨fun pins s σ H Q I h => ?_⟩
  refine attr_of hab (thn (he.run pins s σ H _ I h) fun u s1 hh => ?_)
  obtain ⟨x, H1, I1, rx, a, dx, m, ks, ex, L, q2⟩ := hh
  subst ex
  obtain rfl : u = Value.ref a := rx
  obtain ⟨od, J, _⟩ := (L.obj I1.hok).1.look
  obtain ⟨rest, isProp⟩ := hp.rec_
  have I2 := I1.tok (s1.toks + 1)
  have known : (PySem.W.clsIn X.K C).isSome = true := by
    obtain ⟨cd, hc, _⟩ := PySem.W.any_some c.hd
    rw [hc]
    rfl
  refine PySem.W.get_bind I1.kIn J (PySem.W.plainGet_of (c.get f)).1 (PySem.W.findObj_data known hp.at_ hp.get hp.tak) (PySem.W.plainGet_of (c.get f)).2 (wpAny_call (PySem.W.prop_get (s := { s1 with toks := s1.toks + 1 }) I1.kIn isProp ?_))
  have bind := hb _ [Value.ref a] I2.kIn rfl
  rw [List.append_nil] at bind
  refine codeAny_mono (F.run X.A.in1 X.stack { s1 with toks := s1.toks + 1 } H1 ⟨[.ref a], []⟩ [.ref a] [.ref a] Q E0 hr.in1 I2.env0.in1 bind (.cons rfl .nil) q2) fun r s' hq => ?_
  match r, hq with
  | .error er, hq => exact False.elim hq
  | .ok (.ret w), hq =>
    obtain ⟨v, H', I3, rv, q3⟩ := I2.after hq
    show wpAny _ _ (handedOut w) _ _ _
    rw [PySem.W.handedOut_of (handed_of rv)]
    exact wpAny_pure ⟨v, H', I3, rv, q3⟩
/-! ### the making -/
structure MkW (P : Program) (w : World) (K : PySem.W.Frag) (mg : Str → Option Value) (base : Heap) (k : Nat) (x : Str) (C : Addr) (ps : List Str) (j : Nat) (sp : Nat → Value → Sp) : Prop where
  ex : ∃ f fd, Mk K C f ∧ FnW P w K mg base k f fd ps (j + 1) sp ∧ Binds K fd ps []
  at_ : mg x = some (.ref C)
theorem we_new {spn : Nat → Value → Sp} (Cl : Clo X ys Θ) (D : MkW X.prog X.w X.K X.mg X.base k x C ps j spn) (hn : ∀ s, Θ s → n ≤ s.toks) (hr : Room (k + 1) X.A) (hg : Gl X x) (ha : Wq X Θ j (e :: es) tq) (hdb : (x == ("__debug__" : Str)) = false := by decide)
    (he : starEach (e :: es) X.env = (false, eval e X.env) :: starEach es X.env := by rfl) (hpl : (backTo pos (starEach es X.env)).any (·.1) = false := by rfl) :
    We X Θ (.Call (.Name x p) (e :: es) [] pos) (tNewW C (spn n) tq) := by
  obtain ⟨⟨g, fd, M, F, hb⟩, hm⟩ := D
  refine ⟨fun pins s σ H Q I θ h => ?_⟩
  refine wpAny_Call_Name_kw (ld_glob I hg hm ?_ hdb)
  refine PySem.W.callWith_K (h₀ := X.base) I.ok.mod.kin M.kp (thn (ha.run pos pins s σ H _ I θ h) fun us s1 hh => ?_) he hpl
  obtain ⟨g1, u0, eu, vs, H1, I1, r, q⟩ := hh
  refine ⟨I1.kIn, ?_⟩
  have hq := q (s1.heap.objs.size + 1) s1.heap.objs.size (I1.hok.fresh (Nat.le_succ _)) (I1.hok.fresh (Nat.le_refl _)) (Nat.ne_of_lt (Nat.lt_succ_self _))
  have I2 := live_made (C := C) I1
  have r2 : Vals (V.ref (s1.heap.objs.size + 1) :: vs) (Value.ref (s1.heap.objs.size + 1) :: us) := .cons rfl r
  have hl : (Value.ref (s1.heap.objs.size + 1) :: us ++ []).length = ps.length := by
    have e := r2.length
    rw [F.len _ _ _ _ _ _ hq] at e
    rw [List.append_nil]
    exact e.symm
  have b := hb _ (Value.ref (s1.heap.objs.size + 1) :: us) I2.kIn hl
  rw [List.append_nil] at b
  have un1 : Un (frs X.stack) [] H1 (upd (upd H1 s1.heap.objs.size (dicO s1.heap.objs.size (fun _ => none) [])) (s1.heap.objs.size + 1) (insO (s1.heap.objs.size + 1) C s1.heap.objs.size)) s1.heap ((s1.heap.push PySem.W.emptyDict).push (PySem.W.instObj C s1.heap.objs.size)) := by
    have f2 : (upd H1 s1.heap.objs.size (dicO s1.heap.objs.size (fun _ => none) [])) (s1.heap.objs.size + 1) = none := by
      rw [upd_ne (Nat.succ_ne_self _)]
      exact I1.hok.fresh (Nat.le_succ _)
    exact (Un.laid (h' := s1.heap.push PySem.W.emptyDict) (fun b u q => Heap.get?_push_of_some _ q) (Nat.le_refl _) (I1.hok.fresh (Nat.le_refl _))).trans (Un.laid (fun b u q => Heap.get?_push_of_some _ q) (Nat.le_of_eq (Heap.size_push _ _)) f2)
  have called : wpAny (model X.prog X.w) X.A (call (.ref C) us) (fun u s' => (s1.toks ≤ s'.toks → Θ s') ∧ EP X pins σ Q u s') X.xe s1 := by
    refine wpAny_call (make_map (f := g) I1.kIn M.makes M.init (beq_iff_eq.mp M.fn) (codeAny_mono (F.run _ X.stack _ _ ⟨Value.ref (s1.heap.objs.size + 1) :: us, []⟩ (Value.ref (s1.heap.objs.size + 1) :: us) _ _ n u0 (hr.make C us [])
      (I2.env0.make C us []) b r2 (hn s1 g1) eu hq) fun r s' hq' => ?_))
    match r, hq' with
    | .ok (.ret u), hq' =>
      have ce : CE X.stack X.prog X.w _ _ _ u s' := hq'
      obtain ⟨_, _, _, _, un, _⟩ := id ce
      obtain ⟨v, H', I3, rv, ev, q3⟩ := I2.after ce
      subst ev
      exact ⟨rv, fun up => Cl.un0 I1 up (un1.trans un) g1, V.ref (s1.heap.objs.size + 1), H', I3, rfl, q3⟩
  exact wpAny_mono (PySem.wpAny_toks called) (fun u s' z => ⟨z.2.1 z.1, z.2.2⟩) fun _ _ z => z.2
end
end Sq
set_option Elab.async false
set_option linter.all false
set_option maxRecDepth 100000
set_option maxHeartbeats 4000000
/-! enumerate over a tuple. -/
namespace Sq
open PySem PySem.Spec PyProof.Rows L2
theorem enumT_meets (tp : Addr) (items : Array Value) (ob : Obj) (hcl : ob.cls = .type "tuple") (m : Nat) (hda : ob.data = .seq items m) :
    Meets (Builtin.«enumerate.__new__» ⟨[.type "enumerate", .ref tp], []⟩) (fun _ R s => s.heap.get? tp = some ob ∧
      R (.ok (.ret (.ref (s.heap.push { cls := .type "tuple_iterator", data := .fields #[.ref tp, .int 0 0] }).objs.size)))
        { s with heap := (s.heap.push { cls := .type "tuple_iterator", data := .fields #[.ref tp, .int 0 0] }).push { cls := .type "enumerate", data := .fields #[.none, .bool false, .ref s.heap.objs.size, rawInt 0, .none, .none] } }) :=
  .of_wp fun prog w A R s hh => by
    obtain ⟨h1, h2, h3, h4, h5⟩ := s
    obtain ⟨gt, hR⟩ := hh
    have isEnumCls := sub_enumerate
    have isT : Heap.IsTuple (Shared.heap ⟨h1, h2, h3, h4, h5⟩) tp items := ⟨_, gt, hcl, m, hda⟩
    wp_walk using AutoSeq1.wpAny_loadPart' gt
    refine wpAny_stack_any fun st => wpAny_pure ?_
    split
    · rename_i c _ _ _ _ _
      cases (c == Value.type "enumerate")
      · wp_walk using AutoSeq1.wpAny_loadPart' gt, wpAny_pyIter_tuple isT
        exact ⟨_, rfl, hR⟩
      · wp_walk using AutoSeq1.wpAny_loadPart' gt, wpAny_pyIter_tuple isT
        exact ⟨_, rfl, hR⟩
    · wp_walk using AutoSeq1.wpAny_loadPart' gt, wpAny_pyIter_tuple isT
      exact ⟨_, rfl, hR⟩
theorem enumT_call {prog : Program} {w : World} {A : Around} {E : Value → Shared → Prop} {s : Shared} {tp : Addr} {items : Array Value} {Q : Value → Shared → Prop} (isT : s.heap.IsTuple tp items)
    (fin : ∀ h', IsEnum h' (s.heap.objs.size + 1) s.heap.objs.size 0 .none → h'.IsTupleIter s.heap.objs.size tp 0 → h'.objs.size = s.heap.objs.size + 2 →
      (∀ b o, s.heap.get? b = some o → h'.get? b = some o) → Q (.ref (s.heap.objs.size + 1)) { s with heap := h' }) :
    wpAny (model prog w) A (call (.type "enumerate") [.ref tp]) Q E s := by
  obtain ⟨ob, gt, hcl, m, hda⟩ := isT
  refine callType_new F.called_enumerate (by decide) (F.typeCall_enumerate_1 _) (F.newCall_enumerate_1 _) (fun obj => F.args_object_init_2 obj _) F.entry_enumerate_new
    (enumT_meets tp items ob hcl m hda) ⟨gt, ?_⟩
  have sz : (s.heap.push { cls := .type "tuple_iterator", data := .fields #[.ref tp, .int 0 0] }).objs.size = s.heap.objs.size + 1 := Heap.size_push ..
  show _ ∧ _
  rw [sz]
  have isE : IsEnum ((s.heap.push { cls := .type "tuple_iterator", data := .fields #[.ref tp, .int 0 0] }).push
      { cls := .type "enumerate", data := .fields #[.none, .bool false, .ref s.heap.objs.size, rawInt 0, .none, .none] }) (s.heap.objs.size + 1) s.heap.objs.size 0 .none := by
    have z := Heap.get?_push_size (s.heap.push { cls := .type "tuple_iterator", data := .fields #[.ref tp, .int 0 0] })
      (o := { cls := .type "enumerate", data := .fields #[.none, .bool false, .ref s.heap.objs.size, rawInt 0, .none, .none] }) rfl
    rw [sz] at z
    exact z
  refine ⟨⟨_, isE, rfl⟩, fin _ isE ⟨_, Heap.get?_push_of_some _ (Heap.get?_push_size _ rfl), rfl, rfl⟩ (by rw [Heap.size_push, sz]) fun b o y => Heap.get?_push_of_some _ (Heap.get?_push_of_some _ y)⟩
/-- the items of a tuple with their places, in new pairs -/
def IteT (K : PySem.W.Frag) (a : Addr) (xs : List V) : It :=
  ⟨fun i H => SqT K H a xs ∧ i < xs.length, fun i H v H' => ∃ (T : Addr) (x : V), v = .ref T ∧ H T = none ∧ H' = upd H T (.tup [.int (i : Nat), x]) ∧ xs[i]? = some x, fun i H => SqT K H a xs ∧ i = xs.length⟩
theorem turn_enumT {P : Program} {w : World} {K : PySem.W.Frag} {elts : List Expr} {kk : Nat} {tpos : Pos} (en it a : Addr) (xs : List V) :
    Turn P w K (.Tuple elts kk tpos) (IteT K a xs) [en, it] en (fun i h => (∃ old, IsEnum h en it ((i : Nat) : Int) old) ∧ h.IsTupleIter it a i ∧ en ≠ it ∧ a ≠ it ∧ a ≠ en) where
  mem := List.mem_cons_self
  obj := fun i h st b hb => by
    obtain ⟨⟨old, isE⟩, ⟨o, ho, cls, dat⟩, _⟩ := st
    rcases List.mem_cons.mp hb with z | z
    · rw [z]
      exact ⟨_, isE, fun v q => nomatch q⟩
    · rw [List.mem_singleton.mp z]
      exact ⟨o, ho, fun v q => by rw [dat] at q; cases q⟩
  keep := fun i h h' st k => by
    obtain ⟨⟨old, isE⟩, ⟨o, ho, r⟩, ne⟩ := st
    exact ⟨⟨old, k en (by simp) _ isE⟩, ⟨o, k it (by simp) o ho, r⟩, ne⟩
  item := by
    intro X hP hw hK hc i pins s σ H E I hf st hg
    subst hP hw hK
    obtain ⟨⟨old, isE⟩, isI, ne, na, nb⟩ := st
    obtain ⟨hS, il⟩ := hg
    obtain ⟨its, rv, isT, hz⟩ := I.tuple hS
    have quiet : X.A.in1.handled = none := by simp [I.ok.hd hc]
    have lowE : en < s.heap.objs.size := Heap.lt_size isE
    have lowI : it < s.heap.objs.size := by
      obtain ⟨_, q, _⟩ := isI
      exact Heap.lt_size q
    have isT' : s.heap.IsTuple a its.toArray := isT
    have il2 : i < its.toArray.size := by rw [List.size_toArray, ← rv.length]; exact il
    have nfp : en ∉ [it, a] := fun z => by
      rcases List.mem_cons.mp z with z | z
      · exact ne z
      · exact nb (List.mem_singleton.mp z).symm
    refine wpAny_pyNext_enum_itemD (Draws.tuple quiet it a na its.toArray) isE ⟨isI, isT'⟩ il2 ne nfp fun v h' tk pv out isI' hT hsz hk => ?_
    have pv' : its[i]? = some v := by simpa using pv
    obtain ⟨x, ex⟩ : ∃ x, xs[i]? = some x := ⟨_, List.getElem?_eq_getElem il⟩
    obtain ⟨u, eu, ru⟩ := rv.get ex
    obtain rfl : u = v := by rw [eu] at pv'; exact Option.some.inj pv'
    refine ⟨_, rfl, wpAny_letOwnedTupleGo_enum (s := { s with heap := h', toks := tk + 1 }) out fun h2 isE2 sb => ?_⟩
    have fresh : H s.heap.objs.size = none := I.hok.fresh (Nat.le_refl _)
    have hT2 : h2.get? s.heap.objs.size = some { cls := .type "tuple", data := .seq #[.int i tk, u] } := (sb.2 _ (Nat.ne_of_gt lowE)).trans hT
    have made : ObjOk X.prog X.w (upd H s.heap.objs.size (.tup [.int (i : Nat), x])) h2 s.heap.objs.size (.tup [.int (i : Nat), x]) :=
      ⟨by show 2 ≤ sizeLine; rw [sizeLine_eq]; decide, [.int i tk, u], .cons ⟨_, rfl⟩ (.cons ru .nil), ⟨_, hT2, rfl, _, rfl⟩⟩
    have I1 : Inv X pins σ (upd H s.heap.objs.size (.tup [.int (i : Nat), x])) { s with heap := h2, toks := tk + 1 } :=
      I.turnedNew (ch := [en, it]) (fun b ob hb q => (sb.2 b (fun z => hb (by simp [z]))).trans (hk b ob (fun z => hb (by simp [z])) (fun z => hb (by simp [z])) q)) hf (Nat.le_refl _) made
    obtain ⟨⟨oi, eoi, ri⟩, _⟩ := isI'
    refine ⟨.ref s.heap.objs.size, _, I1, rfl, ⟨_, x, rfl, fresh, rfl, ex⟩, ⟨⟨u, ?_⟩, ⟨oi, (sb.2 it (Ne.symm ne)).trans eoi, ri⟩, ne, na, nb⟩, fun b hb => ?_⟩
    · rw [show ((i + 1 : Nat) : Int) = (i : Int) + 1 by omega]
      exact isE2
    · have lowB : b < s.heap.objs.size := by
        rcases List.mem_cons.mp hb with z | z
        · rw [z]
          exact lowE
        · rw [List.mem_singleton.mp z]
          exact lowI
      rw [upd_ne (Nat.ne_of_lt lowB)]
      exact (hf b hb).1
  done := by
    intro X hP hw hK hc i pins s σ H E I hf st hg
    subst hP hw hK
    obtain ⟨⟨old, isE⟩, isI, ne, na, nb⟩ := st
    obtain ⟨hS, last⟩ := hg
    obtain ⟨its, rv, isT, hz⟩ := I.tuple hS
    have quiet : X.A.in1.handled = none := by simp [I.ok.hd hc]
    have isT' : s.heap.IsTuple a its.toArray := isT
    have il2 : i = its.toArray.size := by rw [List.size_toArray, ← rv.length]; exact last
    obtain ⟨f0, f1, f2, f3, f4, f5⟩ := hf it (by simp)
    subst il2
    exact wpAny_pyNext_enum_endD (Draws.tuple quiet it a na its.toArray) isE ⟨isI, isT'⟩ fun h2 eb => ⟨rfl, I.turned (t' := s.toks) (fun b o hb q => eb b o hb q) f0 f1 f3 f4 f5⟩
  self := fun A i s Q E st h => by
    obtain ⟨⟨_, isE⟩, _⟩ := st
    exact wpAny_pyIter_enum isE h
def iEnumT (K : PySem.W.Frag) (ta : TA) : TI := fun σ H R => ta σ H fun vs H1 => ∃ a xs, vs = [.ref a] ∧ SqT K H1 a xs ∧ R (IteT K a xs) H1
theorem pi_enumT {X : Cx} {e : Expr} {ta : TA} {p pos tpos : Pos} {elts : List Expr} {kk : Nat} (hg : Gl X "enumerate") (hm : X.mg "enumerate" = none) (ha : PA X [e] ta) (hs : starEach [e] X.env = [(false, eval e X.env)] := by rfl) :
    PI X (.Tuple elts kk tpos) (.Call (.Name "enumerate" p) [e] [] pos) (iEnumT X.K ta) := by
  refine ⟨fun pins s σ H R I h => ?_⟩
  refine Call_ (ld_blt I hg hm boot_enumerate (PyProof.Rows.callWith_type1 (thn (ha.run pos pins s σ H _ I h) fun us s1 hh => ?_) hs rfl))
  obtain ⟨vs, H1, I1, r1, a, xs, ex, hq, q⟩ := hh
  subst ex
  obtain ⟨u, rfl, rfl⟩ := vals1 r1
  obtain ⟨its, rv, isT, hz⟩ := I1.tuple hq
  have isT' : s1.heap.IsTuple a its.toArray := isT
  have low : a < s1.heap.objs.size := by
    obtain ⟨o, e, _⟩ := isT'
    exact Heap.lt_size e
  refine enumT_call isT' fun h' isE isI hsz hk => wpAny_pyIter_enum isE ?_
  refine ⟨s1.heap.objs.size + 1, [s1.heap.objs.size + 1, s1.heap.objs.size], _, _, H1, rfl, I1.kept (t' := s1.toks) hk, turn_enumT (s1.heap.objs.size + 1) s1.heap.objs.size a xs, ⟨⟨.none, isE⟩, isI, Nat.succ_ne_self _, Nat.ne_of_lt low, Nat.ne_of_lt (Nat.lt_succ_of_lt low)⟩, fun b hb => ?_, q⟩
  have up : s1.heap.objs.size ≤ b := by
    rcases List.mem_cons.mp hb with z | z
    · rw [z]
      exact Nat.le_add_right _ _
    · rw [List.mem_singleton.mp z]
      exact Nat.le_refl _
  exact I1.fpOk up (I1.hok.fresh up)
theorem walk_enumT {K : PySem.W.Frag} {a : Addr} {xs : List V} : Walk (IteT K a xs) xs.length (fun H => SqT K H a xs) (fun i H v H' => ∃ (T : Addr) (x : V), v = .ref T ∧ H T = none ∧ H' = upd H T (.tup [.int (i : Nat), x]) ∧ xs[i]? = some x) :=
  ⟨fun i H hi q => ⟨q, hi⟩, fun H q => ⟨q, rfl⟩, fun i H v H' _ q h => h⟩
end Sq
set_option Elab.async false
set_option linter.all false
set_option maxRecDepth 100000
set_option maxHeartbeats 1000000
/-! range(lo, hi) of ints of any size; order of lists; list(g(..)). -/
namespace L2
open PySem PySem.Spec PyProof.Rows
end L2
set_option Elab.async false
set_option linter.all false
set_option maxRecDepth 100000
set_option maxHeartbeats 8000000
set_option exponentiation.threshold 2000
namespace Sq
open PySem PySem.Spec PyProof.Rows L2
def topS (i : Nat) : Stmt := PySem.Challenge.pw_squeezelists_k23_whole_texts_made_single.main.body.getD i (.Pass ⟨0, 0, 0, 0⟩)
abbrev s_checklist : Stmt := topS 7
theorem sc_checklist : FnScope ["replacements", "index", "number"] ["replacements"] (defScope s_checklist) := ⟨rfl, rfl, rfl, by decide +kernel, rfl, by decide +kernel, by decide +kernel⟩
abbrev s_checknumber : Stmt := topS 8
theorem sc_checknumber : FnScope ["number", "least"] ["number", "least"] (defScope s_checknumber) := ⟨rfl, rfl, rfl, by decide +kernel, rfl, by decide +kernel, by decide +kernel⟩
abbrev s_checkcharacter : Stmt := topS 9
theorem sc_checkcharacter : FnScope ["character"] ["character"] (defScope s_checkcharacter) := ⟨rfl, rfl, rfl, by decide +kernel, rfl, by decide +kernel, by decide +kernel⟩
abbrev s_reach : Stmt := topS 11
theorem sc_reach : FnScope ["replacements", "most", "longest", "number"] ["replacements", "most"] (defScope s_reach) := ⟨rfl, rfl, rfl, by decide +kernel, rfl, by decide +kernel, by decide +kernel⟩
abbrev s_bestreach : Stmt := topS 12
theorem sc_bestreach : FnScope ["steps", "most", "longest", "_"] ["steps", "most"] (defScope s_bestreach) := ⟨rfl, rfl, rfl, by decide +kernel, rfl, by decide +kernel, by decide +kernel⟩
abbrev s_feweststeps : Stmt := topS 13
theorem sc_feweststeps : FnScope ["length", "most", "steps", "longest"] ["length", "most"] (defScope s_feweststeps) := ⟨rfl, rfl, rfl, by decide +kernel, rfl, by decide +kernel, by decide +kernel⟩
abbrev s_reachwith : Stmt := topS 15
theorem sc_reachwith : FnScope ["number", "longest"] ["number", "longest"] (defScope s_reachwith) := ⟨rfl, rfl, rfl, by decide +kernel, rfl, by decide +kernel, by decide +kernel⟩
abbrev s_bestnumbers : Stmt := topS 16
theorem sc_bestnumbers : FnScope ["longest", "low", "high"] ["longest"] (defScope s_bestnumbers) := ⟨rfl, rfl, rfl, by decide +kernel, rfl, by decide +kernel, by decide +kernel⟩
abbrev s_greatestreachwithone : Stmt := topS 17
theorem sc_greatestreachwithone : FnScope ["longest"] ["longest"] (defScope s_greatestreachwithone) := ⟨rfl, rfl, rfl, by decide +kernel, rfl, by decide +kernel, by decide +kernel⟩
abbrev s_bestchoices : Stmt := topS 18
theorem sc_bestchoices : FnScope ["steps", "most", "choices", "longest", "_"] ["steps", "most"] (defScope s_bestchoices) := ⟨rfl, rfl, rfl, by decide +kernel, rfl, by decide +kernel, by decide +kernel⟩
abbrev s_listat : Stmt := topS 19
theorem sc_listat : FnScope ["choices", "place", "found", "rest", "numbers"] ["choices", "place"] (defScope s_listat) := ⟨rfl, rfl, rfl, by decide +kernel, rfl, by decide +kernel, by decide +kernel⟩
abbrev s_squeezed : Stmt := topS 21
theorem sc_squeezed : FnScope ["length", "replacements"] ["length", "replacements"] (defScope s_squeezed) := ⟨rfl, rfl, rfl, by decide +kernel, rfl, by decide +kernel, by decide +kernel⟩
abbrev s_squeezetext : Stmt := topS 22
theorem sc_squeezetext : FnScope ["text", "character", "replacements", "lengths", "after", "others", "length", "other"] ["text", "character", "replacements"] (defScope s_squeezetext) := ⟨rfl, rfl, rfl, by decide +kernel, rfl, by decide +kernel, by decide +kernel⟩
abbrev s_lengthsbetween : Stmt := topS 25
theorem sc_lengthsbetween : FnScope ["text", "character", "lengths", "run", "sign"] ["text", "character"] (defScope s_lengthsbetween) := ⟨rfl, rfl, rfl, by decide +kernel, rfl, by decide +kernel, by decide +kernel⟩
abbrev s_lengthafter : Stmt := topS 23
theorem sc_lengthafter : FnScope ["length", "replacements", "present", "number"] ["length", "replacements"] (defScope s_lengthafter) := ⟨rfl, rfl, rfl, by decide +kernel, rfl, by decide +kernel, by decide +kernel⟩
abbrev s_lengthafterone : Stmt := topS 24
theorem sc_lengthafterone : FnScope ["length", "number", "groups", "left"] ["length", "number"] (defScope s_lengthafterone) := ⟨rfl, rfl, rfl, by decide +kernel, rfl, by decide +kernel, by decide +kernel⟩
abbrev s_SqueezedTextinit : Stmt := inClass (topS 27) 0
theorem sc_SqueezedTextinit : FnScope ["self", "text", "character"] ["self", "text", "character"] (defScope s_SqueezedTextinit) := ⟨rfl, rfl, rfl, by decide +kernel, rfl, by decide +kernel, by decide +kernel⟩
abbrev s_SqueezedTexteq : Stmt := inClass (topS 27) 1
theorem sc_SqueezedTexteq : FnScope ["self", "other"] ["self", "other"] (defScope s_SqueezedTexteq) := ⟨rfl, rfl, rfl, by decide +kernel, rfl, by decide +kernel, by decide +kernel⟩
abbrev s_SqueezedTextsingle : Stmt := inClass (topS 27) 2
theorem sc_SqueezedTextsingle : FnScope ["cls", "text", "character", "made", "steps", "lists", "first"] ["cls", "text", "character"] (defScope s_SqueezedTextsingle) := ⟨rfl, rfl, rfl, by decide +kernel, rfl, by decide +kernel, by decide +kernel⟩
abbrev s_SqueezedTexttext : Stmt := inClass (topS 27) 3
theorem sc_SqueezedTexttext : FnScope ["self"] ["self"] (defScope s_SqueezedTexttext) := ⟨rfl, rfl, rfl, by decide +kernel, rfl, by decide +kernel, by decide +kernel⟩
abbrev s_SqueezedTextreplacements : Stmt := inClass (topS 27) 4
theorem sc_SqueezedTextreplacements : FnScope ["self"] ["self"] (defScope s_SqueezedTextreplacements) := ⟨rfl, rfl, rfl, by decide +kernel, rfl, by decide +kernel, by decide +kernel⟩
abbrev s_SqueezedTextlongest : Stmt := inClass (topS 27) 5
theorem sc_SqueezedTextlongest : FnScope ["self"] ["self"] (defScope s_SqueezedTextlongest) := ⟨rfl, rfl, rfl, by decide +kernel, rfl, by decide +kernel, by decide +kernel⟩
abbrev s_SqueezedTextsqueeze : Stmt := inClass (topS 27) 6
theorem sc_SqueezedTextsqueeze : FnScope ["self", "replacements", "longest", "number", "after"] ["self", "replacements"] (defScope s_SqueezedTextsqueeze) := ⟨rfl, rfl, rfl, by decide +kernel, rfl, by decide +kernel, by decide +kernel⟩
abbrev s_SqueezedTextundo : Stmt := inClass (topS 27) 7
theorem sc_SqueezedTextundo : FnScope ["self"] ["self"] (defScope s_SqueezedTextundo) := ⟨rfl, rfl, rfl, by decide +kernel, rfl, by decide +kernel, by decide +kernel⟩
abbrev s_lawpool : Stmt := topS 29
theorem sc_lawpool : FnScope ["script", "at", "cell"] ["script", "at"] (defScope s_lawpool) := ⟨rfl, rfl, rfl, by decide +kernel, rfl, by decide +kernel, by decide +kernel⟩
abbrev s_lawdraw : Stmt := topS 30
theorem sc_lawdraw : FnScope ["pool", "many", "drawn", "mixed"] ["pool", "many"] (defScope s_lawdraw) := ⟨rfl, rfl, rfl, by decide +kernel, rfl, by decide +kernel, by decide +kernel⟩
abbrev s_lawtext : Stmt := topS 31
theorem sc_lawtext : FnScope ["pool", "most", "sign", "found", "turn", "long", "letter"] ["pool", "most"] (defScope s_lawtext) := ⟨rfl, rfl, rfl, by decide +kernel, rfl, by decide +kernel, by decide +kernel⟩
abbrev s_lawruns : Stmt := topS 32
theorem sc_lawruns : FnScope ["written", "sign", "found", "many", "one"] ["written", "sign"] (defScope s_lawruns) := ⟨rfl, rfl, rfl, by decide +kernel, rfl, by decide +kernel, by decide +kernel⟩
abbrev s_lawfewest : Stmt := topS 33
theorem sc_lawfewest : FnScope ["long", "many", "reached"] ["long"] (defScope s_lawfewest) := ⟨rfl, rfl, rfl, by decide +kernel, rfl, by decide +kernel, by decide +kernel⟩
abbrev s_bestlists : Stmt := topS 14
theorem sc_bestlists : GScope ["steps", "most", "choices", "many", "numbers", "place"] ["steps", "most"] (defScope s_bestlists) := ⟨rfl, rfl, rfl, by decide +kernel, rfl, by decide +kernel, by decide +kernel⟩
abbrev s_SqueezedTextruns : Stmt := inClass (topS 27) 8
theorem sc_SqueezedTextruns : GScope ["self", "length"] ["self"] (defScope s_SqueezedTextruns) := ⟨rfl, rfl, rfl, by decide +kernel, rfl, by decide +kernel, by decide +kernel⟩
/-! ### the draws -/
structure Rng (H : Hp) (l : Addr) (seed cnt : Int) : Prop where
  ob : ∃ dg, H l = some (.lst [.int dg, .int seed, .int cnt])
  s0 : 0 ≤ seed
  s1 : seed < 4611686018427387904
  c0 : 0 ≤ cnt
theorem Rng.same {H H' : Hp} {l : Addr} {seed cnt : Int} (S : Rng H l seed cnt) (s : Same H H') : Rng H' l seed cnt :=
  let ⟨dg, h⟩ := S.ob
  ⟨⟨dg, s _ _ h⟩, S.s0, S.s1, S.c0⟩
/-- all but the object at l is as it was -/
def Keep1 (H H' : Hp) (l : Addr) : Prop := ∀ b o, H b = some o → b ≠ l → H' b = some o
theorem Keep1.trans {H H1 H2 : Hp} {l : Addr} (a : Keep1 H H1 l) (b : Keep1 H1 H2 l) : Keep1 H H2 l := fun c o h n => b c o (a c o h n) n
theorem Keep1.of {H H' : Hp} {l : Addr} (s : Same H H') : Keep1 H H' l := fun b o h _ => s b o h
theorem Keep1.set {H : Hp} {l : Addr} {o : HO} : Keep1 H (upd H l o) l := fun c x h n => by
  rw [upd_ne n]
  exact h
section
variable {P : Program} {w : World} {K : PySem.W.Frag} {mg : Str → Option Value} {base : Heap}
def spPool (K : PySem.W.Frag) : Sp := fun vs H Q _ => ∃ (a : Addr) (ns : List Int) (j : Nat), vs = [.ref a, .int (j : Int)] ∧ SqL K H a (ns.map V.int) ∧ ns.length ≤ 63 ∧ j ≤ 100 ∧ ∀ l seed H', H l = none → Same H H' → Rng H' l seed 0 → Q (.ref l) H'
theorem ok_lawpool {f : Addr} {fd : FuncData} (F : Fun K "_law_pool" "_law_pool" s_lawpool f fd) (B : Bi mg) : FnOk P w K mg base CX0 1 f fd ["script", "at"] (spPool K) := by
  refine F.ok sc_lawpool (fun vs H Q E h => ?_) (fun cdv A outer s H vs Q E hr h => ?_)
  · obtain ⟨a, ns, j, rfl, _⟩ := h
    rfl
  · obtain ⟨a, ns, j, rfl, hS, hn, hj, q⟩ := h
    refine ⟨_, (pss_cons (ps_set (i := 2) sc_lawpool.nd rfl (Or.inl rfl) pe_int)
 (pss_cons (ps_if (pt_cmpR op_lt (pv 1) (pe_callB (id := "len") (r := rLenK K) call_lenK (by rfl) B.n_len (by decide +kernel) (pa_cons (pv 0) pa_nil)) (nomark _))
 (pss_one (ps_set (i := 2) sc_lawpool.nd rfl (Or.inl rfl) (pe_ix (r := rIxL K) ix_list (pv 0) (pv 1) (fun _ _ => rfl))))
 pss_nil)
 (pss_one (ps_ret (pe_lst (pa_cons (pe_callB (id := "max") (call_max2 rfl) (by rfl) B.n_max (by decide +kernel) (pa_cons pe_int (pa_cons (pe_op op_sub (pe_callB (id := "abs") call_abs (by rfl) B.n_abs (by decide +kernel) (pa_cons (pv 2) pa_nil)) (pe_op op_pow pe_int pe_int)) pa_nil))) (pa_cons (pe_op op_add (pe_op op_mod (pv 2) pe_int) (pe_op op_mul pe_int (pe_op op_add (pv 1) pe_int))) (pa_cons pe_int pa_nil)))))))), ?_⟩
    have rest : ∀ (cell : Int) (l : Addr), H l = none → Q (.ref l) (upd H l (.lst [.int (if (if cell < 0 then -cell else cell) - 10 ^ (18 : Int).toNat > 0 then (if cell < 0 then -cell else cell) - 10 ^ (18 : Int).toNat else 0), .int (cell % 2305843009213693951 + 3367900279 * ((j : Int) + 1)), .int 0])) := fun cell l hl => by
      have s0 : 0 ≤ cell % 2305843009213693951 := Int.emod_nonneg _ (by decide)
      have s1 : cell % 2305843009213693951 < 2305843009213693951 := Int.emod_lt_of_pos _ (by decide)
      exact q l _ _ hl (same_new hl) ⟨⟨_, upd_same⟩, by omega, by omega, Int.le_refl 0⟩
    have w3 : 3 ≤ sizeLine := Nat.le_of_lt (small1000 (by decide))
    refine ⟨_, rfl, _, rfl, a, _, rfl, .inl hS, _, _, rfl, rfl, _, rfl, ite2 (fun c => ?_) (fun c => ?_)⟩
    · have jl : j < ns.length := by
        have := of_decide_eq_true c
        rw [List.length_map] at this
        omega
      refine ⟨_, rfl, _, rfl, a, _, _, .int ns[j], rfl, rfl, hS, at_of (j := j) rfl (by rw [List.getElem?_map, List.getElem?_eq_getElem jl]; rfl), ?_⟩
      refine ⟨_, rfl, _, rfl, 10, 18, rfl, rfl, ⟨by decide, by decide, by decide⟩, _, _, rfl, rfl, 0, _, rfl, ?_⟩
      exact ⟨_, rfl, _, _, rfl, rfl, (by decide : (0 : Int) < 2305843009213693951), _, rfl, _, 1, rfl, rfl, 3367900279, _, rfl, rfl, .inl ⟨by decide, by decide⟩, _, _, rfl, rfl, w3, fun l hl => rest _ l hl⟩
    · refine ⟨_, rfl, _, rfl, 10, 18, rfl, rfl, ⟨by decide, by decide, by decide⟩, _, _, rfl, rfl, 0, _, rfl, ?_⟩
      exact ⟨_, rfl, _, _, rfl, rfl, (by decide : (0 : Int) < 2305843009213693951), _, rfl, _, 1, rfl, rfl, 3367900279, _, rfl, rfl, .inl ⟨by decide, by decide⟩, _, _, rfl, rfl, w3, fun l hl => rest _ l hl⟩
def spDraw : Sp := fun vs H Q _ => ∃ (l : Addr) (seed cnt limit : Int), vs = [.ref l, .int limit] ∧ Rng H l seed cnt ∧ cnt < 1000000 ∧ 0 < limit ∧ limit.natAbs < 2 ^ 700 ∧
  ∀ z cnt' H', 0 ≤ z → z < limit → Rng H' l seed cnt' → cnt' ≤ cnt + 1 → Keep1 H H' l → Q (.int z) H'
theorem ok_lawdraw {f : Addr} {fd : FuncData} (F : Fun K "_law_draw" "_law_draw" s_lawdraw f fd) : FnOk P w K mg base CX0 1 f fd ["pool", "many"] spDraw := by
  refine F.ok sc_lawdraw (fun vs H Q E h => ?_) (fun cdv A outer s H vs Q E hr h => ?_)
  · obtain ⟨l, seed, cnt, limit, rfl, _⟩ := h
    rfl
  · obtain ⟨l, seed, cnt, limit, rfl, S, hc, hm, hw, q⟩ := h
    refine ⟨_, (pss_cons (ps_if (pt_cmpR op_gt (pe_ix (r := rIxL K) ix_list (pv 0) pe_int (fun _ _ => rfl)) pe_int (nomark _))
 (pss_cons (ps_set (i := 2) sc_lawdraw.nd rfl (Or.inl rfl) (pe_op op_mod (pe_ix (r := rIxL K) ix_list (pv 0) pe_int (fun _ _ => rfl)) (pv 1)))
 (pss_cons (ps_asg (pe_op op_fdivW (pe_ix (r := rIxL K) ix_list (pv 0) pe_int (fun _ _ => rfl)) (pv 1)) (pg_sub (pv 0) pe_int set_list))
 (pss_one (ps_ret (pv 2)))))
 pss_nil)
 (pss_cons (ps_asg (pe_op op_add (pe_ix (r := rIxL K) ix_list (pv 0) pe_int (fun _ _ => rfl)) pe_int) (pg_sub (pv 0) pe_int set_list))
 (pss_cons (ps_set (i := 3) sc_lawdraw.nd rfl (Or.inl rfl) (pe_op op_mod (pe_op op_powW (pe_op op_add (pe_ix (r := rIxL K) ix_list (pv 0) pe_int (fun _ _ => rfl)) (pe_op op_mul pe_int (pe_ix (r := rIxL K) ix_list (pv 0) pe_int (fun _ _ => rfl)))) pe_int) pe_int))
 (pss_cons (ps_set (i := 3) sc_lawdraw.nd rfl (Or.inl rfl) (pe_op op_mod (pe_op op_powW (pe_op op_add (pv 3) (pe_op op_mul pe_int (pe_ix (r := rIxL K) ix_list (pv 0) pe_int (fun _ _ => rfl)))) pe_int) pe_int))
 (pss_one (ps_ret (pe_op op_mod (pe_op op_fdiv (pv 3) pe_int) (pv 1)))))))), ?_⟩
    have s0 := S.s0
    have s1 := S.s1
    have c0 := S.c0
    obtain ⟨dg, hl⟩ := S.ob
    refine ⟨_, rfl, l, _, 0, _, rfl, rfl, SqL.of hl, rfl, dg, 0, rfl, rfl, _, rfl, ite2 (fun c1 => ?_) (fun c1 => ?_)⟩
    · refine ⟨_, rfl, l, _, 0, _, rfl, rfl, SqL.of hl, rfl, _, rfl, dg, limit, rfl, rfl, hm, ?_⟩
      refine ⟨_, rfl, l, _, 0, _, rfl, rfl, SqL.of hl, rfl, _, rfl, dg, limit, rfl, rfl, wide_div hm hw (by decide) (by decide), ?_⟩
      refine ⟨_, rfl, l, _, 0, 0, rfl, rfl, hl, rfl, _, rfl, ?_⟩
      exact q _ cnt _ (Int.emod_nonneg _ (by omega)) (Int.emod_lt_of_pos _ hm) ⟨⟨dg / limit, upd_same⟩, s0, s1, c0⟩ (by omega) Keep1.set
    · refine ⟨_, rfl, l, _, 2, _, rfl, rfl, SqL.of hl, rfl, cnt, 1, rfl, rfl, _, rfl, l, _, 2, 2, rfl, rfl, hl, rfl, ?_⟩
      have hl3 : (upd H l (.lst [.int dg, .int seed, .int (cnt + 1)])) l = some (.lst [.int dg, .int seed, .int (cnt + 1)]) := upd_same
      have b1 : (seed + 15493301 * (cnt + 1)).natAbs < 2 ^ 63 := by omega
      refine ⟨_, rfl, l, _, 1, _, rfl, rfl, SqL.of hl3, rfl, _, rfl, l, _, 2, _, rfl, rfl, SqL.of hl3, rfl, 15493301, cnt + 1, rfl, rfl, .inl ⟨by decide, by decide⟩, seed, _, rfl, rfl, _, 3, rfl, rfl, powW_of (by decide) b1 (by decide) (by decide), _, _, rfl, rfl, (by decide : (0 : Int) < 162259276829213363391578010288127), ?_⟩
      have p0 : 0 ≤ (seed + 15493301 * (cnt + 1)) ^ (3 : Int).toNat % 162259276829213363391578010288127 := Int.emod_nonneg _ (by decide)
      have p1 : (seed + 15493301 * (cnt + 1)) ^ (3 : Int).toNat % 162259276829213363391578010288127 < 162259276829213363391578010288127 := Int.emod_lt_of_pos _ (by decide)
      have b2 : ((seed + 15493301 * (cnt + 1)) ^ (3 : Int).toNat % 162259276829213363391578010288127 + 32454031 * (cnt + 1)).natAbs < 2 ^ 110 := by
        generalize (seed + 15493301 * (cnt + 1)) ^ (3 : Int).toNat % 162259276829213363391578010288127 = y at p0 p1
        omega
      refine ⟨_, rfl, _, rfl, l, _, 2, _, rfl, rfl, SqL.of hl3, rfl, 32454031, cnt + 1, rfl, rfl, .inl ⟨by decide, by decide⟩, _, _, rfl, rfl, _, 5, rfl, rfl, powW_of (by decide) b2 (by decide) (by decide), _, _, rfl, rfl, (by decide : (0 : Int) < 170141183460469231731687303715884105727), ?_⟩
      refine ⟨_, rfl, _, 1048576, rfl, rfl, ⟨by decide, by decide⟩, _, rfl, _, limit, rfl, rfl, hm, ?_⟩
      exact q _ (cnt + 1) _ (Int.emod_nonneg _ (by omega)) (Int.emod_lt_of_pos _ hm) ⟨⟨dg, hl3⟩, s0, s1, by omega⟩ (by omega) Keep1.set
end
theorem Rng.free {H H' : Hp} {l p : Addr} {seed cnt : Int} (k : Keep1 H H' l) (S : Rng H' l seed cnt) (h : H' p = none) : H p = none := by
  obtain ⟨dg, hl⟩ := S.ob
  cases e : H p with
  | none => rfl
  | some o =>
    have := k p o e (fun z => by rw [z, hl] at h; cases h)
    rw [h] at this
    cases this
theorem Rng.ne {H : Hp} {l p : Addr} {seed cnt : Int} (S : Rng H l seed cnt) (h : H p = none) : p ≠ l := fun z => by
  obtain ⟨dg, hl⟩ := S.ob
  rw [z, hl] at h
  cases h
theorem Rng.upd {H : Hp} {l p : Addr} {seed cnt : Int} {o : HO} (S : Rng H l seed cnt) (h : p ≠ l) : Rng (upd H p o) l seed cnt :=
  let ⟨dg, hl⟩ := S.ob
  ⟨⟨dg, by rw [upd_ne h.symm]; exact hl⟩, S.s0, S.s1, S.c0⟩
theorem nth_of {xs : List Int} {z : Int} (h0 : 0 ≤ z) (h : z < xs.length) : ∃ k, k ∈ xs ∧ atI (xs.map V.int) z = some (.int k) := by
  have lt : z.toNat < xs.length := by omega
  refine ⟨xs[z.toNat], List.getElem_mem lt, at_of (j := z.toNat) (by omega) ?_⟩
  rw [List.getElem?_map, List.getElem?_eq_getElem lt]
  rfl
end Sq
set_option Elab.async false
set_option linter.all false
set_option maxRecDepth 100000
set_option maxHeartbeats 8000000
set_option exponentiation.threshold 2000
namespace Sq
open PySem PySem.Spec PyProof.Rows L2
section
variable {P : Program} {w : World} {K : PySem.W.Frag} {mg : Str → Option Value} {base : Heap}
/-! ### the checks -/
def spCheckList (K : PySem.W.Frag) : Sp := fun vs H Q _ => ∃ (a : Addr) (ks : List Int), vs = [.ref a] ∧ SqL K H a (ks.map V.int) ∧ (∀ k ∈ ks, 2 ≤ k) ∧ ∀ H', Same H H' → Q .non H'
theorem ok_checklist {f : Addr} {fd : FuncData} (F : Fun K "check_list" "check_list" s_checklist f fd) (B : Bi mg) : FnOk P w K mg base CX0 1 f fd ["replacements"] (spCheckList K) := by
  refine F.ok sc_checklist (fun vs H Q E h => ?_) (fun cdv A outer s H vs Q E hr h => ?_)
  · obtain ⟨a, ks, rfl, _⟩ := h
    rfl
  · obtain ⟨a, ks, rfl, hS, hk, q⟩ := h
    refine ⟨_, (pss_one (ps_for PassesOwn.never rfl (pi_enum (by rfl) B.n_enumerate (pa_cons (pv 0) pa_nil)) (pg_tup rfl (pgs_cons (pg_name (i := 1) sc_checklist.nd rfl (Or.inl rfl)) (pgs_cons (pg_name (i := 2) sc_checklist.nd rfl (Or.inl rfl)) pgs_nil)))
 (pss_one (ps_if (pt_cmpR op_lt (pv 2) pe_int (nomark _))
 (pss_one ps_never)
 pss_nil)))), ?_⟩
    refine ⟨_, rfl, a, ks.map V.int, rfl, hS, for_it walk_enum (fun i σ H' => Same H H' ∧ ∃ y z, σ = [some (.ref a), y, z]) ⟨Same.refl H, none, none, rfl⟩ (fun i σ H' _ h => h.1.seq hS) ?_ ?_⟩
    · rintro i σ H' v H2 hi ⟨sm, y, z, rfl⟩ ⟨T, x1, x2, rfl, nT, rfl, e1, e2⟩
      obtain ⟨k, hk', rfl⟩ := map_at e2
      cases e1
      refine ⟨T, _, rfl, .inl (.inl upd_same), rfl, _, _, rfl, _, _, rfl, rfl, ?_⟩
      refine ⟨_, rfl, _, _, rfl, rfl, _, rfl, ite2 (fun c => ?_) (fun c => ?_)⟩
      · have := hk k (List.mem_of_getElem? hk')
        have c' : k < 2 := of_decide_eq_true c
        omega
      · exact ⟨sm.trans (same_new nT), _, _, rfl⟩
    · rintro σ H' ⟨sm, y, z, rfl⟩
      exact q H' sm
end
section
variable {P : Program} {w : World} {K : PySem.W.Frag} {mg : Str → Option Value} {base : Heap}
def spCheckNumber : Sp := fun vs H Q _ => ∃ (n l : Int), vs = [.int n, .int l] ∧ l ≤ n ∧ Q .non H
theorem ok_checknumber {f : Addr} {fd : FuncData} (F : Fun K "check_number" "check_number" s_checknumber f fd) : FnOk P w K mg base CX0 1 f fd ["number", "least"] spCheckNumber := by
  refine F.ok sc_checknumber (fun vs H Q E h => ?_) (fun cdv A outer s H vs Q E hr h => ?_)
  · obtain ⟨n, l, rfl, _⟩ := h
    rfl
  · obtain ⟨n, l, rfl, hl, q⟩ := h
    refine ⟨_, (pss_one (ps_if (pt_cmpR op_lt (pv 0) (pv 1) (nomark _))
 (pss_one ps_never)
 pss_nil)), ?_⟩
    refine ⟨_, rfl, _, rfl, _, _, rfl, rfl, _, rfl, ite2 (fun c => ?_) (fun c => q)⟩
    have c' : n < l := of_decide_eq_true c
    omega
end
section
variable {P : Program} {w : World} {K : PySem.W.Frag} {mg : Str → Option Value} {base : Heap} {c fI : Nat → Addr} {qn : Nat → Str} {cB : Addr}
def spOnceS : Sp := fun vs H Q _ => ∃ (n k : Int), vs = [.int n, .int k] ∧ 2 ≤ k ∧ k < 1073741824 ∧ ∀ H', Same H H' → Q (.int (once n k)) H'
theorem ok_lengthafterone {f : Addr} {fd : FuncData} (F : Fun K "length_after_one" "length_after_one" s_lengthafterone f fd) (B : Bi mg) : FnOk P w K mg base CX0 1 f fd ["length", "number"] spOnceS := by
  refine F.ok sc_lengthafterone (fun vs H Q E h => ?_) (fun cdv A outer s H vs Q E hr h => ?_)
  · obtain ⟨n, k, rfl, _⟩ := h
    rfl
  · obtain ⟨n, k, rfl, k1, k2, q⟩ := h
    refine ⟨_, (pss_cons (ps_asg (pe_callB (id := "divmod") call_divmod (by rfl) B.n_divmod (by decide +kernel) (pa_cons (pv 0) (pa_cons (pv 1) pa_nil))) (pg_tup rfl (pgs_cons (pg_name (i := 2) sc_lengthafterone.nd rfl (Or.inl rfl)) (pgs_cons (pg_name (i := 3) sc_lengthafterone.nd rfl (Or.inl rfl)) pgs_nil))))
 (pss_one (ps_ret (pe_op op_add (pv 2) (pv 3))))), ?_⟩
    refine ⟨_, rfl, _, rfl, n, k, rfl, ⟨by omega, k2⟩, fun p hp => ?_⟩
    exact ⟨p, _, rfl, .inl (.inl upd_same), rfl, _, _, rfl, _, _, rfl, rfl, _, rfl, _, rfl, _, _, rfl, rfl, q _ (same_new hp)⟩
def spSqzS (K : PySem.W.Frag) : Sp := fun vs H Q _ => ∃ (n : Int) (a : Addr) (ks : List Int), vs = [.int n, .ref a] ∧ SqL K H a (ks.map V.int) ∧ Rpl ks ∧ ∀ H', Same H H' → Q (.int (sq n ks)) H'
theorem ok_lengthafter {f : Addr} {fd : FuncData} (F : Fun K "length_after" "length_after" s_lengthafter f fd) (D_lengthafterone : Df P w K mg base 1 "length_after_one" ["length", "number"] spOnceS) : FnOk P w K mg base CX0 2 f fd ["length", "replacements"] (spSqzS K) := by
  refine F.ok sc_lengthafter (fun vs H Q E h => ?_) (fun cdv A outer s H vs Q E hr h => ?_)
  · obtain ⟨n, a, ks, rfl, _⟩ := h
    rfl
  · obtain ⟨n, a, ks, rfl, hS, hk, q⟩ := h
    refine ⟨_, (pss_cons (ps_set (i := 2) sc_lengthafter.nd rfl (Or.inl rfl) (pv 0))
 (pss_cons (ps_for PassesOwn.never rfl (pi_list (pv 1)) (pg_name (i := 3) sc_lengthafter.nd rfl (Or.inl rfl))
 (pss_one (ps_set (i := 2) sc_lengthafter.nd rfl (Or.inl rfl) (pe_callD D_lengthafterone (hr.mono (by omega)) (by rfl) (pa_cons (pv 2) (pa_cons (pv 3) pa_nil))))))
 (pss_one (ps_ret (pv 2))))), ?_⟩
    refine ⟨_, rfl, _, rfl, a, rfl, ⟨_, hS⟩, for_list (K := K) (a := a) (xs := ks.map V.int) (fun i σ H' => Same H H' ∧ ∃ y, σ = [some (.int n), some (.ref a), some (.int (sq n (ks.take i))), y]) ⟨Same.refl H, none, rfl⟩ (fun i σ H' _ h => h.1.seq hS) ?_ ?_⟩
    · rintro i x σ H' hi ⟨sm, y, rfl⟩
      obtain ⟨k, e, rfl⟩ := map_at hi
      have hm := hk k (List.mem_of_getElem? e)
      refine ⟨_, rfl, _, rfl, _, k, rfl, hm.1, hm.2, fun H'' s2 => ⟨sm.trans s2, some (.int k), ?_⟩⟩
      rw [List.take_add_one, e]
      show _ = [_, _, some (V.int (sq n (ks.take i ++ [k]))), _]
      rw [sq_concat]
      rfl
    · rintro σ H' ⟨sm, y, rfl⟩
      rw [List.length_map, List.take_length]
      exact ⟨_, rfl, q _ sm⟩
end
section
variable {P : Program} {w : World} {K : PySem.W.Frag} {mg : Str → Option Value} {base : Heap}
def spSqueezed (K : PySem.W.Frag) : Sp := fun vs H Q _ => ∃ (n : Int) (a : Addr) (ks : List Int), vs = [.int n, .ref a] ∧ SqL K H a (ks.map V.int) ∧ 0 ≤ n ∧ Rpl ks ∧ ∀ H', Same H H' → Q (.int (sq n ks)) H'
theorem ok_squeezed {f : Addr} {fd : FuncData} (F : Fun K "squeezed" "squeezed" s_squeezed f fd) (D_checknumber : Df P w K mg base 1 "check_number" ["number", "least"] spCheckNumber) (D_checklist : Df P w K mg base 1 "check_list" ["replacements"] (spCheckList K))
    (D_lengthafter : Df P w K mg base 2 "length_after" ["length", "replacements"] (spSqzS K)) : FnOk P w K mg base CX0 3 f fd ["length", "replacements"] (spSqueezed K) := by
  refine F.ok sc_squeezed (fun vs H Q E h => ?_) (fun cdv A outer s H vs Q E hr h => ?_)
  · obtain ⟨n, a, ks, rfl, _⟩ := h
    rfl
  · obtain ⟨n, a, ks, rfl, hS, h0, hk, q⟩ := h
    refine ⟨_, (pss_cons (ps_expr (pe_callD D_checknumber (hr.mono (by omega)) (by rfl) (pa_cons (pv 0) (pa_cons pe_int pa_nil))))
 (pss_cons (ps_expr (pe_callD D_checklist (hr.mono (by omega)) (by rfl) (pa_cons (pv 1) pa_nil)))
 (pss_one (ps_ret (pe_callD D_lengthafter (hr.mono (by omega)) (by rfl) (pa_cons (pv 0) (pa_cons (pv 1) pa_nil))))))), ?_⟩
    refine ⟨_, rfl, n, 0, rfl, h0, ?_⟩
    refine ⟨_, rfl, a, ks, rfl, hS, hk.two, fun H1 s1 => ?_⟩
    exact ⟨_, rfl, _, rfl, n, a, ks, rfl, s1.seq hS, hk, fun H2 s2 => q _ (s1.trans s2)⟩
end
theorem z1 : 1 ≤ sizeLine := Nat.le_of_lt (small1000 (by decide))
section
variable {P : Program} {w : World} {K : PySem.W.Frag} {mg : Str → Option Value} {base : Heap}
def spCheckChr : Sp := fun vs H Q _ => ∃ b : Str, vs = [.str b] ∧ b.length = 1 ∧ Q .non H
theorem ok_checkcharacter {f : Addr} {fd : FuncData} (F : Fun K "check_character" "check_character" s_checkcharacter f fd) (B : Bi mg) : FnOk P w K mg base CX0 1 f fd ["character"] spCheckChr := by
  refine F.ok sc_checkcharacter (fun vs H Q E h => ?_) (fun cdv A outer s H vs Q E hr h => ?_)
  · obtain ⟨b, rfl, _⟩ := h
    rfl
  · obtain ⟨b, rfl, hb, q⟩ := h
    refine ⟨_, (pss_one (ps_if (PW.pt (pw_or (pt_not (pt_val (pe_callB (id := "isinstance") call_isi (by rfl) B.n_isinstance (by decide +kernel) (pa_cons (pv 0) (pa_cons (pe_bltn (v := .ty "str") (by rfl) B.n_str (by decide +kernel) rfl) pa_nil))))) (pw_or1 (pt_cmpR op_ne (pe_callB (id := "len") call_len_str (by rfl) B.n_len (by decide +kernel) (pa_cons (pv 0) pa_nil)) pe_int (nomark _)))))
 (pss_one ps_never)
 pss_nil)), ?_⟩
    have h1 : (b.length : Int) = 1 := by omega
    refine ⟨_, rfl, _, _, _, _, true, rfl, .ty _, (.base (.str b)), kit_ty (by decide +kernel), _, rfl, iteF ?_⟩
    refine ⟨_, rfl, b, rfl, by rw [hb]; exact z1, rfl, _, rfl, ?_⟩
    rw [h1, show (!decide (V.int 1 = V.int 1)) = false by rw [decide_eq_true rfl]; rfl]
    exact iteF q
/-- how often a character stands before each other one, and at the end -/
def lbw (b : Nat) : List Nat → Int → List Int
  | [], r => [r]
  | x :: xs, r => if x = b then lbw b xs (r + 1) else r :: lbw b xs 0
theorem lbw_cons (b x : Nat) (xs : List Nat) (r : Int) : lbw b (x :: xs) r = if x = b then lbw b xs (r + 1) else r :: lbw b xs 0 := rfl
theorem lbw_len (b : Nat) : ∀ (xs : List Nat) (r : Int), (lbw b xs r).length = (xs.filter fun x => decide (x ≠ b)).length + 1
  | [], _ => rfl
  | x :: xs, r => by
    unfold lbw
    by_cases c : x = b
    · rw [if_pos c, lbw_len b xs, List.filter_cons, if_neg (by rw [decide_eq_false (fun z => z c)]; exact Bool.false_ne_true)]
    · rw [if_neg c, List.length_cons, lbw_len b xs, List.filter_cons, if_pos (decide_eq_true c)]
      rfl
theorem lbw_mem (b : Nat) : ∀ (xs : List Nat) (r : Int), 0 ≤ r → ∀ k ∈ lbw b xs r, 0 ≤ k ∧ k ≤ r + xs.length
  | [], r, h, k, hk => by
    rw [List.mem_singleton.mp hk]
    exact ⟨h, by simp⟩
  | x :: xs, r, h, k, hk => by
    unfold lbw at hk
    rw [List.length_cons]
    by_cases c : x = b
    · rw [if_pos c] at hk
      have := lbw_mem b xs (r + 1) (by omega) k hk
      omega
    · rw [if_neg c] at hk
      rcases List.mem_cons.mp hk with e | hk
      · omega
      · have := lbw_mem b xs 0 (by decide) k hk
        omega
def spBetween : Sp := fun vs H Q _ => ∃ (x : Str) (b : Nat), vs = [.str x, .str ⟨#[b]⟩] ∧ x.length ≤ 4000 ∧ ∀ p H', H p = none → Same H H' → H' p = some (.lst ((lbw b x.cps.toList 0).map V.int)) → Q (.ref p) H'
theorem ok_between {f : Addr} {fd : FuncData} (F : Fun K "lengths_between" "lengths_between" s_lengthsbetween f fd) (B : Bi mg) : FnOk P w K mg base CX0 1 f fd ["text", "character"] spBetween := by
  refine F.ok sc_lengthsbetween (fun vs H Q E h => ?_) (fun cdv A outer s H vs Q E hr h => ?_)
  · obtain ⟨x, b, rfl, _⟩ := h
    rfl
  · obtain ⟨x, b, rfl, hx, q⟩ := h
    refine ⟨_, (pss_cons (ps_set (i := 2) sc_lengthsbetween.nd rfl (Or.inl rfl) (pe_lst pa_nil))
 (pss_cons (ps_set (i := 3) sc_lengthsbetween.nd rfl (Or.inl rfl) pe_int)
 (pss_cons (ps_for PassesOwn.never rfl (pi_str (pv 0)) (pg_name (i := 4) sc_lengthsbetween.nd rfl (Or.inl rfl))
 (pss_one (ps_if (pt_cmpR op_eq (pv 4) (pv 1) (nomark _))
 (pss_one (ps_aug (i := 3) sc_lengthsbetween.nd rfl (Or.inl rfl) pe_int ip_add))
 (pss_cons (ps_expr (pe_bm PySem.F.plainAttrs_list PySem.F.slot_list_append PySem.F.type_list_append mt_append (pv 2) (pa_cons (pv 3) pa_nil)))
 (pss_one (ps_set (i := 3) sc_lengthsbetween.nd rfl (Or.inl rfl) pe_int))))))
 (pss_cons (ps_expr (pe_bm PySem.F.plainAttrs_list PySem.F.slot_list_append PySem.F.type_list_append mt_append (pv 2) (pa_cons (pv 3) pa_nil)))
 (pss_one (ps_ret (pv 2))))))), ?_⟩
    have szl : sizeLine = 16777216 := sizeLine_eq
    refine ⟨Nat.zero_le _, fun p hp => ?_⟩
    have tl : x.cps.toList.length = x.length := rfl
    have fin : ∀ (H' : Hp) (acc : List Int) (r : Int) (rest : List Nat), Same H (wo H' p) → H' p = some (.lst (acc.map V.int)) → acc ++ lbw b rest r = lbw b x.cps.toList 0 → rest = [] → acc.length < sizeLine ∧ Q (.ref p) (upd H' p (.lst (acc.map V.int ++ [.int r]))) := fun H' acc r rest s1 g e er => by
      subst er
      have e' : acc ++ [r] = lbw b x.cps.toList 0 := e
      have l1 := congrArg List.length e'
      have l2 := lbw_len b x.cps.toList 0
      have l3 := List.length_filter_le (fun x => decide (x ≠ b)) x.cps.toList
      rw [List.length_append, List.length_singleton] at l1
      refine ⟨by omega, q p _ hp (fun a o e => ?_) ?_⟩
      · have ne : a ≠ p := fun z => by rw [z, hp] at e; cases e
        rw [upd_ne ne]
        exact wo_same _ _ (s1 _ _ e)
      · rw [upd_same, ← e', List.map_append]
        rfl
    refine ⟨_, rfl, x, rfl, for_it walk_str (fun i σ H' => ∃ acc r y, σ = [some (.str x), some (.str ⟨#[b]⟩), some (.ref p), some (.int r), y] ∧ Same H (wo H' p) ∧ H' p = some (.lst (acc.map V.int)) ∧ acc ++ lbw b (x.cps.toList.drop i) r = lbw b x.cps.toList 0)
      ⟨[], 0, none, rfl, by rw [wo_upd]; exact same_wo (Same.refl _) hp, upd_same, rfl⟩ (fun _ _ _ _ _ => trivial) ?_ ?_⟩
    · rintro i v σ H1 H2 hi ⟨acc, r, y, rfl, s1, g, e⟩ ⟨rfl, ch, ec, rfl⟩
      have ec' : x.cps.toList[i]? = some ch := by rw [Array.getElem?_toList]; exact ec
      have ed : x.cps.toList.drop i = ch :: x.cps.toList.drop (i + 1) := by
        obtain ⟨_, ee⟩ := List.getElem?_eq_some_iff.mp ec'
        rw [List.drop_eq_getElem_cons (by exact hi), ee]
      rw [ed] at e
      refine ⟨_, rfl, _, rfl, rfl, _, rfl, ite2 (fun c1 => ?_) (fun c1 => ?_)⟩
      · have cb : ch = b := by
          have h := of_decide_eq_true c1
          injection h with h
          injection h with h
          injection h with h
          injection h
        rw [lbw_cons, if_pos cb] at e
        exact ⟨_, rfl, _, _, rfl, rfl, acc, r + 1, _, rfl, s1, g, e⟩
      · have cb : ch ≠ b := fun z => c1 (by rw [z]; exact decide_eq_true rfl)
        rw [lbw_cons, if_neg cb] at e
        have l1 := congrArg List.length e
        rw [List.length_append, List.length_cons, lbw_len, lbw_len] at l1
        have l3 := List.length_filter_le (fun x => decide (x ≠ b)) x.cps.toList
        refine ⟨_, rfl, .inl ⟨rfl, _, SqL.of g⟩, _, rfl, p, _, _, rfl, rfl, g, by rw [List.length_map]; omega, acc ++ [r], 0, _, rfl, ?_, ?_, ?_⟩
        · rw [wo_upd]
          exact s1
        · rw [upd_same, List.map_append]
          rfl
        · rw [List.append_assoc]
          exact e
    · rintro σ H' ⟨acc, r, y, rfl, s1, g, e⟩
      obtain ⟨l, q1⟩ := fin H' acc r _ s1 g e (by simp)
      exact ⟨_, rfl, .inl ⟨rfl, _, SqL.of g⟩, _, rfl, p, _, _, rfl, rfl, g, by rw [List.length_map]; exact l, _, rfl, q1⟩
end
open StrLaws (replL replL_nil replL_hit replL_miss replace_list)
def kvF (xs : List Int) (f : Int → Int) : List (Key × V) := xs.map fun x => (.inl x, .int (f x))
theorem valV_kvF (f : Int → Int) (k : Int) : ∀ xs : List Int, valV (kvF xs f) (.inl k) = if k ∈ xs then some (.int (f k)) else none
  | [] => rfl
  | x :: xs => by
    show valV ((.inl x, .int (f x)) :: kvF xs f) (.inl k) = _
    by_cases c : x = k
    · subst c
      rw [valV_pos rfl, if_pos (List.mem_cons_self ..)]
    · rw [valV_neg (by intro z; cases z; exact c rfl), valV_kvF f k xs]
      by_cases m : k ∈ xs
      · rw [if_pos m, if_pos (List.mem_cons_of_mem _ m)]
      · rw [if_neg m, if_neg (by
          intro z
          rcases List.mem_cons.mp z with z | z
          · exact c z.symm
          · exact m z)]
theorem kvF_put (f : Int → Int) {xs : List Int} {y : Int} (h : y ∉ xs) : putK (kvF xs f) (.inl y) (.int (f y)) = kvF (xs ++ [y]) f := by
  rw [putK_new _ (by rw [valV_kvF, if_neg h])]
  unfold kvF
  rw [List.map_append]
  rfl
theorem nodup_take {xs : List Int} (h : xs.Nodup) {i : Nat} {y : Int} (e : xs[i]? = some y) : y ∉ xs.take i := fun z => by
  have h2 : (xs.take i ++ xs.drop i).Nodup := by rw [List.take_append_drop]; exact h
  have m : y ∈ xs.drop i := by
    obtain ⟨hi, ei⟩ := List.getElem?_eq_some_iff.mp e
    rw [List.drop_eq_getElem_cons hi, ei]
    exact List.mem_cons_self ..
  exact (List.nodup_append.mp h2).2.2 y z y m rfl
theorem once_le_self {k n : Int} (hk : 2 ≤ k) (h0 : 0 ≤ n) : once n k ≤ n := by
  unfold once
  have a := Int.mul_ediv_add_emod n k
  have b : 0 ≤ n / k := Int.ediv_nonneg h0 (by omega)
  have d : n / k ≤ k * (n / k) := by
    have := Int.mul_le_mul_of_nonneg_right (show (1 : Int) ≤ k by omega) b
    omega
  omega
theorem sq_le_self : ∀ (ks : List Int) (n : Int), (∀ k ∈ ks, 2 ≤ k) → 0 ≤ n → sq n ks ≤ n
  | [], n, _, _ => Int.le_refl n
  | k :: r, n, h, h0 => by
    have h2 := h k List.mem_cons_self
    have i := sq_le_self r (once n k) (fun x hx => h x (List.mem_cons_of_mem _ hx)) (once_nonneg h2 h0)
    have j := once_le_self h2 h0
    show sq (once n k) r ≤ n
    omega
/-- a text with all runs of b squeezed; r: how many of b stand before -/
def sqT (b : Nat) (ks : List Int) : List Nat → Int → List Nat
  | [], r => List.replicate (sq r ks).toNat b
  | x :: xs, r => if x = b then sqT b ks xs (r + 1) else List.replicate (sq r ks).toNat b ++ x :: sqT b ks xs 0
theorem sqT_cons (b : Nat) (ks : List Int) (x : Nat) (xs : List Nat) (r : Int) : sqT b ks (x :: xs) r = if x = b then sqT b ks xs (r + 1) else List.replicate (sq r ks).toNat b ++ x :: sqT b ks xs 0 := rfl
/-- the others, each as a text, and an empty one -/
def oth (b : Nat) (xs : List Nat) : List (List Nat) := (xs.filter fun x => decide (x ≠ b)).map (fun c => [c]) ++ [[]]
theorem oth_len (b : Nat) (xs : List Nat) : (oth b xs).length = (xs.filter fun x => decide (x ≠ b)).length + 1 := by
  unfold oth
  rw [List.length_append, List.length_map]
  rfl
theorem sqT_zip (b : Nat) (ks : List Int) : ∀ (xs : List Nat) (r : Int), (((lbw b xs r).zip (oth b xs)).map fun p => List.replicate (sq p.1 ks).toNat b ++ p.2).flatten = sqT b ks xs r
  | [], r => by
    show (List.replicate (sq r ks).toNat b ++ []) ++ [] = List.replicate (sq r ks).toNat b
    rw [List.append_nil, List.append_nil]
  | x :: xs, r => by
    rw [lbw_cons, sqT_cons]
    by_cases c : x = b
    · rw [if_pos c, if_pos c]
      have e : oth b (x :: xs) = oth b xs := by
        unfold oth
        rw [List.filter_cons, if_neg (by rw [decide_eq_false (fun z => z c)]; exact Bool.false_ne_true)]
      rw [e]
      exact sqT_zip b ks xs (r + 1)
    · rw [if_neg c, if_neg c]
      have e : oth b (x :: xs) = [x] :: oth b xs := by
        unfold oth
        rw [List.filter_cons, if_pos (decide_eq_true c)]
        rfl
      rw [e, List.zip_cons_cons, List.map_cons, List.flatten_cons, sqT_zip b ks xs 0, List.append_assoc]
      rfl
theorem repl_one (b : Nat) : ∀ l : List Nat, replL [b] [] l = l.filter fun x => decide (x ≠ b)
  | [] => replL_nil
  | x :: l => by
    by_cases c : x = b
    · rw [replL_hit (List.cons_ne_nil b []) (by rw [c]; rfl), List.filter_cons, if_neg (by rw [decide_eq_false (fun z => z c)]; exact Bool.false_ne_true)]
      exact repl_one b l
    · rw [replL_miss (y := [b]) (z := []) (c := x) (r := l) (fun z => c (Option.some.inj (congrArg List.head? z))), List.filter_cons, if_pos (decide_eq_true c), repl_one b l]
theorem repl_chr (x : Str) (b : Nat) : (Txt.replace x ⟨#[b]⟩ "").cps.toList = x.cps.toList.filter fun y => decide (y ≠ b) := by
  rw [replace_list (by exact Nat.le_refl 1)]
  exact repl_one b _
theorem oth_short {b : Nat} {xs o : List Nat} (h : o ∈ oth b xs) : o.length ≤ 1 := by
  unfold oth at h
  rcases List.mem_append.mp h with z | z
  · obtain ⟨c, _, rfl⟩ := List.mem_map.mp z
    exact Nat.le_refl _
  · rw [List.mem_singleton.mp z]
    exact Nat.zero_le _
theorem joinL_flat : ∀ ps : List (List Nat), TL.joinL [] ps = ps.flatten
  | [] => rfl
  | [p] => (List.append_nil p).symm
  | p :: q :: r => by
    show p ++ ([] ++ TL.joinL [] (q :: r)) = p ++ (q :: r).flatten
    rw [joinL_flat (q :: r), List.nil_append]
theorem mul_fold (b : Nat) : ∀ (k : Nat) (acc : Array Nat), ((List.replicate k #[b]).foldl (· ++ ·) acc).toList = acc.toList ++ List.replicate k b
  | 0, acc => (List.append_nil _).symm
  | k + 1, acc => by
    rw [List.replicate_succ, List.foldl_cons, mul_fold b k, Array.toList_append, List.append_assoc]
    rfl
theorem mul_chr (b : Nat) {n : Int} (h0 : 0 ≤ n) : _root_.PySem.Txt.mul ⟨#[b]⟩ n = SX.S (List.replicate n.toNat b) := by
  unfold _root_.PySem.Txt.mul
  split
  · rw [show n.toNat = 0 by omega]
    rfl
  · split
    · rename_i h1 h2
      have e : n = 1 := by
        rcases Bool.or_eq_true_iff.mp h2 with z | z
        · exact eq_of_beq z
        · cases z
      rw [e]
      rfl
    · refine TL.ext_tl ?_
      show ((List.replicate n.toNat #[b]).foldl (· ++ ·) #[]).toList = _
      rw [mul_fold]
      rfl
theorem mul_chr_ok (b : Nat) {n : Int} (h0 : 0 ≤ n) (h1 : n ≤ 4000) : _root_.PySem.MulOk ⟨#[b]⟩ n := by
  have l1 : (⟨#[b]⟩ : Str).length = 1 := rfl
  unfold _root_.PySem.MulOk
  rw [l1]
  refine ⟨?_, fun c _ => ?_, fun c _ => ?_⟩
  · rw [decide_eq_false (by omega), decide_eq_false (by omega)]
    rfl
  · have : (1 : Int) ≤ (2 ^ 63 - 1) / n := Int.le_ediv_of_mul_le (by omega) (by omega)
    show ¬ ((1 : Int) > (2 ^ 63 - 1) / n)
    omega
  · have szl : sizeLine = 16777216 := sizeLine_eq
    exact decide_eq_false (by omega)
theorem sqT_len {b : Nat} {ks : List Int} (h : ∀ k ∈ ks, 2 ≤ k) : ∀ (xs : List Nat) (r : Int), 0 ≤ r → ((sqT b ks xs r).length : Int) ≤ r + xs.length
  | [], r, h0 => by
    show ((List.replicate (sq r ks).toNat b).length : Int) ≤ r + 0
    rw [List.length_replicate]
    have := sq_le_self ks r h h0
    omega
  | x :: xs, r, h0 => by
    rw [sqT_cons, List.length_cons]
    by_cases c : x = b
    · rw [if_pos c]
      have := sqT_len (b := b) h xs (r + 1) (by omega)
      omega
    · rw [if_neg c, List.length_append, List.length_replicate, List.length_cons]
      have a := sq_le_self ks r h h0
      have b := sqT_len (b := b) h xs 0 (by decide)
      omega
theorem sq_low : ∀ {ks : List Int} (n : Int), (∀ k ∈ ks, 2 ≤ k) → 0 ≤ n → 0 ≤ sq n ks
  | [], n, _, h0 => h0
  | k :: r, n, h, h0 => sq_low (ks := r) (once n k) (fun x hx => h x (List.mem_cons_of_mem _ hx)) (once_nonneg (h k List.mem_cons_self) h0)
section
variable {P : Program} {w : World} {K : PySem.W.Frag} {mg : Str → Option Value} {base : Heap}
def spSqT (K : PySem.W.Frag) : Sp := fun vs H Q _ => ∃ (x : Str) (b : Nat) (a : Addr) (ks : List Int), vs = [.str x, .str ⟨#[b]⟩, .ref a] ∧ SqL K H a (ks.map V.int) ∧ Rpl ks ∧ x.length ≤ 3000 ∧ ∀ H', Same H H' → Q (.str ⟨(sqT b ks x.cps.toList 0).toArray⟩) H'
theorem ok_squeezetext {f : Addr} {fd : FuncData} (F : Fun K "squeeze_text" "squeeze_text" s_squeezetext f fd) (B : Bi mg) (D_checkcharacter : Df P w K mg base 1 "check_character" ["character"] spCheckChr) (D_checklist : Df P w K mg base 1 "check_list" ["replacements"] (spCheckList K))
    (D_lengthsbetween : Df P w K mg base 1 "lengths_between" ["text", "character"] spBetween) (D_lengthafter : Df P w K mg base 2 "length_after" ["length", "replacements"] (spSqzS K)) : FnT P w K mg base 4 f fd ["text", "character", "replacements"] 1 (spSqT K) := by
  refine fnt_of F sc_squeezetext (fun vs H Q E h => ?_) (y := "character") rfl rfl (fun cdv A outer s H us vs Q c u0 hr h rv tkn hu Ce => ?_)
  · obtain ⟨x, b, a, ks, rfl, _⟩ := h
    rfl
  · obtain ⟨x, b, a, ks, rfl, hS, hk, hx, q⟩ := h
    obtain ⟨tb, rfl⟩ : ∃ tb, u0 = .str ⟨#[b]⟩ tb := by
      obtain ⟨u, e, t, et⟩ := rv.get (i := 1) rfl
      rw [e] at hu
      exact ⟨t, (Option.some.inj hu).symm.trans et⟩
    have good := tkn _ _ hu rfl
    refine ⟨_, jrs_cons (jst_expr (je_callD Ce D_checkcharacter (hr.mono (by omega)) (by rfl) (ja_cons (jv 1) ja_nil)))
      (jrs_cons (jst_expr (je_callD Ce D_checklist (hr.mono (by omega)) (by rfl) (ja_cons (jv 2) ja_nil)))
      (jrs_cons (jst_set (i := 3) Ce (by decide) sc_squeezetext.nd rfl (Or.inl rfl) (je_callD Ce D_lengthsbetween (hr.mono (by omega)) (by rfl) (ja_cons (jv 0) (ja_cons (jv 1) ja_nil))))
      (jrs_cons (jst_set (i := 4) Ce (by decide) sc_squeezetext.nd rfl (Or.inr rfl) (je_dc Ce (own := [("length", 6)]) (g := gName 6) rfl sc_squeezetext.nd (ji_list (je_callB (id := "sorted") (r := rSortedSetI w) (cj_sortedSetI rfl) (by rfl) B.n_sorted (by decide +kernel) (ja_cons (je_callTy (T := "set") (r := rSetL K w) (cj_setL rfl) (by rfl) B.n_set (by decide +kernel) (ja_cons (jv 3) ja_nil)) ja_nil)))
        (blkOk_by (own := [("length", 6)]) (N := ["text", "character", "replacements", "lengths", "after", "others", "length", "other"]) (sc := defScope s_squeezetext) (by decide +kernel)) (fun _ _ _ _ _ => (pg_name (i := 6) sc_squeezetext.nd rfl (Or.inl rfl))) (fun _ _ _ _ _ => pts_nil) (fun _ _ _ _ _ => (pv 6)) (fun _ _ _ _ _ => (pe_callD D_lengthafter (hr.mono (by omega)) (by rfl) (pa_cons (pv 6) (pa_cons (pv 2) pa_nil))))))
      (jrs_set (i := 5) sc_squeezetext.nd rfl (Or.inl rfl) (jr_op op_cat (jr_callTy (T := "list") (call_listStr rfl) (by rfl) B.n_list (by decide +kernel) (jr_rep (i := 0) rfl (Or.inl rfl) rfl Ce.is good rfl)) (pe_lst (pa_cons pe_str pa_nil)))
      (pss_one (ps_ret (pe_join pe_str (pe_lc (own := [("length", 6), ("other", 7)]) (g := gTup K 2 (gCons (gName 6) (gCons (gName 7) gNil))) rfl sc_squeezetext.nd (pi_zip (by rfl) B.n_zip (pa_cons (pv 3) (pa_cons (pv 5) pa_nil))) (blkOk_by (own := [("length", 6), ("other", 7)]) (N := ["text", "character", "replacements", "lengths", "after", "others", "length", "other"]) (sc := defScope s_squeezetext) (by decide +kernel)) (fun _ _ _ _ _ => (pg_tup rfl (pgs_cons (pg_name (i := 6) sc_squeezetext.nd rfl (Or.inl rfl)) (pgs_cons (pg_name (i := 7) sc_squeezetext.nd rfl (Or.inl rfl)) pgs_nil)))) (fun _ _ _ _ _ => pts_nil) (fun _ _ _ _ _ => (pe_op op_add_str (pe_op op_mulS (pv 1) (pe_dget (hu_of hr) (pv 4) (pv 6) (fun _ _ => rfl))) (pv 7))))))))))), ?_⟩
    have szl : sizeLine = 16777216 := sizeLine_eq
    have xl : x.cps.toList.length = x.length := rfl
    obtain ⟨ls, els⟩ : ∃ ls, ls = lbw b x.cps.toList 0 := ⟨_, rfl⟩
    have lsl : ls.length = (x.cps.toList.filter fun x => decide (x ≠ b)).length + 1 := by rw [els, lbw_len]
    have fl := List.length_filter_le (fun x => decide (x ≠ b)) x.cps.toList
    have lsm : ∀ k ∈ ls, 0 ≤ k ∧ k ≤ x.length := fun k hk => by
      rw [els] at hk
      have := lbw_mem b _ 0 (by decide) k hk
      omega
    refine ⟨_, rfl, ⟨#[b]⟩, rfl, rfl, ?_⟩
    refine ⟨_, rfl, a, ks, rfl, hS, hk.two, fun H1 s1 => ?_⟩
    refine ⟨_, rfl, _, rfl, x, b, rfl, by omega, fun p H2 hp s2 gp => ?_⟩
    rw [← els] at gp
    refine ⟨_, rfl, p, ls, rfl, SqL.of gp, by omega, fun ps m hps lm im => ?_⟩
    refine ⟨ps, _, m, rfl, upd_same, by omega, fun ns pl asc mem len hpl => ?_⟩
    have s3 := (same_new (o := SetO w ps (fun j => decide (j ∈ ls)) m) hps).trans (same_new (o := .lst (ns.map V.int)) hpl)
    have hS3 := s3.seq (s2.seq (s1.seq hS))
    have gpl := upd_same (H := upd H2 ps (SetO w ps (fun j => decide (j ∈ ls)) m)) (a := pl) (o := .lst (ns.map V.int))
    have gp3 := s3 _ _ gp
    generalize upd (upd H2 ps (SetO w ps (fun j => decide (j ∈ ls)) m)) pl (.lst (ns.map V.int)) = H3 at s3 hS3 gpl gp3
    refine ⟨pl, rfl, ⟨_, SqL.of gpl⟩, fun D hD => walkL (K := K) (a := pl) (xs := ns.map V.int) (fun i H' => Same H3 H' ∧ H' D = some (.dK (kvF (ns.take i) fun l => sq l ks))) ⟨same_new hD, upd_same⟩ (fun i H' _ h => SqL.of (h.1 _ _ gpl)) ?_ ?_⟩
    · rintro i v H4 hi ⟨s4, gD⟩
      obtain ⟨y, hy, rfl⟩ := map_at hi
      have il := (List.getElem?_eq_some_iff.mp hy).1
      refine ⟨rfl, _, rfl, _, rfl, _, rfl, y, a, ks, rfl, s4.seq hS3, hk, fun H5 s5 => ⟨_, .inl y, rfl, s5 _ _ gD, ?_, fun c o e => ?_, ?_⟩⟩
      · unfold kvF
        rw [List.length_map, List.length_take]
        omega
      · rw [upd_ne (ne_of_none e hD)]
        exact s5 _ _ (s4 _ _ e)
      · rw [upd_same, kvF_put (fun l => sq l ks) (nodup_take (asc_nodup asc) hy), List.take_add_one, hy]
        rfl
    · rintro H4 ⟨s4, gD⟩
      rw [List.length_map, List.take_length] at gD
      have gp4 := s4 _ _ gp3
      have look : ∀ l ∈ ls, valV (kvF ns fun l => sq l ks) (.inl l) = some (.int (sq l ks)) := fun l hl => by
        rw [valV_kvF, if_pos ((mem l).mpr (decide_eq_true hl))]
      obtain ⟨os, eos⟩ : ∃ os, os = oth b x.cps.toList := ⟨_, rfl⟩
      have osl : os.length = ls.length := by rw [eos, oth_len, lsl]
      refine ⟨x, rfl, by show x.length + (x.length + 1) * 0 ≤ 16777216; omega, ?_⟩
      have er := repl_chr x b
      refine ⟨_, rfl, ?_, fun q1 hq1 => ?_⟩
      · show (Txt.replace x ⟨#[b]⟩ "").cps.toList.length ≤ sizeLine
        exact Nat.le_trans (Nat.le_of_eq (congrArg List.length er)) (Nat.le_trans fl (by omega))
      have sg : signsV (Txt.replace x ⟨#[b]⟩ "") = (x.cps.toList.filter fun y => decide (y ≠ b)).map fun c => V.str ⟨#[c]⟩ := by
        unfold signsV
        rw [← er]
      have sl : (x.cps.toList.filter fun y => decide (y ≠ b)).length + 1 ≤ sizeLine := by
        have := fl
        omega
      have eo : ((x.cps.toList.filter fun y => decide (y ≠ b)).map fun c => V.str ⟨#[c]⟩) ++ [V.str ""] = (os.map SX.S).map V.str := by
        rw [eos]
        unfold oth
        rw [List.map_append, List.map_append, List.map_map, List.map_map]
        rfl
      refine ⟨z1, fun q2 hq2 => ⟨q1, q2, (x.cps.toList.filter fun y => decide (y ≠ b)).map fun c => V.str ⟨#[c]⟩, [V.str ""], rfl, rfl, ?_, upd_same, by rw [List.length_map]; exact sl, fun r hr => ?_⟩⟩
      · refine same_new hq2 _ _ ?_
        rw [upd_same, sg]
      have s5 := ((same_new (o := .lst (signsV (Txt.replace x ⟨#[b]⟩ ""))) hq1).trans (same_new (o := .lst [V.str ""]) hq2)).trans (same_new (o := .lst (((x.cps.toList.filter fun y => decide (y ≠ b)).map fun c => V.str ⟨#[c]⟩) ++ [V.str ""])) hr)
      have gr := upd_same (H := upd (upd H4 q1 (.lst (signsV (Txt.replace x ⟨#[b]⟩ "")))) q2 (.lst [V.str ""])) (a := r) (o := .lst (((x.cps.toList.filter fun y => decide (y ≠ b)).map fun c => V.str ⟨#[c]⟩) ++ [V.str ""]))
      generalize upd (upd (upd H4 q1 (.lst (signsV (Txt.replace x ⟨#[b]⟩ "")))) q2 (.lst [V.str ""])) r (.lst (((x.cps.toList.filter fun y => decide (y ≠ b)).map fun c => V.str ⟨#[c]⟩) ++ [V.str ""])) = H5 at s5 gr
      rw [eo] at gr
      have gp5 := s5 _ _ gp4
      have gD5 := s5 _ _ gD
      obtain ⟨f, ef⟩ : ∃ f : Int × List Nat → List Nat, f = fun p => List.replicate (sq p.1 ks).toNat b ++ p.2 := ⟨_, rfl⟩
      have zl : (ls.zip os).length = ls.length := by rw [List.length_zip, osl, Nat.min_self]
      refine ⟨⟨_, rfl⟩, _, rfl, _, rfl, p, r, ls.map V.int, (os.map SX.S).map V.str, rfl, SqL.of gp5, SqL.of gr, fun E hE => lc_it (walk_zip (K := K) (a := p) (b := r) (xs := ls.map V.int) (ys := (os.map SX.S).map V.str) (n := ls.length) (by rw [List.length_map, List.length_map, List.length_map, osl, Nat.min_self]))
        (fun i H' => Same H5 (wo H' E) ∧ H' E = some (.lst (((((ls.zip os).take i).map f).map SX.S).map V.str)))
        ⟨by rw [wo_upd]; exact same_wo (Same.refl _) hE, upd_same⟩ (fun i H' _ h => ⟨SqL.of (wo_same _ _ (h.1 _ _ gp5)), SqL.of (wo_same _ _ (h.1 _ _ gr))⟩) ?_ ?_⟩
      · rintro i v H6 H7 hi ⟨s6, gE⟩ ⟨T, x1, x2, rfl, nT, rfl, e1, e2⟩
        have e1' : (ls.map V.int)[i]? = some x1 := e1
        have e2' : ((os.map SX.S).map V.str)[i]? = some x2 := e2
        obtain ⟨l, hl, rfl⟩ := map_at e1'
        obtain ⟨o, ho, rfl⟩ : ∃ o, os[i]? = some o ∧ x2 = .str (SX.S o) := by
          rw [List.getElem?_map, List.getElem?_map] at e2'
          cases z : os[i]? with
          | none => rw [z] at e2'; cases e2'
          | some o => rw [z] at e2'; exact ⟨o, rfl, (Option.some.inj e2').symm⟩
        have lm := lsm l (List.mem_of_getElem? hl)
        have sl0 := sq_low l hk.two lm.1
        have sl1 := sq_le_self ks l hk.two lm.1
        have ol : o.length ≤ 1 := oth_short (by rw [← eos]; exact List.mem_of_getElem? ho)
        have s6' : Same H5 H6 := s6.trans wo_same
        have gD7 := same_new (o := .tup [V.int l, .str (SX.S o)]) nT _ _ (s6' _ _ gD5)
        have gE7 := same_new (o := .tup [V.int l, .str (SX.S o)]) nT _ _ gE
        have nTE : E ≠ T := ne_of_none gE nT
        have dg := DGet.k (k := .inl l) gD7
        rw [look l (List.mem_of_getElem? hl)] at dg
        have mc := mul_chr b sl0
        refine ⟨T, _, rfl, .inl (.inl upd_same), rfl, _, _, rfl, _, _, rfl, rfl, rfl, _, rfl, _, rfl, _, rfl, D, _, rfl, dg, ⟨#[b]⟩, sq l ks, rfl, rfl, mul_chr_ok b sl0 (by omega), _, rfl, _, _, rfl, rfl, ?_, _, gE7, ?_, ?_, ?_⟩
        · rw [mc, SX.S_len, SX.S_len, List.length_replicate]
          omega
        · rw [List.length_map, List.length_map, List.length_map, List.length_take]
          omega
        · rw [wo_upd]
          intro z o' e
          have g := s6 z o' e
          have nz : z ≠ E := fun y => by rw [y, wo_self] at g; cases g
          rw [wo_ne nz] at g ⊢
          exact same_new nT _ _ g
        · rw [upd_same, mc, SX.S_cat, List.take_add_one]
          have ez : (ls.zip os)[i]? = some (l, o) := List.getElem?_zip_eq_some.mpr ⟨hl, ho⟩
          rw [ez, List.map_append, List.map_append, List.map_append, ef]
          rfl
      · rintro H6 ⟨s6, gE⟩
        rw [show (ls.zip os).take ls.length = ls.zip os from List.take_of_length_le (by rw [zl]; exact Nat.le_refl _)] at gE
        have fz : ((ls.zip os).map f).flatten = sqT b ks x.cps.toList 0 := by rw [ef, els, eos]; exact sqT_zip b ks _ 0
        have tl := sqT_len (b := b) hk.two x.cps.toList 0 (by decide)
        refine ⟨"", E, ((ls.zip os).map f).map SX.S, rfl, rfl, .inl (SqL.of gE), ?_, ?_⟩
        · have e : ((((ls.zip os).map f).map SX.S).map fun y => y.length) = ((ls.zip os).map f).map List.length := by
            rw [List.map_map]
            exact List.map_congr_left fun y _ => SX.S_len y
          show _ + _ * 0 ≤ 16777216
          rw [e, ← List.length_flatten, fz]
          omega
        · have ej : Txt.join "" (((ls.zip os).map f).map SX.S) = ⟨(sqT b ks x.cps.toList 0).toArray⟩ := by
            have j := SX.join_S [] ((ls.zip os).map f)
            rw [joinL_flat, fz] at j
            exact j
          rw [ej]
          exact q _ ((((s1.trans s2).trans s3).trans s4).trans (s5.trans (s6.trans wo_same)))
end
end Sq
set_option Elab.async false
set_option linter.all false
set_option maxRecDepth 100000
set_option maxHeartbeats 4000000
/-! Loops that keep what is known; an attribute as a raw argument. -/
namespace Sq
open PySem PySem.Spec PyProof.Rows L2 GenW
section
variable {X : Cx} {Θ : Shared → Prop} {ys : List Str} {x f : Str} {p pos op : Pos} {e : Expr} {es : List Expr} {te ta : TE} {t : TA} {tb : TS} {body : List Stmt} {n : Nat}
/-- o.f, its raw value good for n -/
def tFldG (K : PySem.W.Frag) (n : Nat) (ta : TE) (f : Str) : TE := fun σ H Q => ta σ H fun x H1 => ∃ a C dx m ks u v, x = .ref a ∧ Live H1 a C dx m ks ∧ Cls K C ∧ NoAttr K C f ∧ m f = some u ∧ Tkn 0 [u] n ∧ RelV v u ∧ Q v H1
theorem wx_fld (Cl : Clo X ys Θ) (hn : ∀ s, Θ s → n ≤ s.toks) (he : We X Θ e ta) (hr : Wa X Θ es t) (hb : attributeBase e f X.env (eval e X.env) = eval e X.env := by rfl) (hs : starEach (.Attribute e f p :: es) X.env = (false, eval (.Attribute e f p) X.env) :: starEach es X.env := by rfl) :
    Wx X Θ 0 (.Attribute e f p :: es) (tCons (tFldG X.K n ta f) t) := by
  refine ⟨fun pos pins s σ H Q I θ h => ?_⟩
  rw [hs]
  show wpAny _ _ (spliced ((false, eval (.Attribute e f p) X.env) :: backTo pos (starEach es X.env))) _ _ s
  refine Calls.spliced_cons (attr_of hb (thn (he.run pins s σ H _ I θ h) fun u s1 hh => ?_))
  obtain ⟨g1, z, H1, I1, rx, a, C, dx, m, ks, u1, v, ex, L, c, nn, hu, good, rv, q⟩ := hh
  subst ex
  obtain rfl : u = Value.ref a := rx
  refine live_get I1 L c nn hu (handed_of rv) fun I2 => ?_
  refine wpAny_mono (PySem.wpAny_toks (hr.run pos pins _ σ H1 _ I2 (Cl.tok I1 g1) q)) (fun us s3 hh => ?_) fun _ _ z => z.2
  obtain ⟨up, g3, xs, H3, I3, r3, q3⟩ := hh
  have up' : s1.toks + 1 ≤ s3.toks := up
  refine ⟨⟨g3, fun b tk eb one => ?_⟩, v :: xs, H3, I3, .cons rv r3, q3⟩
  have g := good b tk eb one
  exact ⟨g.1, Nat.lt_of_lt_of_le g.2 (Nat.le_trans (hn s1 g1) (Nat.le_of_succ_le up'))⟩
/-- for x in a tuple -/
def tForT (K : PySem.W.Frag) (te : TE) (g : TG) (tb : TS) : TS := fun D σ H => te σ H fun v H1 => ∃ (a : Addr) (xs : List V), v = .ref a ∧ SqT K H1 a xs ∧ ∃ Pv : Nat → L2.St → Hp → Prop, Pv 0 σ H1 ∧ (∀ i σ H, Pv i σ H → SqT K H a xs) ∧
  (∀ (i : Nat) (z : V) (σ : L2.St) (H : Hp), xs[i]? = some z → Pv i σ H → g z σ H fun σ2 H2 => tb { nx := Pv (i + 1), ct := Pv (i + 1), bk := D.nx, rt := D.rt } σ2 H2) ∧ ∀ σ H, Pv xs.length σ H → D.nx σ H
/-- storing the loop's name -/
structure Wg (X : Cx) (Θ : Shared → Prop) (tg : Expr) (t : TG) : Prop where
  run : ∀ (pins : List (Addr × Obj)) (s : Shared) (σ : L2.St) (H : Hp) (v : V) (u : Value) (Q : L2.St → Hp → Prop), Inv X pins σ H s → Θ s → RelV v u → t v σ H Q → wpAny (model X.prog X.w) X.A (assign tg X.env u) (fun _ s' => Θ s' ∧ ∃ σ' H', Inv X pins σ' H' s' ∧ Q σ' H') X.xe s
theorem wg_name {i : Nat} (Cl : Clo X ys Θ) (ne : x ∉ ys) (hN : X.N.Nodup) (hi : X.N[i]? = some x) (hx : Loc X.env.scope x) (hf : X.fn x = true ∨ X.env.scope.names.lookup x = some .local := by first | exact .inl rfl | exact .inr rfl | assumption) : Wg X Θ (.Name x pos) (gName i) :=
  ⟨fun pins s σ H v u Q I θ r h => wpAny_assign_Name (put_ok I hN hi hx r (fun s2 I2 up pt => ⟨Cl.st I ne up pt θ, _, H, I2, h⟩) hf)⟩
theorem ws_forT {g : TG} (hcalm : X.calm = true) (own : PassesOwn (model X.prog X.w) X.A X.env X.xe) (Cl : Clo X ys Θ) (he : We X Θ e te) (hg : Wg X Θ (.Name x op) g) (hb : Wss X Θ body tb)
    (hfs : ∀ z, foldedSetIterable e X.env z = pure z := by intro _; rfl) : Ws X Θ (.For (.Name x op) e body [] pos) (tForT X.K te g tb) := by
  refine ⟨fun pins s σ H D I θ h => ?_⟩
  refine wpAny_mono (wpAny_For (Q := fun f s' => Θ s' ∧ SP X pins D f s') (thn (he.run pins s σ H _ I θ h) fun v s1 hh => ?_) hfs) (fun _ _ z => z) fun _ _ z => z
  obtain ⟨θ1, w, H1, I1, r1, a, xs, ew, hq, Pv, p0, hl, turn, fin⟩ := hh
  subst ew
  obtain rfl : v = Value.ref a := r1
  obtain ⟨its, rv, isT, hz⟩ := I1.tuple hq
  refine wpAny_pyIter_tuple (show s1.heap.IsTuple a its.toArray from isT) ?_
  obtain ⟨it, eit⟩ : ∃ it, it = s1.heap.objs.size := ⟨_, rfl⟩
  rw [← eit]
  have kept : ∀ b o, s1.heap.get? b = some o → (s1.heap.push { cls := .type "tuple_iterator", data := .fields #[.ref a, .int 0 0] }).get? b = some o := fun b o e => Heap.get?_push_of_some _ e
  have fpk : FpOk X pins H1 it := I1.fpOk (Nat.le_of_eq eit.symm) (by rw [eit]; exact I1.hok.fresh (Nat.le_refl _))
  have away : ∀ b ∈ [it], b ≠ X.env.locals ∧ ∀ x c, X.env.cells.lookup x = some c → c ≠ b := fun b hb => by
    rw [List.mem_singleton.mp hb]
    exact ⟨fpk.2.1, fpk.2.2.2.2.1⟩
  refine codeAny_forLoop_any (fun m s' => ∃ i σ' H', m = xs.length - i ∧ i ≤ xs.length ∧ Θ s' ∧ Inv X pins σ' H' s' ∧ s'.heap.IsTupleIter it a i ∧ H' it = none ∧ Pv i σ' H') (fun m s' hs' => ?_) xs.length
    ⟨0, σ, H1, rfl, Nat.zero_le _, Cl.kept (s' := { s1 with heap := s1.heap.push { cls := .type "tuple_iterator", data := .fields #[.ref a, .int 0 0] } }) I1 (Nat.le_refl _) kept θ1, I1.kept (t' := s1.toks) kept, by rw [eit]; exact ⟨_, Heap.get?_push_size _ rfl, rfl, rfl⟩, fpk.1, p0⟩
  obtain ⟨i, σ', H', rfl, hi, θ2, I2, st, free, pv⟩ := hs'
  obtain ⟨its2, rv2, isT2, hz2⟩ := I2.tuple (hl i σ' H' pv)
  have isT3 : s'.heap.IsTuple a its2.toArray := isT2
  have hlen := rv2.length
  have fpk2 : FpOk X pins H' it := ⟨free, fpk.2⟩
  by_cases lt : i < xs.length
  · obtain ⟨z, hz3⟩ : ∃ z, xs[i]? = some z := ⟨_, List.getElem?_eq_getElem lt⟩
    obtain ⟨u, hu, ru⟩ := rv2.get hz3
    refine wpAny_pyNext_tuple_item st isT3 (x := u) (by simpa using hu) fun h' st' sb => ?_
    obtain ⟨f0, f1, f2, f3, f4, f5⟩ := fpk2
    have I3 : Inv X pins σ' H' { s' with heap := h' } := I2.turned (t' := s'.toks) (fun b o hb e => (sb.2 b hb).trans e) f0 f1 f3 f4 f5
    obtain ⟨oi, eoi, ci, di⟩ := id st'
    have I4 := I3.pinned (fp := [it]) (fun b hb => by rw [List.mem_singleton.mp hb]; exact ⟨free, fpk.2⟩) (fun b hb => by
      rw [List.mem_singleton.mp hb]
      exact ⟨oi, eoi, fun v q => by rw [di] at q; cases q⟩)
    have θ3 : Θ { s' with heap := h' } := Cl.but [it] I2 (Nat.le_refl _) away (fun b o hb e => (sb.2 b (fun z => hb (by rw [z]; exact List.mem_singleton_self _))).trans e) θ2
    refine go_of (s := { s' with heap := h' }) eoi ci di (by decide) ?_
    refine wpAny_passesOwn own (thn (hg.run _ { s' with heap := h' } σ' H' z u _ I4 θ3 ru (turn i z σ' H' hz3 pv)) fun _ s4 h4 => ?_)
    obtain ⟨θ4, σ4, H4, I5, q4⟩ := h4
    refine wpAny_passesOwn own (thn (hb.run _ s4 σ4 H4 _ I5 θ4 q4) fun fl s5 h5 => ?_)
    obtain ⟨θ5, q5⟩ := h5
    have again : ∀ σ5 H5, Inv X (pins ++ pinsAt [it] h') σ5 H5 s5 → Pv (i + 1) σ5 H5 → ∃ m, m < xs.length - i ∧ ∃ i' σ' H', m = xs.length - i' ∧ i' ≤ xs.length ∧ Θ s5 ∧ Inv X pins σ' H' s5 ∧ s5.heap.IsTupleIter it a i' ∧ H' it = none ∧ Pv i' σ' H' := fun σ5 H5 I6 pv5 => by
      have pi := I6.pin (it, oi) (List.mem_append_right _ (List.mem_append_right _ (mem_pinsAt (by simp) eoi)))
      exact ⟨xs.length - (i + 1), by omega, i + 1, σ5, H5, rfl, lt, θ5, I6.unpinned, ⟨oi, pi.1, ci, di⟩, pi.2.1, pv5⟩
    match fl, q5 with
    | .next, ⟨σ5, H5, I6, pv5⟩ => exact again σ5 H5 I6 pv5
    | .cont, ⟨σ5, H5, I6, pv5⟩ => exact again σ5 H5 I6 pv5
    | .brk, ⟨σ5, H5, I6, qd⟩ => exact ⟨θ5, σ5, H5, I6.unpinned, qd⟩
    | .ret v, ⟨x5, σ5, H5, I6, rv5, qd⟩ => exact ⟨θ5, x5, σ5, H5, I6.unpinned, rv5, qd⟩
  · obtain rfl : i = xs.length := by omega
    refine wpAny_pyNext_tuple_end (I2.ok.hd hcalm) st isT3 (by simp; omega) fun h2 eb => ?_
    obtain ⟨f0, f1, f2, f3, f4, f5⟩ := fpk2
    have I3 : Inv X pins σ' H' { s' with heap := h2 } := I2.turned (t' := s'.toks) (fun b o hb q => eb b o hb q) f0 f1 f3 f4 f5
    have θ3 : Θ { s' with heap := h2 } := Cl.but [it] I2 (Nat.le_refl _) away (fun b o hb e => eb b o (fun z => hb (by rw [z]; exact List.mem_singleton_self _)) e) θ2
    refine wpAny_execs_nil ⟨θ3, σ', H', I3, fin σ' H' pv⟩
/-- for x in a list -/
theorem ws_forL {g : TG} (hcalm : X.calm = true) (own : PassesOwn (model X.prog X.w) X.A X.env X.xe) (Cl : Clo X ys Θ) (he : We X Θ e te) (hg : Wg X Θ (.Name x op) g) (hb : Wss X Θ body tb)
    (hfs : ∀ z, foldedSetIterable e X.env z = pure z := by intro _; rfl) : Ws X Θ (.For (.Name x op) e body [] pos) (tForJ X.K te g tb) := by
  refine ⟨fun pins s σ H D I θ h => ?_⟩
  refine wpAny_mono (wpAny_For (Q := fun f s' => Θ s' ∧ SP X pins D f s') (thn (he.run pins s σ H _ I θ h) fun v s1 hh => ?_) hfs) (fun _ _ z => z) fun _ _ z => z
  obtain ⟨θ1, w, H1, I1, r1, a, xs, ew, hq, Pv, p0, hl, turn, fin⟩ := hh
  subst ew
  obtain rfl : v = Value.ref a := r1
  obtain ⟨its, rv, isT, hz⟩ := I1.list hq
  refine wpAny_pyIter_list isT.isList ?_
  obtain ⟨it, eit⟩ : ∃ it, it = s1.heap.objs.size := ⟨_, rfl⟩
  rw [← eit]
  have kept : ∀ b o, s1.heap.get? b = some o → (s1.heap.push { cls := .type "list_iterator", data := .fields #[.ref a, .int 0 0] }).get? b = some o := fun b o e => Heap.get?_push_of_some _ e
  have fpk : FpOk X pins H1 it := I1.fpOk (Nat.le_of_eq eit.symm) (by rw [eit]; exact I1.hok.fresh (Nat.le_refl _))
  have away : ∀ b ∈ [it], b ≠ X.env.locals ∧ ∀ x c, X.env.cells.lookup x = some c → c ≠ b := fun b hb => by
    rw [List.mem_singleton.mp hb]
    exact ⟨fpk.2.1, fpk.2.2.2.2.1⟩
  refine codeAny_forLoop_any (fun m s' => ∃ i σ' H', m = xs.length - i ∧ i ≤ xs.length ∧ Θ s' ∧ Inv X pins σ' H' s' ∧ s'.heap.IsListIter it a i ∧ H' it = none ∧ Pv i σ' H') (fun m s' hs' => ?_) xs.length
    ⟨0, σ, H1, rfl, Nat.zero_le _, Cl.kept (s' := { s1 with heap := s1.heap.push { cls := .type "list_iterator", data := .fields #[.ref a, .int 0 0] } }) I1 (Nat.le_refl _) kept θ1, I1.kept (t' := s1.toks) kept, by rw [eit]; exact ⟨_, Heap.get?_push_size _ rfl, rfl, rfl⟩, fpk.1, p0⟩
  obtain ⟨i, σ', H', rfl, hi, θ2, I2, st, free, pv⟩ := hs'
  obtain ⟨its2, rv2, isT2, hz2⟩ := I2.list (hl i σ' H' pv)
  have hlen := rv2.length
  have fpk2 : FpOk X pins H' it := ⟨free, fpk.2⟩
  by_cases lt : i < xs.length
  · obtain ⟨z, hz3⟩ : ∃ z, xs[i]? = some z := ⟨_, List.getElem?_eq_getElem lt⟩
    obtain ⟨u, hu, ru⟩ := rv2.get hz3
    refine wpAny_pyNext_list_item st isT2.isList (x := u) (by simpa using hu) fun h' st' sb => ?_
    obtain ⟨f0, f1, f2, f3, f4, f5⟩ := fpk2
    have I3 : Inv X pins σ' H' { s' with heap := h' } := I2.turned (t' := s'.toks) (fun b o hb e => (sb.2 b hb).trans e) f0 f1 f3 f4 f5
    obtain ⟨oi, eoi, ci, di⟩ := id st'
    have I4 := I3.pinned (fp := [it]) (fun b hb => by rw [List.mem_singleton.mp hb]; exact ⟨free, fpk.2⟩) (fun b hb => by
      rw [List.mem_singleton.mp hb]
      exact ⟨oi, eoi, fun v q => by rw [di] at q; cases q⟩)
    have θ3 : Θ { s' with heap := h' } := Cl.but [it] I2 (Nat.le_refl _) away (fun b o hb e => (sb.2 b (fun z => hb (by rw [z]; exact List.mem_singleton_self _))).trans e) θ2
    refine go_of (s := { s' with heap := h' }) eoi ci di (by decide) ?_
    refine wpAny_passesOwn own (thn (hg.run _ { s' with heap := h' } σ' H' z u _ I4 θ3 ru (turn i z σ' H' hz3 pv)) fun _ s4 h4 => ?_)
    obtain ⟨θ4, σ4, H4, I5, q4⟩ := h4
    refine wpAny_passesOwn own (thn (hb.run _ s4 σ4 H4 _ I5 θ4 q4) fun fl s5 h5 => ?_)
    obtain ⟨θ5, q5⟩ := h5
    have again : ∀ σ5 H5, Inv X (pins ++ pinsAt [it] h') σ5 H5 s5 → Pv (i + 1) σ5 H5 → ∃ m, m < xs.length - i ∧ ∃ i' σ' H', m = xs.length - i' ∧ i' ≤ xs.length ∧ Θ s5 ∧ Inv X pins σ' H' s5 ∧ s5.heap.IsListIter it a i' ∧ H' it = none ∧ Pv i' σ' H' := fun σ5 H5 I6 pv5 => by
      have pi := I6.pin (it, oi) (List.mem_append_right _ (List.mem_append_right _ (mem_pinsAt (by simp) eoi)))
      exact ⟨xs.length - (i + 1), by omega, i + 1, σ5, H5, rfl, lt, θ5, I6.unpinned, ⟨oi, pi.1, ci, di⟩, pi.2.1, pv5⟩
    match fl, q5 with
    | .next, ⟨σ5, H5, I6, pv5⟩ => exact again σ5 H5 I6 pv5
    | .cont, ⟨σ5, H5, I6, pv5⟩ => exact again σ5 H5 I6 pv5
    | .brk, ⟨σ5, H5, I6, qd⟩ => exact ⟨θ5, σ5, H5, I6.unpinned, qd⟩
    | .ret v, ⟨x5, σ5, H5, I6, rv5, qd⟩ => exact ⟨θ5, x5, σ5, H5, I6.unpinned, rv5, qd⟩
  · obtain rfl : i = xs.length := by omega
    refine wpAny_pyNext_list_end (I2.ok.hd hcalm) st isT2.isList (by simp; omega) fun h2 eb => ?_
    obtain ⟨f0, f1, f2, f3, f4, f5⟩ := fpk2
    have I3 : Inv X pins σ' H' { s' with heap := h2 } := I2.turned (t' := s'.toks) (fun b o hb q => eb b o hb q) f0 f1 f3 f4 f5
    have θ3 : Θ { s' with heap := h2 } := Cl.but [it] I2 (Nat.le_refl _) away (fun b o hb e => eb b o (fun z => hb (by rw [z]; exact List.mem_singleton_self _)) e) θ2
    refine wpAny_execs_nil ⟨θ3, σ', H', I3, fin σ' H' pv⟩
end
end Sq
set_option Elab.async false
set_option linter.all false
set_option maxRecDepth 100000
set_option maxHeartbeats 8000000
set_option exponentiation.threshold 2000
namespace Sq
open PySem PySem.Spec PyProof.Rows L2
/-! ### live texts -/
theorem nCR : ("_character" : Str) ≠ "_replacements" := by decide +kernel
theorem nCT : ("_character" : Str) ≠ "_texts" := by decide +kernel
theorem nRT : ("_replacements" : Str) ≠ "_texts" := by decide +kernel
abbrev lvN : List Str := ["_texts", "_replacements", "_character"]
/-- a live text stands at p: its character's raw value u0, its replacements at r, its texts at t -/
structure Txt2 (C : Addr) (H : Hp) (p dx r t : Addr) (u0 : Value) (b : Nat) (T : List (List Nat)) (ks : List Int) : Prop where
  m : ∃ m, Live H p C dx m lvN ∧ m "_character" = some u0 ∧ m "_replacements" = some (.ref r) ∧ m "_texts" = some (.ref t) ∧ ∀ f : Str, f ≠ "_character" → f ≠ "_replacements" → f ≠ "_texts" → m f = none
  u : RelV (.str ⟨#[b]⟩) u0
  rp : H r = some (.lst (ks.map V.int))
  tx : H t = some (.lst (T.map fun l => V.str (SX.S l)))
  ne : r ≠ t
  len : T.length = ks.length + 1
  sz : ∀ l ∈ T, l.length ≤ 2000
theorem Txt2.same {C p dx r t : Addr} {H H' : Hp} {u0 : Value} {b : Nat} {T : List (List Nat)} {ks : List Int} (L : Txt2 C H p dx r t u0 b T ks) (s : Same H H') : Txt2 C H' p dx r t u0 b T ks :=
  ⟨let ⟨m, h, e⟩ := L.m; ⟨m, h.same s, e⟩, L.u, s _ _ L.rp, s _ _ L.tx, L.ne, L.len, L.sz⟩
/-- all but the two lists is as it was -/
def But2 (H H' : Hp) (r t : Addr) : Prop := ∀ a o, H a = some o → a ≠ r → a ≠ t → H' a = some o
theorem But2.refl {H : Hp} {r t : Addr} : But2 H H r t := fun _ _ e _ _ => e
theorem But2.trans {H H1 H2 : Hp} {r t : Addr} (a : But2 H H1 r t) (b : But2 H1 H2 r t) : But2 H H2 r t := fun x o e n1 n2 => b x o (a x o e n1 n2) n1 n2
theorem But2.of {H H' : Hp} {r t : Addr} (s : Same H H') : But2 H H' r t := fun a o e _ _ => s a o e
/-- an object keeps standing where its two lists are written anew -/
theorem Txt2.but {C p dx r t : Addr} {H H' : Hp} {u0 : Value} {b : Nat} {T T' : List (List Nat)} {ks ks' : List Int} (L : Txt2 C H p dx r t u0 b T ks) (k : But2 H H' r t) (e1 : H' r = some (.lst (ks'.map V.int))) (e2 : H' t = some (.lst (T'.map fun l => V.str (SX.S l)))) (len : T'.length = ks'.length + 1) (sz : ∀ l ∈ T', l.length ≤ 2000) : Txt2 C H' p dx r t u0 b T' ks' := by
  obtain ⟨m, h, e⟩ := L.m
  have n1 : ∀ {a : Addr} {φ : Heap → Prop}, H a = some (.ext φ) → a ≠ r ∧ a ≠ t := fun {a φ} h => ⟨ne_of h L.rp (by intro z; cases z), ne_of h L.tx (by intro z; cases z)⟩
  exact ⟨⟨m, ⟨k _ _ h.i (n1 h.i).1 (n1 h.i).2, k _ _ h.d (n1 h.d).1 (n1 h.d).2, h.ne⟩, e⟩, L.u, e1, e2, L.ne, len, sz⟩
/-- the present text -/
def lastT (T : List (List Nat)) : List Nat := T.getLast?.getD []
theorem lastT_snoc (T : List (List Nat)) (l : List Nat) : lastT (T ++ [l]) = l := by
  unfold lastT
  rw [List.getLast?_append]
  rfl
/-- the texts after further replacements -/
def appT (b : Nat) (T : List (List Nat)) (ns : List Int) : List (List Nat) := ns.foldl (fun T k => T ++ [sqT b [k] (lastT T) 0]) T
theorem appT_snoc (b : Nat) (T : List (List Nat)) (ns : List Int) (k : Int) : appT b T (ns ++ [k]) = appT b T ns ++ [sqT b [k] (lastT (appT b T ns)) 0] := by
  unfold appT
  rw [List.foldl_append]
  rfl
theorem lastT_mem {T : List (List Nat)} (h : T ≠ []) : lastT T ∈ T := by
  unfold lastT
  rw [List.getLast?_eq_some_getLast h]
  exact List.getLast_mem h
theorem lastT_size {T : List (List Nat)} (h : ∀ l ∈ T, l.length ≤ 2000) : (lastT T).length ≤ 2000 := by
  by_cases e : T = []
  · rw [e]
    exact Nat.zero_le _
  · exact h _ (lastT_mem e)
theorem sqT_size {b : Nat} {k : Int} (hk : 2 ≤ k) {l : List Nat} (h : l.length ≤ 2000) : (sqT b [k] l 0).length ≤ 2000 := by
  have := sqT_len (b := b) (ks := [k]) (fun x hx => by rw [List.mem_singleton.mp hx]; exact hk) l 0 (by decide)
  omega
/-- a replacement greater than all runs changes nothing -/
theorem once_less {n k : Int} (h0 : 0 ≤ n) (h : n < k) : once n k = n := by
  unfold once
  rw [Int.ediv_eq_zero_of_lt h0 h, Int.emod_eq_of_lt h0 h, Int.zero_add]
theorem sqT_less {b : Nat} {k : Int} : ∀ (xs : List Nat) (r : Int), 0 ≤ r → (∀ y ∈ lbw b xs r, y < k) → sqT b [k] xs r = List.replicate r.toNat b ++ xs
  | [], r, h0, h => by
    have e : sq r [k] = r := once_less h0 (h r List.mem_cons_self)
    show List.replicate (sq r [k]).toNat b = _
    rw [e, List.append_nil]
  | x :: xs, r, h0, h => by
    rw [lbw_cons] at h
    rw [sqT_cons]
    by_cases c : x = b
    · rw [if_pos c] at h ⊢
      rw [sqT_less xs (r + 1) (by omega) h, show (r + 1).toNat = r.toNat + 1 by omega, List.replicate_succ', List.append_assoc, c]
      rfl
    · rw [if_neg c] at h ⊢
      have e : sq r [k] = r := once_less h0 (h r List.mem_cons_self)
      rw [e, sqT_less xs 0 (by decide) fun y hy => h y (List.mem_cons_of_mem _ hy)]
      rfl
/-- the greatest of the runs' lengths -/
def IsMax (b : Nat) (l : List Nat) (m : Int) : Prop := m ∈ lbw b l 0 ∧ ∀ y ∈ lbw b l 0, y ≤ m
theorem IsMax.uniq {b : Nat} {l : List Nat} {m m' : Int} (h : IsMax b l m) (h' : IsMax b l m') : m = m' := Int.le_antisymm (h'.2 _ h.1) (h.2 _ h'.1)
theorem lbw_pos (b : Nat) (l : List Nat) (r : Int) : 0 < (lbw b l r).length := by rw [lbw_len]; exact Nat.succ_pos _
structure Lc (K : PySem.W.Frag) (C : Addr) : Prop where
  cl : Cls K C
  nC : NoAttr K C "_character"
  nR : NoAttr K C "_replacements"
  nT : NoAttr K C "_texts"
section
variable {P : Program} {w : World} {K : PySem.W.Frag} {mg : Str → Option Value} {base : Heap} {C : Addr}
def spLvInit (C : Addr) (n : Nat) (u0 : Value) : Sp := fun vs H Q _ => ∃ (p dx : Addr) (l : List Nat) (b : Nat), vs = [.ref p, .str (SX.S l), .str ⟨#[b]⟩] ∧ Live H p C dx (fun _ => none) [] ∧ l.length ≤ 2000 ∧
  ∀ r t H', H r = none → H t = none → Txt2 C H' p dx r t u0 b [l] [] → (∀ a o, H a = some o → a ≠ dx → H' a = some o) → Q .non H'
theorem ok_lvinit {f : Addr} {fd : FuncData} (F : Fun K "__init__" "SqueezedText.__init__" s_SqueezedTextinit f fd) (T : Lc K C) (D_checkcharacter : Df P w K mg base 1 "check_character" ["character"] spCheckChr) : FnW P w K mg base 2 f fd ["self", "text", "character"] 2 (spLvInit C) := by
  refine fnw_ofL F sc_SqueezedTextinit (fun n u vs H Q E h => ?_) (y := "character") rfl rfl (fun cdv A outer s H us vs Q n u0 hr h rv hu => ?_)
  · obtain ⟨p, dx, l, b, rfl, _⟩ := h
    rfl
  · obtain ⟨p, dx, l, b, rfl, L, hl, q⟩ := h
    have cl : Clo (cxOf CX0 P w K mg base ["self", "text", "character"] "SqueezedText.__init__" (defScope s_SqueezedTextinit) f cdv A outer s H E0).nox ["character"] (fun s' => Raw (cxOf CX0 P w K mg base ["self", "text", "character"] "SqueezedText.__init__" (defScope s_SqueezedTextinit) f cdv A outer s H E0).nox "character" u0 s' ∧ n ≤ s'.toks) := (clo_raw rfl).and clo_n
    have kn : KnownU (cxOf CX0 P w K mg base ["self", "text", "character"] "SqueezedText.__init__" (defScope s_SqueezedTextinit) f cdv A outer s H E0).nox (fun s' => Raw (cxOf CX0 P w K mg base ["self", "text", "character"] "SqueezedText.__init__" (defScope s_SqueezedTextinit) f cdv A outer s H E0).nox "character" u0 s' ∧ n ≤ s'.toks) "character" u0 := ⟨fun s' h => .inl ⟨rfl, h.1⟩⟩
    refine ⟨_, wu_cons (ws_expr (we_callD cl D_checkcharacter (hr.mono (by omega)) (by rfl) (wa_cons (wv 2) wa_nil)))
      (ps_fldK (i := 2) kn rfl (Or.inl rfl) (wv 0) (wu_ps (pss_cons (ps_fldL (pv 0) (pe_lst pa_nil)) (pss_one (ps_fldL (pv 0) (pe_lst (pa_cons (pv 1) pa_nil)))))) (fun s' h => h.2)), ?_⟩
    have z1 : 1 ≤ sizeLine := Nat.le_of_lt (small1000 (by decide))
    refine ⟨_, rfl, ⟨#[b]⟩, rfl, rfl, ?_⟩
    refine ⟨_, rfl, fun ru => ⟨_, rfl, p, C, dx, _, [], rfl, L, T.cl, T.nC, by decide, ?_⟩⟩
    have L1 : Live (upd H dx (dicO dx (putM (fun _ => none) "_character" u0) ["_character"])) p C dx (putM (fun _ => none) "_character" u0) ["_character"] := ⟨by rw [upd_ne (Ne.symm L.ne)]; exact L.i, upd_same, L.ne⟩
    have k1 : ∀ a o, H a = some o → a ≠ dx → (upd H dx (dicO dx (putM (fun _ => none) "_character" u0) ["_character"])) a = some o := fun a o e n => by rw [upd_ne n]; exact e
    have f1 : ∀ a, (upd H dx (dicO dx (putM (fun _ => none) "_character" u0) ["_character"])) a = none → H a = none := fun a e => by
      by_cases z : a = dx
      · rw [z, upd_same] at e; cases e
      · rwa [upd_ne z] at e
    generalize upd H dx (dicO dx (putM (fun _ => none) "_character" u0) ["_character"]) = H1 at L1 k1 f1
    refine ⟨Nat.zero_le _, fun r hr1 => ⟨_, rfl, p, C, dx, _, _, rfl, L1.same (same_new hr1), T.cl, T.nR, by decide, fun u1 ru1 => ?_⟩⟩
    obtain rfl : u1 = Value.ref r := ru1
    have L1' := L1.same (same_new (o := .lst []) hr1)
    have ndr : dx ≠ r := ne_of_none L1.d hr1
    have gr : (upd H1 r (.lst [])) r = some (.lst []) := upd_same
    have k2 : ∀ a o, H a = some o → a ≠ dx → (upd H1 r (.lst [])) a = some o := fun a o e n => same_new hr1 _ _ (k1 a o e n)
    have f2 : ∀ a, (upd H1 r (.lst [])) a = none → H a = none := fun a e => f1 a ((same_new hr1).free e)
    generalize upd H1 r (.lst []) = H2 at L1' gr k2 f2
    have L2' : Live (upd H2 dx (dicO dx (putM (putM (fun _ => none) "_character" u0) "_replacements" (.ref r)) ["_replacements", "_character"])) p C dx (putM (putM (fun _ => none) "_character" u0) "_replacements" (.ref r)) ["_replacements", "_character"] := ⟨by rw [upd_ne (Ne.symm L1'.ne)]; exact L1'.i, upd_same, L1'.ne⟩
    have gr3 : (upd H2 dx (dicO dx (putM (putM (fun _ => none) "_character" u0) "_replacements" (.ref r)) ["_replacements", "_character"])) r = some (.lst []) := by rw [upd_ne (Ne.symm ndr)]; exact gr
    have k3 : ∀ a o, H a = some o → a ≠ dx → (upd H2 dx (dicO dx (putM (putM (fun _ => none) "_character" u0) "_replacements" (.ref r)) ["_replacements", "_character"])) a = some o := fun a o e n => by rw [upd_ne n]; exact k2 a o e n
    have f3 : ∀ a, (upd H2 dx (dicO dx (putM (putM (fun _ => none) "_character" u0) "_replacements" (.ref r)) ["_replacements", "_character"])) a = none → H a = none := fun a e => by
      by_cases z : a = dx
      · rw [z, upd_same] at e; cases e
      · rw [upd_ne z] at e
        exact f2 a e
    generalize upd H2 dx (dicO dx (putM (putM (fun _ => none) "_character" u0) "_replacements" (.ref r)) ["_replacements", "_character"]) = H3 at L2' gr3 k3 f3
    refine ⟨_, rfl, z1, fun t ht => ⟨_, rfl, p, C, dx, _, _, rfl, L2'.same (same_new ht), T.cl, T.nT, by decide, fun u2 ru2 => ?_⟩⟩
    obtain rfl : u2 = Value.ref t := ru2
    have L3 := L2'.same (same_new (o := .lst [V.str (SX.S l)]) ht)
    have ndt : dx ≠ t := ne_of_none L2'.d ht
    have nrt : r ≠ t := ne_of_none gr3 ht
    refine q r t _ (f1 r hr1) (f3 t ht) ⟨⟨_, ⟨by rw [upd_ne (Ne.symm L3.ne)]; exact L3.i, upd_same, L3.ne⟩, ?_, ?_, ?_, fun f n1 n2 n3 => ?_⟩, ru, ?_, ?_, nrt, rfl, fun x hx => by rw [List.mem_singleton.mp hx]; exact hl⟩ fun a o e n => ?_
    · show (if ("_character" : Str) = "_texts" then _ else if ("_character" : Str) = "_replacements" then _ else if ("_character" : Str) = "_character" then some u0 else none) = some u0
      rw [if_neg nCT, if_neg nCR, if_pos rfl]
    · show (if ("_replacements" : Str) = "_texts" then _ else if ("_replacements" : Str) = "_replacements" then some (Value.ref r) else _) = some (Value.ref r)
      rw [if_neg nRT, if_pos rfl]
    · show (if ("_texts" : Str) = "_texts" then some (Value.ref t) else _) = some (Value.ref t)
      rw [if_pos rfl]
    · show (if f = "_texts" then _ else if f = "_replacements" then _ else if f = "_character" then _ else none) = none
      rw [if_neg n3, if_neg n2, if_neg n1]
    · rw [upd_ne (Ne.symm ndr), upd_ne nrt]
      exact gr3
    · rw [upd_ne (Ne.symm ndt), upd_same]
      rfl
    · rw [upd_ne n]
      exact same_new ht _ _ (k3 a o e n)
end
end Sq
set_option Elab.async false
set_option linter.all false
set_option maxRecDepth 100000
set_option maxHeartbeats 8000000
set_option exponentiation.threshold 2000
namespace Sq
open PySem PySem.Spec PyProof.Rows L2
theorem atI_tail {α : Type} (xs : List α) (v : α) : atI (xs ++ [v]) (-1) = some v := by
  have hl : (xs ++ [v]).length = xs.length + 1 := by simp
  unfold atI ixN
  rw [if_neg (by decide), hl, if_pos (by omega)]
  show (xs ++ [v])[((-1 : Int) + ((xs.length + 1 : Nat) : Int)).toNat]? = some v
  rw [show ((-1 : Int) + ((xs.length + 1 : Nat) : Int)).toNat = xs.length by omega, List.getElem?_append_right (Nat.le_refl _), Nat.sub_self]
  rfl
section
variable {P : Program} {w : World} {K : PySem.W.Frag} {mg : Str → Option Value} {base : Heap} {C : Addr}
def spText (C : Addr) : Sp := fun vs H Q _ => ∃ (p dx r t : Addr) (u0 : Value) (b : Nat) (T : List (List Nat)) (ks : List Int), vs = [.ref p] ∧ Txt2 C H p dx r t u0 b T ks ∧ Q (.str (SX.S (lastT T))) H
theorem ok_text {f : Addr} {fd : FuncData} (F : Fun K "text" "SqueezedText.text" s_SqueezedTexttext f fd) (Z : Lc K C) : FnOk P w K mg base CX0 1 f fd ["self"] (spText C) := by
  refine F.ok sc_SqueezedTexttext (fun vs H Q E h => ?_) (fun cdv A outer s H vs Q E hr h => ?_)
  · obtain ⟨p, dx, r, t, u0, b, T, ks, rfl, _⟩ := h
    rfl
  · obtain ⟨p, dx, r, t, u0, b, T, ks, rfl, L, q⟩ := h
    refine ⟨_, (pss_one (ps_ret (pe_ix (r := rIxL K) ix_list (pe_fldL (pv 0)) (pe_un un_neg pe_int) (fun _ _ => rfl)))), ?_⟩
    obtain ⟨m, LL, mC, mR, mT, mN⟩ := L.m
    obtain ⟨T0, l, eT⟩ : ∃ T0 l, T = T0 ++ [l] := by
      rcases List.eq_nil_or_concat T with e | ⟨T0, l, e⟩
      · have := L.len
        rw [e] at this
        simp at this
      · exact ⟨T0, l, by rw [e, List.concat_eq_append]⟩
    subst eT
    rw [lastT_snoc] at q
    refine ⟨_, rfl, p, C, dx, m, _, .ref t, .ref t, rfl, LL, Z.cl, Z.nT, mT, rfl, 1, rfl, t, _, -1, .str (SX.S l), rfl, rfl, SqL.of L.tx, ?_, q⟩
    rw [List.map_append]
    exact atI_tail _ _
def spReps (C : Addr) : Sp := fun vs H Q _ => ∃ (p dx r t : Addr) (u0 : Value) (b : Nat) (T : List (List Nat)) (ks : List Int), vs = [.ref p] ∧ Txt2 C H p dx r t u0 b T ks ∧ ∀ l, H l = none → Q (.ref l) (upd H l (.lst (ks.map V.int)))
theorem ok_reps {f : Addr} {fd : FuncData} (F : Fun K "replacements" "SqueezedText.replacements" s_SqueezedTextreplacements f fd) (B : Bi mg) (Z : Lc K C) : FnOk P w K mg base CX0 1 f fd ["self"] (spReps C) := by
  refine F.ok sc_SqueezedTextreplacements (fun vs H Q E h => ?_) (fun cdv A outer s H vs Q E hr h => ?_)
  · obtain ⟨p, dx, r, t, u0, b, T, ks, rfl, _⟩ := h
    rfl
  · obtain ⟨p, dx, r, t, u0, b, T, ks, rfl, L, q⟩ := h
    refine ⟨_, (pss_one (ps_ret (pe_callTy (T := "list") (r := rListK K) call_listK (by rfl) B.n_list (by decide +kernel) (pa_cons (pe_fldL (pv 0)) pa_nil)))), ?_⟩
    obtain ⟨m, LL, mC, mR, mT, mN⟩ := L.m
    exact ⟨_, rfl, p, C, dx, m, _, .ref r, .ref r, rfl, LL, Z.cl, Z.nR, mR, rfl, r, _, rfl, .inl (SqL.of L.rp), fun l hl => q l hl⟩
def spLongest (C : Addr) : Sp := fun vs H Q _ => ∃ (p dx r t : Addr) (u0 : Value) (b : Nat) (T : List (List Nat)) (ks : List Int), vs = [.ref p] ∧ Txt2 C H p dx r t u0 b T ks ∧ ∀ m H', IsMax b (lastT T) m → Same H H' → Q (.int m) H'
theorem ok_longest {f : Addr} {fd : FuncData} (F : Fun K "longest" "SqueezedText.longest" s_SqueezedTextlongest f fd) (B : Bi mg) (Z : Lc K C) (P_text : Pr P w K mg base 1 C "text" (spText C)) (D_lengthsbetween : Df P w K mg base 1 "lengths_between" ["text", "character"] spBetween) : FnOk P w K mg base CX0 3 f fd ["self"] (spLongest C) := by
  refine F.ok sc_SqueezedTextlongest (fun vs H Q E h => ?_) (fun cdv A outer s H vs Q E hr h => ?_)
  · obtain ⟨p, dx, r, t, u0, b, T, ks, rfl, _⟩ := h
    rfl
  · obtain ⟨p, dx, r, t, u0, b, T, ks, rfl, L, q⟩ := h
    refine ⟨_, (pss_one (ps_ret (pe_callB (id := "max") (cr_max rfl) (by rfl) B.n_max (by decide +kernel) (pa_cons (pe_callD D_lengthsbetween (hr.mono (by omega)) (by rfl) (pa_cons (pe_prL P_text (hr.mono (by omega)) (pv 0)) (pa_cons (pe_fldL (pv 0)) pa_nil))) pa_nil)))), ?_⟩
    obtain ⟨m, LL, mC, mR, mT, mN⟩ := L.m
    have l2 := lastT_size L.sz
    refine ⟨_, rfl, p, dx, m, _, rfl, LL, p, dx, r, t, u0, b, T, ks, rfl, L, ?_⟩
    refine ⟨_, rfl, p, C, dx, m, _, u0, _, rfl, LL, Z.cl, Z.nC, mC, L.u, ?_⟩
    refine ⟨SX.S (lastT T), b, rfl, by rw [SX.S_len]; omega, fun a H' na s' ga => ?_⟩
    exact ⟨a, _, rfl, SqL.of ga, lbw_pos b _ 0, fun mm h1 h2 => q mm H' ⟨h1, h2⟩ s'⟩
/-- the check of the numbers, as a tuple -/
def spCheckListT : Sp := fun vs H Q _ => ∃ (a : Addr) (ks : List Int), vs = [.ref a] ∧ H a = some (.tup (ks.map V.int)) ∧ (∀ k ∈ ks, 2 ≤ k) ∧ ∀ H', Same H H' → Q .non H'
theorem ok_checklistT {f : Addr} {fd : FuncData} (F : Fun K "check_list" "check_list" s_checklist f fd) (B : Bi mg) : FnOk P w K mg base CX0 1 f fd ["replacements"] spCheckListT := by
  refine F.ok sc_checklist (fun vs H Q E h => ?_) (fun cdv A outer s H vs Q E hr h => ?_)
  · obtain ⟨a, ks, rfl, _⟩ := h
    rfl
  · obtain ⟨a, ks, rfl, hS, hk, q⟩ := h
    refine ⟨_, (pss_one (ps_for PassesOwn.never rfl (pi_enumT (by rfl) B.n_enumerate (pa_cons (pv 0) pa_nil)) (pg_tup rfl (pgs_cons (pg_name (i := 1) sc_checklist.nd rfl (Or.inl rfl)) (pgs_cons (pg_name (i := 2) sc_checklist.nd rfl (Or.inl rfl)) pgs_nil)))
      (pss_one (ps_if (pt_cmpR op_lt (pv 2) pe_int (nomark _)) (pss_one ps_never) pss_nil)))), ?_⟩
    refine ⟨_, rfl, a, ks.map V.int, rfl, .inl (.inl hS), for_it (walk_enumT (K := K) (a := a) (xs := ks.map V.int)) (fun i σ H' => Same H H' ∧ ∃ y z, σ = [some (.ref a), y, z]) ⟨Same.refl H, none, none, rfl⟩ (fun i σ H' _ h => .inl (.inl (h.1 _ _ hS))) ?_ ?_⟩
    · rintro i σ H' v H2 hi ⟨sm, y, z, rfl⟩ ⟨T, x2, rfl, nT, rfl, e2⟩
      obtain ⟨k, hk', rfl⟩ := map_at e2
      refine ⟨T, _, rfl, .inl (.inl upd_same), rfl, _, _, rfl, _, _, rfl, rfl, ?_⟩
      refine ⟨_, rfl, _, _, rfl, rfl, _, rfl, ite2 (fun c => ?_) (fun c => ?_)⟩
      · have := hk k (List.mem_of_getElem? hk')
        have c' : k < 2 := of_decide_eq_true c
        omega
      · exact ⟨sm.trans (same_new nT), _, _, rfl⟩
    · rintro σ H' ⟨sm, y, z, rfl⟩
      exact q H' sm
/-- squeeze, with good numbers -/
def spSqueeze (C : Addr) (n : Nat) : Sp := fun vs H Q _ => ∃ (p dx r t a : Addr) (u0 : Value) (b : Nat) (T : List (List Nat)) (ks ns : List Int), vs = [.ref p, .ref a] ∧ H a = some (.tup (ns.map V.int)) ∧ Txt2 C H p dx r t u0 b T ks ∧ Tkn 0 [u0] n ∧ Rpl ns ∧ ks.length + ns.length ≤ 100000 ∧
  ∀ H', Txt2 C H' p dx r t u0 b (appT b T ns) (ks ++ ns) → But2 H H' r t → Q .non H'
theorem ok_squeeze {f : Addr} {fd : FuncData} (F : Fun K "squeeze" "SqueezedText.squeeze" s_SqueezedTextsqueeze f fd) (B : Bi mg) (Z : Lc K C) (P_text : Pr P w K mg base 1 C "text" (spText C)) (P_longest : Pr P w K mg base 3 C "longest" (spLongest C)) (D_lengthsbetween : Df P w K mg base 1 "lengths_between" ["text", "character"] spBetween)
    (D_checklistT : Df P w K mg base 1 "check_list" ["replacements"] spCheckListT) (T_squeezetext : DfT P w K mg base 4 "squeeze_text" ["text", "character", "replacements"] 1 (spSqT K)) : FnV P w K mg base 5 f (spSqueeze C) := by
  refine fnv_of (k := 4) F sc_SqueezedTextsqueeze (fun n vs H Q E h => ?_) (fun kV doc pm an cdv ct u1 us => ?_) (fun cdv A outer s H vs Q n hr h => ?_)
  · obtain ⟨p, dx, r, t, a, u0, b, T, ks, ns, rfl, _⟩ := h
    rfl
  · cases us with
    | nil => rfl
    | cons a r => rfl
  · obtain ⟨p, dx, r, t, a, u0, b, T, ks, ns, rfl, ha, L, good, rpl, few, q⟩ := h
    refine ⟨_, wu_of (wss_cons (ws_ofP (ps_expr (pe_callD D_checklistT (hr.mono (by omega)) (by rfl) (pa_cons (pv 1) pa_nil))))
      (wss_cons (ws_ofP (ps_set (i := 2) sc_SqueezedTextsqueeze.nd rfl (Or.inl rfl) (pe_prL P_longest (hr.mono (by omega)) (pv 0))))
      (wss_one (ws_forT rfl PassesOwn.never clo_n (we_ofP (pv 1)) (wg_name (i := 3) clo_n (by decide) sc_SqueezedTextsqueeze.nd rfl (Or.inl rfl))
        (wss_cons (ws_ofP (ps_set (i := 4) sc_SqueezedTextsqueeze.nd rfl (Or.inl rfl) (pe_prL P_text (hr.mono (by omega)) (pv 0))))
        (wss_cons (ws_if (wt_ofP (pt_cmpR op_le (pv 3) (pv 2) (nomark _)))
          (wss_cons (ws_set (i := 4) clo_n (by decide) sc_SqueezedTextsqueeze.nd rfl (Or.inl rfl) (we_callT clo_n T_squeezetext (hr.mono (by omega)) (by rfl) (wx_skip (we_ofP (pv 4)) (wx_fld clo_n (fun _ h => h) (we_ofP (pv 0)) (wa_ofP (pa_cons (pe_lst (pa_cons (pv 3) pa_nil)) pa_nil))))))
          (wss_one (ws_ofP (ps_set (i := 2) sc_SqueezedTextsqueeze.nd rfl (Or.inl rfl) (pe_callB (id := "max") (cr_max rfl) (by rfl) B.n_max (by decide +kernel) (pa_cons (pe_callD D_lengthsbetween (hr.mono (by omega)) (by rfl) (pa_cons (pv 4) (pa_cons (pe_fldL (pv 0)) pa_nil))) pa_nil))))))
          wss_nil)
        (wss_cons (ws_ofP (ps_expr (pe_bm PySem.F.plainAttrs_list PySem.F.slot_list_append PySem.F.type_list_append mt_append (pe_fldL (pv 0)) (pa_cons (pv 3) pa_nil))))
        (wss_one (ws_ofP (ps_expr (pe_bm PySem.F.plainAttrs_list PySem.F.slot_list_append PySem.F.type_list_append mt_append (pe_fldL (pv 0)) (pa_cons (pv 4) pa_nil))))))))))) ), ?_⟩
    have szl : sizeLine = 16777216 := sizeLine_eq
    have z1 : 1 ≤ sizeLine := by omega
    have nar : a ≠ r := ne_of ha L.rp (by intro z; cases z)
    have nat : a ≠ t := ne_of ha L.tx (by intro z; cases z)
    obtain ⟨m, LL, mC, mR, mT, mN⟩ := L.m
    refine ⟨_, rfl, a, ns, rfl, ha, rpl.two, fun H1 s1 => ?_⟩
    refine ⟨_, rfl, p, dx, m, _, rfl, LL.same s1, p, dx, r, t, u0, b, T, ks, rfl, L.same s1, fun mx H2 hm s2 => ?_⟩
    have s02 := s1.trans s2
    refine ⟨_, rfl, a, ns.map V.int, rfl, .inl (.inl (s02 _ _ ha)), (fun i σ H' => ∃ mx y3 y4, σ = [some (.ref p), some (.ref a), some (.int mx), y3, y4] ∧ Txt2 C H' p dx r t u0 b (appT b T (ns.take i)) (ks ++ ns.take i) ∧ IsMax b (lastT (appT b T (ns.take i))) mx ∧ But2 H H' r t),
      ⟨mx, none, none, rfl, by rw [List.take_zero, List.append_nil]; exact L.same s02, hm, But2.of s02⟩, fun i σ H' h => by obtain ⟨_, _, _, _, _, _, k⟩ := h; exact .inl (.inl (k _ _ ha nar nat)), ?_, ?_⟩
    · rintro i z σ H3 hz ⟨mx, y3, y4, rfl, L3, hm3, k3⟩
      obtain ⟨k, ek, rfl⟩ := map_at hz
      have il : i < ns.length := (List.getElem?_eq_some_iff.mp ek).1
      have rk := rpl k (List.mem_of_getElem? ek)
      obtain ⟨TT, eTT⟩ : ∃ TT, TT = appT b T (ns.take i) := ⟨_, rfl⟩
      have eN : ns.take (i + 1) = ns.take i ++ [k] := by rw [List.take_add_one, ek]; rfl
      rw [← eTT] at L3 hm3
      have ll := lastT_size L3.sz
      obtain ⟨l, el⟩ : ∃ l, l = lastT TT := ⟨_, rfl⟩
      rw [← el] at hm3 ll
      have eA : appT b T (ns.take (i + 1)) = TT ++ [sqT b [k] l 0] := by rw [eN, appT_snoc, ← eTT, ← el]
      have eK : ks ++ ns.take (i + 1) = ks ++ ns.take i ++ [k] := by rw [eN, List.append_assoc]
      obtain ⟨m3, LL3, mC3, mR3, mT3, mN3⟩ := id L3.m
      refine ⟨_, rfl, p, dx, m3, _, rfl, LL3, p, dx, r, t, u0, b, TT, _, rfl, L3, ?_⟩
      rw [← el]
      refine tellNx (fun σ2 H4 => ∃ mx', σ2 = [some (.ref p), some (.ref a), some (.int mx'), some (.int k), some (.str (SX.S (sqT b [k] l 0)))] ∧ Same H3 H4 ∧ IsMax b (sqT b [k] l 0) mx') (fun N hN => ?_) (fun σ2 H4 h4 => ?_)
      · refine ⟨_, rfl, _, rfl, k, mx, rfl, rfl, _, rfl, ite2 (fun c => ?_) (fun c => ?_)⟩
        · refine ⟨_, rfl, _, rfl, p, C, dx, m3, _, u0, _, rfl, LL3, Z.cl, Z.nC, mC3, good, L.u, _, rfl, z1, fun l1 hl1 => ⟨SX.S l, b, l1, [k], rfl, SqL.of upd_same, fun x hx => by rw [List.mem_singleton.mp hx]; exact rk, by rw [SX.S_len]; omega, fun H5 s5 => ?_⟩⟩
          have s35 := (same_new (o := .lst [V.int k]) hl1).trans s5
          have sl := sqT_size (b := b) rk.1 ll
          refine ⟨_, rfl, _, rfl, p, C, dx, m3, _, u0, _, rfl, LL3.same s35, Z.cl, Z.nC, mC3, L.u, SX.S (sqT b [k] l 0), b, rfl, by rw [SX.S_len]; omega, fun a6 H6 na6 s6 ga6 => ?_⟩
          exact ⟨a6, _, rfl, SqL.of ga6, lbw_pos b _ 0, fun mm h1 h2 => hN _ _ ⟨mm, rfl, s35.trans s6, h1, h2⟩⟩
        · have e : sqT b [k] l 0 = l := by
            have lt : ¬ k ≤ mx := fun z => c (decide_eq_true z)
            rw [sqT_less l 0 (by decide) fun y hy => by have := hm3.2 y hy; omega]
            rfl
          exact hN _ _ ⟨mx, by rw [e]; rfl, Same.refl _, by rw [e]; exact hm3⟩
      · obtain ⟨mx', rfl, s4, hm4⟩ := h4
        have L4 := L3.same s4
        obtain ⟨m4, LL4, mC4, mR4, mT4, mN4⟩ := id L4.m
        have lenK : (ks ++ ns.take i).length ≤ 100000 := by
          rw [List.length_append, List.length_take]
          omega
        have lenT := L4.len
        refine ⟨_, rfl, p, C, dx, m4, _, .ref r, .ref r, rfl, LL4, Z.cl, Z.nR, mR4, rfl, .inl ⟨rfl, _, SqL.of L4.rp⟩, _, rfl, r, _, _, rfl, rfl, L4.rp, by rw [List.length_map]; omega, ?_⟩
        have t5 : (upd H4 r (.lst ((ks ++ ns.take i).map V.int ++ [V.int k]))) t = some (.lst (TT.map fun l => V.str (SX.S l))) := by rw [upd_ne (Ne.symm L4.ne)]; exact L4.tx
        have nrd : ∀ {x : Addr} {φ : Heap → Prop}, H4 x = some (.ext φ) → x ≠ r := fun {x φ} h => ne_of h L4.rp (by intro z; cases z)
        have LL5 : Live (upd H4 r (.lst ((ks ++ ns.take i).map V.int ++ [V.int k]))) p C dx m4 lvN := ⟨by rw [upd_ne (nrd LL4.i)]; exact LL4.i, by rw [upd_ne (nrd LL4.d)]; exact LL4.d, LL4.ne⟩
        refine ⟨_, rfl, p, C, dx, m4, _, .ref t, .ref t, rfl, LL5, Z.cl, Z.nT, mT4, rfl, .inl ⟨rfl, _, SqL.of t5⟩, _, rfl, t, _, _, rfl, rfl, t5, by rw [List.length_map]; omega, ?_⟩
        have kk : But2 H4 (upd (upd H4 r (.lst ((ks ++ ns.take i).map V.int ++ [V.int k]))) t (.lst ((TT.map fun l => V.str (SX.S l)) ++ [V.str (SX.S (sqT b [k] l 0))]))) r t := fun x o e n1 n2 => by rw [upd_ne n2, upd_ne n1]; exact e
        have fin : Txt2 C (upd (upd H4 r (.lst ((ks ++ ns.take i).map V.int ++ [V.int k]))) t (.lst ((TT.map fun l => V.str (SX.S l)) ++ [V.str (SX.S (sqT b [k] l 0))]))) p dx r t u0 b (TT ++ [sqT b [k] l 0]) (ks ++ ns.take i ++ [k]) := by
          refine L4.but kk ?_ ?_ ?_ fun x hx => ?_
          · rw [upd_ne L4.ne, upd_same, ← List.map_singleton, ← List.map_append]
          · rw [upd_same, List.map_append]
            rfl
          · rw [List.length_append, List.length_append, lenT]
            rfl
          · rcases List.mem_append.mp hx with z | z
            · exact L4.sz x z
            · rw [List.mem_singleton.mp z]
              exact sqT_size rk.1 ll
        exact ⟨mx', _, _, rfl, by rw [eA, eK]; exact fin, by rw [eA, lastT_snoc]; exact hm4, (k3.trans (But2.of s4)).trans kk⟩
    · rintro σ H3 ⟨mx, y3, y4, rfl, L3, hm3, k3⟩
      rw [List.length_map, List.take_length] at L3
      exact q H3 L3 k3
end
end Sq
set_option Elab.async false
set_option linter.all false
set_option maxRecDepth 100000
set_option maxHeartbeats 8000000
set_option exponentiation.threshold 2000
namespace Sq
open PySem PySem.Spec PyProof.Rows L2
section
variable {P : Program} {w : World} {K : PySem.W.Frag} {mg : Str → Option Value} {base : Heap} {C : Addr}
/-- undo, where there is something to take back -/
def spUndo (C : Addr) : Sp := fun vs H Q _ => ∃ (p dx r t : Addr) (u0 : Value) (b : Nat) (T : List (List Nat)) (l : List Nat) (ks : List Int) (k : Int), vs = [.ref p] ∧ Txt2 C H p dx r t u0 b (T ++ [l]) (ks ++ [k]) ∧ ∀ H', Txt2 C H' p dx r t u0 b T ks → But2 H H' r t → Q .non H'
theorem ok_undo {f : Addr} {fd : FuncData} (F : Fun K "undo" "SqueezedText.undo" s_SqueezedTextundo f fd) (Z : Lc K C) : FnOk P w K mg base CX0 1 f fd ["self"] (spUndo C) := by
  refine F.ok sc_SqueezedTextundo (fun vs H Q E h => ?_) (fun cdv A outer s H vs Q E hr h => ?_)
  · obtain ⟨p, dx, r, t, u0, b, T, l, ks, k, rfl, _⟩ := h
    rfl
  · obtain ⟨p, dx, r, t, u0, b, T, l, ks, k, rfl, L, q⟩ := h
    refine ⟨_, (pss_cons (ps_if (pt_not (pt_truth (pe_fldL (pv 0)) (by intro _; rfl)))
      (pss_one ps_never)
      pss_nil)
      (pss_cons (ps_expr (pe_bm0 PySem.F.plainAttrs_list PySem.F.slot_list_pop PySem.F.type_list_pop mt_pop (pe_fldL (pv 0))))
      (pss_one (ps_expr (pe_bm0 PySem.F.plainAttrs_list PySem.F.slot_list_pop PySem.F.type_list_pop mt_pop (pe_fldL (pv 0))))))), ?_⟩
    · obtain ⟨m, LL, mC, mR, mT, mN⟩ := L.m
      refine ⟨_, rfl, p, C, dx, m, _, .ref r, .ref r, rfl, LL, Z.cl, Z.nR, mR, rfl, _, .inl ⟨_, SqL.of L.rp, rfl⟩, ?_⟩
      have ne : ((ks ++ [k]).map V.int).isEmpty = false := by rw [List.map_append]; cases (ks.map V.int) <;> rfl
      rw [ne]
      refine iteF ?_
      have lenT := L.len
      refine ⟨_, rfl, p, C, dx, m, _, .ref r, .ref r, rfl, LL, Z.cl, Z.nR, mR, rfl, .inl ⟨rfl, _, SqL.of L.rp⟩, r, _, .int k, rfl, rfl, L.rp, ?_, ?_⟩
      · rw [List.map_append, List.length_append, List.map_singleton, List.length_singleton, Nat.add_sub_cancel, List.getElem?_append_right (Nat.le_refl _), Nat.sub_self]
        rfl
      rw [List.map_append, List.map_singleton, List.dropLast_concat]
      have t5 : (upd H r (.lst (ks.map V.int))) t = some (.lst ((T ++ [l]).map fun l => V.str (SX.S l))) := by rw [upd_ne (Ne.symm L.ne)]; exact L.tx
      have nrd : ∀ {x : Addr} {φ : Heap → Prop}, H x = some (.ext φ) → x ≠ r := fun {x φ} h => ne_of h L.rp (by intro z; cases z)
      have LL5 : Live (upd H r (.lst (ks.map V.int))) p C dx m lvN := ⟨by rw [upd_ne (nrd LL.i)]; exact LL.i, by rw [upd_ne (nrd LL.d)]; exact LL.d, LL.ne⟩
      refine ⟨_, rfl, p, C, dx, m, _, .ref t, .ref t, rfl, LL5, Z.cl, Z.nT, mT, rfl, .inl ⟨rfl, _, SqL.of t5⟩, t, _, .str (SX.S l), rfl, rfl, t5, ?_, ?_⟩
      · rw [List.map_append, List.length_append, List.map_singleton, List.length_singleton, Nat.add_sub_cancel, List.getElem?_append_right (Nat.le_refl _), Nat.sub_self]
        rfl
      rw [List.map_append, List.map_singleton, List.dropLast_concat]
      have kk : But2 H (upd (upd H r (.lst (ks.map V.int))) t (.lst (T.map fun l => V.str (SX.S l)))) r t := fun x o e n1 n2 => by rw [upd_ne n2, upd_ne n1]; exact e
      refine q _ (L.but kk (by rw [upd_ne L.ne, upd_same]) upd_same ?_ fun x hx => L.sz x (List.mem_append_left _ hx)) kk
      rw [List.length_append, List.length_append] at lenT
      simp only [List.length_cons, List.length_nil] at lenT
      omega
end
end Sq
set_option Elab.async false
set_option linter.all false
set_option maxRecDepth 100000
set_option maxHeartbeats 1000000
namespace Sq
open PySem PySem.Spec PyProof.Rows L2
/-! ### generator defs -/
theorem passG {X : Cx} : Passes (CX X.prog X.w) X E0 := fun pins σ H s e s' I h => by
  obtain ⟨a, B, H', cls, d, _, _, _, _, _, _, _, z⟩ := h
  exact z.elim
/-! ### x <= y of lists -/
end Sq
set_option Elab.async false
set_option linter.all false
set_option maxRecDepth 100000
set_option maxHeartbeats 4000000
/-! An if with a yield in its suite; list(o.m()) of a live object's generator. -/
namespace Sq
open PySem PySem.Spec PyProof.Rows L2
def tGIf (c : TT) (t u : TGn) : TGn := fun D ys σ H => c σ H fun b H1 => if b = true then t D ys σ H1 else u D ys σ H1
theorem gs_if {X : Cx} {ce : Expr} {a b : List Stmt} {pos : Pos} {tc : TT} {t u : TGn} (hc : PT X ce tc) (ha : GSs X a t) (hb : GSs X b u) : GS X (.If ce a b pos) (tGIf tc t u) := by
  refine ⟨fun A S ip R n ys s₀ c fs K J gd lv s σ H D gc hn k hI ht => ?_⟩
  obtain ⟨acc, cc, r, I⟩ := hI
  rw [exec_If]
  refine seg_bind_wrap (wpAny_standAt ?_)
  refine seg_bind_wrap ?_
  rw [gc.over]
  refine wpAny_mono (hc.run _ s σ H _ I ht) (fun d s1 hh => ?_) fun x s' hx => k.exc n s₀ x s' hx
  obtain ⟨H1, I1, q1⟩ := hh
  cases d with
  | true => exact ha.run A S ip R n ys s₀ c fs K J gd lv s1 σ H1 D gc hn k ⟨acc, cc, r, I1⟩ q1
  | false => exact hb.run A S ip R n ys s₀ c fs K J gd lv s1 σ H1 D gc hn k ⟨acc, cc, r, I1⟩ q1
def tMethGL (C : Addr) (m : Str) (sp : SpG) (E : XK) (ta : TE) : TGen := fun σ H cont => ta σ H fun x H1 => ∃ a dx mA ks, x = .ref a ∧ Live H1 a C dx mA ks ∧ mA m = none ∧ sp [x] H1 cont E
/-- a generator method of the class at C -/
structure MtG (P : Program) (w : World) (K : PySem.W.Frag) (mg : Str → Option Value) (base : Heap) (k : Nat) (C : Addr) (m : Str) (sp : SpG) : Prop where
  ex : ∃ f fd, GFn P w K mg base k f fd ["self"] sp ∧ Meth K C m f ∧ Binds K fd ["self"] []
  cl : Cls K C
end Sq
set_option Elab.async false
set_option linter.all false
set_option maxRecDepth 100000
set_option maxHeartbeats 8000000
set_option exponentiation.threshold 2000
namespace Sq
open PySem PySem.Spec PyProof.Rows L2
section
variable {P : Program} {w : World} {K : PySem.W.Frag} {mg : Str → Option Value} {base : Heap} {C : Addr}
/-- the lengths of a text's runs -/
def runs (b : Nat) (l : List Nat) : List Int := (lbw b l 0).filter fun n => decide (0 < n)
theorem filter_snoc {α : Type} (p : α → Bool) (xs : List α) (x : α) : (xs ++ [x]).filter p = xs.filter p ++ (if p x = true then [x] else []) := by
  rw [List.filter_append]
  congr 1
  cases e : p x <;> simp [e]
def spRuns (C : Addr) : SpG := fun vs H Q _ => ∃ (p dx r t : Addr) (u0 : Value) (b : Nat) (T : List (List Nat)) (ks : List Int), vs = [.ref p] ∧ Txt2 C H p dx r t u0 b T ks ∧ ∀ H', Same H H' → Q ((runs b (lastT T)).map V.int) H'
theorem ok_runs {f : Addr} {fd : FuncData} (F : Fun K "runs" "SqueezedText.runs" s_SqueezedTextruns f fd) (Z : Lc K C) (P_text : Pr P w K mg base 1 C "text" (spText C)) (D_lengthsbetween : Df P w K mg base 1 "lengths_between" ["text", "character"] spBetween) : GFn P w K mg base 3 f fd ["self"] (spRuns C) := by
  obtain ⟨oc, od, kV, doc, pm, an, cdv, ct, osl, rfl, lk, hcd⟩ := F.ex
  refine gfn_of (k := 2) lk hcd sc_SqueezedTextruns (fun vs H Q E h => ?_) (fun A outer s H vs Q E pn hr h => ?_)
  · obtain ⟨p, dx, r, t, u0, b, T, ks, rfl, _⟩ := h
    rfl
  · obtain ⟨p, dx, r, t, u0, b, T, ks, rfl, L, q⟩ := h
    refine ⟨_, (gss_cons (gs_for owns_gcx rfl (pi_list (pe_callD D_lengthsbetween (hr.mono (by omega)) (by rfl) (pa_cons (pe_prL P_text (hr.mono (by omega)) (pv 0)) (pa_cons (pe_fldL (pv 0)) pa_nil)))) (pg_name (i := 1) sc_SqueezedTextruns.nd rfl (Or.inl rfl))
      (gss_cons (gs_if (pt_cmpR op_gt (pv 1) pe_int (nomark _)) (gss_cons (gs_yield (pv 1)) gss_nil) gss_nil) gss_nil)) gss_nil), ?_⟩
    have lim : sizeLine = 16777216 := sizeLine_eq
    obtain ⟨m, LL, mC, mR, mT, mN⟩ := L.m
    have l2 := lastT_size L.sz
    refine ⟨_, rfl, p, dx, m, _, rfl, LL, p, dx, r, t, u0, b, T, ks, rfl, L, ?_⟩
    refine ⟨_, rfl, p, C, dx, m, _, u0, _, rfl, LL, Z.cl, Z.nC, mC, L.u, ?_⟩
    refine ⟨SX.S (lastT T), b, rfl, by rw [SX.S_len]; omega, fun a H1 na s1 ga => ?_⟩
    refine ⟨a, rfl, ⟨_, SqL.of ga⟩, ?_⟩
    have few : (lbw b (lastT T) 0).length ≤ 2001 := by
      rw [lbw_len]
      have := List.length_filter_le (fun x => decide (x ≠ b)) (lastT T)
      omega
    obtain ⟨ls, els⟩ : ∃ ls, ls = lbw b (lastT T) 0 := ⟨_, rfl⟩
    have eR : runs b (lastT T) = ls.filter fun n => decide (0 < n) := by rw [els]; rfl
    rw [eR] at q
    rw [← els] at few
    replace ga : H1 a = some (.lst (ls.map V.int)) := by rw [els]; exact ga
    refine gfor_it (walk_list (K := K) (a := a) (xs := ls.map V.int)) (fun i ys σ H2 => ∃ y, σ = [some (.ref p), y] ∧ Same H1 H2 ∧ ys = ((ls.take i).filter fun n => decide (0 < n)).map V.int)
      ⟨none, rfl, Same.refl _, rfl⟩ (fun i ys σ H2 _ h => by obtain ⟨y, _, s2, _⟩ := h; exact SqL.of (s2 _ _ ga)) ?_ ?_
    · rintro i x ys σ H2 H3 hi ⟨y, rfl, s2, rfl⟩ ⟨rfl, e⟩
      rw [List.length_map] at hi
      obtain ⟨k, hk', rfl⟩ := map_at e
      have eN : ((ls.take (i + 1)).filter fun n => decide (0 < n)) = ((ls.take i).filter fun n => decide (0 < n)) ++ (if decide (0 < k) = true then [k] else []) := by
        rw [List.take_add_one, hk']
        exact filter_snoc _ _ _
      refine ⟨_, rfl, k, 0, rfl, rfl, _, rfl, ?_⟩
      by_cases c : 0 < k
      · rw [decide_eq_true c]
        refine iteT ?_
        refine ⟨?_, _, rfl, ?_⟩
        · rw [List.length_map]
          have := List.length_filter_le (fun n => decide (0 < n)) (ls.take i)
          rw [List.length_take] at this
          omega
        · refine ⟨_, rfl, s2, ?_⟩
          rw [eN, decide_eq_true c, if_pos rfl, List.map_append]
          rfl
      · rw [decide_eq_false c]
        refine iteF ?_
        refine ⟨_, rfl, s2, ?_⟩
        rw [eN, decide_eq_false c, if_neg (by decide), List.append_nil]
    · rintro ys σ H2 ⟨y, rfl, s2, rfl⟩
      rw [List.length_map, List.take_length]
      exact q _ (s1.trans s2)
end
end Sq
set_option Elab.async false
set_option linter.all false
set_option maxRecDepth 100000
set_option maxHeartbeats 8000000
set_option exponentiation.threshold 2000
namespace Sq
open PySem PySem.Spec PyProof.Rows L2
section
variable {P : Program} {w : World} {K : PySem.W.Frag} {mg : Str → Option Value} {base : Heap} {C : Addr}
/-- the runs of l that end within it, where a run of r stands before -/
def rf (b : Nat) : List Nat → Int → List Int
  | [], _ => []
  | x :: xs, r => if x = b then rf b xs (r + 1) else (if 0 < r then [r] else []) ++ rf b xs 0
theorem rf_cons (b x : Nat) (xs : List Nat) (r : Int) : rf b (x :: xs) r = if x = b then rf b xs (r + 1) else (if 0 < r then [r] else []) ++ rf b xs 0 := rfl
theorem rf_runs {b z : Nat} (h : z ≠ b) : ∀ (l : List Nat) (r : Int), rf b (l ++ [z]) r = (lbw b l r).filter fun n => decide (0 < n)
  | [], r => by
    show rf b (z :: []) r = ([r] : List Int).filter _
    rw [rf_cons, if_neg h, show rf b [] 0 = [] from rfl, List.append_nil]
    by_cases c : 0 < r
    · rw [if_pos c, List.filter_cons_of_pos (by simpa using c)]
      rfl
    · rw [if_neg c, List.filter_cons_of_neg (by simpa using c)]
      rfl
  | x :: xs, r => by
    rw [List.cons_append, rf_cons, lbw_cons]
    by_cases c : x = b
    · rw [if_pos c, if_pos c]
      exact rf_runs h xs (r + 1)
    · rw [if_neg c, if_neg c, rf_runs h xs 0]
      by_cases c2 : 0 < r
      · rw [if_pos c2, List.filter_cons_of_pos (by simpa using c2)]
        rfl
      · rw [if_neg c2, List.filter_cons_of_neg (by simpa using c2)]
        rfl
theorem rf_len (b : Nat) : ∀ (l : List Nat) (r : Int), (rf b l r).length ≤ l.length
  | [], _ => Nat.le_refl _
  | x :: xs, r => by
    rw [rf_cons]
    by_cases c : x = b
    · rw [if_pos c]
      exact Nat.le_succ_of_le (rf_len b xs _)
    · rw [if_neg c, List.length_append]
      have := rf_len b xs 0
      by_cases c2 : 0 < r
      · rw [if_pos c2]
        show 1 + _ ≤ _ + 1
        omega
      · rw [if_neg c2]
        show 0 + _ ≤ _ + 1
        omega
theorem SX_snoc (l : List Nat) (z : Nat) : SX.S l ++ (⟨#[z]⟩ : Str) = SX.S (l ++ [z]) := by
  show (⟨_⟩ : Str) = ⟨_⟩
  congr 1
  simp
def spRunsL : Sp := fun vs H Q _ => ∃ (l : List Nat) (b : Nat), vs = [.str (SX.S l), .str ⟨#[b]⟩] ∧ l.length ≤ 2000 ∧ ∀ t H', H t = none → Same H H' → H' t = some (.lst ((runs b l).map V.int)) → Q (.ref t) H'
theorem ok_lawruns {f : Addr} {fd : FuncData} (F : Fun K "_law_runs" "_law_runs" s_lawruns f fd) (B : Bi mg) : FnOk P w K mg base CX0 1 f fd ["written", "sign"] spRunsL := by
  refine F.ok sc_lawruns (fun vs H Q E h => ?_) (fun cdv A outer s H vs Q E hr h => ?_)
  · obtain ⟨l, b, rfl, _⟩ := h
    rfl
  · obtain ⟨l, b, rfl, hl, q⟩ := h
    refine ⟨_, (pss_cons (ps_par (i := 2) (j := 3) (by rfl) sc_lawruns.nd rfl rfl (by decide) rfl rfl (pa_cons (pe_lst pa_nil) (pa_cons pe_int pa_nil)) (by rfl))
 (pss_cons (ps_for PassesOwn.never rfl (pi_str (pe_op op_add_str (pv 0) (pe_ifExp (pt_cmpR op_ne (pv 1) pe_str (nomark _)) pe_str pe_str))) (pg_name (i := 4) sc_lawruns.nd rfl (Or.inl rfl))
 (pss_one (ps_if (pt_cmpR op_eq (pv 4) (pv 1) (nomark _))
 (pss_one (ps_set (i := 3) sc_lawruns.nd rfl (Or.inl rfl) (pe_op op_add (pv 3) pe_int)))
 (pss_one (ps_if (pt_cmpR op_gt (pv 3) pe_int (nomark _))
 (pss_cons (ps_expr (pe_bm PySem.F.plainAttrs_list PySem.F.slot_list_append PySem.F.type_list_append mt_append (pv 2) (pa_cons (pv 3) pa_nil)))
 (pss_one (ps_set (i := 3) sc_lawruns.nd rfl (Or.inl rfl) pe_int)))
 pss_nil)))))
 (pss_one (ps_ret (pv 2))))), ?_⟩
    have szl : sizeLine = 16777216 := sizeLine_eq
    refine ⟨Nat.zero_le _, fun p hp => ⟨_, _, rfl, ?_⟩⟩
    refine ⟨_, rfl, _, rfl, rfl, _, rfl, ?_⟩
    have few : ∀ z : Str, z.length = 1 → (SX.S l).length + z.length ≤ sizeLine := fun z e => by rw [SX.S_len, e]; omega
    refine ite2 ?h1 ?h2
    case' h1 =>
      intro c
      have hz : 121 ≠ b := fun e => by
        subst e
        revert c
        decide +kernel
      refine ⟨_, _, rfl, rfl, few _ rfl, _, rfl, ?_⟩
      rw [show SX.S l ++ Str.ofString "y" = SX.S (l ++ [121]) from SX_snoc l 121]
      generalize (121 : Nat) = z at hz ⊢
    case' h2 =>
      intro c
      have hz : 122 ≠ b := fun e => by
        subst e
        revert c
        decide +kernel
      refine ⟨_, _, rfl, rfl, few _ rfl, _, rfl, ?_⟩
      rw [show SX.S l ++ Str.ofString "z" = SX.S (l ++ [122]) from SX_snoc l 122]
      generalize (122 : Nat) = z at hz ⊢
    all_goals
      obtain ⟨tx, etx⟩ : ∃ tx, tx = l ++ [z] := ⟨_, rfl⟩
      have eR : rf b tx 0 = runs b l := by rw [etx, rf_runs hz]; rfl
      have lt : tx.length ≤ 2001 := by rw [etx, List.length_append]; exact Nat.succ_le_succ hl
      rw [← etx]
      refine for_it walk_str (fun i σ H' => ∃ acc r y, σ = [some (.str (SX.S l)), some (.str ⟨#[b]⟩), some (.ref p), some (.int r), y] ∧ Same H (wo H' p) ∧ H' p = some (.lst (acc.map V.int)) ∧ acc ++ rf b (tx.drop i) r = rf b tx 0 ∧ 0 ≤ r)
        ⟨[], 0, none, rfl, by rw [wo_upd]; exact same_wo (Same.refl _) hp, upd_same, rfl, Int.le_refl 0⟩ (fun _ _ _ _ _ => trivial) ?_ ?_
      · rintro i v σ H1 H2 hi ⟨acc, r, y, rfl, s1, g, e, r0⟩ ⟨rfl, ch, ec, rfl⟩
        have ec' : tx[i]? = some ch := by simpa using ec
        have ed : tx.drop i = ch :: tx.drop (i + 1) := by
          obtain ⟨ii, ee⟩ := List.getElem?_eq_some_iff.mp ec'
          rw [List.drop_eq_getElem_cons ii, ee]
        have lacc : acc.length ≤ 2001 := by
          have l1 := congrArg List.length e
          have l2 := rf_len b tx 0
          rw [List.length_append] at l1
          omega
        rw [ed, rf_cons] at e
        refine ⟨_, rfl, _, rfl, rfl, _, rfl, ite2 (fun c1 => ?_) (fun c1 => ?_)⟩
        · have cb : ch = b := by
            have h := of_decide_eq_true c1
            injection h with h
            injection h with h
            injection h with h
            injection h
          rw [if_pos cb] at e
          exact ⟨_, rfl, _, _, rfl, rfl, acc, r + 1, _, rfl, s1, g, e, by omega⟩
        · have cb : ch ≠ b := fun z => c1 (by rw [z]; exact decide_eq_true rfl)
          rw [if_neg cb] at e
          refine ⟨_, rfl, r, 0, rfl, rfl, _, rfl, ite2 (fun c2 => ?_) (fun c2 => ?_)⟩
          · have c2' : 0 < r := of_decide_eq_true c2
            rw [if_pos c2'] at e
            refine ⟨_, rfl, .inl ⟨rfl, _, SqL.of g⟩, _, rfl, p, _, _, rfl, rfl, g, by rw [List.length_map]; omega, acc ++ [r], 0, _, rfl, ?_, ?_, ?_, Int.le_refl 0⟩
            · rw [wo_upd]
              exact s1
            · rw [upd_same, List.map_append]
              rfl
            · rw [List.append_assoc]
              exact e
          · have c2' : ¬ 0 < r := fun z => c2 (decide_eq_true z)
            rw [if_neg c2', List.nil_append] at e
            obtain rfl : r = 0 := by omega
            exact ⟨acc, 0, _, rfl, s1, g, e, r0⟩
      · rintro σ H' ⟨acc, r, y, rfl, s1, g, e, r0⟩
        have ee : acc = runs b l := by
          rw [← eR, ← e, show (SX.S tx).cps.size = tx.length by simp, List.drop_length]
          exact (List.append_nil acc).symm
        refine ⟨_, rfl, q p H' hp (fun a o e => wo_same _ _ (s1 _ _ e)) ?_⟩
        rw [g, ee]
end
section
variable {P : Program} {w : World} {K : PySem.W.Frag} {mg : Str → Option Value} {base : Heap} {C : Addr}
theorem dpInts {H : Hp} : ∀ (ds : List Int), DpAll K H (ds.map V.int) (ds.map PyData.int)
  | [] => .nil
  | d :: ds => .cons (.int d) (dpInts ds)
theorem max_runs {b : Nat} {l : List Nat} {m mm : Int} (h : IsMax b l m) (h1 : mm ∈ runs b l ++ [0]) (h2 : ∀ y ∈ runs b l ++ [0], y ≤ mm) : mm = m := by
  have m0 : 0 ≤ m := (lbw_mem b l 0 (by decide) m h.1).1
  have le1 : mm ≤ m := by
    rcases List.mem_append.mp h1 with z | z
    · exact h.2 _ (List.mem_filter.mp z).1
    · rw [List.mem_singleton.mp z]
      exact m0
  have le2 : m ≤ mm := by
    by_cases c : 0 < m
    · exact h2 m (List.mem_append_left _ (List.mem_filter.mpr ⟨h.1, decide_eq_true c⟩))
    · have := h2 0 (List.mem_append_right _ (List.mem_singleton_self _))
      omega
  omega
theorem laysInts : ∀ (ds : List Int), PyData.canLayAll0 (ds.map PyData.int) = true
  | [] => rfl
  | d :: ds => by
    show (PyData.canLay0 (.int d) && PyData.canLayAll0 (ds.map PyData.int)) = true
    rw [laysInts ds]
    rfl
theorem deepInts : ∀ (ds : List Int), PyData.depthAll (ds.map PyData.int) ≤ 1
  | [] => Nat.zero_le _
  | _ :: ds => Nat.max_le.mpr ⟨Nat.zero_le _, deepInts ds⟩
theorem shapedInts (ds : List Int) : SeqAt.shaped (.list (ds.map PyData.int)) = true :=
  Bool.and_eq_true_iff.mpr ⟨laysInts ds, decide_eq_true (Nat.le_trans (Nat.add_le_add_right (deepInts ds) 1) (by decide))⟩
end
end Sq
set_option Elab.async false
set_option linter.all false
set_option maxRecDepth 100000
set_option maxHeartbeats 4000000
/-! o.m() of a live object, m raising. -/
set_option Elab.async false
set_option linter.all false
set_option maxRecDepth 100000
set_option maxHeartbeats 4000000
/-! text.replace(sign * number, sign), the sign known to the token; text.replace on runs. -/
set_option Elab.async false
set_option linter.all false
set_option maxRecDepth 100000
set_option maxHeartbeats 4000000
/-! Operations that keep what is known of the state. -/
namespace Sq
open PySem PySem.Spec PyProof.Rows L2 GenW
section
variable {X : Cx} {Θ : Shared → Prop} {ys : List Str} {pins : List (Addr × Obj)} {σ : L2.St} {H : Hp} {s : Shared} {x y : Str} {p pos apos cpos : Pos} {e e2 o : Expr} {es : List Expr} {te tf to : TE} {t : TA}
/-- o[e] of a list -/
theorem we_ixL (ha : We X Θ e te) (hb : We X Θ e2 tf) (hs : PlainIx e2) : We X Θ (.Subscript e e2 pos) (tOp (rIxL X.K) te tf) := by
  refine ⟨fun pins s σ H Q I θ h => ?_⟩
  refine Subscript_ (thn (ha.run pins s σ H _ I θ h) fun v s1 hh => ?_)
  obtain ⟨g1, a, H1, I1, r1, q1⟩ := hh
  refine thn (hb.run pins s1 σ H1 _ I1 g1 q1) fun u s2 hh => ?_
  obtain ⟨g2, b, H2, I2, r2, l, xs, i, z, rfl, rfl, hq, he, q⟩ := hh
  cases r1
  obtain ⟨tk, rfl⟩ := r2
  obtain ⟨its, r, pl, hz⟩ := I2.list hq
  obtain ⟨j, h1, h2, h3, h4, h5⟩ := atI_get he
  obtain ⟨w, ew, rw'⟩ := r.get h2
  have hl := r.length
  have hn := line63
  have fin : Θ s2 ∧ EP X pins σ Q w s2 := ⟨g2, z, H2, I2, rw', q⟩
  by_cases h0 : 0 ≤ i
  · have hj : i.toNat = j := by
      rw [seqIndex_of h0 h5] at h1
      exact Option.some.inj h1
    exact item_listR pl.isList h0 (by omega) (by rw [hj]; simpa using ew) fin (hs _ _)
  · have hj : (i + (its.toArray.size : Int)).toNat = j := by
      rw [seqIndex_neg (by omega) h4] at h1
      rw [List.size_toArray, ← hl]
      exact Option.some.inj h1
    exact subscriptTail_builtinR (x := w) pl.isList.typeIs slot_list_getitem.lookup
      (wpAny_getItem_list_neg (Q := fun r s' => r = w ∧ (Θ s' ∧ EP X pins σ Q r s')) pl.isList (by omega) (by rw [List.size_toArray] <;> omega) (by omega) (by rw [hj]; simpa using ew) ⟨rfl, fin⟩) (hs _ _)
/-- T(..) -/
theorem we_callTy {T : String} {r : List V → Hp → VK → Prop} (hc : CallW X Θ (.type T) r) (hg : Gl X x) (hm : X.mg x = none) (hv : bootBuiltins x = some (.type T)) (ha : Wa X Θ (e :: es) t) (hn : x ≠ "__name__" := by decide) (hdb : (x == ("__debug__" : Str)) = false := by decide)
    (he : starEach (e :: es) X.env = (false, eval e X.env) :: starEach es X.env := by rfl) (hpl : (backTo pos (starEach es X.env)).any (·.1) = false := by rfl) : We X Θ (.Call (.Name x p) (e :: es) [] pos) (tCB r t) := by
  refine ⟨fun pins s σ H Q I θ h => ?_⟩
  refine wpAny_Call_Name_kw (ld_blt I hg hm hv ?_ hn hdb)
  refine PyProof.Rows.callWith_type1 (thn (ha.run pos pins s σ H _ I θ h) fun us s1 hh => ?_) he hpl
  obtain ⟨g1, vs, H1, I1, r1, q1⟩ := hh
  exact hc pins s1 σ H1 vs us Q I1 g1 r1 q1
/-- o.append(e) -/
theorem we_append (C : Clo X ys Θ) (ho : We X Θ o to) (ha : We X Θ e te) (hbase : attributeBase o "append" X.env (eval o X.env) = eval o X.env := by rfl)
    (hfew : ((backTo cpos (starEach [e] X.env)).all (fun x => !x.1) && (backToKw cpos (keywordEach [] X.env)).all (fun x => x.1.isSome)
      && decide ([e].length + ([] : List Keyword).length + (if ([] : List Keyword).isEmpty then 0 else 1) < 30)) = true := by rfl)
    (hline : (apos.endLine == cpos.line) = true := by rfl) (hs : starEach [e] X.env = (false, eval e X.env) :: starEach [] X.env := by rfl) (hplain : (backTo cpos (starEach [] X.env)).any (·.1) = false := by rfl) :
    We X Θ (.Call (.Attribute o "append" apos) [e] [] cpos) (tBM X.K "list" rAppend to (tCons te tNil)) := by
  refine ⟨fun pins s σ H Q I θ h => ?_⟩
  refine wpAny_Call_method_late hbase hfew hline rfl (thn (ho.run pins s σ H _ I θ h) fun v s1 hh => ?_)
  obtain ⟨g1, x, H1, I1, r1, ty, q1⟩ := hh
  obtain ⟨h1, h2⟩ := tyV_is I1 r1 ty
  refine ⟨"list", "list.append", PySem.F.plainAttrs_list, PySem.F.slot_list_append, PySem.F.type_list_append, h1, h2, ?_⟩
  have hA := (wa_cons ha wa_nil hs).run cpos pins s1 σ H1 _ I1 g1 q1
  rw [hs] at hA ⊢
  refine Calls.callWith_builtin (by show (false || (backTo cpos (starEach [] X.env)).any (·.1)) = false; rw [hplain] <;> rfl) (Calls.evalArgs_plain ?_)
  refine thn hA fun us s2 hh => ?_
  obtain ⟨g2, vs, H2, I2, r2, l, xs, y, rfl, rfl, hH, hz, q⟩ := hh
  cases r1
  obtain ⟨u, rfl, ru⟩ := r2.one
  obtain ⟨z, its, n, r, hl, e⟩ := I2.lstM hH
  refine call_meets F.slot_list_append ⟨_, e, rfl⟩ F.entry_list_append (F.args_list_append_2 _ _) (PySem.list_append l its.toArray n u (by rw [List.size_toArray]; omega)) ⟨e, ?_⟩
  have nl : l ≠ X.env.locals := fun z => by rw [z, I2.free] at hH; cases hH
  have nc : ∀ x c, X.env.cells.lookup x = some c → c ≠ l := fun x c hc z => by
    have := I2.freeC x c hc
    rw [z, hH] at this
    cases this
  refine ⟨C.but (s' := { s2 with heap := s2.heap.update l (Obj.mapSeq fun a => a.push u), toks := s2.toks }) [l] I2 (Nat.le_refl _) (fun b hb => by rw [List.mem_singleton.mp hb]; exact ⟨nl, nc⟩) (fun b ob hb eb => (Heap.get?_update_other s2.heap (Obj.mapSeq fun a => a.push u) (fun z => hb (by rw [z]; exact List.mem_singleton_self _))).trans eb) g2, ?_⟩
  refine ⟨.non, _, I2.lset (its' := its ++ [u]) hH e (by simp) (r.append (.cons ru .nil)) ?_, rfl, q⟩
  rw [List.length_append, List.length_singleton]
  omega
end
end Sq
set_option Elab.async false
set_option linter.all false
set_option maxRecDepth 100000
set_option maxHeartbeats 4000000
/-! A loop over range(e) that keeps what is known; more operations. -/
namespace Sq
open PySem PySem.Spec PyProof.Rows L2 GenW
section
variable {X : Cx} {Θ : Shared → Prop} {ys : List Str} {pins : List (Addr × Obj)} {σ : L2.St} {H : Hp} {s : Shared} {x y : Str} {p op pos apos cpos : Pos} {e e2 o : Expr} {es : List Expr} {te tf to : TE} {t : TA} {body : List Stmt} {tb : TS}
def tForR (t : TA) (g : TG) (tb : TS) : TS := fun D σ H => t σ H fun vs H1 => ∃ j : Int, vs = [.int j] ∧ -(2 ^ 62) ≤ j ∧ j < 2 ^ 62 ∧ ∃ Pv : Nat → L2.St → Hp → Prop, Pv 0 σ H1 ∧
  (∀ (i : Nat) (σ : L2.St) (H : Hp), i < j.toNat → Pv i σ H → g (.int i) σ H fun σ2 H2 => tb { nx := Pv (i + 1), ct := Pv (i + 1), bk := D.nx, rt := D.rt } σ2 H2) ∧ ∀ σ H, Pv j.toNat σ H → D.nx σ H
theorem ws_forR {g : TG} (hcalm : X.calm = true) (own : PassesOwn (model X.prog X.w) X.A X.env X.xe) (Cl : Clo X ys Θ) (hgl : Gl X "range") (hm : X.mg "range" = none) (ha : Wa X Θ [e] t) (hg : Wg X Θ (.Name x op) g) (hb : Wss X Θ body tb)
    (hfs : ∀ z, foldedSetIterable (.Call (.Name "range" p) [e] [] cpos) X.env z = pure z := by intro _; rfl) (hs : starEach [e] X.env = [(false, eval e X.env)] := by rfl) : Ws X Θ (.For (.Name x op) (.Call (.Name "range" p) [e] [] cpos) body [] pos) (tForR t g tb) := by
  refine ⟨fun pins s σ H D I θ h => ?_⟩
  refine wpAny_mono (wpAny_For (Q := fun f s' => Θ s' ∧ SP X pins D f s') (Call_ (ld_blt I hgl hm boot_range (PyProof.Rows.callWith_type1 (thn (ha.run cpos pins s σ H _ I θ h) fun us s1 hh => ?_) hs rfl))) hfs) (fun _ _ z => z) fun _ _ z => z
  obtain ⟨θ1, vs, H1, I1, r1, j, ex, q1, q2, Pv, p0, turn, fin⟩ := hh
  subst ex
  obtain ⟨u, rfl, tk, rfl⟩ := vals1 r1
  refine call_range_1 ?_
  generalize eh : s1.heap.push { cls := .type "range", data := .fields #[.int 0 s1.toks, .int j tk, .int 1 (s1.toks + 1)] } = h1
  have kept : ∀ b o, s1.heap.get? b = some o → h1.get? b = some o := fun b o e => by
    rw [← eh]
    exact Heap.get?_push_of_some _ e
  have isR : IsRange h1 s1.heap.objs.size 0 j 1 s1.toks tk (s1.toks + 1) := by
    rw [← eh]
    exact IsRange.new ..
  have I2 : Inv X pins σ H1 { s1 with heap := h1, toks := s1.toks + 1 + 1 } := I1.kept (t' := s1.toks + 1 + 1) kept
  have θ2 : Θ { s1 with heap := h1, toks := s1.toks + 1 + 1 } := Cl.kept (s' := { s1 with heap := h1, toks := s1.toks + 1 + 1 }) I1 (Nat.le_add_right s1.toks 2) kept θ1
  refine wpAny_pyIter_range isR (small_one (by omega) (by omega) q1 q2) ?_
  obtain ⟨it, eit⟩ : ∃ it, it = ({ s1 with heap := h1, toks := s1.toks + 1 + 1 } : Shared).heap.objs.size := ⟨_, rfl⟩
  rw [← eit]
  have fpk : FpOk X pins H1 it := I2.fpOk (Nat.le_of_eq eit.symm) (by rw [eit]; exact I2.hok.fresh (Nat.le_refl _))
  have away : ∀ b ∈ [it], b ≠ X.env.locals ∧ ∀ x c, X.env.cells.lookup x = some c → c ≠ b := fun b hb => by
    rw [List.mem_singleton.mp hb]
    exact ⟨fpk.2.1, fpk.2.2.2.2.1⟩
  have left : ((j.toNat : Nat) : Int) - ((0 : Nat) : Int) = Builtin.Range.rangeSize 0 j 1 := by
    rw [rangeSize_one]
    split <;> omega
  refine codeAny_forLoop_any (fun m s' => ∃ i σ' H', m = j.toNat - i ∧ i ≤ j.toNat ∧ Θ s' ∧ Inv X pins σ' H' s' ∧ IsRangeIter s'.heap it (i : Int) ((j.toNat : Int) - (i : Int)) 1 ∧ H' it = none ∧ Pv i σ' H') (fun m s' hs' => ?_) j.toNat
    ⟨0, σ, H1, rfl, Nat.zero_le _, Cl.kept I2 (Nat.le_refl _) (fun b o e => Heap.get?_push_of_some _ e) θ2, I2.kept (t' := s1.toks + 1 + 1) (fun b o e => Heap.get?_push_of_some _ e), by rw [eit, left]; exact Heap.get?_push_size _ rfl, fpk.1, p0⟩
  obtain ⟨i, σ', H', rfl, hi, θ3, I3, st, free, pv⟩ := hs'
  have fpk2 : FpOk X pins H' it := ⟨free, fpk.2⟩
  by_cases lt : i < j.toNat
  · refine wpAny_pyNext_range_item st (by omega) fun h' st' sb => ?_
    obtain ⟨f0, f1, f2, f3, f4, f5⟩ := fpk2
    have I4 : Inv X pins σ' H' { s' with heap := h', toks := s'.toks + 1 } := I3.turned (t' := s'.toks + 1) (fun b o hb e => (sb.2 b hb).trans e) f0 f1 f3 f4 f5
    have I5 := I4.pinned (fp := [it]) (fun b hb => by rw [List.mem_singleton.mp hb]; exact ⟨free, fpk.2⟩) (fun b hb => by
      rw [List.mem_singleton.mp hb]
      exact ⟨_, st', fun v z => by
        have z' : Data.fields _ = Data.cell v := z
        cases z'⟩)
    have θ4 : Θ { s' with heap := h', toks := s'.toks + 1 } := Cl.but [it] I3 (Nat.le_add_right s'.toks 1) away (fun b o hb e => (sb.2 b (fun z => hb (by rw [z]; exact List.mem_singleton_self _))).trans e) θ3
    refine go_of (s := { s' with heap := h', toks := s'.toks + 1 }) (n := "range_iterator") st' rfl rfl (by decide) ?_
    refine wpAny_passesOwn own (thn (hg.run _ { s' with heap := h', toks := s'.toks + 1 } σ' H' (.int i) _ _ I5 θ4 ⟨_, rfl⟩ (turn i σ' H' lt pv)) fun _ s4 h4 => ?_)
    obtain ⟨θ5, σ4, H4, I6, q4⟩ := h4
    refine wpAny_passesOwn own (thn (hb.run _ s4 σ4 H4 _ I6 θ5 q4) fun fl s5 h5 => ?_)
    obtain ⟨θ6, q5⟩ := h5
    have again : ∀ σ5 H5, Inv X (pins ++ pinsAt [it] h') σ5 H5 s5 → Pv (i + 1) σ5 H5 → ∃ m, m < j.toNat - i ∧ ∃ i' σ' H', m = j.toNat - i' ∧ i' ≤ j.toNat ∧ Θ s5 ∧ Inv X pins σ' H' s5 ∧ IsRangeIter s5.heap it (i' : Int) ((j.toNat : Int) - (i' : Int)) 1 ∧ H' it = none ∧ Pv i' σ' H' := fun σ5 H5 I7 pv5 => by
      have pi := I7.pin (it, _) (List.mem_append_right _ (List.mem_append_right _ (mem_pinsAt (by simp) st')))
      refine ⟨j.toNat - (i + 1), by omega, i + 1, σ5, H5, rfl, lt, θ6, I7.unpinned, ?_, pi.2.1, pv5⟩
      have e := pi.1
      have e1 : ((i : Int) + 1) = ((i + 1 : Nat) : Int) := by omega
      have e2 : ((j.toNat : Int) - (i : Int) - 1) = ((j.toNat : Int) - ((i + 1 : Nat) : Int)) := by omega
      rw [e1, e2] at e
      exact e
    match fl, q5 with
    | .next, ⟨σ5, H5, I7, pv5⟩ => exact again σ5 H5 I7 pv5
    | .cont, ⟨σ5, H5, I7, pv5⟩ => exact again σ5 H5 I7 pv5
    | .brk, ⟨σ5, H5, I7, qd⟩ => exact ⟨θ6, σ5, H5, I7.unpinned, qd⟩
    | .ret v, ⟨x5, σ5, H5, I7, rv5, qd⟩ => exact ⟨θ6, x5, σ5, H5, I7.unpinned, rv5, qd⟩
  · obtain rfl : i = j.toNat := by omega
    refine wpAny_pyNext_range_end (I3.ok.hd hcalm) st (by omega) fun h2 eb => ?_
    obtain ⟨f0, f1, f2, f3, f4, f5⟩ := fpk2
    have I4 : Inv X pins σ' H' { s' with heap := h2 } := I3.turned (t' := s'.toks) (fun b o hb q => eb b o hb q) f0 f1 f3 f4 f5
    have θ4 : Θ { s' with heap := h2 } := Cl.but [it] I3 (Nat.le_refl _) away (fun b o hb e => eb b o (fun z => hb (by rw [z]; exact List.mem_singleton_self _)) e) θ3
    refine wpAny_execs_nil ⟨θ4, σ', H', I4, fin σ' H' pv⟩
end
end Sq
set_option Elab.async false
set_option linter.all false
set_option maxRecDepth 100000
set_option maxHeartbeats 4000000
/-! A comprehension in code that keeps what is known. -/
namespace Sq
open PySem PySem.Spec PyProof.Rows L2 GenW
section
variable {X : Cx}
/-- where a loop's items come from -/
structure WI (X : Cx) (Θ : Shared → Prop) (tg iter : Expr) (wi : TI) : Prop where
  run : ∀ (pins : List (Addr × Obj)) (s : Shared) (σ : L2.St) (H : Hp) (R : It → Hp → Prop), Inv X pins σ H s → Θ s → wi σ H R →
    wpAny (model X.prog X.w) X.A (eval iter X.env) (fun v s1 => wpAny (model X.prog X.w) X.A (pyIter v) (fun u s2 => Θ s2 ∧ PIE X pins σ tg R u s2) X.xe s1) X.xe s
theorem wi_range1 {Θ : Shared → Prop} {ys : List Str} {p pos : Pos} {e : Expr} {t : TA} (Cl : Clo X ys Θ) {tg : Expr} (hg : Gl X "range") (hm : X.mg "range" = none) (ha : Wa X Θ [e] t) (hs : starEach [e] X.env = [(false, eval e X.env)] := by rfl) : WI X Θ tg (.Call (.Name "range" p) [e] [] pos) (iRng1 t) := by
  refine ⟨fun pins s σ H R I θ h => ?_⟩
  refine Call_ (ld_blt I hg hm boot_range (PyProof.Rows.callWith_type1 (thn (ha.run pos pins s σ H _ I θ h) fun us s1 hh => ?_) hs rfl))
  obtain ⟨g1, vs, H1, I1, r1, j, ex, q1, q2, q⟩ := hh
  subst ex
  obtain ⟨u, rfl, tk, rfl⟩ := vals1 r1
  refine call_range_1 ?_
  generalize eh : s1.heap.push { cls := .type "range", data := .fields #[.int 0 s1.toks, .int j tk, .int 1 (s1.toks + 1)] } = h1
  have kept : ∀ b o, s1.heap.get? b = some o → h1.get? b = some o := fun b o e => by
    rw [← eh]
    exact Heap.get?_push_of_some _ e
  have isR : IsRange h1 s1.heap.objs.size 0 j 1 s1.toks tk (s1.toks + 1) := by
    rw [← eh]
    exact IsRange.new ..
  have I2 : Inv X pins σ H1 { s1 with heap := h1, toks := s1.toks + 1 + 1 } := I1.kept (t' := s1.toks + 1 + 1) kept
  have θ2 : Θ { s1 with heap := h1, toks := s1.toks + 1 + 1 } := Cl.kept (s' := { s1 with heap := h1, toks := s1.toks + 1 + 1 }) I1 (Nat.le_add_right s1.toks 2) kept g1
  refine wpAny_pyIter_range isR (small_one (by omega) (by omega) q1 q2) ⟨Cl.kept I2 (Nat.le_refl _) (fun b o e => Heap.get?_push_of_some _ e) θ2, ?_⟩
  refine ⟨h1.objs.size, [h1.objs.size], _, _, H1, rfl, I2.kept (t' := s1.toks + 1 + 1) (fun b o e => Heap.get?_push_of_some _ e), turn_range _ 0 j.toNat, ?_, fun b hb => ?_, q⟩
  · have first : (0 : Int) + ((0 : Nat) : Int) * 1 = 0 := by omega
    have left : ((j.toNat : Nat) : Int) - ((0 : Nat) : Int) = Builtin.Range.rangeSize 0 j 1 := by
      rw [rangeSize_one]
      split <;> omega
    show IsRangeIter _ _ ((0 : Int) + ((0 : Nat) : Int) * 1) (((j.toNat : Nat) : Int) - ((0 : Nat) : Int)) 1
    rw [first, left]
    exact Heap.get?_push_size _ rfl
  · rw [List.mem_singleton.mp hb]
    exact I2.fpOk (Nat.le_refl _) (I2.hok.fresh (Nat.le_refl _))
theorem lcW_core {Θ : Shared → Prop} {ys : List Str} (Cl : Clo X ys Θ) {pins : List (Addr × Obj)} {s : Shared} {σ : L2.St} {H : Hp} {Q : VK} {elt tg iter : Expr} {ifs : List Expr} {scope : Scope} {own : List (Str × Nat)} {pos pos' : Pos} {wi : TI} {g : TG} {tt : TT} {te : TE} {use : Option (Value → Sem Unit)} {Qf : Value → Shared → Prop}
    (mood : X.calm = true) (nodupN : X.N.Nodup) (I : Inv X pins σ H s) (θ : Θ s) (sourceA : WI X Θ tg iter wi) (ok : BlkOk X.N X.env.scope scope own)
    (targetA : ∀ (s : Shared) (H : Hp) (C : Addr) (cl : List (Str × Addr)) (fp : List Addr), PG (X.blk s H scope (compEnvC scope cl C X.env) fp) tg g) (testsA : ∀ (s : Shared) (H : Hp) (C : Addr) (cl : List (Str × Addr)) (fp : List Addr), PTs (X.blk s H scope (compEnvC scope cl C X.env) fp) ifs tt)
    (elemA : ∀ (s : Shared) (H : Hp) (C : Addr) (cl : List (Str × Addr)) (fp : List Addr), PE (X.blk s H scope (compEnvC scope cl C X.env) fp) elt te) (plainA : ∀ x, foldedSetIterable iter X.env x = pure x)
    (h : tLc wi g tt te (own.map (·.2)) σ H Q)
    (back : ∀ D C s' m H', Θ s' → Inv X pins σ H' s' → Q (.ref D) H' → s'.heap.Ns C m → FpOk X pins H' C → compPost (model X.prog X.w) X.A X.xe use Qf (.ref D) C (.ok .next) s') :
    wpAny (model X.prog X.w) X.A (comprehension (.ListComp elt [⟨tg, iter, ifs, 0⟩] scope pos) scope X.env pos' (newList []) false (eval iter X.env) use) Qf X.xe s := by
  have captured : ∀ y ∈ scope.names, y.2 = .free → ∃ c, X.env.cells.lookup y.1 = some c := fun y hy e => by
    rcases ok.free y hy e with k | k
    · exact I.ok.has _ (.inl k)
    · exact I.ok.has _ (.inr k)
  refine wpAny_comprehension_free (use := use) rfl plainA (closure_ok captured) ok.kind (fun y hy e => by rw [ok.uniq y hy, e])
    (thn (sourceA.run pins s σ H _ I θ h) fun srcV sA gotX => thn gotX fun itV sB hB2 => ?_)
  obtain ⟨θB, h2⟩ := hB2
  obtain ⟨it, fp, tn, J, HB, e, I2, T, st2, f2, q⟩ := h2
  subst e
  refine wpAny_newObj_type (newEnv_comp ?_) (Nat.zero_le _)
  generalize atD : sB.heap.objs.size = D
  have freshD : HB D = none := I2.hok.fresh (Nat.le_of_eq atD)
  obtain ⟨W, ⟨mes0, inv0⟩, walk0⟩ := q D freshD
  -- the new list
  generalize laid3 : ({ sB with heap := sB.heap.push { cls := .type "list", data := .seq ([] : List Value).toArray } } : Shared) = sC
  have J3 : Inv X pins σ (upd HB D (.lst [])) sC := by
    rw [← laid3]
    refine I2.laid (t' := sB.toks) (fun b o e => Heap.get?_push_of_some _ e) (Nat.le_of_eq atD) ⟨Nat.zero_le _, [], 0, .nil, ?_⟩
    rw [← atD]
    exact Heap.get?_push_size _ rfl
  have heap3 : sC.heap = sB.heap.push { cls := .type "list", data := .seq ([] : List Value).toArray } := by rw [← laid3]
  have below : ∀ b ∈ fp, b < sB.heap.objs.size := fun b hb => by
    obtain ⟨o, e, _⟩ := T.obj _ _ st2 b hb
    exact Heap.lt_size e
  have roam3 : ∀ b ∈ fp, FpOk X pins (upd HB D (.lst [])) b ∧ b < sC.heap.objs.size := fun b hb => by
    have hlt := below b hb
    refine ⟨⟨?_, (f2 b hb).2⟩, by rw [heap3, Heap.size_push]; exact Nat.lt_succ_of_lt hlt⟩
    rw [upd_ne (by rw [← atD]; exact Nat.ne_of_lt hlt)]
    exact (f2 b hb).1
  have turn3 : tn 0 sC.heap := T.keep _ _ _ st2 fun b _ o e => by rw [heap3]; exact Heap.get?_push_of_some _ e
  have J4 := block_start J3 ok nodupN roam3
  have tgt := targetA sC (upd HB D (.lst [])) sC.heap.objs.size (cellsFrom (sC.heap.objs.size + 1) scope.names (cloFrom X.env.cells scope.names [])) fp
  have tst := testsA sC (upd HB D (.lst [])) sC.heap.objs.size (cellsFrom (sC.heap.objs.size + 1) scope.names (cloFrom X.env.cells scope.names [])) fp
  have elm := elemA sC (upd HB D (.lst [])) sC.heap.objs.size (cellsFrom (sC.heap.objs.size + 1) scope.names (cloFrom X.env.cells scope.names [])) fp
  show codeAny _ _ (.compStart (.ListComp elt [⟨tg, iter, ifs, 0⟩] scope pos) 0 (.ref it) (.ref D) (compEnvC scope (cellsFrom (sC.heap.objs.size + 1) scope.names (cloFrom X.env.cells scope.names [])) sC.heap.objs.size X.env)) (compPost (model X.prog X.w) X.A X.xe use Qf (.ref D) sC.heap.objs.size) { sC with heap := pushCells (sC.heap.push { cls := .type "dict", data := .dict #[] }) scope.names }
  have θC : Θ sC := by
    rw [← laid3]
    exact Cl.push I2 θB
  have manyC : sC.toks ≤ sC.toks := Nat.le_refl _
  have blkFs : (X.blk sC (upd HB D (.lst [])) scope (compEnvC scope (cellsFrom (sC.heap.objs.size + 1) scope.names (cloFrom X.env.cells scope.names [])) sC.heap.objs.size X.env) fp).fs = frs X.stack := rfl
  have untr : ∀ b ∈ fp, (upd HB D (.lst [])) b = none := fun b hb => (roam3 b hb).1.1
  generalize blkE : compEnvC scope (cellsFrom (sC.heap.objs.size + 1) scope.names (cloFrom X.env.cells scope.names [])) sC.heap.objs.size X.env = ce at J4 tgt tst elm ⊢
  have locE : ce.locals = sC.heap.objs.size := by subst blkE; rfl
  generalize heapE : upd HB D (.lst []) = HC at J3 J4 tgt tst elm inv0 untr roam3
  generalize laid4 : ({ sC with heap := pushCells (sC.heap.push { cls := .type "dict", data := .dict #[] }) scope.names } : Shared) = sD at J4 ⊢
  have turn4 : tn 0 sD.heap := T.keep _ _ _ turn3 fun b _ o e => by rw [← laid4]; exact pushCells_keeps _ _ _ _ (Heap.get?_push_of_some _ e)
  have roams : ∀ {σ' : L2.St} {H' : Hp} {s' : Shared}, Inv (X.blk sC HC scope ce fp) [] σ' H' s' → (∀ b ∈ fp, H' b = none) → ∀ b ∈ fp, FpOk (X.blk sC HC scope ce fp) [] H' b := fun {σ' H' s'} I' nsC b hb =>
    ⟨nsC b hb, (I'.ok.exf b hb).1, I'.ok.exfs b hb, .inl hb, fun x c e => (I'.ok.exf b hb).2 x c e, fun p hp => absurd (show p ∈ ([] : List (Addr × Obj)) ++ [] from hp) (by simp)⟩
  have outer0 : codeAny (model X.prog X.w) X.A (.compLoop (.ListComp elt [⟨tg, iter, ifs, 0⟩] scope pos) 0 (.ref it) (.ref D) ce) (compPost (model X.prog X.w) X.A X.xe use Qf (.ref D) sC.heap.objs.size) sD := by
    refine compLoop_any (fun n s' => ∃ i H', Inv (X.blk sC HC scope ce fp) [] (wipe σ (own.map (·.2))) H' s' ∧ tn i s'.heap ∧ (∀ b ∈ fp, H' b = none) ∧ W i n H' ∧ sC.toks ≤ s'.toks) ?_ mes0 ⟨0, HC, J4, turn4, untr, inv0, by rw [← laid4]; exact manyC⟩
    rintro n sE ⟨i, HE, J5, turn5, un5, inv5, manyE⟩
    rcases walk0 i n HE inv5 with ⟨atEnd, done0⟩ | ⟨more, NxA, reach, body0⟩
    · have ended := T.done (X.blk sC HC scope ce fp) rfl rfl rfl mood i [] sE _ HE (fun _ _ => False) J5 (roams J5 un5) turn5 atEnd
      refine wpAny_mono (PySem.wpAny_toks_of manyE ended) (fun r sF hh => ?_) fun _ _ z => False.elim z.2
      obtain ⟨manyF, hr, J6⟩ := hh
      subst hr
      have θF : Θ sF := Cl.un fp J3 manyF (fun b hb => ⟨(roam3 b hb).1.2.1, (roam3 b hb).1.2.2.2.2.1⟩) J6.base θC
      have J7 : Inv X pins σ HE sF := J3.call' (ch := fp) J6.os J6.base J6.hok J6.bare fun b hb => ⟨(roam3 b hb).1.2.2.2.1, (roam3 b hb).1.2.1, (roam3 b hb).1.2.2.2.2.1, (roam3 b hb).1.2.2.2.2.2⟩
      have freeC : HE sC.heap.objs.size = none := by
        have z : HE ce.locals = none := J6.free
        rw [locE] at z
        exact z
      obtain ⟨m, nsC, _⟩ := J6.loc
      have nsC : sF.heap.Ns ce.locals m := nsC
      rw [locE] at nsC
      exact back D sC.heap.objs.size sF m HE θF J7 done0 nsC (J3.fpOk (Nat.le_refl _) freeC)
    · have given := T.item (X.blk sC HC scope ce fp) rfl rfl rfl mood i [] sE _ HE (fun _ _ => False) J5 (roams J5 un5) turn5 more
      refine wpAny_mono (PySem.wpAny_toks_of manyE given) (fun r sF hh => ?_) fun _ _ z => False.elim z.2
      obtain ⟨manyF, u, hr, got6⟩ := hh
      subst hr
      refine wpAny_mono (PySem.wpAny_toks_of manyF got6) (fun _ sG hh => ?_) fun _ _ z => False.elim z.2
      obtain ⟨manyG, x, HG, J7, rel7, yld7, turn7, un7⟩ := hh
      have J7p := J7.pinned (roams J7 un7) (T.obj _ _ turn7)
      refine wpAny_mono (PySem.wpAny_toks_of manyG (tgt.run _ sG _ HG x u _ J7p rel7 (body0 x HG yld7))) (fun _ sH hh => ?_) fun _ _ z => False.elim z.2
      obtain ⟨manyH, τ, HH, J8, wip8, go8⟩ := hh
      refine wpAny_mono (PySem.wpAny_toks_of manyH (tst.run _ sH τ HH _ J8 go8)) (fun b sI hh => ?_) fun _ _ z => False.elim z.2
      obtain ⟨manyI, HI, J9, go9⟩ := hh
      have close : ∀ {s' : Shared} {H' : Hp}, sC.toks ≤ s'.toks → Inv (X.blk sC HC scope ce fp) ([] ++ pinsAt fp sG.heap) τ H' s' → NxA H' →
          ∃ m, m < n ∧ ∃ i H', Inv (X.blk sC HC scope ce fp) [] (wipe σ (own.map (·.2))) H' s' ∧ tn i s'.heap ∧ (∀ b ∈ fp, H' b = none) ∧ W i m H' ∧ sC.toks ≤ s'.toks := fun {s' H'} mn I' nextW => by
        obtain ⟨m', lessM, invM⟩ := reach H' nextW
        have kept : ∀ b ∈ fp, ∀ o, sG.heap.get? b = some o → s'.heap.get? b = some o ∧ H' b = none := fun b hb o e =>
          let z := I'.pin (b, o) (List.mem_append_right _ (List.mem_append_right _ (mem_pinsAt hb e)))
          ⟨z.1, z.2.1⟩
        refine ⟨m', lessM, i + 1, H', (I'.unpinned (pins := [])).weak (by rw [← wip8, wipe_length]) (fun j v e => by rw [← wip8] at e; exact (wipe_some e).1), T.keep _ _ _ turn7 fun b hb o e => (kept b hb o e).1, fun b hb => ?_, invM, mn⟩
        obtain ⟨o, e, _⟩ := T.obj _ _ turn7 b hb
        exact (kept b hb o e).2
      cases b with
      | false =>
        simp only [Bool.false_eq_true, if_false] at go9 ⊢
        exact close manyI J9 go9
      | true =>
        simp only [if_true] at go9 ⊢
        refine wpAny_mono (PySem.wpAny_toks_of manyI (elm.run _ sI τ HI _ J9 go9)) (fun z sQ hh => ?_) fun _ _ z => False.elim z.2
        obtain ⟨kn17, yv, HQ, J17, rel17, acc, acc17, room17, nextW⟩ := hh
        refine wpAny_mono (PySem.wpAny_toks_of kn17 (app_ok (X := X.blk sC HC scope ce fp) (E := fun _ _ => False) (Q := fun _ s' => sC.toks ≤ s'.toks → ∃ m, m < n ∧ ∃ i H', Inv (X.blk sC HC scope ce fp) [] (wipe σ (own.map (·.2))) H' s' ∧ tn i s'.heap ∧ (∀ b ∈ fp, H' b = none) ∧ W i m H' ∧ sC.toks ≤ s'.toks) J17 acc17 room17 rel17 fun sR J18 mn => close mn J18 nextW)) (fun _ _ z => z.2 z.1) fun _ _ z => False.elim z.2
  exact codeAny_compStart_list outer0 (T.self X.A 0 _ _ _ turn4 outer0)
theorem we_lc {Θ : Shared → Prop} {ys : List Str} (Cl : Clo X ys Θ) {elt tg iter : Expr} {ifs : List Expr} {scope : Scope} {own : List (Str × Nat)} {pos : Pos} {wi : TI} {g : TG} {tt : TT} {te : TE} (mood : X.calm = true) (nodupN : X.N.Nodup) (sourceA : WI X Θ tg iter wi) (ok : BlkOk X.N X.env.scope scope own)
    (targetA : ∀ (s : Shared) (H : Hp) (C : Addr) (cl : List (Str × Addr)) (fp : List Addr), PG (X.blk s H scope (compEnvC scope cl C X.env) fp) tg g) (testsA : ∀ (s : Shared) (H : Hp) (C : Addr) (cl : List (Str × Addr)) (fp : List Addr), PTs (X.blk s H scope (compEnvC scope cl C X.env) fp) ifs tt)
    (elemA : ∀ (s : Shared) (H : Hp) (C : Addr) (cl : List (Str × Addr)) (fp : List Addr), PE (X.blk s H scope (compEnvC scope cl C X.env) fp) elt te) (plainA : ∀ x, foldedSetIterable iter X.env x = pure x := by intro _; rfl) :
    We X Θ (.ListComp elt [⟨tg, iter, ifs, 0⟩] scope pos) (tLc wi g tt te (own.map (·.2))) := by
  refine ⟨fun pins s σ H Q I θ h => ?_⟩
  rw [arm_eval_ListComp]
  refine lcW_core Cl mood nodupN I θ sourceA ok targetA testsA elemA plainA h fun D C s' m H' θ' I' q nsC f => ⟨m, nsC, fun h'' sb => ?_⟩
  obtain ⟨f0, f1, f2, roam3, f4, f5⟩ := f
  have θ2 : Θ { s' with heap := h'' } := Cl.but [C] I' (Nat.le_refl _) (fun b hb => by rw [List.mem_singleton.mp hb]; exact ⟨f1, f4⟩) (fun b o hb e => (sb.2 b (fun z => hb (by rw [z]; exact List.mem_singleton_self _))).trans e) θ'
  exact ⟨θ2, .ref D, H', I'.turned (t' := s'.toks) (fun b o hb e => (sb.2 b hb).trans e) f0 f1 roam3 f4 f5, rfl, q⟩
end
end Sq
set_option Elab.async false
set_option linter.all false
set_option maxRecDepth 100000
set_option maxHeartbeats 4000000
/-! More operations that keep what is known of the state. -/
namespace Sq
open PySem PySem.Spec PyProof.Rows L2 GenW
section
variable {X : Cx} {Θ : Shared → Prop} {ys : List Str} {pins : List (Addr × Obj)} {σ : L2.St} {H : Hp} {s : Shared} {x y : Str} {p p2 pos apos cpos : Pos} {e e2 o ce : Expr} {es : List Expr} {te tf to : TE} {t : TA} {tt tu : TT} {lo hi : Option Expr} {tl th : TO}
/-- an operation that changes nothing but the number of tokens -/
theorem ow_of {op : Value → Value → Sem Value} {r : R2} (Cl : Clo X ys Θ) (h : ∀ (pins : List (Addr × Obj)) (s : Shared) (σ : L2.St) (H : Hp) (x y : V) (v u : Value) (Q : VK), Inv X pins σ H s → RelV x v → RelV y u → r x y H Q → wpAny (model X.prog X.w) X.A (op v u) (fun w s' => s'.heap = s.heap ∧ EP X pins σ Q w s') X.xe s) : OpW X Θ op r :=
  fun pins s σ H x y v u Q I θ rx ry q => wpAny_mono (PySem.wpAny_toks (h pins s σ H x y v u Q I rx ry q)) (fun w s' z => ⟨Cl.kept I z.1 (fun b o e => by rw [z.2.1]; exact e) θ, z.2.2⟩) fun _ _ z => z.2
theorem ow_add (Cl : Clo X ys Θ) : OpW X Θ (binaryOp .Add) (rI0 fun i j => .int (i + j)) := ow_of Cl fun pins s σ H x y v u Q I rx ry h => by
  obtain ⟨i, j, rfl, rfl, q⟩ := h
  obtain ⟨t, rfl⟩ := rx
  obtain ⟨t', rfl⟩ := ry
  exact add_int ⟨rfl, .int (i + j), H, I.tok _, ⟨_, rfl⟩, q⟩
theorem ow_add_str (Cl : Clo X ys Θ) : OpW X Θ (binaryOp .Add) (fun x y H Q => ∃ i j, x = .str i ∧ y = .str j ∧ i.length + j.length ≤ sizeLine ∧ Q (.str (i ++ j)) H) := ow_of Cl fun pins s σ H x y v u Q I rx ry h => by
  obtain ⟨i, j, rfl, rfl, hz, q⟩ := h
  obtain ⟨t, rfl⟩ := rx
  obtain ⟨t', rfl⟩ := ry
  exact add_str (fun t' tk => ⟨rfl, .str (i ++ j), H, I.tok _, ⟨_, rfl⟩, q⟩) hz
theorem ow_mulS (Cl : Clo X ys Θ) : OpW X Θ (binaryOp .Mult) rMulS := ow_of Cl fun pins s σ H x y v u Q I rx ry h => by
  obtain ⟨a, n, rfl, rfl, hok, q⟩ := h
  obtain ⟨t, rfl⟩ := rx
  obtain ⟨t', rfl⟩ := ry
  exact SB.mul hok fun t2 k => ⟨rfl, .str _, H, I.tok k, ⟨_, rfl⟩, q⟩
def rEqI : R2 := fun x y H Q => ∃ i j : Int, x = .int i ∧ y = .int j ∧ Q (.bl (i == j)) H
theorem ow_eqI (Cl : Clo X ys Θ) : OpW X Θ (compareOp .Eq) rEqI := ow_of Cl fun pins s σ H x y v u Q I rx ry h => by
  obtain ⟨i, j, rfl, rfl, q⟩ := h
  obtain ⟨t, rfl⟩ := rx
  obtain ⟨t', rfl⟩ := ry
  exact eq_int ⟨rfl, .bl _, H, I, rfl, q⟩
theorem ow_neD (Cl : Clo X ys Θ) (hu : X.A.units + 64 < cLine) : OpW X Θ (compareOp .NotEq) (rNeD X.K) := ow_of Cl fun pins s σ H x y v u Q I rx ry h => by
  obtain ⟨d, e, hd, he, sd, se, q⟩ := h
  obtain ⟨as, r1⟩ := Dp.reads I d x v hd rx
  obtain ⟨bs, r2⟩ := Dp.reads I e y u he ry
  exact SeqAt.compareNe_shaped r1 r2 sd se hu ⟨rfl, .bl _, H, I, rfl, q⟩
theorem ow_eqD (Cl : Clo X ys Θ) (hu : X.A.units + 64 < cLine) : OpW X Θ (compareOp .Eq) (rEqD X.K) := ow_of Cl fun pins s σ H x y v u Q I rx ry h => by
  obtain ⟨d, e, hd, he, sd, se, q⟩ := h
  obtain ⟨as, r1⟩ := Dp.reads I d x v hd rx
  obtain ⟨bs, r2⟩ := Dp.reads I e y u he ry
  exact SeqAt.compareEq_shaped r1 r2 sd se hu ⟨rfl, .bl _, H, I, rfl, q⟩
/-- two lists -/
theorem ow_cat (Cl : Clo X ys Θ) : OpW X Θ (binaryOp .Add) rCat := by
  intro pins s σ H x y v u Q I θ rx ry h
  obtain ⟨l, b, xs, zs, rfl, rfl, hH, hB, hz, q⟩ := h
  cases rx
  cases ry
  obtain ⟨z, its, n, r, hl, e⟩ := I.lstM hH
  obtain ⟨z2, its2, n2, r2, hl2, e2⟩ := I.lstM hB
  refine PySem.P.add_list e e2 ?_ (by rw [List.size_toArray, List.size_toArray]; omega)
  have ea : its.toArray ++ its2.toArray = (its ++ its2).toArray := by simp
  rw [ea]
  exact ⟨Cl.push I θ, .ref _, _, I.lnew (t' := s.toks) (r.append r2) (by rw [List.length_append]; omega), rfl, q _ I.fresh⟩
/-- f(..), f a builtin -/
theorem we_callB {id : String} {r : List V → Hp → VK → Prop} (hc : CallW X Θ (.builtin id) r) (hg : Gl X x) (hm : X.mg x = none) (hv : bootBuiltins x = some (.builtin id)) (ha : Wa X Θ (e :: es) t) (hn : x ≠ "__name__" := by decide) (hdb : (x == ("__debug__" : Str)) = false := by decide)
    (he : starEach (e :: es) X.env = (false, eval e X.env) :: starEach es X.env := by rfl) (hpl : (backTo pos (starEach es X.env)).any (·.1) = false := by rfl) : We X Θ (.Call (.Name x p) (e :: es) [] pos) (tCB r t) := by
  refine ⟨fun pins s σ H Q I θ h => ?_⟩
  refine wpAny_Call_Name_kw (ld_blt I hg hm hv ?_ hn hdb)
  refine PyProof.Rows.callWith_builtin1 (thn (ha.run pos pins s σ H _ I θ h) fun us s1 hh => ?_) he hpl
  obtain ⟨g1, vs, H1, I1, r1, q1⟩ := hh
  exact hc pins s1 σ H1 vs us Q I1 g1 r1 q1
theorem cw_of {f : Value} {r : List V → Hp → VK → Prop} (Cl : Clo X ys Θ) (h : ∀ (pins : List (Addr × Obj)) (s : Shared) (σ : L2.St) (H : Hp) (vs : List V) (us : List Value) (Q : VK), Inv X pins σ H s → Vals vs us → r vs H Q → wpAny (model X.prog X.w) X.A (call f us) (fun w s' => s'.heap = s.heap ∧ EP X pins σ Q w s') X.xe s) : CallW X Θ f r :=
  fun pins s σ H vs us Q I θ r q => wpAny_mono (PySem.wpAny_toks (h pins s σ H vs us Q I r q)) (fun w s' z => ⟨Cl.kept I z.1 (fun b o e => by rw [z.2.1]; exact e) θ, z.2.2⟩) fun _ _ z => z.2
theorem cw_len (Cl : Clo X ys Θ) : CallW X Θ (.builtin "len") (rLenK X.K) := cw_of Cl fun pins s σ H xs us Q I r h => by
  obtain ⟨p, zs, rfl, hq, q⟩ := h
  obtain ⟨u, rfl, rx⟩ := vals1 r
  cases rx
  have hn := line63
  rcases hq with hq | hq
  · obtain ⟨its, r', pl, hz⟩ := I.list hq
    have hlen := r'.length
    exact Calls.call_len_list pl.isList (by simp only [List.size_toArray] <;> omega) ⟨rfl, .int zs.length, H, I.tok _, ⟨s.toks + 1, by rw [List.size_toArray, hlen]⟩, q⟩
  · obtain ⟨its, r', pl, hz⟩ := I.tuple hq
    have hlen := r'.length
    exact len_tuple pl (by simp only [List.size_toArray] <;> omega) ⟨rfl, .int zs.length, H, I.tok _, ⟨s.toks + 1, by rw [List.size_toArray, hlen]⟩, q⟩
theorem wt_not (ha : Wt X Θ e tt) : Wt X Θ (.UnaryOp .Not e pos) (tNot tt) := by
  refine ⟨fun pins s σ H Q I θ h => ?_⟩
  exact isTrue_not (ha.run pins s σ H (fun c H1 => Q (!c) H1) I θ h)
/-- ''.join(e) -/
def rJoin (K : PySem.W.Frag) : V → List V → Hp → VK → Prop := fun x xs H Q => ∃ a p, ∃ ys : List Str, x = .str a ∧ xs = [.ref p] ∧ SqL K H p (ys.map V.str) ∧ (ys.map (·.length)).sum + ys.length * a.length ≤ 16777216 ∧ Q (.str (Txt.join a ys)) H
theorem we_join (Cl : Clo X ys Θ) (ho : We X Θ o to) (he : We X Θ e te) (hs : starEach [e] X.env = [(false, eval e X.env)] := by rfl) (hbase : attributeBase o "join" X.env (eval o X.env) = eval o X.env := by rfl) (hline : (apos.endLine == pos.line) = true := by rfl) :
    We X Θ (.Call (.Attribute o "join" apos) [e] [] pos) (tM1 (rJoin X.K) to te) := by
  refine ⟨fun pins s σ H Q I θ h => ?_⟩
  refine PySem.Call_method1 hbase hs hline (thn (ho.run pins s σ H _ I θ h) fun v s1 hh => ?_)
  obtain ⟨g1, x, H1, I1, r1, q1⟩ := hh
  obtain ⟨⟨a, rfl⟩, q1⟩ := q1
  obtain ⟨t, rfl⟩ := _root_.id r1
  refine ⟨"str", _, F.plainAttrs_str, F.slot_str_join, F.type_str_join, typeIs_str _ _ _, (fun _ e => nomatch e), Calls.callWith_builtin rfl (Calls.evalArgs_plain (Calls.spliced_cons ?_))⟩
  refine thn (he.run pins s1 σ H1 _ I1 g1 q1) fun u s2 hh => Calls.spliced_nil ?_
  obtain ⟨g2, y, H2, I2, r2, a', p, ys, e1, e2, hp, hz, q⟩ := hh
  cases e1
  cases e2
  cases r2
  obtain ⟨its, r, ⟨o, n, ho, hc, _, hd⟩, _⟩ := I2.list hp
  have called : wpAny (model X.prog X.w) X.A (call (.builtin "str.join") [.str a t, .ref p]) (fun w s' => s'.heap = s2.heap ∧ EP X pins σ Q w s') X.xe s2 :=
    PyProof.Rows.join_list (items := its.toArray) ⟨o, ho, hc, n, hd⟩ (by rw [List.toList_toArray]; exact strs_of_vals r) hz fun t' k => ⟨rfl, .str _, H2, I2.tok k, ⟨t', rfl⟩, q⟩
  exact wpAny_mono (PySem.wpAny_toks called) (fun w s' z => ⟨Cl.kept I2 z.1 (fun b o e => by rw [z.2.1]; exact e) g2, z.2.2⟩) fun _ _ z => z.2
/-! ### slices -/
structure WO (X : Cx) (Θ : Shared → Prop) (e : Option Expr) (t : TO) : Prop where
  run : ∀ (pins : List (Addr × Obj)) (s : Shared) (σ : L2.St) (H : Hp) (Q : Option Int → Hp → Prop), Inv X pins σ H s → Θ s → t σ H Q →
    wpAny (model X.prog X.w) X.A (evalPart e X.env) (fun u s' => Θ s' ∧ ∃ o H', Inv X pins σ H' s' ∧ IsPart u o ∧ Q o H') X.xe s
theorem wo_none : WO X Θ none tNoPart := by
  refine ⟨fun pins s σ H Q I θ h => ?_⟩
  rw [evalPart_none]
  exact wpAny_pure ⟨θ, none, H, I, .none, h⟩
theorem wo_some (h : We X Θ e te) : WO X Θ (some e) (tPart te) := by
  refine ⟨fun pins s σ H Q I θ hw => ?_⟩
  rw [evalPart_some]
  refine thn (h.run pins s σ H _ I θ hw) fun u s1 hh => ?_
  obtain ⟨g1, x, H1, I1, r1, i, rfl, q⟩ := hh
  obtain ⟨tk, rfl⟩ := r1
  exact ⟨g1, some i, H1, I1, .int i tk, q⟩
end
end Sq
set_option Elab.async false
set_option linter.all false
set_option maxRecDepth 100000
set_option maxHeartbeats 4000000
/-! A def that returns [e, x], the raw value of x known to its caller. -/
namespace Sq
open PySem PySem.Spec PyProof.Rows L2 GenW
/-- statements of which something is known of what they return -/
structure Wr (X : Cx) (Θ : Shared → Prop) (Φ : Value → Shared → Prop) (sts : List Stmt) (t : TS) : Prop where
  run : ∀ (pins : List (Addr × Obj)) (s : Shared) (σ : L2.St) (H : Hp) (D : Ends), Inv X pins σ H s → Θ s → t D σ H → wpAny (model X.prog X.w) X.A (execs sts X.env) (fun f s' => (∀ u, f = .ret u → Φ u s') ∧ SP X pins D f s') X.xe s
/-- the second item of the list is a text whose token is known to be old -/
def RawP (u : Value) (s : Shared) : Prop := ∃ (l : Addr) (a b : Value) (n : Nat), u = .ref l ∧ s.heap.get? l = some { cls := .type "list", data := .seq #[a, b] n } ∧ Tkn 0 [b] s.toks
def tSeqR (ts tr : TS) : TS := fun D σ H => ts { nx := tr D, rt := fun _ _ => False, bk := fun _ _ => False, ct := fun _ _ => False } σ H
section
variable {X : Cx} {Θ : Shared → Prop} {Φ : Value → Shared → Prop} {ys : List Str} {x : Str} {p p1 p2 pos pl : Pos} {e : Expr} {te : TE} {st : Stmt} {rest : List Stmt} {ts tr : TS} {i : Nat}
theorem wr_cons (h1 : Ws X Θ st ts) (h2 : Wr X Θ Φ rest tr) : Wr X Θ Φ (st :: rest) (tSeqR ts tr) := by
  refine ⟨fun pins s σ H D I θ h => ?_⟩
  refine wpAny_execs_cons (thn (h1.run pins s σ H _ I θ h) fun f s1 hh => ?_)
  obtain ⟨g1, q⟩ := hh
  match f, q with
  | .next, ⟨σ', H', I', q⟩ => exact h2.run pins s1 σ' H' D I' g1 q
  | .ret v, ⟨_, _, _, _, _, q⟩ => exact False.elim q
  | .brk, ⟨_, _, _, q⟩ => exact False.elim q
  | .cont, ⟨_, _, _, q⟩ => exact False.elim q
/-- a local name is stored -/
theorem put_local {pins : List (Addr × Obj)} {σ : L2.St} {H : Hp} {s : Shared} {M : Model} {A : Around} {E : Value → Shared → Prop} {v : V} {u : Value} {Q : Unit → Shared → Prop} (I : Inv X pins σ H s) (hN : X.N.Nodup) (hi : X.N[i]? = some x) (hk : X.env.scope.names.lookup x = some .local) (r : RelV v u)
    (h : ∀ s', Inv X pins (σ.set i (some v)) H s' → s.toks ≤ s'.toks → Put X x u s s' → Raw X x u s' → Q () s') : wpAny M A (storeName X.env x u) Q E s := by
  obtain ⟨m, ns, look⟩ := id I.loc
  have inside : i < σ.length := by rw [I.len]; exact (List.getElem?_eq_some_iff.mp hi).1
  have notcls : (X.env.scope.kind == .class || (X.env.scope.kind == .module && X.env.locals != X.env.globals)) = false := by rw [I.ok.kind]; rfl
  refine wpAny_storeName_local hk ns (fun g ns2 sb => ?_) notcls
  obtain ⟨oF, _, _, hoF, _⟩ := id ns
  have low : ∀ b o, X.s_0.heap.get? b = some o → b ≠ X.env.locals := fun b o e => Nat.ne_of_lt (Nat.lt_of_lt_of_le (Heap.lt_size e) I.ok.above)
  have objs : HOk X.prog X.w H g := fun b ob e => by
    refine (I.hok b ob e).stay (fun c2 w2 h2 q => (sb.2 c2 fun z => ?_).trans q) (fun _ q => q) fun _ _ q => q
    subst z
    rcases h2 with z | z
    · rw [← z, I.free] at e
      cases e
    · rw [I.free] at z
      cases z
  have loc2 : ∀ (j : Nat) (z : Str) (w : V), X.N[j]? = some z → (σ.set i (some v))[j]? = some (some w) → Vis X.env.scope z → ∃ u', RelV w u' ∧ Look X.env g (fun y => if y = x then some u else m y) z u' := fun j z w e1 e2 e3 => by
    by_cases ji : j = i
    · subst ji
      rw [hi] at e1
      cases e1
      rw [List.getElem?_set_self inside] at e2
      cases e2
      exact ⟨u, r, .inl ⟨hk, by simp⟩⟩
    · rw [List.getElem?_set_ne (Ne.symm ji)] at e2
      obtain ⟨u', r', q⟩ := look j z w e1 e2 e3
      have zx : z ≠ x := fun e => ji (nodup_ix hN e1 (e ▸ hi))
      rcases q with ⟨k, e⟩ | ⟨k, c2, e, z4⟩
      · exact ⟨u', r', .inl ⟨k, by simp [zx, e]⟩⟩
      · exact ⟨u', r', .inr ⟨k, c2, e, z4.sameBut sb (I.cne z c2 e)⟩⟩
  refine h _ ⟨I.ok, I.os, I.bare, ⟨fun b o e n hb hx2 => (sb.2 b (low b o e)).trans (I.base.keep b o e n hb hx2), fun b o e n hb hx2 => ?_, I.base.free, fun b o e hx2 => ?_, I.base.tups, I.base.frzs, I.base.tbls⟩, ⟨_, ns2, loc2⟩, fun z c2 e => ?_, I.free, I.freeC, fun p hp => ?_, objs, by simpa using I.len⟩ (Nat.le_add_right _ _) (.inl ⟨hk, sb, m, ns, ns2⟩) ⟨_, ns2, if_pos rfl⟩
  · obtain ⟨sl, e1⟩ := I.base.slot b o e n hb hx2
    exact ⟨sl, (sb.2 b (low b o e)).trans e1⟩
  · obtain ⟨o2, e1⟩ := I.base.there b o e hx2
    exact ⟨o2, (sb.2 b (low b o e)).trans e1⟩
  · obtain ⟨w2, z2⟩ := I.cell z c2 e
    exact ⟨w2, z2.sameBut sb (I.cne z c2 e)⟩
  · obtain ⟨e, n, ne, nf, d⟩ := I.pin p hp
    exact ⟨(sb.2 p.1 ne).trans e, n, ne, nf, d⟩
/-- x = 'text'[e] -/
theorem wr_signS {z : Str} {k : Nat} {pos' ps : Pos} (hN : X.N.Nodup) (hi : X.N[i]? = some x) (hk : X.env.scope.names.lookup x = some .local) (he : PE X e te) (hix : PlainIx e)
    (hrest : ∀ (u0 : Value) (n : Nat), Tkn 0 [u0] n → Wr X (fun s => Raw X x u0 s ∧ n ≤ s.toks) Φ rest tr) (hs : swapsWith (.Subscript (.Constant (.str z) k p1) e ps) (some (.Name x pos')) pos.line X.env = pure false := by rfl) :
    Wr X (fun _ => True) Φ (.Assign [.Name x pos'] (.Subscript (.Constant (.str z) k p1) e ps) pos :: rest) (tSeqR (tAsg (tOp rIxS (tC (.str z)) te) (gName i)) tr) := by
  refine ⟨fun pins s σ H D I _ h => ?_⟩
  refine wpAny_execs_cons (wpAny_Assign_Name (Subscript_ (Calls.Constant_str ?_)) hs)
  have I0 : Inv X pins σ H { s with toks := s.toks + 1 } := I.tok _
  refine wpAny_mono (PySem.wpAny_toks (he.run pins _ σ H _ I0 h)) (fun v s1 hh => ?_) fun _ _ z => z.2
  obtain ⟨up, y, H1, I1, r1, z', i', c, e1, rfl, hz, at1, q⟩ := hh
  cases e1
  have up' : s.toks + 1 ≤ s1.toks := up
  obtain ⟨tk, rfl⟩ := r1
  obtain ⟨j, h1, h2, h3, h4, h5⟩ := atI_get at1
  have hl : z.cps.toList.length = z.length := by simp [Str.length]
  rw [hl] at h1 h4 h5
  have hn := line63
  refine tail_any (typeIs_str s1 z s.toks) slot_str_getitem.lookup (getItem_str (c := c) (by
    have e1 : decide (i' < -(2 ^ 63 : Int)) = false := decide_eq_false (by omega)
    have e2 : decide (i' ≥ 2 ^ 63) = false := decide_eq_false (by omega)
    rw [e1, e2, Bool.or_false]) (by rw [h1]; simpa using h2) ?_) (hix _ _)
  have I2 : Inv X pins σ H1 { s1 with toks := s1.toks + 1 } := I1.tok _
  refine put_local (v := .str ⟨#[c]⟩) I2 hN hi hk ⟨s1.toks, rfl⟩ fun s3 I3 up3 _ raw => ?_
  have up3' : s1.toks + 1 ≤ s3.toks := up3
  refine (hrest _ (s1.toks + 1) (fun b t eb one => ?_)).run pins s3 _ H1 D I3 ⟨raw, up3'⟩ q
  have e3 : Value.str ⟨#[c]⟩ s1.toks = .str b t := Option.some.inj eb
  injection e3 with _ e4
  rw [← e4]
  exact ⟨Nat.ne_of_gt (Nat.lt_of_lt_of_le (Nat.succ_pos _) up'), Nat.lt_succ_self _⟩
/-- return [e, x] -/
theorem wr_ret {u0 : Value} {n : Nat} (Cl : Clo X ys Θ) (Kn : KnownU X Θ x u0) (good : Tkn 0 [u0] n) (hn : ∀ s, Θ s → n ≤ s.toks) (hi : X.N[i]? = some x) (hv : Vis X.env.scope x) (he : We X Θ e te) (hd : (x == ("__debug__" : Str)) = false := by decide)
    (hs : starEach [e, .Name x p1] X.env = [(false, eval e X.env), (false, eval (.Name x p1) X.env)] := by rfl) : Wr X Θ RawP [.Return (some (.List [e, .Name x p1] pl)) pos] (tRet (tLst (tCons te (tCons (tVar i) tNil)))) := by
  refine ⟨fun pins s σ H D I θ h => ?_⟩
  refine wpAny_execs_cons (wpAny_Return_some (wpAny_List_spliced ?_))
  rw [hs]
  show wpAny _ _ (spliced ((false, eval e X.env) :: (false, eval (.Name x p1) X.env) :: [])) _ _ s
  refine Calls.spliced_cons (thn (he.run pins s σ H _ I θ h) fun v s1 hh => Calls.spliced_cons ?_)
  obtain ⟨g1, y, H1, I1, r1, w, e1, few, q⟩ := hh
  refine knownU_eval Kn I1 g1 hi hv e1 (fun ru => Calls.spliced_nil ?_) hd
  refine ⟨few, fun u eu => ?_, .ref s1.heap.objs.size, σ, _, I1.lnew (t' := s1.toks) (its := [v, u0]) (.cons r1 (.cons ru .nil)) few, rfl, q _ I1.fresh⟩
  injection eu with eu
  subst eu
  exact ⟨_, v, u0, 0, rfl, Heap.get?_push_size _ rfl, fun b t eb one => ⟨(good b t eb one).1, Nat.lt_of_lt_of_le (good b t eb one).2 (hn s1 g1)⟩⟩
end
end Sq
set_option Elab.async false
set_option linter.all false
set_option maxRecDepth 100000
set_option maxHeartbeats 4000000
/-! s[lo:hi]; a def whose caller knows the raw value in the list that it returns. -/
namespace Sq
open PySem PySem.Spec PyProof.Rows L2 GenW
section
variable {X : Cx} {Θ : Shared → Prop} {ys : List Str} {p2 pos : Pos} {e : Expr} {te : TE} {lo hi : Option Expr} {tl th : TO}
theorem we_slS (Cl : Clo X ys Θ) (he : We X Θ e te) (hl : WO X Θ lo tl) (hu : WO X Θ hi th) : We X Θ (.Subscript e (.Slice lo hi none p2) pos) (tSl rSlS te tl th) := by
  refine ⟨fun pins s σ H Q I θ h => ?_⟩
  refine Subscript_ (thn (he.run pins s σ H _ I θ h) fun v s1 hh => ?_)
  obtain ⟨g1, x, H1, I1, r1, q1⟩ := hh
  refine wpAny_Slice (thn (hl.run pins s1 σ H1 _ I1 g1 q1) fun vl s2 hh => ?_)
  obtain ⟨g2, lo', H2, I2, pl, q2⟩ := hh
  refine thn (hu.run pins s2 σ H2 _ I2 g2 q2) fun vu s3 hh => ?_
  obtain ⟨g3, hi', H3, I3, pu, z, ex, hz, q⟩ := hh
  subst ex
  rw [evalPart_none]
  refine wpAny_pure ?_
  have keep : ∀ b ob, s3.heap.get? b = some ob → (s3.heap.push { cls := .type "slice", data := .fields #[vl, vu, .none] }).get? b = some ob := fun b ob z => Heap.get?_push_of_some _ z
  have I4 : Inv X pins σ H3 { s3 with heap := s3.heap.push { cls := .type "slice", data := .fields #[vl, vu, .none] } } := I3.kept (t' := s3.toks) keep
  have g4 : Θ { s3 with heap := s3.heap.push { cls := .type "slice", data := .fields #[vl, vu, .none] } } := Cl.push I3 g3
  obtain ⟨t, rfl⟩ := r1
  have hs : (s3.heap.push { cls := .type "slice", data := .fields #[vl, vu, .none] }).IsSliceOf s3.heap.objs.size vl vu .none := Heap.IsSliceOf.new ..
  generalize eS : ({ s3 with heap := s3.heap.push { cls := .type "slice", data := .fields #[vl, vu, .none] } } : Shared) = s4 at I4 g4
  have hs : s4.heap.IsSliceOf s3.heap.objs.size vl vu .none := by
    rw [← eS]
    exact hs
  obtain ⟨os, hos, hcs, hds⟩ := hs
  obtain ⟨l, rfl, rfl⟩ := IsPart.raw pl
  obtain ⟨u, rfl, rfl⟩ := IsPart.raw pu
  show wpAny (model X.prog X.w) X.A (subscriptTail e (.Slice lo hi none p2) (.str z t) (.ref s3.heap.objs.size)) _ X.xe _
  refine tail_any (ops := [.ref s3.heap.objs.size, .str z t]) (typeIs_str _ _ _) F.slot_str_getitem.lookup ?_ (by with_unfolding_all rfl)
  have called : wpAny (model X.prog X.w) X.A (getItem (.str z t) (.ref s3.heap.objs.size)) (fun w s' => s'.heap = s4.heap ∧ EP X pins σ Q w s') X.xe s4 := by
    refine wpAny_getItem_str_slice (l := l) (u := u) (st := none) ⟨os, hos, hcs, hds⟩ rfl ?_
    have hl : (PySem.StrLaws.sliceText z (l.map (·.1)) (u.map (·.1))).length ≤ sizeLine := by
      rw [sliceText_cut]
      exact Nat.le_trans (cutS_length z _ _) hz
    rw [← sliceText_cut] at q
    unfold PySem.StrLaws.sliceText at q hl
    show Made.post (if ((1 : Int) == 1 && (Builtin.Str.strSliceIndices (l.map (·.1)) (u.map (·.1)) 1 z.length).length == z.length) = true then Made.val (.str z t)
      else Made.str ⟨((Builtin.Str.strSliceIndices (l.map (·.1)) (u.map (·.1)) 1 z.length).filterMap (z.cps[·]?)).toArray⟩) (fun w s' => s'.heap = s4.heap ∧ EP X pins σ Q w s') s4
    by_cases c : ((1 : Int) == 1 && (Builtin.Str.strSliceIndices (l.map (·.1)) (u.map (·.1)) 1 z.length).length == z.length) = true
    · rw [if_pos c] at q ⊢
      exact ⟨rfl, .str z, H3, I4, ⟨t, rfl⟩, q⟩
    · rw [if_neg c] at q ⊢
      rw [if_neg c] at hl
      exact ⟨hl, rfl, .str _, H3, I4.tok _, ⟨_, rfl⟩, q⟩
  exact wpAny_mono (PySem.wpAny_toks called) (fun w s' z => ⟨Cl.kept I4 z.1 (fun b o e => by rw [z.2.1]; exact e) g4, z.2.2⟩) fun _ _ z => z.2
end
structure FnR (P : Program) (w : World) (K : PySem.W.Frag) (mg : Str → Option Value) (base : Heap) (k : Nat) (f : Addr) (fd : FuncData) (ps : List Str) (sp : Sp) : Prop where
  len : ∀ vs H Q E, sp vs H Q E → vs.length = ps.length
  run : ∀ (A : Around) (outer : List Env) (s : Shared) (H : Hp) (args : Args) (us : List Value) (vs : List V) (Q : VK), Room k A → Env0 P w K mg base A outer s H → BindsTo s fd args (ps.zip us) → Vals vs us → sp vs H Q E0 →
    codeAny (model P w) A (.call (.ref f) args) (fun r s' => match r with | .ok (.ret u) => CE outer P w H s Q u s' ∧ RawP u s' | _ => False) s
section
variable {P : Program} {w : World} {K : PySem.W.Frag} {mg : Str → Option Value} {base : Heap} {k : Nat} {f : Addr} {fd : FuncData} {ps : List Str} {sp : Sp}
theorem fnr_of {x qual : Str} {st : Stmt} {N : List Str} (F : Fun K x qual st f fd) (S : FnScope N ps (defScope st)) (len : ∀ vs H Q E, sp vs H Q E → vs.length = ps.length)
    (walk : ∀ (cdv : Value) (A : Around) (outer : List Env) (s : Shared) (H : Hp) (vs : List V) (Q : VK), Room k (A.deeper (envOfC qual (defScope st) s.heap.objs.size f cdv)) → sp vs H Q E0 →
      ∃ t, Wr (cxOf CX0 P w K mg base N qual (defScope st) f cdv A outer s H E0).nox (fun _ => True) RawP (defBody st) t ∧ t { nx := fun _ _ => False, rt := Q } (L2.start N vs) H) : FnR P w K mg base (k + 1) f fd ps sp := by
  obtain ⟨oc, od, kV, doc, pm, an, cdv, ct, osl, rfl, lk, hcd⟩ := F.ex
  refine ⟨len, fun A outer s H args us vs Q hr e0 hb r hsp => ?_⟩
  have hl := len _ _ _ _ hsp
  have KX : K.In s.heap := e0.mod.kin.keeps fun b o e => (e0.bs b o e).1
  have lim : s.heap.NoLimit := e0.mod.nolimit.keeps fun b o e => (e0.bs b o e).1
  have hkind : ∀ y ∈ ps.zip us, (defScope st).names.lookup y.1 = some .local ∨ ((defScope st).names.lookup y.1 = some .cell ∧ ((cellsFrom (s.heap.objs.size + 1) (defScope st).names []).lookup y.1).isSome = true) := fun ⟨n, v⟩ hy =>
    (S.par n (List.of_mem_zip hy).1).elim .inl fun z => .inr ⟨z, PySem.W.cellsFrom_some _ _ _ (.inl z)⟩
  refine codeAny_call_function hr.depth (KX _ _ lk) rfl S.co S.gen rfl (PySem.W.codeRec_of KX hcd) (hb _ _ _ _ ?_)
  refine PySem.wpAny_with_toks (Nat.le_refl s.toks) (wpAny_newFunctionEnv_cells S.kind hkind fun env he s1 made toks1 => ?_)
  subst he
  refine ⟨lim.keeps made.toInCall.keep, codeAny_func ?_⟩
  obtain ⟨t, ht, hq⟩ := walk cdv A outer s H vs Q (hr.deeper _) hsp
  have I : Inv (cxOf CX0 P w K mg base N qual (defScope st) f cdv A outer s H E0).nox [] (start N vs) H s1 := (inv_start S hr.hd e0 hl r made).wish _
  refine wpAny_mono (ht.run [] s1 (start N vs) H _ I True.intro hq) (fun fl s' hs => ?_) fun e s' hs => False.elim hs
  obtain ⟨raw, hs⟩ := hs
  match fl, hs, raw with
  | .ret u, ⟨v, σ', H', J, rv, q⟩, raw => exact ⟨⟨v, H', J.os, J.bare, J.base, J.hok, rv, q⟩, raw u rfl⟩
  | .next, ⟨σ', H', J, q⟩, _ => exact False.elim q
  | .brk, ⟨_, _, _, q⟩, _ => exact False.elim q
  | .cont, ⟨_, _, _, q⟩, _ => exact False.elim q
/-- its plain promise -/
theorem FnR.ok (F : FnR P w K mg base k f fd ps sp) (he : ∀ vs H Q E, sp vs H Q E → sp vs H Q E0) : FnOk P w K mg base CX0 k f fd ps sp :=
  ⟨F.len, fun A outer s H args us vs Q E hr e0 hb r h => codeAny_mono (F.run A outer s H args us vs Q hr e0 hb r (he _ _ _ _ h)) fun r s' hq => by
    match r, hq with
    | .ok (.ret u), hq => exact hq.1⟩
end
end Sq
set_option Elab.async false
set_option linter.all false
set_option maxRecDepth 100000
set_option maxHeartbeats 4000000
/-! (x, y), z = f(..), e : the raw value of y is known behind it. -/
namespace Sq
open PySem PySem.Spec PyProof.Rows L2 GenW
structure DfR (P : Program) (w : World) (K : PySem.W.Frag) (mg : Str → Option Value) (base : Heap) (k : Nat) (x : Str) (ps : List Str) (sp : Sp) : Prop where
  ex : ∃ f fd, FnR P w K mg base k f fd ps sp ∧ mg x = some (.ref f) ∧ PySem.W.keepIn K (.ref f) = true ∧ Binds K fd ps []
end Sq
set_option Elab.async false
set_option linter.all false
set_option maxRecDepth 100000
set_option maxHeartbeats 4000000
/-! Making by keywords, l[i] = e, x, y = list, and, x = [..], max: what is known is kept. -/
set_option Elab.async false
set_option linter.all false
set_option maxRecDepth 100000
set_option maxHeartbeats 4000000
/-! x == y of two live objects, by the class's own __eq__. -/
namespace Sq
open PySem PySem.Spec PyProof.Rows L2 GenW
structure EqM (P : Program) (w : World) (K : PySem.W.Frag) (mg : Str → Option Value) (base : Heap) (k : Nat) (C : Addr) (ps : List Str) (sp : Sp) : Prop where
  ex : ∃ f fd, FnOk P w K mg base CX0 k f fd ps sp ∧ PySem.W.findIn K (.ref C) "__eq__" = some (some (.ref f)) ∧ PySem.W.isFn K (.ref f) = true ∧ Binds K fd ps []
def rEqL (C : Addr) (sp : Sp) : R2 := fun x y H Q => ∃ a dx m ks b dy m2 ks2, x = .ref a ∧ y = .ref b ∧ Live H a C dx m ks ∧ Live H b C dy m2 ks2 ∧ sp [.ref a, .ref b] H (fun v H2 => ∃ c, v = .bl c ∧ Q (.bl c) H2) E0
/-- isinstance(o, C), o of the class at C -/
theorem call_isL {X : Cx} {C : Addr} (c : C8.InsC X.K C) : CallR X (.builtin "isinstance") (fun xs H Q => ∃ a dx m ks, xs = [.ref a, .ref C] ∧ Live H a C dx m ks ∧ Q (.bl true) H) := by
  intro pins s σ H xs us Q I r h
  obtain ⟨a, dx, m, ks, rfl, L, q⟩ := h
  obtain ⟨u, w', rfl, ru, rw'⟩ := vals2 r
  cases ru
  cases rw'
  obtain ⟨od, J, _⟩ := (L.obj I.hok).1.look
  exact PySem.W.kia_one (PySem.W.kitx_own (c.cl.get _) c.cl.hd c.ha c.hn c.htk c.hm) I.kIn J c.me (fun z => nomatch z) fun tk => ⟨.bl true, H, I.tok _, rfl, q⟩
end Sq
set_option Elab.async false
set_option linter.all false
set_option maxRecDepth 100000
set_option maxHeartbeats 4000000
/-! A loop over anything, its suite knowing how many tokens were given out. -/
namespace Sq
open PySem PySem.Spec PyProof.Rows L2 GenW
section
variable {X : Cx} {n : Nat} {tg iter : Expr} {body : List Stmt} {wi : TI} {g : TG} {tb : TS} {pos : Pos} {Θ : Shared → Prop} {sts : List Stmt} {t : TS}
theorem wu_weak {Φ : Shared → Prop} (h : Wu X Φ sts t) (w : ∀ s, Θ s → Φ s) : Wu X Θ sts t := ⟨fun pins s σ H D I θ q => h.run pins s σ H D I (w s θ) q⟩
end
end Sq
set_option Elab.async false
set_option linter.all false
set_option maxRecDepth 100000
set_option maxHeartbeats 4000000
/-! A def that knows n and a raw argument, called by its name; x = [y, y, y, 'c'][e], y known. -/
set_option Elab.async false
set_option linter.all false
set_option maxRecDepth 100000
set_option maxHeartbeats 4000000
/-! x != y and x not in list, by the class's own __eq__ : raw rules. -/
set_option Elab.async false
set_option linter.all false
set_option maxRecDepth 100000
set_option maxHeartbeats 4000000
/-! ==, != and `not in` of live objects, by the class's own __eq__; what is known is kept. -/
namespace Sq
open PySem PySem.Spec PyProof.Rows L2 GenW
/-- anything but an object of the class -/
inductive Oth (H : Hp) : V → String → Prop where
  | non : Oth H .non "NoneType"
  | int (i : Int) : Oth H (.int i) "int"
  | str (z : Str) : Oth H (.str z) "str"
  | lst {a : Addr} {xs : List V} (e : H a = some (.lst xs)) : Oth H (.ref a) "list"
  | tup {a : Addr} {xs : List V} (e : H a = some (.tup xs)) : Oth H (.ref a) "tuple"
theorem Oth.same {H H' : Hp} {v : V} {T : String} (o : Oth H v T) (s : Same H H') : Oth H' v T := by
  cases o with
  | non => exact .non
  | int i => exact .int i
  | str z => exact .str z
  | lst e => exact .lst (s _ _ e)
  | tup e => exact .tup (s _ _ e)
/-- what the other kinds' == and isinstance ask of the class -/
structure OthC (K : PySem.W.Frag) (C : Addr) : Prop where
  is_ : ∀ T, T = "NoneType" ∨ T = "int" ∨ T = "str" ∨ T = "list" ∨ T = "tuple" → PySem.W.kitOne K (.type T) (.ref C) = some false
  mro : ∀ T, T = "NoneType" ∨ T = "int" ∨ T = "str" ∨ T = "list" ∨ T = "tuple" → PySem.W.mroIn K C (.type T) = some false
structure NeC (K : PySem.W.Frag) (C : Addr) : Prop where
  ne : PySem.W.findIn K (.ref C) "__ne__" = some (some (.builtin "object.__ne__"))
  top : PySem.W.mroIn K C (.type "object") = some true
  str : PySem.W.notFirst K C (.type "str") = true
theorem Oth.t {H : Hp} {v : V} {T : String} (o : Oth H v T) : T = "NoneType" ∨ T = "int" ∨ T = "str" ∨ T = "list" ∨ T = "tuple" := by
  cases o <;> simp
section
variable {X : Cx} {Θ : Shared → Prop} {ys : List Str} {k : Nat} {C : Addr} {ps : List Str} {sp : Sp} {pins : List (Addr × Obj)} {σ : L2.St} {H : Hp} {s : Shared}
theorem call_isO (c : OthC X.K C) : CallR X (.builtin "isinstance") (fun xs H Q => ∃ v T, xs = [v, .ref C] ∧ Oth H v T ∧ Q (.bl false) H) := by
  intro pins s σ H xs us Q I r h
  obtain ⟨v, T, rfl, o, q⟩ := h
  obtain ⟨u, w', rfl, ru, rw'⟩ := vals2 r
  cases rw'
  have ty : TyOf X.K H v (.type T) := by
    cases o with
    | non => exact .non
    | int i => exact .int i
    | str z => exact .str z
    | lst e => exact .lst e
    | tup e => exact .tup e
  exact isinst_ok I ru ty (c.is_ T o.t) fun tk => ⟨.bl false, H, I.tok _, rfl, q⟩
/-- a def is called here or right below; what is known is kept -/
theorem fn_called {f : Addr} {fd : FuncData} {us : List Value} {vs : List V} {Q : VK} (Cl : Clo X ys Θ) (F : FnOk X.prog X.w X.K X.mg X.base CX0 k f fd ps sp) (hb : Binds X.K fd ps []) {A : Around} (sb : Sub X k A) (I : Inv X pins σ H s) (θ : Θ s) (r : Vals vs us) (q : sp vs H Q E0) :
    wpAny (model X.prog X.w) A (call (.ref f) us) (fun u s' => Θ s' ∧ EP X pins σ Q u s') X.xe s := by
  have e0 : Env0 X.prog X.w X.K X.mg X.base A X.stack s H := by
    have e := I.env0
    exact ⟨by rw [sb.fr]; exact e.frames, e.mod, e.bs, e.bsz, e.funs, e.frf, e.hok, e.bare⟩
  have hl : us.length = ps.length := by rw [← r.length]; exact F.len _ _ _ _ q
  have bind := hb s us I.kIn (by rw [List.append_nil]; exact hl)
  rw [List.append_nil] at bind
  have called : wpAny (model X.prog X.w) A (call (.ref f) us) (fun u s' => (s.toks ≤ s'.toks → Θ s') ∧ EP X pins σ Q u s') X.xe s := by
    refine wpAny_call (codeAny_mono (F.run A X.stack s H ⟨us, []⟩ us vs Q E0 sb.room e0 bind r q) fun r s' hq => ?_)
    match r, hq with
    | .error e, hq => exact pass0 pins σ H s e s' I hq
    | .ok (.ret u), hq =>
      have ce : CE X.stack X.prog X.w H s Q u s' := hq
      obtain ⟨_, _, _, _, un, _⟩ := id ce
      exact ⟨fun up => Cl.un0 I up un θ, I.after ce⟩
  exact wpAny_mono (PySem.wpAny_toks called) (fun u s' z => ⟨z.2.1 z.1, z.2.2⟩) fun _ _ z => z.2
theorem ow_eqL (Cl : Clo X ys Θ) (D : EqM X.prog X.w X.K X.mg X.base k C ps sp) (hr : Room k X.A) : OpW X Θ (compareOp .Eq) (rEqL C sp) := by
  obtain ⟨f, fd, F, hs, hf, hb⟩ := D.ex
  intro pins s σ H x y v u Q I θ rx ry h
  obtain ⟨a, dx, m, ks, b, dy, m2, ks2, rfl, rfl, La, Lb, q⟩ := h
  cases rx
  cases ry
  show wpAny (model X.prog X.w) X.A (richCompare .Eq (.ref a) (.ref b)) (fun w s' => Θ s' ∧ EP X pins σ Q w s') X.xe s
  obtain ⟨od, J, _⟩ := (La.obj I.hok).1.look
  obtain ⟨od', J', _⟩ := (Lb.obj I.hok).1.look
  obtain ⟨mm, hF⟩ := I.fr
  refine PySem.W.cmp_K (op := .Eq) (tb := .ref C) hr.units0 hF I.ok.mod.kin J J'.type (by simp [PySem.W.notFirst]) hs hf ?_
  refine thn (fn_called Cl F hb ⟨hr, rfl⟩ I θ (.cons (show RelV (V.ref a) (Value.ref a) from rfl) (.cons (show RelV (V.ref b) (Value.ref b) from rfl) .nil)) q) fun u s' hh => ?_
  obtain ⟨θ', z, H', I', rz, c, ez, q2⟩ := hh
  subst ez
  cases rz
  exact ⟨θ', .bl c, H', I', rfl, q2⟩
end
end Sq
set_option Elab.async false
set_option linter.all false
set_option maxRecDepth 100000
set_option maxHeartbeats 8000000
set_option exponentiation.threshold 2000
namespace Sq
open PySem PySem.Spec PyProof.Rows L2
section
variable {P : Program} {w : World} {K : PySem.W.Frag} {mg : Str → Option Value} {base : Heap} {C : Addr}
theorem atHead (v : V) (xs : List V) : atI (v :: xs) 0 = some v := by
  unfold atI ixN
  rw [if_pos (by decide), if_pos (by rw [List.length_cons]; omega)]
  rfl
theorem dpIntsQ {H : Hp} : ∀ (ds : List Int), DpAll K H (ds.map V.int) (ds.map PyData.int)
  | [] => .nil
  | d :: ds => .cons (.int d) (dpIntsQ ds)
theorem laysIntsQ : ∀ (ds : List Int), PyData.canLayAll0 (ds.map PyData.int) = true
  | [] => rfl
  | d :: ds => by
    show (PyData.canLay0 (.int d) && PyData.canLayAll0 (ds.map PyData.int)) = true
    rw [laysIntsQ ds]
    rfl
theorem deepIntsQ : ∀ (ds : List Int), PyData.depthAll (ds.map PyData.int) ≤ 1
  | [] => Nat.zero_le _
  | _ :: ds => Nat.max_le.mpr ⟨Nat.zero_le _, deepIntsQ ds⟩
theorem shapedIntsQ (ds : List Int) : SeqAt.shaped (.list (ds.map PyData.int)) = true :=
  Bool.and_eq_true_iff.mpr ⟨laysIntsQ ds, decide_eq_true (Nat.le_trans (Nat.add_le_add_right (deepIntsQ ds) 1) (by decide))⟩
/-- == of two live texts -/
def spEqT (C : Addr) : Sp := fun vs H Q _ => ∃ (p dx r t p2 dx2 r2 t2 : Addr) (u0 v0 : Value) (b c : Nat) (x y : List Nat) (T T2 : List (List Nat)) (ks ks2 : List Int), vs = [.ref p, .ref p2] ∧ Txt2 C H p dx r t u0 b (x :: T) ks ∧ Txt2 C H p2 dx2 r2 t2 v0 c (y :: T2) ks2 ∧ Q (.bl (decide (x = y) && decide (b = c) && decide (ks = ks2))) H
theorem ok_eqT {f : Addr} {fd : FuncData} (F : Fun K "__eq__" "SqueezedText.__eq__" s_SqueezedTexteq f fd) (B : Bi mg) (Z : Lc K C) (cI : C8.InsC K C) (g_SqueezedText : mg "SqueezedText" = some (.ref C)) : FnOk P w K mg base CX0 1 f fd ["self", "other"] (spEqT C) := by
  refine F.ok sc_SqueezedTexteq (fun vs H Q E h => ?_) (fun cdv A outer s H vs Q E hr h => ?_)
  · obtain ⟨p, dx, r, t, p2, dx2, r2, t2, u0, v0, b, c, x, y, T, T2, ks, ks2, rfl, _⟩ := h
    rfl
  · obtain ⟨p, dx, r, t, p2, dx2, r2, t2, u0, v0, b, c, x, y, T, T2, ks, ks2, rfl, L, L2, q⟩ := h
    refine ⟨_, (pss_cons (ps_if (pt_not (pt_val (pe_callB (id := "isinstance") (call_isL cI) (by rfl) B.n_isinstance (by decide +kernel) (pa_cons (pv 1) (pa_cons (pe_glob (v := .ref C) (by rfl) g_SqueezedText rfl) pa_nil))))) (pss_one (ps_ret pe_bl)) pss_nil)
      (pss_one (ps_ret (pe_and (pe_cmpR op_eq (pe_ix (r := rIxL K) ix_list (pe_fldL (pv 0)) pe_int (fun _ _ => rfl)) (pe_ix (r := rIxL K) ix_list (pe_fldL (pv 1)) pe_int (fun _ _ => rfl)) (nomark _))
        (pe_and (pe_cmpR op_eq (pe_fldL (pv 0)) (pe_fldL (pv 1)) (nomark _)) (pe_one (pe_cmpR (op_eqD hr.units) (pe_fldL (pv 0)) (pe_fldL (pv 1)) (nomark _)))))))), ?_⟩
    obtain ⟨m, LL, mC, mR, mT, mN⟩ := id L.m
    obtain ⟨m2, LL2, mC2, mR2, mT2, mN2⟩ := id L2.m
    refine ⟨_, rfl, p2, dx2, m2, _, rfl, LL2, true, rfl, iteF ?_⟩
    refine ⟨_, rfl, p, C, dx, m, _, .ref t, .ref t, rfl, LL, Z.cl, Z.nT, mT, rfl, t, _, 0, .str (SX.S x), rfl, rfl, SqL.of L.tx, atHead _ _, ?_⟩
    refine ⟨_, rfl, p2, C, dx2, m2, _, .ref t2, .ref t2, rfl, LL2, Z.cl, Z.nT, mT2, rfl, t2, _, 0, .str (SX.S y), rfl, rfl, SqL.of L2.tx, atHead _ _, rfl, _, rfl, ?_⟩
    by_cases c1 : x = y
    · subst c1
      rw [decide_eq_true (rfl : V.str (SX.S x) = V.str (SX.S x))]
      refine iteT ?_
      refine ⟨_, rfl, p, C, dx, m, _, u0, _, rfl, LL, Z.cl, Z.nC, mC, L.u, _, rfl, p2, C, dx2, m2, _, v0, _, rfl, LL2, Z.cl, Z.nC, mC2, L2.u, rfl, _, rfl, ?_⟩
      by_cases c2 : b = c
      · subst c2
        rw [decide_eq_true (rfl : V.str (⟨#[b]⟩ : Str) = V.str (⟨#[b]⟩ : Str))]
        refine iteT ?_
        refine ⟨_, rfl, p, C, dx, m, _, .ref r, .ref r, rfl, LL, Z.cl, Z.nR, mR, rfl, _, rfl, p2, C, dx2, m2, _, .ref r2, .ref r2, rfl, LL2, Z.cl, Z.nR, mR2, rfl, ?_⟩
        refine ⟨.list (ks.map PyData.int), .list (ks2.map PyData.int), .lst (SqL.of L.rp) (dpIntsQ _), .lst (SqL.of L2.rp) (dpIntsQ _), shapedIntsQ _, shapedIntsQ _, ?_⟩
        rw [eqv_ints]
        simpa using q
      · rw [decide_eq_false (show ¬ V.str (⟨#[b]⟩ : Str) = V.str (⟨#[c]⟩ : Str) from fun z => c2 (by injection z with z; injection z with z; injection z with z; injection z))]
        refine iteF ?_
        simpa [c2] using q
    · rw [decide_eq_false (show ¬ V.str (SX.S x) = V.str (SX.S y) from fun z => c1 (SX.S_inj (by injection z)))]
      refine iteF ?_
      simpa [c1] using q
/-- == of a live text and anything else -/
def spEqO (C : Addr) : Sp := fun vs H Q _ => ∃ (p dx : Addr) (m : Str → Option Value) (ks : List Str) (v : V) (T : String), vs = [.ref p, v] ∧ Live H p C dx m ks ∧ Oth H v T ∧ Q (.bl false) H
theorem ok_eqO {f : Addr} {fd : FuncData} (F : Fun K "__eq__" "SqueezedText.__eq__" s_SqueezedTexteq f fd) (B : Bi mg) (O : OthC K C) (g_SqueezedText : mg "SqueezedText" = some (.ref C)) : FnOk P w K mg base CX0 1 f fd ["self", "other"] (spEqO C) := by
  refine F.ok sc_SqueezedTexteq (fun vs H Q E h => ?_) (fun cdv A outer s H vs Q E hr h => ?_)
  · obtain ⟨p, dx, m, ks, v, T, rfl, _⟩ := h
    rfl
  · obtain ⟨p, dx, m, ks, v, T, rfl, L, o, q⟩ := h
    refine ⟨_, (pss_cons (ps_if (pt_not (pt_val (pe_callB (id := "isinstance") (call_isO O) (by rfl) B.n_isinstance (by decide +kernel) (pa_cons (pv 1) (pa_cons (pe_glob (v := .ref C) (by rfl) g_SqueezedText rfl) pa_nil))))) (pss_one (ps_ret pe_bl)) pss_nil) pss_no), ?_⟩
    exact ⟨_, rfl, _, T, rfl, o, false, rfl, iteT q⟩
def spEqX (C : Addr) : Sp := fun vs H Q E => spEqT C vs H Q E ∨ spEqO C vs H Q E
theorem FnOk.orS {k : Nat} {f : Addr} {fd : FuncData} {ps : List Str} {spA spB : Sp} {CXf : CXT} (a : FnOk P w K mg base CXf k f fd ps spA) (b : FnOk P w K mg base CXf k f fd ps spB) : FnOk P w K mg base CXf k f fd ps (fun vs H Q E => spA vs H Q E ∨ spB vs H Q E) :=
  ⟨fun vs H Q E h => h.elim (a.len vs H Q E) (b.len vs H Q E), fun A outer s H args us vs Q E hr e bd rv h => h.elim (a.run A outer s H args us vs Q E hr e bd rv) (b.run A outer s H args us vs Q E hr e bd rv)⟩
end
end Sq
set_option Elab.async false
set_option linter.all false
set_option maxRecDepth 100000
set_option maxHeartbeats 8000000
set_option exponentiation.threshold 2000
namespace Sq
open PySem PySem.Spec PyProof.Rows L2
section
variable {P : Program} {w : World} {K : PySem.W.Frag} {mg : Str → Option Value} {base : Heap}
theorem nthN {xs : List Nat} {z : Int} (h0 : 0 ≤ z) (h : z < xs.length) : ∃ k, k ∈ xs ∧ atI xs z = some k := by
  have lt : z.toNat < xs.length := by omega
  refine ⟨xs[z.toNat], List.getElem_mem lt, ?_⟩
  unfold atI ixN
  rw [if_pos h0, if_pos h]
  show xs[z.toNat]? = _
  exact List.getElem?_eq_getElem lt
theorem cutS_upto (z : Str) (n : Nat) : cutS z none (some (n : Int)) = SX.S (z.cps.toList.take n) := by
  refine TL.ext_tl ?_
  by_cases c : n ≤ z.length
  · exact cutS_take z n c
  · show ((z.cps.toList.drop (HT.sIx z.length 0 none)).take (HT.sIx z.length z.length (some (n : Int)) - HT.sIx z.length 0 none)) = z.cps.toList.take n
    have l : z.cps.toList.length = z.length := rfl
    rw [HT.sIx_nat, HT.sIx_none, List.drop_zero, Nat.min_eq_right (by omega), Nat.sub_zero, List.take_of_length_le (by omega), List.take_of_length_le (by omega)]
/-- a sign that is no grave accent, and ASCII -/
theorem signs_low : ∀ c ∈ (" a.x#" : Str).cps.toList, c < 128 := by decide +kernel
theorem letters_low : ∀ c ∈ ("bcde 1 .xa" : Str).cps.toList, c < 128 := by decide +kernel
theorem flat_one : ∀ cs : List Nat, (cs.map fun c => [c]).flatten = cs
  | [] => rfl
  | c :: cs => by
    rw [List.map_cons, List.flatten_cons, flat_one cs]
    rfl
theorem join_one (cs : List Nat) : Txt.join "" (cs.map fun c => (⟨#[c]⟩ : Str)) = SX.S cs := by
  have e := SX.join_S [] (cs.map fun c => [c])
  rw [joinL_flat, flat_one, List.map_map] at e
  exact e
theorem sum_one (cs : List Nat) : ((cs.map fun c => (⟨#[c]⟩ : Str)).map (·.length)).sum = cs.length := by
  rw [List.map_map]
  induction cs with
  | nil => rfl
  | cons c cs ih =>
    rw [List.map_cons, List.sum_cons, ih, List.length_cons, Nat.add_comm]
    rfl
def spLtxt : Sp := fun vs H Q _ => ∃ (l : Addr) (seed cnt M : Int), vs = [.ref l, .int M] ∧ 0 < M ∧ M ≤ 2000 ∧ Rng H l seed cnt ∧ cnt < 400000 ∧
  ∀ xs b cnt' t H', (xs.length : Int) ≤ M → b < 128 → (∀ c ∈ xs, c < 128) → H t = none → Rng H' l seed cnt' → cnt' ≤ cnt + 110 → Keep1 H H' l → H' t = some (.lst [.str (SX.S xs), .str ⟨#[b]⟩]) → Q (.ref t) H'
theorem ok_lawtext {f : Addr} {fd : FuncData} (F : Fun K "_law_text" "_law_text" s_lawtext f fd) (B : Bi mg) (D_lawdraw : Df P w K mg base 1 "_law_draw" ["pool", "many"] spDraw) : FnR P w K mg base 3 f fd ["pool", "most"] spLtxt := by
  refine fnr_of F sc_lawtext (fun vs H Q E h => ?_) (fun cdv A outer s H vs Q hr h => ?_)
  · obtain ⟨l, seed, cnt, M, rfl, _⟩ := h
    rfl
  · obtain ⟨l, seed, cnt, M, rfl, M0, M1, S, hc, q⟩ := h
    have kcl : ∀ (u0 : Value) (n : Nat), Clo (cxOf CX0 P w K mg base ["pool", "most", "sign", "found", "turn", "long", "letter"] "_law_text" (defScope s_lawtext) f cdv A outer s H E0).nox ["sign"] (fun s' => Raw (cxOf CX0 P w K mg base ["pool", "most", "sign", "found", "turn", "long", "letter"] "_law_text" (defScope s_lawtext) f cdv A outer s H E0).nox "sign" u0 s' ∧ n ≤ s'.toks) := fun u0 n => (clo_raw rfl).and clo_n
    have kkn : ∀ (u0 : Value) (n : Nat), KnownU (cxOf CX0 P w K mg base ["pool", "most", "sign", "found", "turn", "long", "letter"] "_law_text" (defScope s_lawtext) f cdv A outer s H E0).nox (fun s' => Raw (cxOf CX0 P w K mg base ["pool", "most", "sign", "found", "turn", "long", "letter"] "_law_text" (defScope s_lawtext) f cdv A outer s H E0).nox "sign" u0 s' ∧ n ≤ s'.toks) "sign" u0 := fun u0 n => ⟨fun s' h => .inl ⟨rfl, h.1⟩⟩
    refine ⟨_, (wr_signS (i := 2) sc_lawtext.nd rfl rfl (pe_callD D_lawdraw (hr.mono (by omega)) (by rfl) (pa_cons (pv 0) (pa_cons pe_int pa_nil))) (fun _ _ => rfl) (fun u0 n good =>
      (wr_cons (ws_set (i := 3) (kcl u0 n) (by decide) sc_lawtext.nd rfl (Or.inl rfl) (we_str (kcl u0 n)))
      (wr_cons (ws_forR rfl PassesOwn.never (kcl u0 n) (by rfl) B.n_range (wa_cons (we_callD (kcl u0 n) D_lawdraw (hr.mono (by omega)) (by rfl) (wa_cons (wv 0) (wa_cons (we_int (kcl u0 n)) wa_nil))) wa_nil) (wg_name (i := 4) (kcl u0 n) (by decide) sc_lawtext.nd rfl (Or.inl rfl))
        (wss_cons (ws_set (i := 5) (kcl u0 n) (by decide) sc_lawtext.nd rfl (Or.inl rfl) (we_ixL (we_lst (kcl u0 n) (wa_cons (we_int (kcl u0 n)) (wa_cons (we_int (kcl u0 n)) (wa_cons (we_op (ow_add (kcl u0 n)) (we_int (kcl u0 n)) (we_callD (kcl u0 n) D_lawdraw (hr.mono (by omega)) (by rfl) (wa_cons (wv 0) (wa_cons (we_int (kcl u0 n)) wa_nil)))) (wa_cons (we_op (ow_add (kcl u0 n)) (we_int (kcl u0 n)) (we_callD (kcl u0 n) D_lawdraw (hr.mono (by omega)) (by rfl) (wa_cons (wv 0) (wa_cons (we_int (kcl u0 n)) wa_nil)))) (wa_cons (we_callD (kcl u0 n) D_lawdraw (hr.mono (by omega)) (by rfl) (wa_cons (wv 0) (wa_cons (we_int (kcl u0 n)) wa_nil))) wa_nil)))))) (we_callD (kcl u0 n) D_lawdraw (hr.mono (by omega)) (by rfl) (wa_cons (wv 0) (wa_cons (we_int (kcl u0 n)) wa_nil))) (fun _ _ => rfl)))
        (wss_cons (ws_set (i := 3) (kcl u0 n) (by decide) sc_lawtext.nd rfl (Or.inl rfl) (we_op (ow_add_str (kcl u0 n)) (wv 3) (we_op (ow_mulS (kcl u0 n)) (wv 2) (wv 5))))
        (wss_one (ws_set (i := 3) (kcl u0 n) (by decide) sc_lawtext.nd rfl (Or.inl rfl) (we_op (ow_add_str (kcl u0 n)) (wv 3) (we_join (kcl u0 n) (we_str (kcl u0 n)) (we_lc (kcl u0 n) (own := [("letter", 6)]) (g := gName 6) rfl sc_lawtext.nd (wi_range1 (kcl u0 n) (by rfl) B.n_range (wa_cons (we_callD (kcl u0 n) D_lawdraw (hr.mono (by omega)) (by rfl) (wa_cons (wv 0) (wa_cons (we_int (kcl u0 n)) wa_nil))) wa_nil)) (blkOk_by (own := [("letter", 6)]) (N := ["pool", "most", "sign", "found", "turn", "long", "letter"]) (sc := defScope s_lawtext) (by decide +kernel)) (fun _ _ _ _ _ => (pg_name (i := 6) sc_lawtext.nd rfl (Or.inl rfl))) (fun _ _ _ _ _ => pts_nil) (fun _ _ _ _ _ => (pe_ix ix_str pe_str (pe_callD D_lawdraw (hr.mono (by omega)) (by rfl) (pa_cons (pv 0) (pa_cons pe_int pa_nil))) (fun _ _ => rfl)))))))))))
      (wr_ret (i := 2) (kcl u0 n) (kkn u0 n) good (fun _ h => h.2) rfl (Or.inl rfl) (we_slS (kcl u0 n) (wv 3) wo_none (wo_some (wv 1)))))))), ?_⟩
    have szl : sizeLine = 16777216 := sizeLine_eq
    refine ⟨_, rfl, l, seed, cnt, 5, rfl, S, by omega, by decide, by decide, fun z0 c0 H0 z00 z01 S0 hc0 k0 => ?_⟩
    obtain ⟨b, bm, ba⟩ := nthN (xs := (" a.x#" : Str).cps.toList) (z := z0) z00 z01
    have bl := signs_low b bm
    refine ⟨_, z0, b, rfl, rfl, by show 5 ≤ sizeLine; omega, ba, ?_⟩
    refine ⟨_, rfl, l, seed, c0, 12, rfl, S0, by omega, by decide, by decide, fun n c1 H1 n0 n1 S1 hc1 k1 => ?_⟩
    have k01 := k0.trans k1
    refine ⟨n, rfl, by omega, by omega, (fun i σ H' => ∃ xs cnt' y4 y5 y6, σ = [some (.ref l), some (.int M), some (.str ⟨#[b]⟩), some (.str (SX.S xs)), y4, y5, y6] ∧ Rng H' l seed cnt' ∧ cnt' ≤ cnt + 2 + 9 * i ∧ Keep1 H H' l ∧ xs.length ≤ 400 * i ∧ ∀ c ∈ xs, c < 128),
      ⟨[], c1, none, none, none, rfl, S1, by omega, k01, Nat.zero_le _, fun _ z => nomatch z⟩, ?_, ?_⟩
    · rintro i σ H2 hi ⟨xs, c2, y4, y5, y6, rfl, S2, hc2, k2, lx, lo⟩
      have i12 : i < 12 := by omega
      refine ⟨_, rfl, l, seed, c2, 9, rfl, S2, by omega, by decide, by decide, fun z3 c3 H3 z30 z31 S3 hc3 k3 => ⟨1, z3, rfl, rfl, ?_⟩⟩
      refine ⟨_, rfl, l, seed, c3, 60, rfl, S3, by omega, by decide, by decide, fun z4 c4 H4 z40 z41 S4 hc4 k4 => ⟨1, z4, rfl, rfl, ?_⟩⟩
      refine ⟨_, rfl, l, seed, c4, 300, rfl, S4, by omega, by decide, by decide, fun z5 c5 H5 z50 z51 S5 hc5 k5 => ⟨by show 5 ≤ sizeLine; omega, fun t ht => ?_⟩⟩
      have nt := S5.ne ht
      refine ⟨_, rfl, l, seed, c5, 5, rfl, S5.same (same_new ht), by omega, by decide, by decide, fun z6 c6 H6 z60 z61 S6 hc6 k6 => ?_⟩
      obtain ⟨L, Lm, La⟩ := nth_of (xs := [1, 2, 1 + z3, 1 + z4, z5]) z60 z61
      have Lb : 0 ≤ L ∧ L ≤ 300 := by
        simp only [List.mem_cons, List.not_mem_nil, or_false] at Lm
        omega
      refine ⟨t, _, z6, .int L, rfl, rfl, SqL.of (k6 _ _ upd_same nt), La, ?_⟩
      have k26 : Keep1 H H6 l := ((((k2.trans k3).trans k4).trans k5).trans (Keep1.of (same_new ht))).trans k6
      refine ⟨_, rfl, _, rfl, _, rfl, ⟨#[b]⟩, L, rfl, rfl, mul_chr_ok b (by omega) (by omega), ?_⟩
      rw [mul_chr b (by omega)]
      have lr : (List.replicate L.toNat b).length ≤ 300 := by rw [List.length_replicate]; omega
      refine ⟨SX.S xs, SX.S (List.replicate L.toNat b), rfl, rfl, by rw [SX.S_len, SX.S_len]; omega, ?_⟩
      rw [SX.S_cat]
      obtain ⟨ws, ews⟩ : ∃ ws, ws = xs ++ List.replicate L.toNat b := ⟨_, rfl⟩
      rw [← ews]
      have lw : ws.length ≤ 400 * i + 300 := by rw [ews, List.length_append]; omega
      have low : ∀ c ∈ ws, c < 128 := fun c hc => by
        rw [ews] at hc
        rcases List.mem_append.mp hc with h | h
        · exact lo c h
        · rw [List.eq_of_mem_replicate h]
          exact bl
      refine ⟨_, rfl, ⟨_, rfl⟩, ?_⟩
      refine ⟨_, rfl, l, seed, c6, 4, rfl, S6, by omega, by decide, by decide, fun z7 c7 H7 z70 z71 S7 hc7 k7 => ?_⟩
      refine ⟨z7, rfl, by omega, by omega, fun D hD => lc_range (lo := 0) (n := z7.toNat) (fun j H' => ∃ cs cnt', H' D = some (.lst (cs.map fun c => V.str ⟨#[c]⟩)) ∧ Rng H' l seed cnt' ∧ cnt' ≤ c7 + j ∧ Keep1 H7 (wo H' D) l ∧ cs.length = j ∧ ∀ c ∈ cs, c < 128)
        ⟨[], c7, upd_same, S7.same (same_new hD), by omega, by rw [wo_upd]; exact Keep1.of (same_wo (Same.refl _) hD), rfl, fun _ z => nomatch z⟩ ?_ ?_⟩
      · rintro j H8 hj ⟨cs, c8, gD, S8, hc8, k8, lc, loc⟩
        have nD : D ≠ l := S7.ne hD
        refine ⟨rfl, _, rfl, l, seed, c8, 10, rfl, S8, by omega, by decide, by decide, fun z9 c9 H9 z90 z91 S9 hc9 k9 => ?_⟩
        obtain ⟨ch, cm, ca⟩ := nthN (xs := ("bcde 1 .xa" : Str).cps.toList) (z := z9) z90 z91
        refine ⟨_, z9, ch, rfl, rfl, by show 10 ≤ sizeLine; omega, ca, _, k9 _ _ gD nD, by rw [List.length_map]; omega, cs ++ [ch], c9, ?_, S9.upd nD, by omega, ?_, by rw [List.length_append, lc]; rfl, fun c hc => ?_⟩
        · rw [upd_same, List.map_append]
          rfl
        · rw [wo_upd]
          intro x o e nx
          have nxD : x ≠ D := fun z => by rw [z, hD] at e; cases e
          rw [wo_ne nxD]
          exact k9 _ _ (wo_same _ _ (k8 x o e nx)) nx
        · rcases List.mem_append.mp hc with h | h
          · exact loc c h
          · rw [List.mem_singleton.mp h]
            exact letters_low ch cm
      · rintro H8 ⟨cs, c8, gD, S8, hc8, k8, lc, loc⟩
        refine ⟨"", D, cs.map fun c => (⟨#[c]⟩ : Str), rfl, rfl, SqL.of (by rw [gD, List.map_map]; rfl), ?_, ?_⟩
        · rw [sum_one, List.length_map]
          show cs.length + cs.length * 0 ≤ 16777216
          omega
        rw [join_one]
        refine ⟨SX.S ws, SX.S cs, rfl, rfl, by rw [SX.S_len, SX.S_len]; omega, ?_⟩
        rw [SX.S_cat]
        refine ⟨ws ++ cs, c8, _, _, _, rfl, S8, by omega, ?_, by rw [List.length_append]; omega, fun c hc => ?_⟩
        · intro x o e nx
          have e7 := k7 _ _ (k26 x o e nx) nx
          exact wo_same _ _ (k8 _ _ e7 nx)
        · rcases List.mem_append.mp hc with h | h
          · exact low c h
          · exact loc c h
    · rintro σ H2 ⟨xs, c2, y4, y5, y6, rfl, S2, hc2, k2, lx, lo⟩
      have l11 : xs.length ≤ 4800 := by omega
      obtain ⟨m, rfl⟩ := Int.eq_ofNat_of_zero_le (show 0 ≤ M by omega)
      refine ⟨_, rfl, _, rfl, m, rfl, SX.S xs, rfl, by rw [SX.S_len]; omega, _, rfl, by show 2 ≤ sizeLine; omega, fun t ht => ?_⟩
      have nt := S2.ne ht
      refine q (xs.take m) b c2 t _ ?_ bl (fun c hc => lo c (List.mem_of_mem_take hc)) (Rng.free k2 S2 ht) (S2.upd nt) (by omega) (k2.trans (Keep1.of (same_new ht))) ?_
      · have := List.length_take_le m xs
        omega
      · rw [upd_same, cutS_upto]
end
end Sq
set_option Elab.async false
set_option linter.all false
set_option maxRecDepth 100000
set_option maxHeartbeats 8000000
set_option exponentiation.threshold 2000
namespace Sq
open PySem PySem.Spec PyProof.Rows L2
/-! ### sizes -/
theorem bits3 {R : Int} {b : Nat} (hR : 1 ≤ R) (h : R.natAbs < 2 ^ b) : ∀ x : Int, 0 ≤ x → x ≤ R + 3 → x.natAbs < 2 ^ (b + 2) := fun x h0 h1 => by
  have e : 2 ^ (b + 2) = 4 * 2 ^ b := by rw [Nat.pow_add]; omega
  omega
theorem grow_bits {R : Int} {b : Nat} (hR : 1 ≤ R) (h : R.natAbs < 2 ^ b) : (grow R).natAbs < 2 ^ (2 * b) := by
  have l1 := low_ge hR
  have l2 := low_le hR
  have g : grow R = (R + 3 - low R) * low R - 2 := rw1_low (by omega)
  have gp := grow_pos hR
  have e1 := sq_gap R (low R)
  have d0 : 0 ≤ (2 * low R - (R + 3)) * (2 * low R - (R + 3)) := by
    by_cases c : 0 ≤ 2 * low R - (R + 3)
    · exact Int.mul_nonneg c c
    · have := Int.mul_nonneg (a := -(2 * low R - (R + 3))) (b := -(2 * low R - (R + 3))) (by omega) (by omega)
      rwa [Int.neg_mul_neg] at this
  obtain ⟨B, hB⟩ : ∃ B : Int, B = ((2 ^ b : Nat) : Int) := ⟨_, rfl⟩
  have r1 : R + 3 ≤ B + 2 := by omega
  have m1 : (R + 3) * (R + 3) ≤ (B + 2) * (B + 2) := Int.mul_le_mul r1 r1 (by omega) (by omega)
  have m2 : (B + 2) * (B + 2) = B * B + 4 * B + 4 := by
    simp only [Int.add_mul, Int.mul_add]
    omega
  have m3 : 2 * B ≤ B * B := Int.mul_le_mul_of_nonneg_right (by omega) (by omega)
  have e2 : ((2 ^ (2 * b) : Nat) : Int) = B * B := by
    rw [hB, Nat.two_mul, Nat.pow_add]
    push_cast
    rfl
  omega
theorem up_bits {v : Int} {b : Nat} (hv : 1 ≤ v) (h : v.natAbs < 2 ^ b) : ∀ n, (up n v).natAbs < 2 ^ (b * 2 ^ n)
  | 0 => by
    rw [Nat.pow_zero, Nat.mul_one]
    exact h
  | n + 1 => by
    have := grow_bits (up_pos hv n) (up_bits hv h n)
    rwa [show 2 * (b * 2 ^ n) = b * 2 ^ (n + 1) by rw [Nat.pow_succ, Nat.mul_left_comm, Nat.mul_comm 2]] at this
theorem pow_le_le {i n b c : Nat} (h : i ≤ n) (hb : b * 2 ^ n ≤ c) : b * 2 ^ i ≤ c := Nat.le_trans (Nat.mul_le_mul_left b (Nat.pow_le_pow_right (by decide) h)) hb
section
variable {P : Program} {w : World} {K : PySem.W.Frag} {mg : Str → Option Value} {base : Heap}
def spReachWith : Sp := fun vs H Q _ => ∃ (k R : Int), vs = [.int k, .int R] ∧ 2 ≤ k ∧ (k ≤ R + 1 → CMulW (R + 3 - k) k) ∧ Q (.int (rw1 k R)) H
theorem ok_reachwith {f : Addr} {fd : FuncData} (F : Fun K "reach_with" "reach_with" s_reachwith f fd) : FnOk P w K mg base CX0 1 f fd ["number", "longest"] spReachWith := by
  refine F.ok sc_reachwith (fun vs H Q E h => ?_) (fun cdv A outer s H vs Q E hr h => ?_)
  · obtain ⟨k, R, rfl, _⟩ := h
    rfl
  · obtain ⟨k, R, rfl, h2, h3, q⟩ := h
    refine ⟨_, (pss_cons (ps_if (pt_cmpR op_gt (pv 0) (pe_op op_add (pv 1) pe_int) (nomark _))
 (pss_one (ps_ret (pv 1)))
 pss_nil)
 (pss_one (ps_ret (pe_op op_sub (pe_op op_mulW (pe_op op_sub (pe_op op_add (pv 1) pe_int) (pv 0)) (pv 0)) pe_int)))), ?_⟩
    refine ⟨_, rfl, _, rfl, _, _, rfl, rfl, _, _, rfl, rfl, _, rfl, ite2 (fun c => ?_) (fun c => ?_)⟩
    · have c' : R + 1 < k := of_decide_eq_true c
      have e : rw1 k R = R := by
        unfold rw1
        rw [if_pos (show k > R + 1 from c')]
      rw [e] at q
      exact ⟨_, rfl, q⟩
    · have c' : ¬ R + 1 < k := fun z => c (decide_eq_true z)
      have e : rw1 k R = (R + 3 - k) * k - 2 := by
        unfold rw1
        rw [if_neg (show ¬ k > R + 1 from c')]
      rw [e] at q
      exact ⟨_, rfl, _, _, rfl, rfl, _, rfl, _, _, rfl, rfl, _, rfl, _, _, rfl, rfl, h3 (by omega), _, _, rfl, rfl, q⟩
def spBestNumbers : Sp := fun vs H Q _ => ∃ R : Int, vs = [.int R] ∧ ∀ p, H p = none → Q (.ref p) (upd H p (.lst ((bests R).map V.int)))
theorem ok_bestnumbers {f : Addr} {fd : FuncData} (F : Fun K "best_numbers" "best_numbers" s_bestnumbers f fd) : FnOk P w K mg base CX0 1 f fd ["longest"] spBestNumbers := by
  refine F.ok sc_bestnumbers (fun vs H Q E h => ?_) (fun cdv A outer s H vs Q E hr h => ?_)
  · obtain ⟨R, rfl, _⟩ := h
    rfl
  · obtain ⟨R, rfl, q⟩ := h
    refine ⟨_, (pss_cons (ps_set (i := 1) sc_bestnumbers.nd rfl (Or.inl rfl) (pe_op op_fdiv (pe_op op_add (pv 0) pe_int) pe_int))
 (pss_cons (ps_set (i := 2) sc_bestnumbers.nd rfl (Or.inl rfl) (pe_op op_fdiv (pe_op op_add (pv 0) pe_int) pe_int))
 (pss_cons (ps_if (pt_cmpR op_eq (pv 1) (pv 2) (nomark _))
 (pss_one (ps_ret (pe_lst (pa_cons (pv 1) pa_nil))))
 pss_nil)
 (pss_one (ps_ret (pe_lst (pa_cons (pv 1) (pa_cons (pv 2) pa_nil)))))))), ?_⟩
    refine ⟨_, rfl, _, 3, rfl, rfl, _, 2, rfl, rfl, ⟨by decide, by decide⟩, _, rfl, _, 4, rfl, rfl, _, 2, rfl, rfl, ⟨by decide, by decide⟩, ?_⟩
    refine ⟨_, rfl, _, rfl, rfl, _, rfl, ite2 (fun c => ?_) (fun c => ?_)⟩
    · have c' : V.int (low R) = V.int (high R) := of_decide_eq_true c
      have e : low R = high R := by injection c'
      refine ⟨_, rfl, (by show 1 ≤ sizeLine; exact Nat.le_of_lt (small1000 (by decide))), fun p hp => ?_⟩
      have := q p hp
      unfold bests at this
      rw [if_pos e] at this
      exact this
    · have e : ¬ low R = high R := fun z => c (decide_eq_true (congrArg V.int z))
      refine ⟨_, rfl, _, rfl, (by show 2 ≤ sizeLine; exact Nat.le_of_lt (small1000 (by decide))), fun p hp => ?_⟩
      have := q p hp
      unfold bests at this
      rw [if_neg e] at this
      exact this
def spGrow : Sp := fun vs H Q _ => ∃ (R : Int) (b : Nat), vs = [.int R] ∧ 1 ≤ R ∧ R.natAbs < 2 ^ b ∧ b ≤ 200000 ∧ ∀ H', Same H H' → Q (.int (grow R)) H'
theorem bests_head (R : Int) : ∃ r, bests R = low R :: r := by
  unfold bests
  split
  · exact ⟨_, rfl⟩
  · exact ⟨_, rfl⟩
theorem ok_grow {f : Addr} {fd : FuncData} (F : Fun K "greatest_reach_with_one" "greatest_reach_with_one" s_greatestreachwithone f fd) (D_reachwith : Df P w K mg base 1 "reach_with" ["number", "longest"] spReachWith)
    (D_bestnumbers : Df P w K mg base 1 "best_numbers" ["longest"] spBestNumbers) : FnOk P w K mg base CX0 2 f fd ["longest"] spGrow := by
  refine F.ok sc_greatestreachwithone (fun vs H Q E h => ?_) (fun cdv A outer s H vs Q E hr h => ?_)
  · obtain ⟨R, b, rfl, _⟩ := h
    rfl
  · obtain ⟨R, b, rfl, hR, hb, hb2, q⟩ := h
    refine ⟨_, (pss_one (ps_ret (pe_callD D_reachwith (hr.mono (by omega)) (by rfl) (pa_cons (pe_ix (r := rIxL K) ix_list (pe_callD D_bestnumbers (hr.mono (by omega)) (by rfl) (pa_cons (pv 0) pa_nil)) pe_int (fun _ _ => rfl)) (pa_cons (pv 0) pa_nil))))), ?_⟩
    obtain ⟨r, er⟩ := bests_head R
    refine ⟨_, rfl, R, rfl, fun p hp => ⟨p, (bests R).map V.int, 0, .int (low R), rfl, rfl, SqL.of upd_same, ?_, _, rfl, low R, R, rfl, low_ge hR, fun c => ?_, q _ (same_new hp)⟩⟩
    · rw [er]
      exact atI_nat (j := 0) rfl
    · have l1 := low_ge hR
      have l2 := low_le hR
      exact wide_mul (bits3 hR hb (R + 3 - low R) (by omega) (by omega)) (bits3 hR hb (low R) (by omega) (by omega)) (by omega) (by omega) (by omega)
end
section
variable {P : Program} {w : World} {K : PySem.W.Frag} {mg : Str → Option Value} {base : Heap}
/-! ### best_reach -/
def spBestReach : Sp := fun vs H Q _ => ∃ (n : Nat) (v : Int) (b : Nat), vs = [.int (n : Int), .int v] ∧ 1 ≤ v ∧ v.natAbs < 2 ^ b ∧ b * 2 ^ n ≤ 200000 ∧ n < 1000000 ∧ ∀ H', Same H H' → Q (.int (up n v)) H'
abbrev FBestReach (K : PySem.W.Frag) (f : Addr) (fd : FuncData) : Prop := FunD K "best_reach" "best_reach" (defArgs s_bestreach) (defBody s_bestreach) (defScope s_bestreach) [.int 1] [] f fd
theorem ok_bestreach {f : Addr} {fd : FuncData} (F : FBestReach K f fd) (B : Bi mg) (D_checknumber : Df P w K mg base 1 "check_number" ["number", "least"] spCheckNumber)
    (D_greatestreachwithone : Df P w K mg base 2 "greatest_reach_with_one" ["longest"] spGrow) : FnOk P w K mg base CX0 3 f fd ["steps", "most"] spBestReach := by
  refine okD F sc_bestreach (fun vs H Q E h => ?_) (fun cdv A outer s H vs Q E hr h => ?_)
  · obtain ⟨n, v, b, rfl, _⟩ := h
    rfl
  · obtain ⟨n, v, b, rfl, hv, hb, hb2, hn, q⟩ := h
    refine ⟨_, (pss_cons (ps_expr (pe_callD D_checknumber (hr.mono (by omega)) (by rfl) (pa_cons (pv 0) (pa_cons pe_int pa_nil))))
 (pss_cons (ps_expr (pe_callD D_checknumber (hr.mono (by omega)) (by rfl) (pa_cons (pv 1) (pa_cons pe_int pa_nil))))
 (pss_cons (ps_set (i := 2) sc_bestreach.nd rfl (Or.inl rfl) (pv 1))
 (pss_cons (ps_for PassesOwn.never rfl (pi_range1 (by rfl) B.n_range (pa_cons (pv 0) pa_nil)) (pg_name (i := 3) sc_bestreach.nd rfl (Or.inl rfl))
 (pss_one (ps_set (i := 2) sc_bestreach.nd rfl (Or.inl rfl) (pe_callD D_greatestreachwithone (hr.mono (by omega)) (by rfl) (pa_cons (pv 2) pa_nil)))))
 (pss_one (ps_ret (pv 2))))))), ?_⟩
    refine ⟨_, rfl, (n : Int), 0, rfl, by omega, _, rfl, v, 1, rfl, hv, _, rfl, ?_⟩
    refine ⟨_, rfl, (n : Int), rfl, by omega, by omega, for_range (lo := 0) (n := (n : Int).toNat) (fun i σ H' => Same H H' ∧ ∃ y, σ = [some (.int (n : Int)), some (.int v), some (.int (up i v)), y]) ⟨Same.refl H, none, rfl⟩ ?_ ?_⟩
    · rintro i σ H' hi ⟨sm, y, rfl⟩
      refine ⟨_, rfl, up i v, b * 2 ^ i, rfl, up_pos hv i, up_bits hv hb i, pow_le_le (by omega) hb2, fun H2 s2 => ⟨sm.trans s2, _, rfl⟩⟩
    · rintro σ H' ⟨sm, y, rfl⟩
      refine ⟨_, rfl, ?_⟩
      have e : (n : Int).toNat = n := by omega
      rw [e]
      exact q _ sm
/-! ### fewest_steps -/
def spFewest : Sp := fun vs H Q _ => ∃ (l v : Int) (t b : Nat), vs = [.int l, .int v] ∧ 0 ≤ l ∧ 1 ≤ v ∧ v.natAbs < 2 ^ b ∧ b * 2 ^ t ≤ 200000 ∧ l ≤ up t v ∧ (∀ i, i < t → up i v < l) ∧ ∀ H', Same H H' → Q (.int (t : Int)) H'
abbrev FFewest (K : PySem.W.Frag) (f : Addr) (fd : FuncData) : Prop := FunD K "fewest_steps" "fewest_steps" (defArgs s_feweststeps) (defBody s_feweststeps) (defScope s_feweststeps) [.int 1] [] f fd
theorem ok_feweststeps {f : Addr} {fd : FuncData} (F : FFewest K f fd) (B : Bi mg) (D_checknumber : Df P w K mg base 1 "check_number" ["number", "least"] spCheckNumber)
    (D_greatestreachwithone : Df P w K mg base 2 "greatest_reach_with_one" ["longest"] spGrow) : FnOk P w K mg base CX0 3 f fd ["length", "most"] spFewest := by
  refine okD F sc_feweststeps (fun vs H Q E h => ?_) (fun cdv A outer s H vs Q E hr h => ?_)
  · obtain ⟨l, v, t, b, rfl, _⟩ := h
    rfl
  · obtain ⟨l, v, t, b, rfl, h0, hv, hb, hb2, ht, hl, q⟩ := h
    refine ⟨_, (pss_cons (ps_expr (pe_callD D_checknumber (hr.mono (by omega)) (by rfl) (pa_cons (pv 0) (pa_cons pe_int pa_nil))))
 (pss_cons (ps_expr (pe_callD D_checknumber (hr.mono (by omega)) (by rfl) (pa_cons (pv 1) (pa_cons pe_int pa_nil))))
 (pss_cons (ps_set (i := 2) sc_feweststeps.nd rfl (Or.inl rfl) pe_int)
 (pss_cons (ps_set (i := 3) sc_feweststeps.nd rfl (Or.inl rfl) (pv 1))
 (pss_cons (ps_while PassesOwn.never (pt_cmpR op_lt (pv 3) (pv 0) (nomark _))
 (pss_cons (ps_set (i := 3) sc_feweststeps.nd rfl (Or.inl rfl) (pe_callD D_greatestreachwithone (hr.mono (by omega)) (by rfl) (pa_cons (pv 3) pa_nil)))
 (pss_one (ps_aug (i := 2) sc_feweststeps.nd rfl (Or.inl rfl) pe_int ip_add))))
 (pss_one (ps_ret (pv 2)))))))), ?_⟩
    refine ⟨_, rfl, l, 0, rfl, h0, _, rfl, v, 1, rfl, hv, _, rfl, ?_⟩
    refine ⟨fun m σ H' => ∃ i : Nat, i + m = t ∧ Same H H' ∧ σ = [some (.int l), some (.int v), some (.int (i : Int)), some (.int (up i v))], ⟨t, 0, by omega, Same.refl H, rfl⟩, ?_⟩
    rintro m σ H' ⟨i, him, sm, rfl⟩
    refine ⟨_, rfl, _, rfl, up i v, l, rfl, rfl, _, rfl, ?_⟩
    by_cases c : up i v < l
    · rw [decide_eq_true c]
      have hi : i < t := by
        by_cases z : i < t
        · exact z
        · have e : i = t := by omega
          subst e
          omega
      refine iteT ⟨fun σ' H'' => ∃ m', m' < m ∧ ∃ i : Nat, i + m' = t ∧ Same H H'' ∧ σ' = [some (.int l), some (.int v), some (.int (i : Int)), some (.int (up i v))], fun _ _ h => h, ?_⟩
      refine ⟨_, rfl, up i v, b * 2 ^ i, rfl, up_pos hv i, up_bits hv hb i, pow_le_le (by omega) hb2, fun H2 s2 => ⟨_, rfl, (i : Int), 1, rfl, rfl, ?_⟩⟩
      exact ⟨m - 1, by omega, i + 1, by omega, sm.trans s2, rfl⟩
    · rw [decide_eq_false c]
      have e : i = t := by
        by_cases z : i < t
        · exact absurd (hl i z) c
        · omega
      subst e
      exact iteF ⟨_, rfl, q _ sm⟩
/-! ### reach -/
def RchOk : List Int → Int → Prop
  | [], _ => True
  | k :: ks, v => 2 ≤ k ∧ (k ≤ rch ks v + 1 → CMulW (rch ks v + 3 - k) k) ∧ RchOk ks v
def spReach (K : PySem.W.Frag) : Sp := fun vs H Q _ => ∃ (a : Addr) (ks : List Int) (v : Int), vs = [.ref a, .int v] ∧ SqL K H a (ks.map V.int) ∧ (∀ k ∈ ks, 2 ≤ k) ∧ RchOk ks v ∧ 1 ≤ v ∧ ∀ H', Same H H' → Q (.int (rch ks v)) H'
theorem RchOk.drop : ∀ {ks : List Int} {v : Int} {k : Int} {r : List Int} (i : Nat), RchOk ks v → ks.drop i = k :: r → 2 ≤ k ∧ (k ≤ rch r v + 1 → CMulW (rch r v + 3 - k) k)
  | [], v, k, r, i, h, e => by simp at e
  | x :: xs, v, k, r, 0, h, e => by
    rw [List.drop_zero] at e
    cases e
    exact ⟨h.1, h.2.1⟩
  | x :: xs, v, k, r, i + 1, h, e => RchOk.drop (ks := xs) i h.2.2 e
abbrev FReach (K : PySem.W.Frag) (f : Addr) (fd : FuncData) : Prop := FunD K "reach" "reach" (defArgs s_reach) (defBody s_reach) (defScope s_reach) [.int 1] [] f fd
theorem ok_reach {f : Addr} {fd : FuncData} (F : FReach K f fd) (B : Bi mg) (D_checklist : Df P w K mg base 1 "check_list" ["replacements"] (spCheckList K))
    (D_checknumber : Df P w K mg base 1 "check_number" ["number", "least"] spCheckNumber) (D_reachwith : Df P w K mg base 1 "reach_with" ["number", "longest"] spReachWith) :
    FnOk P w K mg base CX0 2 f fd ["replacements", "most"] (spReach K) := by
  refine okD F sc_reach (fun vs H Q E h => ?_) (fun cdv A outer s H vs Q E hr h => ?_)
  · obtain ⟨a, ks, v, rfl, _⟩ := h
    rfl
  · obtain ⟨a, ks, v, rfl, hS, hk, hok, hv, q⟩ := h
    refine ⟨_, (pss_cons (ps_expr (pe_callD D_checklist (hr.mono (by omega)) (by rfl) (pa_cons (pv 0) pa_nil)))
 (pss_cons (ps_expr (pe_callD D_checknumber (hr.mono (by omega)) (by rfl) (pa_cons (pv 1) (pa_cons pe_int pa_nil))))
 (pss_cons (ps_set (i := 2) sc_reach.nd rfl (Or.inl rfl) (pv 1))
 (pss_cons (ps_for PassesOwn.never rfl (pi_reversed (by rfl) B.n_reversed (pa_cons (pv 0) pa_nil)) (pg_name (i := 3) sc_reach.nd rfl (Or.inl rfl))
 (pss_one (ps_set (i := 2) sc_reach.nd rfl (Or.inl rfl) (pe_callD D_reachwith (hr.mono (by omega)) (by rfl) (pa_cons (pv 3) (pa_cons (pv 2) pa_nil))))))
 (pss_one (ps_ret (pv 2))))))), ?_⟩
    refine ⟨.ref a, rfl, a, ks, rfl, hS, hk, fun H1 s1 => ?_⟩
    refine ⟨_, rfl, v, 1, rfl, hv, ?_⟩
    refine ⟨_, rfl, ?_⟩
    have h1 := s1.seq hS
    refine ⟨_, rfl, a, ks.map V.int, rfl, h1, for_it walk_rev (fun i σ H' => H' = H1 ∧ i ≤ ks.length ∧ ∃ y, σ = [some (.ref a), some (.int v), some (.int (rch (ks.drop (ks.length - i)) v)), y]) ⟨rfl, Nat.zero_le _, none, ?_⟩ (fun i σ H' _ h => by rw [h.1]; exact h1) ?_ ?_⟩
    · rw [Nat.sub_zero, List.drop_length]
      rfl
    · rintro i x σ H' H2 hi ⟨rfl, hle, y, rfl⟩ ⟨rfl, e⟩
      rw [List.length_map] at hi e
      obtain ⟨k, hk', rfl⟩ := map_at e
      have hj : ks.length - 1 - i < ks.length := by omega
      have ed : ks.drop (ks.length - (i + 1)) = k :: ks.drop (ks.length - i) := by
        rw [show ks.length - (i + 1) = ks.length - 1 - i by omega, List.drop_eq_getElem_cons hj]
        rw [List.getElem?_eq_getElem hj] at hk'
        rw [Option.some.inj hk', show ks.length - 1 - i + 1 = ks.length - i by omega]
      have hm := hok.drop _ ed
      refine ⟨_, rfl, _, rfl, k, _, rfl, hm.1, hm.2, rfl, hi, some (.int k), ?_⟩
      rw [ed]
      rfl
    · rintro σ H' ⟨rfl, hle, y, rfl⟩
      refine ⟨_, rfl, ?_⟩
      rw [List.length_map, Nat.sub_self, List.drop_zero]
      exact q _ s1
end
end Sq
set_option Elab.async false
set_option linter.all false
set_option maxRecDepth 100000
set_option maxHeartbeats 8000000
set_option exponentiation.threshold 2000
namespace Sq
open PySem PySem.Spec PyProof.Rows L2
section
variable {P : Program} {w : World} {K : PySem.W.Frag} {mg : Str → Option Value} {base : Heap}
def spBestChoices : Sp := fun vs H Q _ => ∃ (n : Nat) (v : Int) (b : Nat), vs = [.int (n : Int), .int v] ∧ 1 ≤ v ∧ v.natAbs < 2 ^ b ∧ b * 2 ^ n ≤ 200000 ∧ n < 1000 ∧
  ∀ p as H', H p = none → Same H H' → H' p = some (.lst (as.map V.ref)) → RowsAt H' as (chs n v) → Q (.ref p) H'
theorem ok_bestchoices {f : Addr} {fd : FuncData} (F : Fun K "best_choices" "best_choices" s_bestchoices f fd) (B : Bi mg) (D_bestnumbers : Df P w K mg base 1 "best_numbers" ["longest"] spBestNumbers)
    (D_greatestreachwithone : Df P w K mg base 2 "greatest_reach_with_one" ["longest"] spGrow) : FnOk P w K mg base CX0 3 f fd ["steps", "most"] spBestChoices := by
  refine F.ok sc_bestchoices (fun vs H Q E h => ?_) (fun cdv A outer s H vs Q E hr h => ?_)
  · obtain ⟨n, v, b, rfl, _⟩ := h
    rfl
  · obtain ⟨n, v, b, rfl, hv, hb, hb2, hn, q⟩ := h
    refine ⟨_, (pss_cons (ps_set (i := 2) sc_bestchoices.nd rfl (Or.inl rfl) (pe_lst pa_nil))
 (pss_cons (ps_set (i := 3) sc_bestchoices.nd rfl (Or.inl rfl) (pv 1))
 (pss_cons (ps_for PassesOwn.never rfl (pi_range1 (by rfl) B.n_range (pa_cons (pv 0) pa_nil)) (pg_name (i := 4) sc_bestchoices.nd rfl (Or.inl rfl))
 (pss_cons (ps_expr (pe_bm PySem.F.plainAttrs_list PySem.F.slot_list_append PySem.F.type_list_append mt_append (pv 2) (pa_cons (pe_callD D_bestnumbers (hr.mono (by omega)) (by rfl) (pa_cons (pv 3) pa_nil)) pa_nil)))
 (pss_one (ps_set (i := 3) sc_bestchoices.nd rfl (Or.inl rfl) (pe_callD D_greatestreachwithone (hr.mono (by omega)) (by rfl) (pa_cons (pv 3) pa_nil))))))
 (pss_cons (ps_expr (pe_bm0 PySem.F.plainAttrs_list PySem.F.slot_list_reverse PySem.F.type_list_reverse mt_reverse (pv 2)))
 (pss_one (ps_ret (pv 2))))))), ?_⟩
    refine ⟨Nat.zero_le _, fun p hp => ?_⟩
    refine ⟨_, rfl, _, rfl, (n : Int), rfl, by omega, by omega, for_range (lo := 0) (n := (n : Int).toNat) (fun i σ H' => ∃ as y, σ = [some (.int (n : Int)), some (.int v), some (.ref p), some (.int (up i v)), y] ∧ Same H H' ∧ H' p = some (.lst (as.map V.ref)) ∧ p ∉ as ∧ RowsAt H' as (chs i v).reverse)
      ⟨[], none, rfl, same_new hp, upd_same, (fun z => nomatch z), trivial⟩ ?_ ?_⟩
    · rintro i σ H' hi ⟨as, y, rfl, sm, hp', off, ra⟩
      have la : as.length = i := by rw [ra.len, List.length_reverse, chs_len]
      refine ⟨_, rfl, .inl ⟨rfl, _, SqL.of hp'⟩, _, rfl, up i v, rfl, fun r hr' => ?_⟩
      have npr : p ≠ r := ne_of_none hp' hr'
      have hp2 : (upd H' r (.lst ((bests (up i v)).map V.int))) p = some (.lst (as.map V.ref)) := by rw [upd_ne npr]; exact hp'
      refine ⟨p, _, _, rfl, rfl, hp2, (by rw [List.length_map]; exact small1000 (by omega)), ?_⟩
      refine ⟨_, rfl, up i v, b * 2 ^ i, rfl, up_pos hv i, up_bits hv hb i, pow_le_le (by omega) hb2, fun H3 s3 => ?_⟩
      refine ⟨as ++ [r], _, rfl, fun c o e => s3 _ _ ?_, s3 _ _ ?_, ?_, RowsAt.same s3 ?_⟩
      · rw [upd_ne (ne_of_none e hp)]
        exact same_new hr' _ _ (sm _ _ e)
      · rw [upd_same, List.map_append]
        rfl
      · intro z
        rcases List.mem_append.mp z with z | z
        · exact off z
        · exact npr (List.mem_singleton.mp z)
      · show RowsAt _ _ (bests (up i v) :: chs i v).reverse
        rw [List.reverse_cons]
        refine (RowsAt.upd (RowsAt.same (same_new hr') ra) off).app ⟨?_, trivial⟩
        rw [upd_ne npr.symm, upd_same]
    · rintro σ H' ⟨as, y, rfl, sm, hp', off, ra⟩
      refine ⟨_, rfl, .inl ⟨rfl, _, SqL.of hp'⟩, p, _, rfl, rfl, hp', ?_⟩
      refine ⟨_, rfl, ?_⟩
      have e : (n : Int).toNat = n := by omega
      rw [e] at ra
      have r2 := ra.rev
      rw [List.reverse_reverse] at r2
      refine q p as.reverse _ hp (fun c o e => ?_) ?_ (r2.upd fun z => off (List.mem_reverse.mp z))
      · rw [upd_ne (ne_of_none e hp)]
        exact sm _ _ e
      · rw [upd_same, List.map_reverse]
def spListAt : Sp := fun vs H Q _ => ∃ (p : Addr) (z : Int) (as : List Addr) (cs : List (List Int)), vs = [.ref p, .int z] ∧ H p = some (.lst (as.map V.ref)) ∧ RowsAt H as cs ∧ Full cs ∧ (∀ c ∈ cs, c.length < 1000) ∧ cs.length < 1000 ∧
  ∀ q H', H q = none → Same H H' → H' q = some (.lst ((pick cs z).map V.int)) → Q (.ref q) H'
theorem ok_listat {f : Addr} {fd : FuncData} (F : Fun K "list_at" "list_at" s_listat f fd) (B : Bi mg) : FnOk P w K mg base CX0 1 f fd ["choices", "place"] spListAt := by
  refine F.ok sc_listat (fun vs H Q E h => ?_) (fun cdv A outer s H vs Q E hr h => ?_)
  · obtain ⟨p, z, as, cs, rfl, _⟩ := h
    rfl
  · obtain ⟨p, z, as, cs, rfl, hp, ra, full, few, fw, q⟩ := h
    refine ⟨_, (pss_cons (ps_set (i := 2) sc_listat.nd rfl (Or.inl rfl) (pe_lst pa_nil))
 (pss_cons (ps_set (i := 3) sc_listat.nd rfl (Or.inl rfl) (pv 1))
 (pss_cons (ps_for PassesOwn.never rfl (pi_reversed (by rfl) B.n_reversed (pa_cons (pv 0) pa_nil)) (pg_name (i := 4) sc_listat.nd rfl (Or.inl rfl))
 (pss_cons (ps_expr (pe_bm PySem.F.plainAttrs_list PySem.F.slot_list_append PySem.F.type_list_append mt_append (pv 2) (pa_cons (pe_ix (r := rIxL K) ix_list (pv 4) (pe_op op_mod (pv 3) (pe_callB (id := "len") (r := rLenK K) call_lenK (by rfl) B.n_len (by decide +kernel) (pa_cons (pv 4) pa_nil))) (fun _ _ => rfl)) pa_nil)))
 (pss_one (ps_set (i := 3) sc_listat.nd rfl (Or.inl rfl) (pe_op op_fdiv (pv 3) (pe_callB (id := "len") (r := rLenK K) call_lenK (by rfl) B.n_len (by decide +kernel) (pa_cons (pv 4) pa_nil)))))))
 (pss_cons (ps_expr (pe_bm0 PySem.F.plainAttrs_list PySem.F.slot_list_reverse PySem.F.type_list_reverse mt_reverse (pv 2)))
 (pss_one (ps_ret (pv 2))))))), ?_⟩
    refine ⟨Nat.zero_le _, fun d hd => ?_⟩
    have la := ra.len
    have npd : p ≠ d := ne_of_none hp hd
    refine ⟨_, rfl, _, rfl, p, as.map V.ref, rfl, SqL.of (same_new hd _ _ hp), for_it walk_rev (fun i σ H' => ∃ y, i ≤ cs.length ∧ Same H H' ∧ σ = [some (.ref p), some (.int z), some (.ref d), some (.int (z / lens (cs.drop (cs.length - i)))), y] ∧ H' d = some (.lst ((pick (cs.drop (cs.length - i)) z).reverse.map V.int)))
      ⟨none, Nat.zero_le _, same_new hd, ?_, ?_⟩ (fun i σ H' _ h => ?_) ?_ ?_⟩
    · rw [Nat.sub_zero, List.drop_length]
      show _ = [_, _, _, some (V.int (z / 1)), _]
      rw [Int.ediv_one]
      rfl
    · rw [Nat.sub_zero, List.drop_length]
      exact upd_same
    · obtain ⟨y, _, sm, _⟩ := h
      exact SqL.of (sm _ _ hp)
    · rintro i x σ H' H2 hi ⟨y, hle, sm, rfl, hd'⟩ ⟨rfl, e⟩
      rw [List.length_map] at hi e
      obtain ⟨a, ha, rfl⟩ := map_ref e
      have hj : cs.length - 1 - i < cs.length := by omega
      obtain ⟨c, hc⟩ : ∃ c, cs[cs.length - 1 - i]? = some c := ⟨_, List.getElem?_eq_getElem hj⟩
      have hcm : c ∈ cs := List.mem_of_getElem? hc
      obtain ⟨a', ha', hac⟩ := ra.get hc
      rw [la] at ha
      rw [ha] at ha'
      cases ha'
      have hac' := sm _ _ hac
      have ed : cs.drop (cs.length - (i + 1)) = c :: cs.drop (cs.length - i) := by
        rw [show cs.length - (i + 1) = cs.length - 1 - i by omega, List.drop_eq_getElem_cons hj]
        rw [List.getElem?_eq_getElem hj] at hc
        rw [Option.some.inj hc, show cs.length - 1 - i + 1 = cs.length - i by omega]
      have lc := few c hcm
      have lp := full c hcm
      have m0 := Int.emod_nonneg (z / lens (cs.drop (cs.length - i))) (show (c.length : Int) ≠ 0 by omega)
      have m1 := Int.emod_lt_of_pos (z / lens (cs.drop (cs.length - i))) (show 0 < (c.length : Int) by omega)
      have lt : ((z / lens (cs.drop (cs.length - i))) % (c.length : Int)).toNat < c.length := by omega
      have el : ((c.map V.int).length : Int) = (c.length : Int) := by rw [List.length_map]
      -- found.append(numbers[rest % len(numbers)])
      refine ⟨_, rfl, .inl ⟨rfl, _, SqL.of hd'⟩, _, rfl, _, rfl, _, rfl, a, c.map V.int, rfl, .inl (SqL.of hac'), _, _, rfl, rfl, (by rw [el]; omega), a, c.map V.int, _, .int (c.getD ((z / lens (cs.drop (cs.length - i))) % (c.length : Int)).toNat 0), rfl, rfl, SqL.of hac', ?_, ?_⟩
      · rw [el]
        refine at_of (j := ((z / lens (cs.drop (cs.length - i))) % (c.length : Int)).toNat) (by omega) ?_
        rw [List.getElem?_map, List.getElem?_eq_getElem lt, List.getD_eq_getElem?_getD, List.getElem?_eq_getElem lt]
        rfl
      · have lfd : (List.map V.int (pick (cs.drop (cs.length - i)) z).reverse).length < 1000 := by
          rw [List.length_map, List.length_reverse, pick_len, List.length_drop]
          omega
        refine ⟨d, _, _, rfl, rfl, hd', small1000 (Nat.le_of_lt lfd), ?_⟩
        have nad : a ≠ d := ne_of_none hac hd
        have hac2 : (upd H2 d (.lst (List.map V.int (pick (cs.drop (cs.length - i)) z).reverse ++ [.int (c.getD ((z / lens (cs.drop (cs.length - i))) % (c.length : Int)).toNat 0)]))) a = some (.lst (c.map V.int)) := by rw [upd_ne nad]; exact hac'
        refine ⟨_, rfl, _, rfl, a, c.map V.int, rfl, .inl (SqL.of hac2), _, _, rfl, rfl, ⟨by rw [el]; omega, by rw [el]; omega⟩, ?_⟩
        refine ⟨some (.ref a), by omega, fun b o e => ?_, ?_, ?_⟩
        · rw [upd_ne (ne_of_none e hd)]
          exact sm _ _ e
        · rw [ed, el]
          show _ = [_, _, _, some (V.int (z / ((c.length : Int) * lens (cs.drop (cs.length - i))))), _]
          rw [Int.mul_comm (c.length : Int), ← Int.ediv_ediv_of_nonneg (Int.le_of_lt (lens_pos (fun x hx => full x (List.mem_of_mem_drop hx))))]
          rfl
        · rw [upd_same, ed]
          show _ = some (HO.lst ((_ :: pick (cs.drop (cs.length - i)) z).reverse.map V.int))
          rw [List.reverse_cons, List.map_append]
          rfl
    · rintro σ H' ⟨y, hle, sm, rfl, hd'⟩
      have e0 : cs.drop (cs.length - (as.map V.ref).length) = cs := by
        rw [List.length_map, la, Nat.sub_self, List.drop_zero]
      rw [e0] at hd'
      refine ⟨_, rfl, .inl ⟨rfl, _, SqL.of hd'⟩, d, _, rfl, rfl, hd', ?_⟩
      refine ⟨_, rfl, q d _ hd (fun b o e => ?_) ?_⟩
      · rw [upd_ne (ne_of_none e hd)]
        exact sm _ _ e
      · rw [upd_same, ← List.map_reverse, List.reverse_reverse]
end
/-- the rows that best_lists gives -/
def rowsOf (n : Nat) (v : Int) (m : Nat) : List (List Int) := (List.range m).map fun j : Nat => pick (chs n v) (j : Int)
theorem rowsOf_succ (n : Nat) (v : Int) (m : Nat) : rowsOf n v (m + 1) = rowsOf n v m ++ [pick (chs n v) (m : Int)] := by
  unfold rowsOf
  rw [List.range_succ, List.map_append]
  rfl
theorem lens_app : ∀ (a b : List (List Int)), lens (a ++ b) = lens a * lens b
  | [], b => (Int.one_mul _).symm
  | c :: a, b => by
    show (c.length : Int) * lens (a ++ b) = (c.length : Int) * lens a * lens b
    rw [lens_app a b, Int.mul_assoc]
theorem rowsOf_len (n : Nat) (v : Int) (m : Nat) : (rowsOf n v m).length = m := by
  unfold rowsOf
  rw [List.length_map, List.length_range]
section
variable {P : Program} {w : World} {K : PySem.W.Frag} {mg : Str → Option Value} {base : Heap}
def spBestLists : SpG := fun vs H Q _ => ∃ (n : Nat) (v : Int) (b : Nat), vs = [.int (n : Int), .int v] ∧ 1 ≤ v ∧ v.natAbs < 2 ^ b ∧ b * 2 ^ n ≤ 200000 ∧ n ≤ 8 ∧
  ∀ as H', Same H H' → RowsAt H' as (rowsOf n v (lens (chs n v)).toNat) → (∀ a ∈ as, H a = none) → Q (as.map V.ref) H'
abbrev FBestLists (K : PySem.W.Frag) (f : Addr) (fd : FuncData) : Prop := FunD K "best_lists" "best_lists" (defArgs s_bestlists) (defBody s_bestlists) (defScope s_bestlists) [.int 1] [] f fd
theorem ok_bestlists {f : Addr} {fd : FuncData} (F : FBestLists K f fd) (B : Bi mg) (D_checknumber : Df P w K mg base 1 "check_number" ["number", "least"] spCheckNumber)
    (D_bestchoices : Df P w K mg base 3 "best_choices" ["steps", "most"] spBestChoices) (D_listat : Df P w K mg base 1 "list_at" ["choices", "place"] spListAt) : GFn P w K mg base 5 f fd ["steps", "most"] spBestLists := by
  obtain ⟨oc, od, dV, kV, doc, pm, an, cdv, ct, osl, rfl, lk, hcd, hD, hK⟩ := F.ex
  refine gfn_of (k := 4) lk hcd sc_bestlists (fun vs H Q E h => ?_) (fun A outer s H vs Q E pn hr h => ?_)
  · obtain ⟨n, v, b, rfl, _⟩ := h
    rfl
  · obtain ⟨n, v, b, rfl, hv, hb, hb2, hn, q⟩ := h
    refine ⟨_, (gss_cons (gs_ps (ps_expr (pe_callD D_checknumber (hr.mono (by omega)) (by rfl) (pa_cons (pv 0) (pa_cons pe_int pa_nil)))))
 (gss_cons (gs_ps (ps_expr (pe_callD D_checknumber (hr.mono (by omega)) (by rfl) (pa_cons (pv 1) (pa_cons pe_int pa_nil)))))
 (gss_cons (gs_ps (ps_set (i := 2) sc_bestlists.nd rfl (Or.inl rfl) (pe_callD D_bestchoices (hr.mono (by omega)) (by rfl) (pa_cons (pv 0) (pa_cons (pv 1) pa_nil)))))
 (gss_cons (gs_ps (ps_set (i := 3) sc_bestlists.nd rfl (Or.inl rfl) pe_int))
 (gss_cons (gs_ps (ps_for owns_gcx rfl (pi_list (pv 2)) (pg_name (i := 4) sc_bestlists.nd rfl (Or.inl rfl))
 (pss_one (ps_set (i := 3) sc_bestlists.nd rfl (Or.inl rfl) (pe_op op_mul (pv 3) (pe_callB (id := "len") (r := rLenK K) call_lenK (by rfl) B.n_len (by decide +kernel) (pa_cons (pv 4) pa_nil)))))))
 (gss_cons (gs_for owns_gcx rfl (pi_range1 (by rfl) B.n_range (pa_cons (pv 3) pa_nil)) (pg_name (i := 5) sc_bestlists.nd rfl (Or.inl rfl))
 (gss_cons (gs_yield (pe_callD D_listat (hr.mono (by omega)) (by rfl) (pa_cons (pv 2) (pa_cons (pv 5) pa_nil))))
 gss_nil))
 gss_nil)))))), ?_⟩
    refine ⟨_, rfl, (n : Int), 0, rfl, by omega, _, rfl, v, 1, rfl, hv, ?_⟩
    refine ⟨_, rfl, _, rfl, n, v, b, rfl, hv, hb, hb2, by omega, fun p as H1 hp s1 hp1 ra => ?_⟩
    have full := chs_full n v
    have la := ra.len
    have lc := chs_len n v
    have few : ∀ c ∈ chs n v, c.length ≤ 2 := fun c hc => by
      obtain ⟨i, _, rfl⟩ := chs_mem hc
      rw [bests_len]
      split <;> omega
    refine ⟨_, rfl, p, rfl, ⟨_, SqL.of hp1⟩, for_list (K := K) (a := p) (xs := as.map V.ref) (fun i σ H' => H' = H1 ∧ ∃ y4 y5, σ = [some (.int (n : Int)), some (.int v), some (.ref p), some (.int (lens ((chs n v).take i))), y4, y5])
      ⟨rfl, none, none, rfl⟩ (fun i σ H' _ h => by rw [h.1]; exact SqL.of hp1) ?_ ?_⟩
    · rintro i x σ H' hi ⟨rfl, y4, y5, rfl⟩
      obtain ⟨a, ha, rfl⟩ := map_ref hi
      have hil : i < (chs n v).length := by
        have := (List.getElem?_eq_some_iff.mp ha).1
        omega
      obtain ⟨c, hc⟩ : ∃ c, (chs n v)[i]? = some c := ⟨_, List.getElem?_eq_getElem hil⟩
      obtain ⟨a', ha', hac⟩ := ra.get hc
      rw [ha] at ha'
      cases ha'
      have lc2 := few c (List.mem_of_getElem? hc)
      refine ⟨_, rfl, _, rfl, a, c.map V.int, rfl, .inl (SqL.of hac), _, _, rfl, rfl, .inr ⟨by rw [List.length_map]; omega, by rw [List.length_map]; omega⟩, rfl, some (.ref a), y5, ?_⟩
      have e : (chs n v).take (i + 1) = (chs n v).take i ++ [c] := by rw [List.take_add_one, hc]; rfl
      rw [e, lens_app, List.length_map]
      show _ = [_, _, _, some (V.int (lens ((chs n v).take i) * ((c.length : Int) * 1))), _, _]
      rw [Int.mul_one]
      rfl
    · rintro σ H' ⟨rfl, y4, y5, rfl⟩
      have e0 : (chs n v).take (as.map V.ref).length = chs n v := List.take_of_length_le (by rw [List.length_map, la]; exact Nat.le_refl _)
      rw [e0]
      have lp := lens_pos full
      have ll := lens_le hn v
      refine ⟨_, rfl, lens (chs n v), rfl, by omega, by omega, gfor_it walk_range (fun i ys σ H2 => ∃ as' y5, σ = [some (.int (n : Int)), some (.int v), some (.ref p), some (.int (lens (chs n v))), y4, y5] ∧ Same H' H2 ∧ RowsAt H2 as' (rowsOf n v i) ∧ ys = as'.map V.ref ∧ ∀ a ∈ as', H a = none)
        ⟨[], y5, rfl, Same.refl _, trivial, rfl, fun a z => nomatch z⟩ (fun _ _ _ _ _ _ => trivial) ?_ ?_⟩
      · rintro i x ys σ H2 H3 hi ⟨as', y5, rfl, sm, ra', rfl, fr⟩ ⟨rfl, rfl⟩
        have ly : as'.length = i := by rw [ra'.len, rowsOf_len]
        refine ⟨by rw [List.length_map]; exact Nat.lt_of_le_of_lt (show as'.length ≤ 999 by omega) (by rw [sizeLine_eq]; omega), ?_⟩
        refine ⟨_, rfl, _, rfl, p, _, as, chs n v, rfl, sm _ _ hp1, ra.same sm, full, fun c hc => by have := few c hc; omega, by omega, fun q' H4 hq s4 hq4 => ?_⟩
        have ez : (0 : Int) + (i : Int) = (i : Int) := Int.zero_add _
        rw [ez] at hq4
        refine ⟨as' ++ [q'], _, rfl, sm.trans s4, ?_, ?_, ?_⟩
        · rw [rowsOf_succ]
          exact (ra'.same s4).app ⟨hq4, trivial⟩
        · rw [List.map_append]
          rfl
        · intro a z
          rcases List.mem_append.mp z with z | z
          · exact fr a z
          · rw [List.mem_singleton.mp z]
            exact (s1.trans sm).free hq
      · rintro ys σ H2 ⟨as', y5, rfl, sm, ra', rfl, fr⟩
        exact q as' H2 (s1.trans sm) ra' fr
end
section
variable {P : Program} {w : World} {K : PySem.W.Frag} {mg : Str → Option Value} {base : Heap}
theorem bestreach_d {f : Addr} {fd : FuncData} (F : FBestReach K f fd) (G : FnOk P w K mg base CX0 3 f fd ["steps", "most"] spBestReach) (g : mg "best_reach" = some (.ref f)) :
    Df P w K mg base 3 "best_reach" ["steps", "most"] spBestReach ∧ Dv P w K mg base 3 "best_reach" ["steps", "most"] [.int 1] spBestReach := by
  refine ⟨?_, ?_⟩
  · obtain ⟨ds, hd, hb⟩ := F.binds1 (ps := ["steps", "most"]) 2 1 (by simp) rfl (fun T kV doc pm an cdv ct us its h1 h2 => match us, its, h1, h2 with | [_, _], [_], _, _ => ⟨_, rfl, rfl⟩)
    have e := vals_nil hd
    subst e
    exact ⟨⟨f, fd, G, g, F.kp, hb⟩⟩
  · obtain ⟨ds, hd, hb⟩ := F.binds1 (ps := ["steps", "most"]) 1 0 (by simp) rfl (fun T kV doc pm an cdv ct us its h1 h2 => match us, its, h1, h2 with | [_], [_], _, _ => ⟨_, rfl, rfl⟩)
    exact ⟨⟨f, fd, ds, G, g, F.kp, hd, hb⟩⟩
end
end Sq
set_option Elab.async false
set_option linter.all false
set_option maxRecDepth 100000
set_option maxHeartbeats 4000000
/-! and, or, comparisons as values, powers: what is known is kept. -/
namespace Sq
open PySem PySem.Spec PyProof.Rows L2 GenW
section
variable {X : Cx} {Θ : Shared → Prop} {ys : List Str} {a b : Expr} {rest : List Expr} {pos : Pos} {ta tb : TE} {tA tB' : TT}
def rEqS : R2 := fun x y H Q => ∃ i j, x = .str i ∧ y = .str j ∧ Q (.bl (i == j)) H
theorem ow_eqS (Cl : Clo X ys Θ) : OpW X Θ (compareOp .Eq) rEqS := ow_of Cl fun pins s σ H x y v u Q I rx ry h => by
  obtain ⟨i, j, rfl, rfl, q⟩ := h
  obtain ⟨t, rfl⟩ := rx
  obtain ⟨t', rfl⟩ := ry
  exact PyProof.Rows.eq_str ⟨rfl, .bl _, H, I, rfl, q⟩
def rNeS : R2 := fun x y H Q => ∃ i j, x = .str i ∧ y = .str j ∧ Q (.bl (!(i == j))) H
theorem ow_neS (Cl : Clo X ys Θ) : OpW X Θ (compareOp .NotEq) rNeS := ow_of Cl fun pins s σ H x y v u Q I rx ry h => by
  obtain ⟨i, j, rfl, rfl, q⟩ := h
  obtain ⟨t, rfl⟩ := rx
  obtain ⟨t', rfl⟩ := ry
  exact PyProof.Rows.ne_str ⟨rfl, .bl _, H, I, rfl, q⟩
theorem we_cmp {op : CmpOp} {r : R2} (ho : OpW X Θ (compareOp op) r) (ha : We X Θ a ta) (hb : We X Θ b tb) (hm : behindInMarks op b = false) : We X Θ (.Compare a [op] [b] pos) (tOp r ta tb) := by
  refine ⟨fun pins s σ H Q I θ h => wpAny_Compare1 (thn (ha.run pins s σ H _ I θ h) fun v s1 hh => ?_) hm⟩
  obtain ⟨g1, x, H1, I1, r1, q1⟩ := hh
  refine thn (hb.run pins s1 σ H1 _ I1 g1 q1) fun u s2 hh => ?_
  obtain ⟨g2, y, H2, I2, r2, q2⟩ := hh
  exact ho pins s2 σ H2 x y v u _ I2 g2 r1 r2 q2
theorem we_one {op} (h : We X Θ a ta) : We X Θ (.BoolOp op [a] pos) ta := ⟨fun pins s σ H Q I θ hw => BoolOp_one (h.run pins s σ H Q I θ hw)⟩
theorem we_and (ha : We X Θ a ta) (hb : We X Θ (.BoolOp .And (b :: rest) pos) tb) : We X Θ (.BoolOp .And (a :: b :: rest) pos) (tAndV ta tb) := by
  refine ⟨fun pins s σ H Q I θ h => ?_⟩
  refine BoolOp_and (thn (ha.run pins s σ H _ I θ h) fun v s1 hh => ?_)
  obtain ⟨g1, x, H1, I1, r1, c, rfl, q1⟩ := hh
  cases r1
  refine wpAny_truthy_bool ?_
  cases c with
  | true => exact hb.run pins s1 σ H1 Q I1 g1 q1
  | false => exact ⟨g1, .bl false, H1, I1, rfl, q1⟩
structure Ww (X : Cx) (Θ : Shared → Prop) (e : Expr) (t : TT) : Prop where
  run : ∀ (wh : Sem Value) (pins : List (Addr × Obj)) (s : Shared) (σ : L2.St) (H : Hp) (Q : Bool → Hp → Prop), Inv X pins σ H s → Θ s → t σ H Q → wpAny (model X.prog X.w) X.A (isTrue e X.env wh) (fun b s' => Θ s' ∧ TP X pins σ Q b s') X.xe s
theorem ww_or1 (ha : Wt X Θ a tA) : Ww X Θ (.BoolOp .Or [a] pos) tA := by
  refine ⟨fun wh pins s σ H Q I θ h => ?_⟩
  refine isTrue_or (thn (ha.run pins s σ H Q I θ h) fun c s1 e => ?_)
  cases c with
  | false => exact isTrue_or_nil e
  | true => exact e
theorem ww_or (ha : Wt X Θ a tA) (hb : Ww X Θ (.BoolOp .Or (b :: rest) pos) tB') : Ww X Θ (.BoolOp .Or (a :: b :: rest) pos) (tOr tA tB') := by
  refine ⟨fun wh pins s σ H Q I θ h => ?_⟩
  refine isTrue_or (thn (ha.run pins s σ H _ I θ h) fun c s1 hh => ?_)
  obtain ⟨g1, H1, I1, q1⟩ := hh
  cases c with
  | true => exact ⟨g1, H1, I1, q1⟩
  | false => exact hb.run wh pins s1 σ H1 Q I1 g1 q1
theorem wt_ww (h : Ww X Θ a tA) : Wt X Θ a tA := ⟨fun pins s σ H Q I θ q => h.run _ pins s σ H Q I θ q⟩
end
end Sq
set_option Elab.async false
set_option linter.all false
set_option maxRecDepth 100000
set_option maxHeartbeats 4000000
/-! More rules that keep what is known: properties, calm methods, defaults, list(o.m()), classes in locals, *args. -/
namespace Sq
open PySem PySem.Spec PyProof.Rows L2 GenW
section
variable {X : Cx} {Θ : Shared → Prop} {ys : List Str} {pins : List (Addr × Obj)} {σ : L2.St} {H : Hp} {s : Shared} {x y f m : Str} {p pos pos' apos cpos lp : Pos} {o e value : Expr} {es : List Expr} {ta te to : TE} {t : TA} {C : Addr} {sp : Sp} {k i j n : Nat} {u0 : Value} {tq : L2.St → Hp → (Value → List V → Hp → Prop) → Prop} {pl : Sem Bool} {ps : List Str} {dvs : List V}
/-- a property -/
theorem we_prL (Cl : Clo X ys Θ) (D : Pr X.prog X.w X.K X.mg X.base k C f sp) (hr : Room (k + 1) X.A) (he : We X Θ e ta) (hab : attributeBase e f X.env (eval e X.env) = eval e X.env := by rfl) : We X Θ (.Attribute e f pos) (tPrL C sp ta) := by
  obtain ⟨⟨q, g, fd, hp, F, hb⟩, c⟩ := D
  refine ⟨fun pins s σ H Q I θ h => ?_⟩
  refine attr_of hab (thn (he.run pins s σ H _ I θ h) fun u s1 hh => ?_)
  obtain ⟨g1, x, H1, I1, rx, a, dx, m, ks, ex, L, q2⟩ := hh
  subst ex
  obtain rfl : u = Value.ref a := rx
  obtain ⟨od, J, _⟩ := (L.obj I1.hok).1.look
  obtain ⟨rest, isProp⟩ := hp.rec_
  have I2 := I1.tok (s1.toks + 1)
  have known : (PySem.W.clsIn X.K C).isSome = true := by
    obtain ⟨cd, hc, _⟩ := PySem.W.any_some c.hd
    rw [hc]
    rfl
  have asked : wpAny (model X.prog X.w) X.A (getAttr (.ref a) f true) (fun u s' => (s1.toks ≤ s'.toks → Θ s') ∧ EP X pins σ Q u s') X.xe s1 := by
    refine PySem.W.get_bind I1.kIn J (PySem.W.plainGet_of (c.get f)).1 (PySem.W.findObj_data known hp.at_ hp.get hp.tak) (PySem.W.plainGet_of (c.get f)).2 (wpAny_call (PySem.W.prop_get (s := { s1 with toks := s1.toks + 1 }) I1.kIn isProp ?_))
    have bind := hb _ [Value.ref a] I2.kIn rfl
    rw [List.append_nil] at bind
    refine codeAny_mono (F.run X.A.in1 X.stack { s1 with toks := s1.toks + 1 } H1 ⟨[.ref a], []⟩ [.ref a] [.ref a] Q E0 hr.in1 I2.env0.in1 bind (.cons rfl .nil) q2) fun r s' hq => ?_
    match r, hq with
    | .error er, hq => exact False.elim hq
    | .ok (.ret w), hq =>
      have ce : CE X.stack X.prog X.w H1 { s1 with toks := s1.toks + 1 } Q w s' := hq
      obtain ⟨_, _, _, _, un, _⟩ := id ce
      obtain ⟨v, H', I3, rv, q3⟩ := I2.after hq
      show wpAny _ _ (handedOut w) _ _ _
      rw [PySem.W.handedOut_of (handed_of rv)]
      exact wpAny_pure ⟨fun up => Cl.un0 I1 up un g1, v, H', I3, rv, q3⟩
  exact wpAny_mono (PySem.wpAny_toks asked) (fun u s' z => ⟨z.2.1 z.1, z.2.2⟩) fun _ _ z => z.2
/-- o.m(), m calm -/
theorem we_mL0 (Cl : Clo X ys Θ) (D : Mt CX0 X.prog X.w X.K X.mg X.base k C m ps sp) (hr : Room k X.A) (he : We X Θ o ta)
    (ht : eval (.Call (.Attribute o m apos) [] [] pos) X.env = (do
      let ov ← eval o X.env
      standAt apos.atName
      let (f, first) ← holding [ov] (getMethod ov m pl)
      callWith pos f first (backTo pos (starEach [] X.env)) (backToKw pos (keywordEach [] X.env))) := by rfl) :
    We X Θ (.Call (.Attribute o m apos) [] [] pos) (tML C m sp ta tNil) := by
  obtain ⟨⟨g, fd, F, hm, hb⟩, c⟩ := D
  refine ⟨fun pins s σ H Q I θ h => ?_⟩
  refine PySem.W.methodCall_KW (pl := pl) (thn (he.run pins s σ H _ I θ h) fun u s1 hh => ?_) ht
  obtain ⟨g1, x, H1, I1, rx, a, dx, mA, ks, ex, L, l, q⟩ := hh
  subst ex
  obtain rfl : u = Value.ref a := rx
  refine live_meth I1 L c hm l ?_
  exact PySem.W.callWith_K0 (first := [.ref a]) I1.kIn hm.kp (fn_called (us := [.ref a]) (vs := [.ref a]) Cl F hb ⟨hr, rfl⟩ I1 g1 (.cons (show RelV (V.ref a) (Value.ref a) from rfl) .nil) q)
/-- f(..), the rest by defaults -/
theorem we_callV (Cl : Clo X ys Θ) (D : Dv X.prog X.w X.K X.mg X.base k x ps dvs sp) (hr : Room k X.A) (hg : Gl X x) (ha : Wa X Θ (e :: es) t) (hdb : (x == ("__debug__" : Str)) = false := by decide)
    (he : starEach (e :: es) X.env = (false, eval e X.env) :: starEach es X.env := by rfl) (hpl : (backTo pos (starEach es X.env)).any (·.1) = false := by rfl) : We X Θ (.Call (.Name x p) (e :: es) [] pos) (tCall sp dvs E0 t) := by
  obtain ⟨f, fd, ds, F, g, kp, hd, b⟩ := D.ex
  refine ⟨fun pins s σ H Q I θ h => ?_⟩
  refine wpAny_Call_Name_kw (ld_glob I hg g ?_ hdb)
  refine PySem.W.callWith_K (h₀ := X.base) I.ok.mod.kin kp (thn (ha.run pos pins s σ H _ I θ h) fun us s1 hh => ?_) he hpl
  obtain ⟨g1, vs, H1, I1, r, q⟩ := hh
  refine ⟨I1.kIn, ?_⟩
  have r2 : Vals (vs ++ dvs) (us ++ ds) := r.append hd
  have hl : (us ++ ds).length = ps.length := by rw [← r2.length]; exact F.len _ _ _ _ q
  have bind := b s1 us I1.kIn hl
  have called : wpAny (model X.prog X.w) X.A (call (.ref f) us) (fun u s' => (s1.toks ≤ s'.toks → Θ s') ∧ EP X pins σ Q u s') X.xe s1 := by
    refine wpAny_call (codeAny_mono (F.run X.A X.stack s1 H1 ⟨us, []⟩ (us ++ ds) (vs ++ dvs) Q E0 hr I1.env0 bind r2 q) fun r s' hq => ?_)
    match r, hq with
    | .error e, hq => exact pass0 pins σ H1 s1 e s' I1 hq
    | .ok (.ret u), hq =>
      have ce : CE X.stack X.prog X.w H1 s1 Q u s' := hq
      obtain ⟨_, _, _, _, un, _⟩ := id ce
      exact ⟨fun up => Cl.un0 I1 up un g1, I1.after ce⟩
  exact wpAny_mono (PySem.wpAny_toks called) (fun u s' z => ⟨z.2.1 z.1, z.2.2⟩) fun _ _ z => z.2
theorem reps (a : Array Value) : ∀ (m : Nat) (acc : Array Value), (List.foldl (fun x1 x2 => x1 ++ x2) acc (List.replicate m a)).toList = acc.toList ++ (List.replicate m a.toList).flatten
  | 0, acc => (List.append_nil _).symm
  | m + 1, acc => by
    rw [List.replicate_succ, List.foldl_cons, reps a m, List.replicate_succ, List.flatten_cons, Array.toList_append, List.append_assoc]
theorem reps0 (its : List Value) (m : Nat) : List.foldl (fun x1 x2 => x1 ++ x2) #[] (List.replicate (if its.toArray.isEmpty = true then 0 else m) its.toArray) = (List.replicate m its).flatten.toArray := by
  apply Array.toList_inj.mp
  rw [reps]
  cases its with
  | nil => simp
  | cons a r => simp
theorem ow_rep (Cl : Clo X ys Θ) : OpW X Θ (binaryOp .Mult) rRep := by
  rintro pins s σ H x y v u Q I θ rx ry ⟨l, c, xs, rfl, rfl, at_, lo, hi, few, q⟩
  cases rx
  obtain ⟨tk, rfl⟩ := ry
  obtain ⟨_, its, cap, r, len, look⟩ := I.lstM at_
  have sz : its.toArray.size * c.toNat ≤ 16777216 := by
    have := sizeLine_eq
    rw [List.size_toArray, ← len]
    omega
  refine wpAny_binaryOp_repeat_ref (T := "list") (U := "int") (by decide) ⟨_, look, rfl⟩ (fun s' => typeIs_int s' c tk) noFill_list_mul PySem.F.fills_int_mul PySem.F.slot_int_rmul repeat_list PySem.F.slot_int_index.lookup ?_
  refine call_meets PySem.F.slot_int_rmul (typeIs_int s c tk) PySem.F.entry_int_rmul (PySem.F.args_int_rmul_2 _ _) (int___rmul___int_list c tk l its.toArray cap) ⟨look, rfl, ⟨_, look, rfl⟩, ?_⟩
  refine call_meets PySem.F.slot_list_mul ⟨_, look, rfl⟩ PySem.F.entry_list_mul (PySem.F.args_list_mul_2 _ _) (AutoListH.list___mul___list_int_3 l its.toArray cap c tk (by simp [Builtin.List.listFitsIndex]; omega) (by omega) (by simp [Builtin.List.listTooLong, sizeLine]; omega)) ⟨look, ?_⟩
  rw [reps0]
  exact ⟨Cl.push I θ, .ref _, _, I.lnew (t' := s.toks) (r.rep c.toNat) (by rw [PyProof.Rows.lm_len_rep_flat, Nat.mul_comm]; exact few), rfl, q _ I.fresh⟩
/-- a list as a loop's source -/
theorem wi_list {tg : Expr} (Cl : Clo X ys Θ) (hl : We X Θ e te) : WI X Θ tg e (iList X.K te) := by
  refine ⟨fun pins s σ H R I θ h => ?_⟩
  refine thn (hl.run pins s σ H _ I θ h) fun v s1 hh => ?_
  obtain ⟨g1, x, H1, I1, r1, a, ex, ⟨xs, hq⟩, q⟩ := hh
  subst ex
  cases r1
  obtain ⟨its, rv, p, hz⟩ := I1.list hq
  refine wpAny_pyIter_list p.isList ⟨Cl.push I1 g1, ?_⟩
  refine ⟨s1.heap.objs.size, [s1.heap.objs.size], _, _, H1, rfl, I1.kept (t' := s1.toks) fun b o e => Heap.get?_push_of_some _ e, turn_list a _, ⟨_, Heap.get?_push_size _ rfl, rfl, rfl⟩, fun b hb => ?_, q⟩
  have e : b = s1.heap.objs.size := by simpa using hb
  subst e
  exact I1.fpOk (Nat.le_refl _) (I1.hok.fresh (Nat.le_refl _))
theorem cw_int1 (Cl : Clo X ys Θ) : CallW X Θ (.type "int") (fun xs H Q => (∃ i, xs = [.int i] ∧ Q (.int i) H) ∨ ∃ k, xs = [.bl k] ∧ Q (.int (if k then 1 else 0)) H) := cw_of Cl fun pins s σ H xs us Q I r h => by
  rcases h with ⟨i, rfl, q⟩ | ⟨k, rfl, q⟩
  · obtain ⟨u, rfl, t, rfl⟩ := vals1 r
    exact call_int_int ⟨rfl, .int i, H, I, ⟨_, rfl⟩, q⟩
  · obtain ⟨u, rfl, r1⟩ := vals1 r
    cases r1
    exact call_int_bool ⟨rfl, .int (if k then 1 else 0), H, I.tok _, ⟨_, rfl⟩, q⟩
end
end Sq
set_option Elab.async false
set_option linter.all false
set_option maxRecDepth 100000
set_option maxHeartbeats 4000000
/-! list(o.m()), classes in locals, o.m( *l), classmethods: what is known is kept. -/
namespace Sq
open PySem PySem.Spec PyProof.Rows L2 GenW
section
variable {X : Cx} {Θ : Shared → Prop} {ys : List Str} {pins : List (Addr × Obj)} {σ : L2.St} {H : Hp} {s : Shared} {x y f m nm : Str} {p pos pos' apos cpos lp : Pos} {o e value : Expr} {es : List Expr} {ta te to : TE} {t tk : TA} {C : Addr} {sp : Sp} {k i j n : Nat} {u0 : Value} {tq : L2.St → Hp → (Value → List V → Hp → Prop) → Prop} {pl : Sem Bool} {ps ks : List Str} {dvs : List V}
/-- an expression whose value is a generator that has not begun; what is known is kept -/
structure WGen (X : Cx) (Θ : Shared → Prop) (k : Nat) (e : Expr) (tg : TGen) : Prop where
  run : ∀ (pins : List (Addr × Obj)) (s : Shared) (σ : L2.St) (H : Hp) (cont : List V → Hp → Prop), Inv X pins σ H s → Θ s → tg σ H cont → wpAny (model X.prog X.w) X.A (eval e X.env)
    (fun u s' => ∃ H1 sc ex, Inv X pins σ H1 sc ∧ Θ sc ∧ sc.toks ≤ s'.toks ∧ ExOk X pins ex ∧ GMade X.prog X.w k X.stack H1 sc ex cont E0 u s') X.xe s
theorem wgen_methL {spg : SpG} (D : MtG X.prog X.w X.K X.mg X.base k C m spg) (he : We X Θ o ta) (hr : Room k X.A)
    (ht : eval (.Call (.Attribute o m apos) [] [] pos') X.env = (do
      let ov ← eval o X.env
      standAt apos.atName
      let (f, first) ← holding [ov] (getMethod ov m pl)
      callWith pos' f first (backTo pos' (starEach [] X.env)) (backToKw pos' (keywordEach [] X.env))) := by rfl) :
    WGen X Θ k (.Call (.Attribute o m apos) [] [] pos') (tMethGL C m spg E0 ta) := by
  obtain ⟨⟨f, fd, F, hm, hb⟩, c⟩ := D
  refine ⟨fun pins s σ H cont I θ h => ?_⟩
  refine PySem.W.methodCall_KW (pl := pl) (thn (he.run pins s σ H _ I θ h) fun u s1 hh => ?_) ht
  obtain ⟨g1, x, H1, I1, rx, a, dx, mA, ks, ex, L, l, q⟩ := hh
  subst ex
  obtain rfl : u = Value.ref a := rx
  refine live_meth I1 L c hm l ?_
  refine PySem.W.callWith_K0 (first := [.ref a]) I1.kIn hm.kp ?_
  have r1 : Vals [V.ref a] [Value.ref a] := .cons (show RelV (V.ref a) (Value.ref a) from rfl) .nil
  have few := F.len _ _ _ _ q
  have bound := hb s1 [.ref a] I1.kIn rfl
  rw [List.append_nil] at bound
  have called : wpAny (model X.prog X.w) X.A (call (.ref f) [.ref a]) (fun u s' => GMade X.prog X.w k X.stack H1 s1 [] cont E0 u s') X.xe s1 := by
    refine wpAny_call (codeAny_mono (F.run X.A X.stack s1 H1 ⟨[.ref a], []⟩ [.ref a] [.ref a] cont E0 hr I1.env0 bound r1 q) fun r s' hq => ?_)
    match r, hq with
    | .error e, hq => exact False.elim hq
    | .ok (.ret u), hq => exact hq
  exact wpAny_mono (PySem.wpAny_toks called) (fun u s' z => ⟨H1, s1, [], I1, g1, z.1, ExOk.nil, z.2⟩) fun _ _ z => z.2
theorem we_listG {tg : TGen} (Cl : Clo X ys Θ) (h : WGen X Θ k e tg) (hr : Room (k + 3) X.A) (hg : Gl X "list") (hmg : X.mg "list" = none)
    (he : starEach [e] X.env = (false, eval e X.env) :: starEach [] X.env := by rfl) : We X Θ (.Call (.Name "list" p) [e] [] pos) (tListG tg) := by
  refine ⟨fun pins s σ H Q I θ hq => ?_⟩
  refine wpAny_Call_Name_kw (ld_blt (u := .type "list") I hg hmg (by decide +kernel) ?_ (by decide) (by decide))
  refine PyProof.Rows.callWith_type1 ?_ he rfl
  rw [he]
  show wpAny _ _ (spliced ((false, eval e X.env) :: backTo pos (starEach [] X.env))) _ _ s
  refine Calls.spliced_cons (thn (h.run pins s σ H _ I θ hq) fun u s1 hh => ?_)
  obtain ⟨H1, sc, ex, I1, g1, up1, hex, hG⟩ := hh
  refine Calls.spliced_nil ?_
  have hsz : sc.heap.objs.size ≤ s1.heap.objs.size := by
    obtain ⟨a, g, c, _, h1, h2, _⟩ := hG
    exact Nat.le_trans h1 (Nat.le_of_lt h2)
  have drained : wpAny (model X.prog X.w) X.A (call (.type "list") [u]) (fun w s' => (s1.toks ≤ s'.toks → Θ s') ∧ EP X pins σ Q w s') X.xe s1 := by
    refine call_list_new hr I1.ok.frames hG (fun S s' acc c H' ys q0 q1 q2 hl q3 q4 q5 q6 q7 q8 => ?_) fun e s' g hc => ?_
    · exact ⟨fun up => Cl.un ex I1 (Nat.le_trans up1 up) (fun b hb => ⟨(hex b hb).2.1, (hex b hb).2.2.1⟩) q5 g1, .ref S, upd H' S (.lst ys), I1.drained (Nat.le_trans hsz q0) hl q1 q2 hex q3 q4 q5 q6 q7, rfl, q8 S q7⟩
    · obtain ⟨_, _, _, _, _, _, _, _, _, _, _, _, z⟩ := hc
      exact z.elim
  exact wpAny_mono (PySem.wpAny_toks drained) (fun w s' z => ⟨z.2.1 z.1, z.2.2⟩) fun _ _ z => z.2
/-- c(..), the class in a local -/
structure MkL (P : Program) (w : World) (K : PySem.W.Frag) (mg : Str → Option Value) (base : Heap) (k : Nat) (C : Addr) (ps : List Str) (j : Nat) (sp : Nat → Value → Sp) : Prop where
  ex : ∃ f fd, Mk K C f ∧ FnW P w K mg base k f fd ps (j + 1) sp ∧ Binds K fd ps []
def tNewL (C : Addr) (i : Nat) (sp : Value → Sp) (t : L2.St → Hp → (Value → List V → Hp → Prop) → Prop) : TE := fun σ H Q => σ[i]? = some (some (.ref C)) ∧ tNewW C sp t σ H Q
theorem we_newL {spn : Nat → Value → Sp} (Cl : Clo X ys Θ) (D : MkL X.prog X.w X.K X.mg X.base k C ps j spn) (hn : ∀ s, Θ s → n ≤ s.toks) (hr : Room (k + 1) X.A) (hN : X.N[i]? = some x) (hv : Vis X.env.scope x) (ha : Wq X Θ j (e :: es) tq) (hdb : (x == ("__debug__" : Str)) = false := by decide) (hcd : (x == ("__classdict__" : Str)) = false := by decide)
    (he : starEach (e :: es) X.env = (false, eval e X.env) :: starEach es X.env := by rfl) (hpl : (backTo pos (starEach es X.env)).any (·.1) = false := by rfl) :
    We X Θ (.Call (.Name x p) (e :: es) [] pos) (tNewL C i (spn n) tq) := by
  obtain ⟨g, fd, M, F, hb⟩ := D.ex
  refine ⟨fun pins s σ H Q I θ h => ?_⟩
  obtain ⟨hs, h⟩ := h
  refine wpAny_Call_Name_kw (raw_name hN hv I hs (fun v r => ?_) hdb hcd)
  obtain rfl : v = Value.ref C := r
  refine PySem.W.callWith_K (h₀ := X.base) I.ok.mod.kin M.kp (thn (ha.run pos pins s σ H _ I θ h) fun us s1 hh => ?_) he hpl
  obtain ⟨g1, u0, eu, vs, H1, I1, r, q⟩ := hh
  refine ⟨I1.kIn, ?_⟩
  have hq := q (s1.heap.objs.size + 1) s1.heap.objs.size (I1.hok.fresh (Nat.le_succ _)) (I1.hok.fresh (Nat.le_refl _)) (Nat.ne_of_lt (Nat.lt_succ_self _))
  have I2 := live_made (C := C) I1
  have r2 : Vals (V.ref (s1.heap.objs.size + 1) :: vs) (Value.ref (s1.heap.objs.size + 1) :: us) := .cons rfl r
  have hl : (Value.ref (s1.heap.objs.size + 1) :: us ++ []).length = ps.length := by
    have e := r2.length
    rw [F.len _ _ _ _ _ _ hq] at e
    rw [List.append_nil]
    exact e.symm
  have b := hb _ (Value.ref (s1.heap.objs.size + 1) :: us) I2.kIn hl
  rw [List.append_nil] at b
  have un1 : Un (frs X.stack) [] H1 (upd (upd H1 s1.heap.objs.size (dicO s1.heap.objs.size (fun _ => none) [])) (s1.heap.objs.size + 1) (insO (s1.heap.objs.size + 1) C s1.heap.objs.size)) s1.heap ((s1.heap.push PySem.W.emptyDict).push (PySem.W.instObj C s1.heap.objs.size)) := by
    have f2 : (upd H1 s1.heap.objs.size (dicO s1.heap.objs.size (fun _ => none) [])) (s1.heap.objs.size + 1) = none := by
      rw [upd_ne (Nat.succ_ne_self _)]
      exact I1.hok.fresh (Nat.le_succ _)
    exact (Un.laid (h' := s1.heap.push PySem.W.emptyDict) (fun b u q => Heap.get?_push_of_some _ q) (Nat.le_refl _) (I1.hok.fresh (Nat.le_refl _))).trans (Un.laid (fun b u q => Heap.get?_push_of_some _ q) (Nat.le_of_eq (Heap.size_push _ _)) f2)
  have called : wpAny (model X.prog X.w) X.A (call (.ref C) us) (fun u s' => (s1.toks ≤ s'.toks → Θ s') ∧ EP X pins σ Q u s') X.xe s1 := by
    refine wpAny_call (make_map (f := g) I1.kIn M.makes M.init (beq_iff_eq.mp M.fn) (codeAny_mono (F.run _ X.stack _ _ ⟨Value.ref (s1.heap.objs.size + 1) :: us, []⟩ (Value.ref (s1.heap.objs.size + 1) :: us) _ _ n u0 (hr.make C us [])
      (I2.env0.make C us []) b r2 (hn s1 g1) eu hq) fun r s' hq' => ?_))
    match r, hq' with
    | .ok (.ret u), hq' =>
      have ce : CE X.stack X.prog X.w _ _ _ u s' := hq'
      obtain ⟨_, _, _, _, un, _⟩ := id ce
      obtain ⟨v, H', I3, rv, ev, q3⟩ := I2.after ce
      subst ev
      exact ⟨rv, fun up => Cl.un0 I1 up (un1.trans un) g1, V.ref (s1.heap.objs.size + 1), H', I3, rfl, q3⟩
  exact wpAny_mono (PySem.wpAny_toks called) (fun u s' z => ⟨z.2.1 z.1, z.2.2⟩) fun _ _ z => z.2
/-- o.m as a value: a bound method, new -/
theorem live_bound {b : Bool} {a dx g : Addr} {mA : Str → Option Value} {ks : List Str} {A : Around} {E : Value → Shared → Prop} {Q : Value → Shared → Prop} (I : Inv X pins σ H s) (L : Live H a C dx mA ks) (c : Cls X.K C) (bm : BMeth X.K C m g) (hn : mA m = none)
    (h : Inv X pins σ (upd H s.heap.objs.size (.met g a)) { s with heap := s.heap.push (PySem.W.methodObj (.ref g) (.ref a)), toks := s.toks + 1 } → Q (.ref s.heap.objs.size) { s with heap := s.heap.push (PySem.W.methodObj (.ref g) (.ref a)), toks := s.toks + 1 }) :
    wpAny (model X.prog X.w) A (getAttr (.ref a) m b) Q E s := by
  obtain ⟨od, J, hl⟩ := (L.obj I.hok).1.look
  have hl' : PySem.W.lookIn m od = some none := by rw [hl, hn]
  refine PySem.W.get_bind I.kIn J (PySem.W.plainGet_of (c.get m)).1 (PySem.W.findObj_fn c.hd bm.mt.at_ bm.gf bm.tk bm.cp hl') (PySem.W.plainGet_of (c.get m)).2 ?_
  refine wpAny_call (PySem.W.fn_get (s := { s with toks := s.toks + 1 }) I.kIn (beq_iff_eq.mp bm.mt.fn) (PySem.W.handed_on rfl ?_))
  exact h (I.laid (t' := s.toks + 1) (a := s.heap.objs.size) (o := .met g a) (fun b u z => Heap.get?_push_of_some _ z) (Nat.le_refl _)
    (show (s.heap.push (PySem.W.methodObj (.ref g) (.ref a))).get? s.heap.objs.size = some (PySem.W.methodObj (.ref g) (.ref a)) from Heap.get?_push_size s.heap rfl))
/-- *l, l a list: its items; what is known is kept -/
theorem star_kept {a : Addr} {xs : List V} {E : Value → Shared → Prop} {Q : List Value → Shared → Prop} (Cl : Clo X ys Θ) (I : Inv X pins σ H s) (θ : Θ s) (h : SqL X.K H a xs) (hQ : ∀ us s', Inv X pins σ H s' → Θ s' → Vals xs us → Q us s') : PySem.W.StarOf (model X.prog X.w) X.A E (.ref a) Q s := by
  obtain ⟨its, r, pl, hz⟩ := I.list h
  obtain ⟨o, ho, hc, n, hd⟩ := pl.isList
  have few := r.length
  unfold PySem.W.StarOf notIterableAtAll
  refine wpAny_bind (wpAny_specialOf (T := "list") ⟨o, ho, hc⟩ PySem.F.slot_list_iter.lookup (wpAny_pure ⟨rfl, ?_⟩))
  refine wpAny_collect_seq a (.inl rfl) ho hc hd (fun h' hk => ?_) (by rw [List.size_toArray]; omega)
  rw [show its.toArray.toList = its from by simp]
  exact hQ its _ (I.kept (t' := s.toks) hk) (Cl.kept (s' := { s with heap := h' }) I (Nat.le_refl _) hk θ) r
theorem starcall1_of {M : Model} {A : Around} {E : Value → Shared → Prop} {env : Env} {e2 : Expr} {Q : Value → Shared → Prop} (hbase : attributeBase o m env (eval o env) = eval o env)
    (hst : starEach [.Starred e2 p] env = [(true, eval e2 env)])
    (h : wpAny M A (eval o env) (fun ov s₁ => wpAny M A (getAttr ov m true) (fun f s₂ => wpAny M A (callWith pos f [] (backTo pos [(true, eval e2 env)]) []) Q E s₂) E s₁) E s) :
    wpAny M A (eval (.Call (.Attribute o m apos) [.Starred e2 p] [] pos) env) Q E s := by
  have k0 : backToKw pos (keywordEach [] env) = [] := rfl
  have plain : methodCallForm ([Expr.Starred e2 p].length + ([] : List Keyword).length) (backTo pos [(true, eval e2 env)]) [] = false := rfl
  have seat : methodCallPos false o env apos pos = pure pos := rfl
  have callee : ∀ ov, calleeOf false o env ov m = (getAttr ov m true >>= fun v => pure (v, [])) := fun _ => rfl
  rw [arm_eval_Call, hbase, hst, k0]
  refine wpAny_bind (wpAny_mono h (fun ov s₁ h₁ => ?_) fun _ _ x => x)
  refine wpAny_bind (wpAny_standAt ?_)
  unfold methodCall
  rw [plain, seat, callee]
  refine wpAny_bind (wpAny_holding (wpAny_bind (wpAny_mono h₁ (fun f s₂ h₂ => wpAny_pure ?_) fun _ _ x => x)))
  exact wpAny_bind (wpAny_pure h₂)
/-- o.m( *l), m a def with *others -/
structure MtB (P : Program) (w : World) (K : PySem.W.Frag) (mg : Str → Option Value) (base : Heap) (k : Nat) (C : Addr) (m : Str) (sp : Nat → Sp) : Prop where
  ex : ∃ f, FnV P w K mg base k f sp ∧ BMeth K C m f
  cl : Cls K C
def tMVS (K : PySem.W.Frag) (C : Addr) (m : Str) (sp : Sp) (ta te : TE) : TE := fun σ H Q => ta σ H fun x H1 => ∃ a dx mA ks, x = .ref a ∧ Live H1 a C dx mA ks ∧ mA m = none ∧ ∀ q g, H1 q = none → te σ (upd H1 q (.met g a)) fun y H2 => ∃ b vs, y = .ref b ∧ SqL K H2 b vs ∧ H2 q = some (.met g a) ∧ vs.length ≤ sizeLine ∧ ∀ T, H2 T = none → sp [x, .ref T] (upd H2 T (.tup vs)) Q E0
theorem we_mVS {e2 : Expr} {spn : Nat → Sp} (Cl : Clo X ys Θ) (D : MtB X.prog X.w X.K X.mg X.base k C m spn) (hn : ∀ s, Θ s → n ≤ s.toks) (hr : Room k X.A) (he : We X Θ o ta) (h2 : We X Θ e2 te) (hbase : attributeBase o m X.env (eval o X.env) = eval o X.env := by rfl)
    (hst : starEach [.Starred e2 p] X.env = [(true, eval e2 X.env)] := by rfl) : We X Θ (.Call (.Attribute o m apos) [.Starred e2 p] [] pos) (tMVS X.K C m (spn n) ta te) := by
  obtain ⟨⟨g, F, bm⟩, c⟩ := D
  refine ⟨fun pins s σ H Q I θ h => ?_⟩
  refine starcall1_of hbase hst (thn (he.run pins s σ H _ I θ h) fun u s1 hh => ?_)
  obtain ⟨g1, x, H1, I1, rx, a, dx, mA, kz, ex, L, l, q⟩ := hh
  subst ex
  obtain rfl : u = Value.ref a := rx
  refine live_bound I1 L c bm l fun I2 => ?_
  have θ2 : Θ { s1 with heap := s1.heap.push (PySem.W.methodObj (.ref g) (.ref a)), toks := s1.toks + 1 } := Cl.kept (s' := { s1 with heap := s1.heap.push (PySem.W.methodObj (.ref g) (.ref a)), toks := s1.toks + 1 }) I1 (Nat.le_succ _) (fun b u z => Heap.get?_push_of_some _ z) g1
  refine PySem.W.ks_call (P := PySem.W.MethP X.K s1.heap.objs.size g (.ref a)) rfl (PySem.W.keeps_M bm.fi) (PySem.W.ks_lone (thn (h2.run pins _ σ _ _ I2 θ2 (q s1.heap.objs.size g (I1.hok.fresh (Nat.le_refl _)))) fun v2 s4 hh => ?_))
  obtain ⟨g4, y2, H3, I4, ry2, b, vs, ey, hl, hm, few, hsp⟩ := hh
  subst ey
  obtain rfl : v2 = Value.ref b := ry2
  refine star_kept Cl I4 g4 hl fun us s5 I5 g5 rv => ⟨met_P I5 hm, ?_⟩
  have called : wpAny (model X.prog X.w) X.A (call (.ref s1.heap.objs.size) us) (fun u s' => (s5.toks ≤ s'.toks → Θ s') ∧ EP X pins σ Q u s') X.xe s5 := by
    refine wpAny_call (PySem.W.method_call (met_P I5 hm).1 (codeAny_mono (F.run X.A X.stack s5 H3 (.ref a) us (.ref a) vs Q n hr I5.env0 (.cons (show RelV (V.ref a) (Value.ref a) from rfl) rv) (hn s5 g5) (by rw [← rv.length]; exact few) hsp) fun r s' hq => ?_))
    match r, hq with
    | .ok (.ret u), hq =>
      have ce : CE X.stack X.prog X.w H3 s5 Q u s' := hq
      obtain ⟨_, _, _, _, un, _⟩ := id ce
      exact ⟨fun up => Cl.un0 I5 up un g5, I5.after ce⟩
  exact wpAny_mono (PySem.wpAny_toks called) (fun u s' z => ⟨z.2.1 z.1, z.2.2⟩) fun _ _ z => z.2
end
end Sq
set_option Elab.async false
set_option linter.all false
set_option maxRecDepth 100000
set_option maxHeartbeats 4000000
/-! C.m(..), m a classmethod that knows n and a raw argument. -/
namespace Sq
open PySem PySem.Spec PyProof.Rows L2 GenW
structure CmW (P : Program) (w : World) (K : PySem.W.Frag) (mg : Str → Option Value) (base : Heap) (k : Nat) (x : Str) (C : Addr) (m : Str) (ps : List Str) (j : Nat) (sp : Nat → Value → Sp) : Prop where
  ex : ∃ mc p g fd, ClX.CRead K C mc ∧ ClX.CMet K C mc m p g ∧ FnW P w K mg base k g fd ps (j + 1) sp ∧ Binds K fd ps []
  at_ : mg x = some (.ref C)
structure CmWK (P : Program) (w : World) (K : PySem.W.Frag) (mg : Str → Option Value) (base : Heap) (k : Nat) (x : Str) (C : Addr) (m : Str) (ps ks : List Str) (gV : List V → List V → List V) (sp : Nat → Value → Sp) : Prop where
  ex : ∃ mc p g fd gf j, ClX.CRead K C mc ∧ ClX.CMet K C mc m p g ∧ FnW P w K mg base k g fd ps j sp ∧ KBn K fd ps 1 ks gf gV ∧ ∀ (o : Value) (ws : List Value) (u : Value), ws.length = ks.length → ws[0]? = some u → (gf [o] ws)[j]? = some u
  at_ : mg x = some (.ref C)
def tCmW (C : Addr) (sp : Value → Sp) (t : L2.St → Hp → (Value → List V → Hp → Prop) → Prop) : TE := fun σ H Q => t σ H fun u vs H1 => sp u (.ref C :: vs) H1 Q E0
def tCmWK (C : Addr) (i : Nat) (u0 : Value) (l : Nat) (gV : List V → List V → List V) (sp : Value → Sp) (tk : TA) : TE := fun σ H Q => ∃ v, σ[i]? = some (some v) ∧ (RelV v u0 → tk σ H fun zs H1 => zs.length + 1 = l ∧ sp u0 (gV [.ref C] (v :: zs)) H1 Q E0)
section
variable {X : Cx} {Θ : Shared → Prop} {ys : List Str} {pins : List (Addr × Obj)} {σ : L2.St} {H : Hp} {s : Shared} {x y m : Str} {p p1 kp1 pos apos : Pos} {e : Expr} {es : List Expr} {C : Addr} {k i j n : Nat} {u0 : Value} {tq : L2.St → Hp → (Value → List V → Hp → Prop) → Prop} {pl : Sem Bool} {ps ks : List Str} {gV : List V → List V → List V} {kws : List Keyword} {tk : TA} {nm : Option Str}
/-- C.m as a value: a bound method, new -/
theorem cm_bound {A : Around} {E : Value → Shared → Prop} {Q : Value × List Value → Shared → Prop} {mc : Value} {q g : Addr} (I : Inv X pins σ H s) (r : ClX.CRead X.K C mc) (c : ClX.CMet X.K C mc m q g)
    (h : Inv X ((s.heap.objs.size, PySem.W.methodObj (.ref g) (.ref C)) :: pins) σ H { s with heap := s.heap.push (PySem.W.methodObj (.ref g) (.ref C)), toks := s.toks + 1 } → Q (.ref s.heap.objs.size, []) { s with heap := s.heap.push (PySem.W.methodObj (.ref g) (.ref C)), toks := s.toks + 1 }) :
    wpAny (model X.prog X.w) A (getMethod (.ref C) m pl) Q E s := by
  obtain ⟨rest, hp⟩ := c.rc
  refine PySem.W.method_cls I.kIn r.ga (PySem.W.cls_bind I.kIn r.rd c.at_ (wpAny_call (PySem.W.cm_get (s := { s with toks := s.toks + 1 }) I.kIn hp (PySem.W.handed_on rfl ?_))))
  exact h (ClX.met_new I)
theorem we_cm {spn : Nat → Value → Sp} (Cl : Clo X ys Θ) (D : CmW X.prog X.w X.K X.mg X.base k x C m ps j spn) (hn : ∀ s, Θ s → n ≤ s.toks) (hr : Room k X.A) (hg : Gl X x) (ha : Wq X Θ j (e :: es) tq) (hdb : (x == ("__debug__" : Str)) = false := by decide)
    (hst : starEach (e :: es) X.env = (false, eval e X.env) :: starEach es X.env := by rfl) (hpl : (backTo pos (starEach es X.env)).any (·.1) = false := by rfl)
    (ht : eval (.Call (.Attribute (.Name x p) m apos) (e :: es) [] pos) X.env = (do
      let ov ← eval (.Name x p) X.env
      standAt apos.atName
      let (f, first) ← holding [ov] (getMethod ov m pl)
      callWith pos f first (backTo pos (starEach (e :: es) X.env)) (backToKw pos (keywordEach [] X.env))) := by rfl) :
    We X Θ (.Call (.Attribute (.Name x p) m apos) (e :: es) [] pos) (tCmW C (spn n) tq) := by
  obtain ⟨⟨mc, q, g, fd, r, c, F, hb⟩, hm⟩ := D
  refine ⟨fun pins s σ H Q I θ h => ?_⟩
  refine PySem.W.methodCall_KW (pl := pl) (ld_glob I hg hm ?_ hdb) ht
  refine cm_bound I r c fun I2 => ?_
  have θ2 : Θ { s with heap := s.heap.push (PySem.W.methodObj (.ref g) (.ref C)), toks := s.toks + 1 } := Cl.kept (s' := { s with heap := s.heap.push (PySem.W.methodObj (.ref g) (.ref C)), toks := s.toks + 1 }) I (Nat.le_succ _) (fun b u z => Heap.get?_push_of_some _ z) θ
  refine ClX.callwith_cm I2 (ClX.base_none I (Nat.le_refl _)) c.fi (thn (ha.run pos _ _ σ H _ I2 θ2 h) fun us s3 hh => ?_) hst hpl
  obtain ⟨g3, u, eu, vs, H1, I3, rv, hq⟩ := hh
  refine ⟨⟨ClX.pin_at I3, I3.kIn⟩, ?_⟩
  have r2 : Vals (V.ref C :: vs) (Value.ref C :: us) := .cons (show RelV (V.ref C) (Value.ref C) from rfl) rv
  have hl : (Value.ref C :: us).length = ps.length := by rw [← r2.length]; exact F.len _ _ _ _ _ _ hq
  have bind := hb s3 (Value.ref C :: us) I3.kIn (by rw [List.append_nil]; exact hl)
  rw [List.append_nil] at bind
  have called : wpAny (model X.prog X.w) X.A (call (.ref s.heap.objs.size) us) (fun u s' => (s3.toks ≤ s'.toks → Θ s') ∧ EP X pins σ Q u s') X.xe s3 := by
    refine wpAny_call (PySem.W.method_call (ClX.pin_at I3) (codeAny_mono (F.run X.A X.stack s3 H1 ⟨.ref C :: us, []⟩ (.ref C :: us) (.ref C :: vs) Q n u hr I3.env0 bind r2 (hn s3 g3) eu hq) fun r s' hq' => ?_))
    match r, hq' with
    | .ok (.ret w), hq' =>
      have ce : CE X.stack X.prog X.w H1 s3 Q w s' := hq'
      obtain ⟨_, _, _, _, un, _⟩ := id ce
      exact ⟨fun up => Cl.un0 I3 up un g3, ClX.unpinE (I3.after ce)⟩
  exact wpAny_mono (PySem.wpAny_toks called) (fun u s' z => ⟨z.2.1 z.1, z.2.2⟩) fun _ _ z => z.2
theorem we_cmK {spn : Nat → Value → Sp} (Cl : Clo X ys Θ) (D : CmWK X.prog X.w X.K X.mg X.base k x C m ps ks gV spn) (Kn : KnownU X Θ y u0) (hn : ∀ s, Θ s → n ≤ s.toks) (hr : Room k X.A) (hg : Gl X x) (hN : X.N[i]? = some y) (hv : Vis X.env.scope y) (hkw : Wk X Θ kws tk)
    (hall : (backToKw pos (keywordEach (⟨nm, .Name y p1, kp1⟩ :: kws) X.env)).all (·.1.isSome) = true := by rfl)
    (hks : (backToKw pos (keywordEach (⟨nm, .Name y p1, kp1⟩ :: kws) X.env)).filterMap (·.1) = ks := by rfl) (hdb : (x == ("__debug__" : Str)) = false := by decide) (hd : (y == ("__debug__" : Str)) = false := by decide)
    (hpl : ((backTo pos (starEach [] X.env)).any (·.1) || (backToKw pos (keywordEach (⟨nm, .Name y p1, kp1⟩ :: kws) X.env)).any (·.1.isNone)) = false := by rfl)
    (ht : eval (.Call (.Attribute (.Name x p) m apos) [] (⟨nm, .Name y p1, kp1⟩ :: kws) pos) X.env = (do
      let ov ← eval (.Name x p) X.env
      standAt apos.atName
      let (f, first) ← holding [ov] (getMethod ov m pl)
      callWith pos f first (backTo pos (starEach [] X.env)) (backToKw pos (keywordEach (⟨nm, .Name y p1, kp1⟩ :: kws) X.env))) := by rfl) :
    We X Θ (.Call (.Attribute (.Name x p) m apos) [] (⟨nm, .Name y p1, kp1⟩ :: kws) pos) (tCmWK C i u0 ks.length gV (spn n) tk) := by
  obtain ⟨⟨mc, q, g, fd, gf, j, r, c, F, hb, hj⟩, hm⟩ := D
  refine ⟨fun pins s σ H Q I θ h => ?_⟩
  obtain ⟨v, ev, h⟩ := h
  refine PySem.W.methodCall_KW (pl := pl) (ld_glob I hg hm ?_ hdb) ht
  refine cm_bound I r c fun I2 => ?_
  have θ2 : Θ { s with heap := s.heap.push (PySem.W.methodObj (.ref g) (.ref C)), toks := s.toks + 1 } := Cl.kept (s' := { s with heap := s.heap.push (PySem.W.methodObj (.ref g) (.ref C)), toks := s.toks + 1 }) I (Nat.le_succ _) (fun b u z => Heap.get?_push_of_some _ z) θ
  refine PySem.W.callWith_of (P := PySem.W.MethP X.K s.heap.objs.size g (.ref C)) hpl (PySem.W.keeps_M c.fi) (PyProof.Rows.evalArgs_kw2_nil hall ?_)
  have args : wpAny (model X.prog X.w) X.A (evalAll ((backToKw pos (keywordEach (⟨nm, .Name y p1, kp1⟩ :: kws) X.env)).map (·.2))) (fun ws s1 => Θ s1 ∧ ws[0]? = some u0 ∧ ∃ zs H1, Inv X ((s.heap.objs.size, PySem.W.methodObj (.ref g) (.ref C)) :: pins) σ H1 s1 ∧ Vals (v :: zs) ws ∧ (zs.length + 1 = ks.length ∧ spn n u0 (gV [.ref C] (v :: zs)) H1 Q E0)) X.xe { s with heap := s.heap.push (PySem.W.methodObj (.ref g) (.ref C)), toks := s.toks + 1 } := by
    show wpAny _ _ (evalAll ((do let v ← eval (.Name y p1) X.env; standAt pos; pure v) :: (backToKw pos (keywordEach kws X.env)).map (·.2))) _ _ _
    refine wpAny_evalAll_cons (wpAny_bind (knownU_eval Kn I2 θ2 hN hv ev (fun ru => wpAny_bind (wpAny_standAt (wpAny_pure ?_))) hd))
    exact thn (hkw.run pos _ _ σ H _ I2 θ2 (h ru)) fun us s2 ⟨g2, xs, H2, I3, r2, q2⟩ => ⟨g2, rfl, xs, H2, I3, .cons ru r2, q2⟩
  refine thn args fun ws s3 hh => ?_
  obtain ⟨g3, e0, zs, H1, I3, rz, l2, hq⟩ := hh
  refine ⟨⟨ClX.pin_at I3, I3.kIn⟩, ?_⟩
  rw [hks]
  have r1 : Vals [V.ref C] [Value.ref C] := .cons (show RelV (V.ref C) (Value.ref C) from rfl) .nil
  have r2 := hb.rel r1 rz
  have lw : ws.length = ks.length := rz.length.symm.trans l2
  have called : wpAny (model X.prog X.w) X.A (call (.ref s.heap.objs.size) [] (ks.zip ws)) (fun u s' => (s3.toks ≤ s'.toks → Θ s') ∧ EP X pins σ Q u s') X.xe s3 := by
    refine wpAny_call (PySem.W.method_call (ClX.pin_at I3) (codeAny_mono (F.run X.A X.stack s3 H1 ⟨[.ref C], ks.zip ws⟩ (gf [.ref C] ws) _ Q n u0 hr I3.env0 (hb.to s3 [.ref C] ws I3.kIn rfl lw) r2 (hn s3 g3) (hj _ ws u0 lw e0) hq) fun r s' hq' => ?_))
    match r, hq' with
    | .ok (.ret w), hq' =>
      have ce : CE X.stack X.prog X.w H1 s3 Q w s' := hq'
      obtain ⟨_, _, _, _, un, _⟩ := id ce
      exact ⟨fun up => Cl.un0 I3 up un g3, ClX.unpinE (I3.after ce)⟩
  exact wpAny_mono (PySem.wpAny_toks called) (fun u s' z => ⟨z.2.1 z.1, z.2.2⟩) fun _ _ z => z.2
end
end Sq
set_option Elab.async false
set_option linter.all false
set_option maxRecDepth 100000
set_option maxHeartbeats 4000000
/-! x, y = f(..); tuples of names; o.replace(y, ''), max of a list: what is known is kept. -/
namespace Sq
open PySem PySem.Spec PyProof.Rows L2 GenW
section
variable {X : Cx} {Θ : Shared → Prop} {ys : List Str} {pins : List (Addr × Obj)} {σ : L2.St} {H : Hp} {s : Shared} {x y z fn : Str} {p px py pz pt1 pt2 spos pos cpos apos p1 p2 c1 : Pos} {e a b c o : Expr} {es : List Expr} {t : TA} {te to : TE} {rest : List Stmt} {i j l k k1 k2 n : Nat} {ps : List Str} {sp : Sp} {u0 : Value}
/-- x, y = f(..), a list of two: the raw value of y is known behind it -/
def tText1 (sp : Sp) (t : TA) (i j : Nat) (tr : Value → Nat → TS) : TS := fun D σ H => t σ H fun vs H1 => sp vs H1 (fun r H2 => ∃ a v w, r = .ref a ∧ H2 a = some (.lst [v, w]) ∧ ∀ u0 n, Tkn 0 [u0] n → RelV w u0 → tr u0 n D ((σ.set i (some v)).set j (some w)) H2) E0
theorem wu_text1 {tr : Value → Nat → TS} (D0 : DfR X.prog X.w X.K X.mg X.base k fn ps sp) (hr : Room k X.A) (hg : Gl X fn) (ha : PA X (e :: es) t) (mood : X.calm = true) (hN : X.N.Nodup) (hi : X.N[i]? = some x) (hj : X.N[j]? = some y)
    (kx : X.env.scope.names.lookup x = some .local) (ky : X.env.scope.names.lookup y = some .local)
    (hrest : ∀ (u0 : Value) (n : Nat), Tkn 0 [u0] n → Wu X (fun s => Raw X y u0 s ∧ n ≤ s.toks) rest (tr u0 n))
    (hs : swapsWithSole [.Tuple [.Name x px, .Name y py] k1 pt1] (.Call (.Name fn p) (e :: es) [] cpos) pos.line X.env = pure false := by rfl)
    (hw : swappedStores [.Tuple [.Name x px, .Name y py] k1 pt1] (.Call (.Name fn p) (e :: es) [] cpos) X.env = pure none := by rfl)
    (hdb : (fn == ("__debug__" : Str)) = false := by decide)
    (he : starEach (e :: es) X.env = (false, eval e X.env) :: starEach es X.env := by rfl) (hpl : (backTo cpos (starEach es X.env)).any (·.1) = false := by rfl)
    (h1 : (assignEach [.Tuple [.Name x px, .Name y py] k1 pt1] X.env).map (·.2) = [assign (.Tuple [.Name x px, .Name y py] k1 pt1) X.env] := by rfl)
    (h4 : (assignEach [.Name x px, .Name y py] X.env).map (·.2) = [assign (.Name x px) X.env, assign (.Name y py) X.env] := by rfl)
    (l4 : (assignEach [.Name x px, .Name y py] X.env).length = 2 := by rfl) (st4 : (assignEach [.Name x px, .Name y py] X.env).findIdx? (·.1) = none := by rfl) :
    Wu X (fun _ => True) (.Assign [.Tuple [.Name x px, .Name y py] k1 pt1] (.Call (.Name fn p) (e :: es) [] cpos) pos :: rest) (tText1 sp t i j tr) := by
  obtain ⟨f, fd, F, g, kp, b⟩ := D0.ex
  refine ⟨fun pins s σ H D I _ h => ?_⟩
  refine wpAny_execs_cons (wpAny_Assign_stores ?_ hs hw)
  refine wpAny_Call_Name_kw (ld_glob I hg g ?_ hdb)
  refine PySem.W.callWith_K (h₀ := X.base) I.ok.mod.kin kp (thn (ha.run cpos pins s σ H _ I h) fun us s1 hh => ?_) he hpl
  obtain ⟨vs, H1, I1, r, q⟩ := hh
  refine ⟨I1.kIn, ?_⟩
  have hl' : us.length = ps.length := by rw [← r.length]; exact F.len _ _ _ _ q
  have bind := b s1 us I1.kIn (by rw [List.append_nil]; exact hl')
  rw [List.append_nil] at bind
  refine wpAny_call (codeAny_mono (F.run X.A X.stack s1 H1 ⟨us, []⟩ us vs _ hr I1.env0 bind r q) fun r s2 hq => ?_)
  match r, hq with
  | .ok (.ret u), hq =>
    obtain ⟨ce, l0, ra, rb, n0, eu, at0, good⟩ := hq
    subst eu
    obtain ⟨rv, H2, I2, rr, a, v, w, ev, gl, q2⟩ := I1.after ce
    subst ev
    obtain rfl : l0 = a := by injection rr
    obtain ⟨_, its, n2, rits, at2⟩ := I2.hok l0 _ gl
    rw [at0] at at2
    have eits : its = [ra, rb] := by
      injection at2 with e1
      injection e1 with _ _ e2 _
      injection e2 with e3 _
      have e4 := congrArg Array.toList e3
      simpa using e4.symm
    subst eits
    obtain ⟨ru, rw'⟩ : RelV v ra ∧ RelV w rb := by
      cases rits with
      | cons r1 r2 => cases r2 with
        | cons r2 _ => exact ⟨r1, r2⟩
    rw [h1]
    show wpAny _ _ (assign (.Tuple [.Name x px, .Name y py] k1 pt1) X.env (.ref l0)) _ _ _
    rw [PyProof.Rows.assign_Tuple]
    refine wpAny_bind (wpAny_standAt ?_)
    unfold unpack
    rw [l4, st4]
    have isl : s2.heap.IsList l0 #[ra, rb] := ⟨_, at0, rfl, n0, rfl⟩
    refine wpAny_bind (wpAny_holding (PySem.W.kun_itemsOf (items := #[ra, rb]) (I2.ok.hd mood) isl fun h9 hx9 => ?_))
    have I9 : Inv X pins σ H2 { s2 with heap := h9 } := I2.kept (t' := s2.toks) fun b o e => hx9 b o (Nat.ne_of_lt (Heap.lt_size e)) e
    rw [h4]
    show wpAny _ _ (assignInOrder [assign (.Name x px) X.env, assign (.Name y py) X.env] [ra, rb]) _ _ _
    refine assignInOrder_cons (wpAny_assign_Name (put_ok I9 hN hi (.inl kx) ru (fun s10 I10 up10 _ => ?_) (.inr kx)))
    refine assignInOrder_cons (wpAny_assign_Name (put_local I10 hN hj ky rw' fun s11 I11 up11 _ raw => assignInOrder_nil ?_))
    have n11 : s2.toks ≤ s11.toks := Nat.le_trans up10 up11
    exact (hrest rb s2.toks good).run pins s11 _ H2 D I11 ⟨raw, n11⟩ (q2 rb s2.toks good rw')
/-- x, z = e1, e2 -/
theorem ws_par2 {ta : TA} (Cl : Clo X ys Θ) (nx : x ∉ ys) (nz : z ∉ ys) (mood : X.calm = true) (hN : X.N.Nodup) (hi : X.N[i]? = some x) (hj : X.N[j]? = some z) (hij : i ≠ j)
    (hx : X.env.scope.names.lookup x = some .local) (hz : X.env.scope.names.lookup z = some .local) (ha : Wa X Θ [a, b] ta)
    (hw : swappedStores [.Tuple [.Name x px, .Name z pz] k1 pt1] (.Tuple [a, b] k2 pt2) X.env = pure (some [x, z]))
    (hs : swapsWithSole [.Tuple [.Name x px, .Name z pz] k1 pt1] (.Tuple [a, b] k2 pt2) spos.line X.env = pure false := by rfl) :
    Ws X Θ (.Assign [.Tuple [.Name x px, .Name z pz] k1 pt1] (.Tuple [a, b] k2 pt2) spos) (tPar i j ta) := by
  refine ⟨fun pins s σ H D I θ h => ?_⟩
  rw [exec_Assign_arm]
  refine wpAny_bind (wpAny_standAt ?_)
  rw [hs]
  refine wpAny_bind (wpAny_pure ?_)
  rw [if_neg (by decide)]
  refine wpAny_bind (Tuple_ (thn (ha.run _ pins s σ H _ I θ h) fun us s1 hh => ?_))
  obtain ⟨g1, vs, H1, I1, r1, v, w, e1, q1⟩ := hh
  subst e1
  obtain ⟨u1, u2, rfl, rv, rw'⟩ := vals2 r1
  refine wpAny_newObj_type ?_ (by show 2 ≤ sizeLine; decide)
  have g2 := Cl.push (o := { cls := .type "tuple", data := .seq [u1, u2].toArray }) I1 g1
  have I2 : Inv X pins σ H1 { s1 with heap := s1.heap.push { cls := .type "tuple", data := .seq [u1, u2].toArray } } := I1.kept (t' := s1.toks) fun b o e => Heap.get?_push_of_some _ e
  rw [hw]
  refine wpAny_bind (wpAny_pure ?_)
  show wpAny (model X.prog X.w) X.A (do rule "assign.swapped-stores"; let items ← unpackItems (.ref s1.heap.objs.size) 2 none; assignInOrder [fun v => bindName X.env z v, fun v => bindName X.env x v] items.reverse; pure Flow.next) _ _ _
  refine wpAny_bind (wpAny_rule (wpAny_bind (unpackItems_tuple (items := #[u1, u2]) (I.ok.hd mood) (IsTup.new s1.heap _) fun h' hx' => ?_)))
  have stay := fun (b : Addr) (o : Obj) (e : (s1.heap.push { cls := .type "tuple", data := .seq [u1, u2].toArray }).get? b = some o) => hx' b o (Nat.ne_of_lt (Heap.lt_size e)) e
  have I3 := I2.kept (h' := h') (t' := s1.toks) stay
  have g3 := Cl.kept (s' := { s1 with heap := h' }) I2 (Nat.le_refl _) stay g2
  show wpAny _ _ (assignInOrder [fun v => bindName X.env z v, fun v => bindName X.env x v] [u2, u1] >>= fun _ => pure Flow.next) _ _ _
  refine wpAny_bind (assignInOrder_cons (wpAny_bindName (put_ok I3 hN hj (.inl hz) rw' (fun s2 I4 up4 pt4 => ?_) (.inr hz))))
  refine assignInOrder_cons (wpAny_bindName (put_ok I4 hN hi (.inl hx) rv (fun s3 I5 up5 pt5 => assignInOrder_nil (wpAny_pure ?_)) (.inr hx)))
  have g5 := Cl.st I4 nx up5 pt5 (Cl.st I3 nz up4 pt4 g3)
  rw [List.set_comm _ _ (Ne.symm hij)] at I5
  exact ⟨g5, _, H1, I5, q1⟩
theorem cw_max (Cl : Clo X ys Θ) (hc : X.calm = true) : CallW X Θ (.builtin "max") (rMax X.K) := by
  intro pins s σ H vs us Q I θ r h
  obtain ⟨a, ns, rfl, hs, hne, q⟩ := h
  obtain ⟨its, rv, hl, _⟩ := I.list hs
  rw [Vals.ref1 r]
  have asked : wpAny (model X.prog X.w) X.A (call (.builtin "max") [.ref a]) (fun u s' => (s.toks ≤ s'.toks → Θ s') ∧ EP X pins σ Q u s') X.xe s :=
    max_raw (I.ok.hd hc) hl.isList rv.ints hne fun h' tk m t' hk h1 h2 => ⟨fun up => Cl.kept (s' := { s with heap := h', toks := tk }) I up hk θ, .int _, H, I.kept hk, ⟨_, rfl⟩, q m h1 h2⟩
  exact wpAny_mono (PySem.wpAny_toks asked) (fun u s' z => ⟨z.2.1 z.1, z.2.2⟩) fun _ _ z => z.2
/-- o.replace(y, ''), the raw value of y known -/
def tRepE (j : Nat) (to : TE) : TE := fun σ H Q => to σ H fun x H1 => ∃ (a : Str) (b : Nat), x = .str a ∧ σ[j]? = some (some (.str ⟨#[b]⟩)) ∧ a.length ≤ 1000000 ∧ Q (.str (Txt.replace a ⟨#[b]⟩ "")) H1
theorem we_repE {kc : Nat} (Cl : Clo X ys Θ) (Kn : KnownU X Θ y u0) (good : Tkn 0 [u0] n) (hn : ∀ s, Θ s → n ≤ s.toks) (ho : We X Θ o to) (hy : X.N[j]? = some y) (vy : Vis X.env.scope y) (hdy : (y == ("__debug__" : Str)) = false := by decide)
    (hst : starEach [.Name y p2, .Constant (.str "") kc c1] X.env = [(false, eval (.Name y p2) X.env), (false, eval (.Constant (.str "") kc c1) X.env)] := by rfl)
    (hbase : attributeBase o "replace" X.env (eval o X.env) = eval o X.env := by rfl) (hline : (apos.endLine == pos.line) = true := by rfl) :
    We X Θ (.Call (.Attribute o "replace" apos) [.Name y p2, .Constant (.str "") kc c1] [] pos) (tRepE j to) := by
  refine ⟨fun pins s σ H Q I θ h => ?_⟩
  refine PySem.Call_method2 hbase hst hline (thn (ho.run pins s σ H _ I θ h) fun u s1 hh => ?_)
  obtain ⟨g1, x, H1, I1, rx, a, b, ex, ey, few, q⟩ := hh
  subst ex
  obtain ⟨ta, rfl⟩ := rx
  refine ⟨"str", _, PySem.F.plainAttrs_str, PySem.F.slot_str_replace, PySem.F.type_str_replace, typeIs_str _ _ _, (fun _ e => nomatch e), Calls.callWith_builtin rfl (Calls.evalArgs_plain (Calls.spliced_cons ?_))⟩
  refine knownU_eval Kn I1 g1 hy vy ey (fun ru => ?_) hdy
  obtain ⟨tb, eu⟩ := id ru
  subst eu
  obtain ⟨t1, t2⟩ := good ⟨#[b]⟩ tb rfl rfl
  refine Calls.spliced_cons (Calls.Constant_str (Calls.spliced_nil ?_))
  have up : tb < s1.toks := Nat.lt_of_lt_of_le t2 (hn s1 g1)
  have t0 : s1.toks ≠ 0 := fun z => by rw [z] at up; exact Nat.not_lt_zero _ up
  have called : wpAny (model X.prog X.w) X.A (call (.builtin "str.replace") [.str a ta, .str ⟨#[b]⟩ tb, .str "" s1.toks]) (fun u s' => (s1.toks + 1 ≤ s'.toks → Θ s') ∧ EP X pins σ Q u s') X.xe { s1 with toks := s1.toks + 1 } :=
    PySem.SC.replace t1 t0 (Nat.ne_of_lt up) rfl (by show a.length + (a.length + 1) * 0 ≤ 16777216; omega) fun t' kk => ⟨fun h => Cl.kept (s' := { s1 with toks := kk }) I1 (Nat.le_of_succ_le h) (fun _ _ e => e) g1, .str _, H1, I1.tok kk, ⟨t', rfl⟩, q⟩
  exact wpAny_mono (PySem.wpAny_toks called) (fun u s' z => ⟨z.2.1 z.1, z.2.2⟩) fun _ _ z => z.2
end
end Sq
set_option Elab.async false
set_option linter.all false
set_option maxRecDepth 100000
set_option maxHeartbeats 4000000
/-! The first item of a generator that raises nothing; a walk that is left at its first item. -/
namespace Sq
open PySem PySem.Spec PyProof.Rows L2 GenW
abbrev TGP := (V → Hp → Prop) → L2.St → Hp → Prop
/-- statements that come to a yield: what is handed out first -/
structure GP (X : Cx) (sts : List Stmt) (t : TGP) : Prop where
  run : ∀ (A : Around) (R : GenEnd) (Y : Protocol) (ip : List (Addr × Obj)) (s₀ : Shared) (c : Code) (fs : List Frame) (Kf : Flow → Sem PySem.Fin) (Je : Value → Sem PySem.Fin) (gd : Bool → Bool) (lv : List Value → List Value) (s : Shared) (σ : L2.St) (H : Hp) (Q : V → Hp → Prop),
    A.over c fs = X.A → splitAtGen fs = none → gd false = false → fs.any Frame.guarded = false → Inv X ip σ H s → t Q σ H →
    (∀ (ip' : List (Addr × Obj)) (σ' : L2.St) (H' : Hp) (s' : Shared) (x : V) (v : Value) (kap : Resume → Shared → Prop), Inv X (ip ++ ip') σ' H' s' → RelV x v → Q x H' → Y 0 s₀ v s' kap) →
    Seg (model X.prog X.w) A R Y 1 s₀ c ((execs sts X.env).wrap Kf Je gd lv) fs s
section
variable {X : Cx} {st : Stmt} {rest body : List Stmt} {ts : TS} {tr tb : TGP} {e tg iter : Expr} {te : TE} {wi : TI} {g : TG} {yp pos : Pos}
theorem gp_cons (nx : ∀ e s, X.xe e s → False) (h1 : PS X st ts) (h2 : GP X rest tr) : GP X (st :: rest) (fun Q σ H => ts { nx := tr Q, rt := fun _ _ => False } σ H) := by
  refine ⟨fun A R Y ip s₀ c fs Kf Je gd lv s σ H Q over sp g0 gu I h fin => ?_⟩
  refine seg_execs_cons (seg_wrap ?_)
  rw [over]
  refine wpAny_mono (h1.run ip s σ H _ I h) (fun fl s3 q3 => ?_) fun e s3 hx => (nx e s3 hx).elim
  cases fl with
  | brk => exact q3.elim fun _ z => z.elim fun _ z => False.elim z.2
  | cont => exact q3.elim fun _ z => z.elim fun _ z => False.elim z.2
  | ret u => exact q3.elim fun _ z => z.elim fun _ z => z.elim fun _ z => False.elim z.2.2
  | next =>
    obtain ⟨σ3, H3, J3, r3⟩ := q3
    exact h2.run A R Y ip s₀ c fs Kf Je gd lv s3 σ3 H3 Q over sp g0 gu J3 r3 fin
theorem gp_yield (nx : ∀ e s, X.xe e s → False) (he : PE X e te) (co : X.env.scope.isCoroutine = false) (hi : interactive X.env = false) : GP X (.Expr (.Yield (some e) yp) pos :: rest) (fun Q σ H => te σ H Q) := by
  refine ⟨fun A R Y ip s₀ c fs Kf Je gd lv s σ H Q over sp g0 gu I h fin => ?_⟩
  refine seg_execs_cons (seg_Expr_Yield sp g0 gu ?_ co hi)
  rw [over]
  refine wpAny_mono (he.run ip s σ H _ I h) (fun v s5 q5 => ?_) fun e s5 hx => (nx e s5 hx).elim
  obtain ⟨x, H5, J5, rv, q⟩ := q5
  intro kap hk
  exact fin [] σ H5 s5 x v kap (by rw [List.append_nil]; exact J5) rv q
theorem gp_for (nx : ∀ e s, X.xe e s → False) (mood : X.calm = true) (hi : PI X tg iter wi) (hg : PG X tg g) (hb : GP X body tb) (hs : ∀ x, foldedSetIterable iter X.env x = pure x := by intro _; rfl) :
    GP X (.For tg iter body [] pos :: rest) (fun Q σ H => wi σ H fun J H1 => J.go 0 H1 ∧ ∀ x H', J.yld 0 H1 x H' → g x σ H' fun σ2 H2 => tb Q σ2 H2) := by
  refine ⟨fun A R Y ip s₀ c fs Kf Je gd lv s σ H Q over sp g0 gu I h fin => ?_⟩
  refine seg_execs_cons (segFor ?_ hs)
  rw [over]
  refine wpAny_mono (hi.run ip s σ H _ I h) (fun v s1 h1 => ?_) fun x s' hx => (nx x s' hx).elim
  refine wpAny_mono h1 (fun itv s2 h2 => ?_) fun x s' hx => (nx x s' hx).elim
  obtain ⟨it, fp, tn, J', H2, e, I2, T, st2, f2, go, turn⟩ := h2
  subst e
  intro p
  refine segForLoop ?_
  have over' : ∀ kk : Result → Sem PySem.Fin, A.over (.forLoop tg (.ref it) body [] X.env) (.ret kk none (gd false) (lv []) c p [] :: fs) = X.A := fun kk => (over_loop rfl rfl).trans over
  rw [over']
  refine wpAny_mono (T.item X rfl rfl rfl mood 0 _ s2 σ H2 X.xe I2 f2 st2 go) (fun rr s4 hh => ?_) fun x s' hx => (nx x s' hx).elim
  obtain ⟨u, hr, h4⟩ := hh
  subst hr
  refine wpAny_mono h4 (fun _ s5 hh => ?_) fun x s' hx => (nx x s' hx).elim
  obtain ⟨x, H5, I5, r5, y5, st5, fr5⟩ := hh
  have fpk : ∀ b ∈ fp, FpOk X ip H5 b := fun b hb => by
    obtain ⟨_, q1, q2, q3, q4, q5⟩ := f2 b hb
    exact ⟨fr5 b hb, q1, q2, q3, q4, q5⟩
  have I5' := I5.pinned fpk (T.obj _ _ st5)
  refine wpAny_mono (hg.run _ s5 σ H5 x u _ I5' r5 (turn x H5 y5)) (fun _ s6 hh => ?_) fun x s' hx => (nx x s' hx).elim
  obtain ⟨σ6, H6, I6, q6⟩ := hh
  refine hb.run A R Y (ip ++ pinsAt fp s5.heap) s₀ _ _ _ _ id id s6 σ6 H6 Q (over' _) ?_ rfl ?_ I6 q6 fun ip' σ' H' s' x v kap I' => fin (pinsAt fp s5.heap ++ ip') σ' H' s' x v kap (by rw [← List.append_assoc]; exact I')
  · show (splitAtGen fs).map _ = none
    rw [sp]
    rfl
  · show (gd false || fs.any Frame.guarded) = false
    rw [g0, gu]
    rfl
end
end Sq
set_option Elab.async false
set_option linter.all false
set_option maxRecDepth 100000
set_option maxHeartbeats 4000000
/-! The first item of a generator def; for x in g(..): ..; break. -/
namespace Sq
open PySem PySem.Spec PyProof.Rows L2 GenW
theorem gfn1c_of {P : Program} {w : World} {K : PySem.W.Frag} {mg : Str → Option Value} {base : Heap} {k : Nat} {f : Addr} {name qual : Str} {params : Arguments} {body : List Stmt} {scope : Scope} {dV kV doc pm cdv ct oc : Value} {an od : Option Addr}
    {osl : Array (Option Value)} {N ps : List Str} {sp : SpF} (found : K.lookup f = some ⟨oc, od, .func (PySem.W.fnOf name qual params body scope dV kV doc pm an cdv ct), osl⟩) (coded : PySem.W.codeIn K cdv qual = true) (S : GScope N ps scope)
    (len : ∀ vs H Q E, sp vs H Q E → vs.length = ps.length) (inter : ∀ n : Nat, interactive (envOfC qual scope n f cdv) = false)
    (inner : ∀ (A : Around) (outer : List Env) (s : Shared) (H : Hp) (vs : List V) (Q : V → Hp → Prop) (E : XK) (pn : List (Addr × Obj)), Room k (A.deeper (envOfC qual scope s.heap.objs.size f cdv)) → sp vs H Q E →
      ∃ t, GP (gcxOf P w K mg base N qual scope f cdv A outer s H E pn).nox body t ∧ t Q (start N vs) H) :
    GFn1 P w K mg base (k + 1) f (PySem.W.fnOf name qual params body scope dV kV doc pm an cdv ct) ps sp := by
  refine ⟨len, fun A outer s H args us vs Q E room e0 bound rel wish => ?_⟩
  have few := len _ _ _ _ wish
  have inK : K.In s.heap := e0.mod.kin.keeps fun b o e => (e0.bs b o e).1
  have noLim : s.heap.NoLimit := e0.mod.nolimit.keeps fun b o e => (e0.bs b o e).1
  have kinds : ∀ y ∈ ps.zip us, scope.names.lookup y.1 = some .local ∨ (scope.names.lookup y.1 = some .cell ∧ ((cellsFrom (s.heap.objs.size + 1) scope.names []).lookup y.1).isSome = true) := fun ⟨n, v⟩ hy =>
    (S.par n (List.of_mem_zip hy).1).elim .inl fun z => .inr ⟨z, PySem.W.cellsFrom_some _ _ _ (.inl z)⟩
  refine codeAny_call_generator room.depth (inK _ _ found) rfl S.co S.gen rfl (PySem.W.codeRec_of inK coded) (bound _ _ _ _ ?_)
  refine wpAny_newFunctionEnv_cells S.kind kinds fun env he s1 made => ?_
  subst he
  have lim1 : s1.heap.NoLimit := noLim.keeps made.toInCall.keep
  refine ⟨lim1, ?_⟩
  obtain ⟨h1, tk, es1, keep1⟩ := made.done
  have os1 : s1.os = s.os := by rw [es1]
  have gen1 : s1.gens = s.gens := by rw [es1]
  have lt1 : s.heap.objs.size < s1.heap.objs.size := made.toInCall.ns.lt
  have keepS : ∀ b o, s.heap.get? b = some o → s1.heap.get? b = some o := made.toInCall.keep
  suffices main : ∀ (go : Obj) (nm qn : Value) (tk2 : Nat), go.cls = .type "generator" → go.data = .fields #[.int s1.gens.size 0, nm, qn] → go.slots = #[] → (∀ h : Heap, (h.push go).get? h.objs.size = some go) →
      GFst P w (k + 1) outer H s Q E (.ref s1.heap.objs.size) { s1 with gens := s1.gens.push (.fresh (.func body (envOfC qual scope s.heap.objs.size f cdv))), toks := tk2, heap := s1.heap.push go } from
    main _ _ _ _ rfl rfl rfl fun h => Heap.get?_push_size _ rfl
  intro go nm qn tk2 isG dataG slotsG pushG
  have isGen : ∀ h : Heap, h.get? s1.heap.objs.size = some go → h.IsGen s1.heap.objs.size s1.gens.size := fun h e => ⟨go, nm, qn, e, isG, dataG, slotsG⟩
  refine ⟨s1.heap.objs.size, s1.gens.size, _, rfl, Nat.le_of_lt lt1, isGen _ (pushG _), Array.getElem?_push_size .., os1, AllBare.push (by rw [gen1]; exact e0.bare) rfl, lim1.keeps fun b o e => Heap.get?_push_of_some _ e, fun b o e => Heap.get?_push_of_some _ (keepS b o e), ?_⟩
  intro Aw s2 roomW framesW keep2 os2 bare2
  have e0w : Env0 P w K mg base Aw outer s H := ⟨framesW, e0.mod, e0.bs, e0.bsz, e0.funs, e0.frf, e0.hok, e0.bare⟩
  obtain ⟨t, p1, reading⟩ := inner Aw outer s H vs Q E [(s1.heap.objs.size, go)] (roomW.deeper _) wish
  have I1 : Inv (gcxOf P w K mg base N qual scope f cdv Aw outer s H E []) [] (start N vs) H s1 := inv_startG S roomW.hd e0w few rel made
  have keep12 : ∀ b o, s1.heap.get? b = some o → s2.heap.get? b = some o := fun b o e => keep2 b o (Heap.get?_push_of_some _ e)
  have I2 : Inv (gcxOf P w K mg base N qual scope f cdv Aw outer s H E []) [] (start N vs) H s2 :=
    I1.call' (ch := []) (os2.trans os1.symm) (Un.kept keep12) (I1.hok.kept keep12) bare2 fun b z => by simp at z
  have thereG : s2.heap.get? s1.heap.objs.size = some go := keep2 s1.heap.objs.size go (pushG _)
  have I3 : Inv (gcxOf P w K mg base N qual scope f cdv Aw outer s H E [(s1.heap.objs.size, go)]) [] (start N vs) H s2 := Inv.pinnedG I2 fun p hp => by
    have hp' : p = (s1.heap.objs.size, go) := by simpa using hp
    rw [hp']
    exact ⟨thereG, I1.hok.fresh (Nat.le_refl _), Nat.ne_of_gt lt1, I1.nofs (Nat.le_refl _), fun v q => by rw [dataG] at q; cases q⟩
  refine seg_func ?_
  refine p1.run Aw _ _ [] s2 _ [] _ _ id id s2 (start N vs) H Q over_func rfl rfl rfl (I3.wish _) reading fun ip' σ' H' s' x v kap I' rv q => ?_
  have J := I'.unwish
  exact ⟨J.os, J.bare, isGen _ (J.pin (s1.heap.objs.size, go) (by simp [gcxOf])).1, x, H', J.base, J.hok, rv, q⟩
/-- for y in g(e, ..): what is left by break -/
def tFirstB (sp : SpF) (t : TA) (i : Nat) (tb : TS) : TS := fun D σ H => t σ H fun vs H1 => sp vs H1 (fun v H2 => tb { nx := fun _ _ => False, ct := fun _ _ => False, bk := D.nx, rt := D.rt } (σ.set i (some v)) H2) E0
section
variable {X : Cx} {Θ : Shared → Prop} {ys : List Str} {k i : Nat} {f : Addr} {fd : FuncData} {ps : List Str} {dvs : List V} {ds : List Value} {sp : SpF} {x y : Str} {p op cpos pos : Pos} {e : Expr} {es : List Expr} {t : TA} {body : List Stmt} {tb : TS}
theorem ws_first (Cl : Clo X ys Θ) (ne : y ∉ ys) (F : GFn1 X.prog X.w X.K X.mg X.base k f fd ps sp) (hr : Room (k + 1) X.A) (hg : Gl X x) (hm : X.mg x = some (.ref f)) (hk : PySem.W.keepIn X.K (.ref f) = true) (hd : Vals dvs ds) (hb : Binds X.K fd ps ds) (ha : Wa X Θ (e :: es) t) (hbd : Wss X Θ body tb)
    (own : PassesOwn (model X.prog X.w) X.A X.env X.xe) (hN : X.N.Nodup) (hi : X.N[i]? = some y) (hl : Loc X.env.scope y) (hfn : X.fn y = true ∨ X.env.scope.names.lookup y = some .local)
    (hdb : (x == ("__debug__" : Str)) = false := by decide) (he : starEach (e :: es) X.env = (false, eval e X.env) :: starEach es X.env := by rfl) (hpl : (backTo cpos (starEach es X.env)).any (·.1) = false := by rfl) :
    Ws X Θ (.For (.Name y op) (.Call (.Name x p) (e :: es) [] cpos) body [] pos) (tFirstB (fun vs H Q E => sp (vs ++ dvs) H Q E) t i tb) := by
  refine ⟨fun pins s σ H D I θ h => ?_⟩
  refine wpAny_For (wpAny_Call_Name_kw (ld_glob I hg hm ?_ hdb)) (by intro _; rfl)
  refine PySem.W.callWith_K (h₀ := X.base) I.ok.mod.kin hk (thn (ha.run cpos pins s σ H _ I θ h) fun us s1 hh => ?_) he hpl
  obtain ⟨g1, vs, H1, I1, r1, q⟩ := hh
  refine ⟨I1.kIn, ?_⟩
  have r2 : Vals (vs ++ dvs) (us ++ ds) := r1.append hd
  have few : (us ++ ds).length = ps.length := by rw [← r2.length]; exact F.len _ _ _ _ q
  have bind := hb s1 us I1.kIn few
  have made : wpAny (model X.prog X.w) X.A (call (.ref f) us) (fun u s2 => GFst X.prog X.w k X.stack H1 s1 (fun v H2 => tb { nx := fun _ _ => False, ct := fun _ _ => False, bk := D.nx, rt := D.rt } (σ.set i (some v)) H2) E0 u s2) X.xe s1 :=
    wpAny_call (codeAny_mono (F.run X.A X.stack s1 H1 ⟨us, []⟩ (us ++ ds) (vs ++ dvs) _ E0 (hr.mono (by omega)) I1.env0 bind r2 q) fun r s2 hq => by
      match r, hq with
      | .ok (.ret u), hq => exact hq)
  refine wpAny_mono (PySem.wpAny_toks made) (fun u s2 hh => ?_) fun _ _ z => z.2
  obtain ⟨up2, a, g, c, rfl, ha1, isG, fresh, os2, bare2, lim2, keep2, wake⟩ := hh
  refine wpAny_pyIter_gen isG ?_
  refine codeAny_forLoop_any (fun n s' => s' = s2) (fun n s' hs => ?_) 0 rfl
  subst hs
  have seg := wake X.A.in1 (s'.setGen g .running) ⟨hr.hd, by have := hr.dp; show X.A.depth + 3 * k + 5 < _; omega, by have := hr.un; show X.A.units + 1 + 16 * k + 200 < _; omega⟩ I1.ok.frames (fun b o e => e) os2 (allBare_setGen bare2 rfl)
  have goes : (GenState.fresh c).Goes (model X.prog X.w) X.A.in1 (fun n s₀ r s₁ => ((r = .ok (.ret .none) ∨ r = .ok .next) ∧ False) ∨ ∃ e, r = .error e ∧ (CX X.prog X.w X.stack H1 s1 E0 e s₁ ∧ s₁.heap.IsGen a g)) (Y1 X.prog X.w X.stack H1 s1 a g (fun v H2 => tb { nx := fun _ _ => False, ct := fun _ _ => False, bk := D.nx, rt := D.rt } (σ.set i (some v)) H2)) 1 (.send .none) (s'.setGen g .running) :=
    ⟨rfl, seg_imp (R := R1 X.prog X.w X.stack H1 s1 a g E0) (Y := Y1 X.prog X.w X.stack H1 s1 a g (fun v H2 => tb { nx := fun _ _ => False, ct := fun _ _ => False, bk := D.nx, rt := D.rt } (σ.set i (some v)) H2)) (fun n s₀ r s z => Or.inr z) (fun n s₀ v s kap kap' _ z => z) 1 seg⟩
  refine PySem.wpAny_with_toks (Nat.le_refl s'.toks) (next_genG (A := X.A) (F := fun _ _ _ => False) hr.hd lim2 (by have := hr.dp; omega) isG fresh goes (fun v s₁ gs' bare' hv up3 => ?_) (fun s₁ z => z.elim) fun er s₁ he => ?_)
  · obtain ⟨os3, bare3, isG3, z, H3, un3, ok3, rv, qv⟩ := hv
    have I3 : Inv X pins σ H3 (s₁.setGen g gs') := I1.call' (ch := []) os3 un3 ok3 (allBare_setGen bare3 bare') fun b z => by simp at z
    have θ3 : Θ (s₁.setGen g gs') := Cl.un0 (s' := s₁.setGen g gs') I1 (Nat.le_trans up2 up3) un3 g1
    refine wpAny_of_eq (rfl : letOwnedTupleGo (.Name y op) (.ref a) v = pure ()) ?_
    refine wpAny_passesOwn own (wpAny_assign_Name (put_ok I3 hN hi hl rv (fun s4 I4 up4 pt4 => ?_) hfn))
    refine wpAny_passesOwn own (thn (hbd.run pins s4 _ H3 _ I4 (Cl.st I3 ne up4 pt4 θ3) qv) fun fl s5 h5 => ?_)
    obtain ⟨g5, q5⟩ := h5
    match fl, q5 with
    | .next, ⟨σ5, H5, I5, z⟩ => exact z.elim
    | .cont, ⟨σ5, H5, I5, z⟩ => exact z.elim
    | .brk, ⟨σ5, H5, I5, qd⟩ => exact ⟨g5, σ5, H5, I5, qd⟩
    | .ret v, q5 => exact ⟨g5, q5⟩
  · obtain ⟨hc, _⟩ := he
    obtain ⟨_, _, _, _, _, _, _, _, _, _, _, _, z⟩ := hc
    exact z.elim
end
end Sq
set_option Elab.async false
set_option linter.all false
set_option maxRecDepth 100000
set_option maxHeartbeats 8000000
set_option exponentiation.threshold 2000
namespace Sq
open PySem PySem.Spec PyProof.Rows L2
section
variable {P : Program} {w : World} {K : PySem.W.Frag} {mg : Str → Option Value} {base : Heap}
/-- the first list -/
def spFirst : SpF := fun vs H Q _ => ∃ (n : Nat) (v : Int) (b : Nat), vs = [.int (n : Int), .int v] ∧ 1 ≤ v ∧ v.natAbs < 2 ^ b ∧ b * 2 ^ n ≤ 200000 ∧ n ≤ 8 ∧
  ∀ a H', H a = none → Same H H' → H' a = some (.lst ((pick (chs n v) 0).map V.int)) → Q (.ref a) H'
theorem ok_first {f : Addr} {fd : FuncData} (F : FBestLists K f fd) (B : Bi mg) (D_checknumber : Df P w K mg base 1 "check_number" ["number", "least"] spCheckNumber)
    (D_bestchoices : Df P w K mg base 3 "best_choices" ["steps", "most"] spBestChoices) (D_listat : Df P w K mg base 1 "list_at" ["choices", "place"] spListAt) : GFn1 P w K mg base 5 f fd ["steps", "most"] spFirst := by
  obtain ⟨oc, od, dV, kV, doc, pm, an, cdv, ct, osl, rfl, lk, hcd, hD, hK⟩ := F.ex
  refine gfn1c_of (k := 4) lk hcd sc_bestlists (fun vs H Q E h => ?_) (fun _ => rfl) (fun A outer s H vs Q E pn hr h => ?_)
  · obtain ⟨n, v, b, rfl, _⟩ := h
    rfl
  · obtain ⟨n, v, b, rfl, hv, hb, hb2, hn, q⟩ := h
    refine ⟨_, (gp_cons (fun _ _ h => h) (ps_expr (pe_callD D_checknumber (hr.mono (by omega)) (by rfl) (pa_cons (pv 0) (pa_cons pe_int pa_nil)))) (gp_cons (fun _ _ h => h) (ps_expr (pe_callD D_checknumber (hr.mono (by omega)) (by rfl) (pa_cons (pv 1) (pa_cons pe_int pa_nil)))) (gp_cons (fun _ _ h => h) (ps_set (i := 2) sc_bestlists.nd rfl (Or.inl rfl) (pe_callD D_bestchoices (hr.mono (by omega)) (by rfl) (pa_cons (pv 0) (pa_cons (pv 1) pa_nil)))) (gp_cons (fun _ _ h => h) (ps_set (i := 3) sc_bestlists.nd rfl (Or.inl rfl) pe_int) (gp_cons (fun _ _ h => h) (ps_for PassesOwn.never rfl (pi_list (pv 2)) (pg_name (i := 4) sc_bestlists.nd rfl (Or.inl rfl))
 (pss_one (ps_set (i := 3) sc_bestlists.nd rfl (Or.inl rfl) (pe_op op_mul (pv 3) (pe_callB (id := "len") (r := rLenK K) call_lenK (by rfl) B.n_len (by decide +kernel) (pa_cons (pv 4) pa_nil))))))
      (gp_for (fun _ _ h => h) rfl (pi_range1 (by rfl) B.n_range (pa_cons (pv 3) pa_nil)) (pg_name (i := 5) sc_bestlists.nd rfl (Or.inl rfl)) (gp_yield (fun _ _ h => h) (pe_callD D_listat (hr.mono (by omega)) (by rfl) (pa_cons (pv 2) (pa_cons (pv 5) pa_nil))) rfl rfl))))))), ?_⟩
    refine ⟨_, rfl, (n : Int), 0, rfl, by omega, _, rfl, v, 1, rfl, hv, ?_⟩
    refine ⟨_, rfl, _, rfl, n, v, b, rfl, hv, hb, hb2, by omega, fun p as H1 hp s1 hp1 ra => ?_⟩
    have full := chs_full n v
    have la := ra.len
    have lc := chs_len n v
    have few : ∀ c ∈ chs n v, c.length ≤ 2 := fun c hc => by
      obtain ⟨i, _, rfl⟩ := chs_mem hc
      rw [bests_len]
      split <;> omega
    refine ⟨_, rfl, p, rfl, ⟨_, SqL.of hp1⟩, for_list (K := K) (a := p) (xs := as.map V.ref) (fun i σ H' => H' = H1 ∧ ∃ y4 y5, σ = [some (.int (n : Int)), some (.int v), some (.ref p), some (.int (lens ((chs n v).take i))), y4, y5])
      ⟨rfl, none, none, rfl⟩ (fun i σ H' _ h => by rw [h.1]; exact SqL.of hp1) ?_ ?_⟩
    · rintro i x σ H' hi ⟨rfl, y4, y5, rfl⟩
      obtain ⟨a, ha, rfl⟩ := map_ref hi
      have hil : i < (chs n v).length := by
        have := (List.getElem?_eq_some_iff.mp ha).1
        omega
      obtain ⟨c, hc⟩ : ∃ c, (chs n v)[i]? = some c := ⟨_, List.getElem?_eq_getElem hil⟩
      obtain ⟨a', ha', hac⟩ := ra.get hc
      rw [ha] at ha'
      cases ha'
      have lc2 := few c (List.mem_of_getElem? hc)
      refine ⟨_, rfl, _, rfl, a, c.map V.int, rfl, .inl (SqL.of hac), _, _, rfl, rfl, .inr ⟨by rw [List.length_map]; omega, by rw [List.length_map]; omega⟩, rfl, some (.ref a), y5, ?_⟩
      have e : (chs n v).take (i + 1) = (chs n v).take i ++ [c] := by rw [List.take_add_one, hc]; rfl
      rw [e, lens_app, List.length_map]
      show _ = [_, _, _, some (V.int (lens ((chs n v).take i) * ((c.length : Int) * 1))), _, _]
      rw [Int.mul_one]
      rfl
    · rintro σ H' ⟨rfl, y4, y5, rfl⟩
      have e0 : (chs n v).take (as.map V.ref).length = chs n v := List.take_of_length_le (by rw [List.length_map, la]; exact Nat.le_refl _)
      rw [e0]
      have lp := lens_pos full
      have ll := lens_le hn v
      refine ⟨_, rfl, lens (chs n v), rfl, by omega, by omega, by show 0 < (lens (chs n v)).toNat; omega, fun x H' hy => ?_⟩
      obtain ⟨rfl, rfl⟩ := hy
      refine ⟨_, rfl, _, rfl, p, _, as, chs n v, rfl, hp1, ra, full, fun c hc => by have := few c hc; omega, by omega, fun q' H4 hq s4 hq4 => ?_⟩
      exact q q' H4 (s1.free hq) (s1.trans s4) hq4
end
end Sq
set_option Elab.async false
set_option linter.all false
set_option maxRecDepth 100000
set_option maxHeartbeats 8000000
set_option exponentiation.threshold 2000
namespace Sq
open PySem PySem.Spec PyProof.Rows L2
section
variable {P : Program} {w : World} {K : PySem.W.Frag} {mg : Str → Option Value} {base : Heap}
theorem reach_v {f : Addr} {fd : FuncData} (F : FReach K f fd) (G : FnOk P w K mg base CX0 2 f fd ["replacements", "most"] (spReach K)) (g : mg "reach" = some (.ref f)) : Dv P w K mg base 2 "reach" ["replacements", "most"] [.int 1] (spReach K) := by
  obtain ⟨ds, hd, hb⟩ := F.binds1 (ps := ["replacements", "most"]) 1 0 (by simp) rfl (fun T kV doc pm an cdv ct us its h1 h2 => match us, its, h1, h2 with | [_], [_], _, _ => ⟨_, rfl, rfl⟩)
  exact ⟨⟨f, fd, ds, G, g, F.kp, hd, hb⟩⟩
theorem fewest_v {f : Addr} {fd : FuncData} (F : FFewest K f fd) (G : FnOk P w K mg base CX0 3 f fd ["length", "most"] spFewest) (g : mg "fewest_steps" = some (.ref f)) : Dv P w K mg base 3 "fewest_steps" ["length", "most"] [.int 1] spFewest := by
  obtain ⟨ds, hd, hb⟩ := F.binds1 (ps := ["length", "most"]) 1 0 (by simp) rfl (fun T kV doc pm an cdv ct us its h1 h2 => match us, its, h1, h2 with | [_], [_], _, _ => ⟨_, rfl, rfl⟩)
  exact ⟨⟨f, fd, ds, G, g, F.kp, hd, hb⟩⟩
/-- a generator def, the rest by defaults -/
structure Dgv (P : Program) (w : World) (K : PySem.W.Frag) (mg : Str → Option Value) (base : Heap) (k : Nat) (x : Str) (ps : List Str) (dvs : List V) (sp : SpG) : Prop where
  ex : ∃ f fd ds, GFn P w K mg base k f fd ps sp ∧ mg x = some (.ref f) ∧ PySem.W.keepIn K (.ref f) = true ∧ Vals dvs ds ∧ Binds K fd ps ds
theorem pe_listGV {X : Cx} {k : Nat} {ps : List Str} {dvs : List V} {sp : SpG} {x : Str} {p pos lp lpos : Pos} {e : Expr} {es : List Expr} {t : TA} (D : Dgv X.prog X.w X.K X.mg X.base k x ps dvs sp) (hr : Room (k + 3) X.A) (hg : Gl X x) (hl : Gl X "list") (hm : X.mg "list" = none) (ha : PA X (e :: es) t) (hdb : (x == ("__debug__" : Str)) = false := by decide)
    (he : starEach (e :: es) X.env = (false, eval e X.env) :: starEach es X.env := by rfl) (hpl : (backTo pos (starEach es X.env)).any (·.1) = false := by rfl)
    (he2 : starEach [.Call (.Name x p) (e :: es) [] pos] X.env = (false, eval (.Call (.Name x p) (e :: es) [] pos) X.env) :: starEach [] X.env := by rfl) :
    PE X (.Call (.Name "list" lp) [.Call (.Name x p) (e :: es) [] pos] [] lpos) (tListG (tCallG sp dvs E0 t)) := by
  obtain ⟨f, fd, ds, F, g, kp, hd, b⟩ := D.ex
  exact pe_listG (pgen_call F (hr.mono (by omega)) hg g kp b hd ha hdb he hpl) passG (fun _ _ _ h => h.elim) hr hl hm (by decide +kernel) (by decide) (by decide) he2
theorem bestlists_v {f : Addr} {fd : FuncData} (F : FBestLists K f fd) (G : GFn P w K mg base 5 f fd ["steps", "most"] spBestLists) (g : mg "best_lists" = some (.ref f)) : Dgv P w K mg base 5 "best_lists" ["steps", "most"] [.int 1] spBestLists := by
  obtain ⟨ds, hd, hb⟩ := F.binds1 (ps := ["steps", "most"]) 1 0 (by simp) rfl (fun T kV doc pm an cdv ct us its h1 h2 => match us, its, h1, h2 with | [_], [_], _, _ => ⟨_, rfl, rfl⟩)
  exact ⟨⟨f, fd, ds, G, g, F.kp, hd, hb⟩⟩
/-- its first item -/
structure DfF (P : Program) (w : World) (K : PySem.W.Frag) (mg : Str → Option Value) (base : Heap) (k : Nat) (x : Str) (ps : List Str) (dvs : List V) (sp : SpF) : Prop where
  ex : ∃ f fd ds, GFn1 P w K mg base k f fd ps sp ∧ mg x = some (.ref f) ∧ PySem.W.keepIn K (.ref f) = true ∧ Vals dvs ds ∧ Binds K fd ps ds
theorem first_v {f : Addr} {fd : FuncData} (F : FBestLists K f fd) (G : GFn1 P w K mg base 5 f fd ["steps", "most"] spFirst) (g : mg "best_lists" = some (.ref f)) : DfF P w K mg base 5 "best_lists" ["steps", "most"] [.int 1] spFirst := by
  obtain ⟨ds, hd, hb⟩ := F.binds1 (ps := ["steps", "most"]) 1 0 (by simp) rfl (fun T kV doc pm an cdv ct us its h1 h2 => match us, its, h1, h2 with | [_], [_], _, _ => ⟨_, rfl, rfl⟩)
  exact ⟨⟨f, fd, ds, G, g, F.kp, hd, hb⟩⟩
end
section
open GenW
theorem ws_firstD {X : Cx} {Θ : Shared → Prop} {ys : List Str} {k i : Nat} {ps : List Str} {dvs : List V} {sp : SpF} {x y : Str} {p op cpos pos : Pos} {e : Expr} {es : List Expr} {t : TA} {body : List Stmt} {tb : TS} (Cl : Clo X ys Θ) (ne : y ∉ ys) (D : DfF X.prog X.w X.K X.mg X.base k x ps dvs sp) (hr : Room (k + 1) X.A) (hg : Gl X x) (ha : Wa X Θ (e :: es) t) (hbd : Wss X Θ body tb)
    (own : PassesOwn (model X.prog X.w) X.A X.env X.xe) (hN : X.N.Nodup) (hi : X.N[i]? = some y) (hl : Loc X.env.scope y) (hfn : X.fn y = true ∨ X.env.scope.names.lookup y = some .local := by first | exact .inl rfl | exact .inr rfl)
    (hdb : (x == ("__debug__" : Str)) = false := by decide) (he : starEach (e :: es) X.env = (false, eval e X.env) :: starEach es X.env := by rfl) (hpl : (backTo cpos (starEach es X.env)).any (·.1) = false := by rfl) :
    Ws X Θ (.For (.Name y op) (.Call (.Name x p) (e :: es) [] cpos) body [] pos) (tFirstB (fun vs H Q E => sp (vs ++ dvs) H Q E) t i tb) := by
  obtain ⟨f, fd, ds, F, hm, hk, hd, hb⟩ := D.ex
  exact ws_first Cl ne F hr hg hm hk hd hb ha hbd own hN hi hl hfn hdb he hpl
end
/-- the new object's places are new -/
theorem born {C x dx : Addr} {H H' : Hp} (nx : H x = none) (ndx : H dx = none) {o1 o2 : HO} {y : Addr} (h : upd (upd H dx o1) x o2 y = none) : H y = none := by
  by_cases e1 : y = x
  · rw [e1]; exact nx
  · by_cases e2 : y = dx
    · rw [e2]; exact ndx
    · rwa [upd_ne e1, upd_ne e2] at h
theorem bornS {C x dx : Addr} {H H' : Hp} (nx : H x = none) (ndx : H dx = none) {o1 o2 : HO} (k : ∀ a o, upd (upd H dx o1) x o2 a = some o → a ≠ dx → H' a = some o) : Same H H' := fun a o e => by
  have e1 : a ≠ x := ne_of_none e nx
  have e2 : a ≠ dx := ne_of_none e ndx
  refine k a o ?_ e2
  rw [upd_ne e1, upd_ne e2]
  exact e
/-- the first of the best lists of so many replacements -/
def firstL (st : Nat) : List Int := pick (chs st 1) 0
theorem firstL_is : firstL 0 = [] ∧ firstL 1 = [2] ∧ firstL 2 = [2, 2] ∧ firstL 3 = [3, 2, 2] ∧ firstL 4 = [6, 3, 2, 2] ∧ firstL 5 = [21, 6, 3, 2, 2] ∧ firstL 6 = [231, 21, 6, 3, 2, 2] := by decide +kernel
theorem up_is : up 0 1 = 1 ∧ up 1 1 = 2 ∧ up 2 1 = 4 ∧ up 3 1 = 10 ∧ up 4 1 = 40 ∧ up 5 1 = 460 ∧ up 6 1 = 53590 := by decide +kernel
/-- st is the least number of replacements whose best lists reach m -/
structure Least (m : Int) (st : Nat) : Prop where
  st6 : st ≤ 6
  hi : m ≤ up st 1
  lo : ∀ i, i < st → up i 1 < m
theorem Least.has {m : Int} (h : m ≤ 2000) : ∃ st, Least m st := by
  obtain ⟨u0, u1, u2, u3, u4, u5, u6⟩ := up_is
  have go : ∀ st : Nat, st ≤ 6 → m ≤ up st 1 → (∀ i, i < st → up i 1 < m) → ∃ st, Least m st := fun st a b c => ⟨st, a, b, c⟩
  by_cases c0 : m ≤ 1
  · exact go 0 (by decide) (by rw [u0]; exact c0) fun i hi => absurd hi (Nat.not_lt_zero i)
  by_cases c1 : m ≤ 2
  · exact go 1 (by decide) (by rw [u1]; exact c1) fun i hi => by
      obtain rfl : i = 0 := by omega
      rw [u0]; omega
  by_cases c2 : m ≤ 4
  · refine go 2 (by decide) (by rw [u2]; exact c2) fun i hi => ?_
    have : i = 0 ∨ i = 1 := by omega
    rcases this with rfl | rfl <;> simp only [u0, u1] <;> omega
  by_cases c3 : m ≤ 10
  · refine go 3 (by decide) (by rw [u3]; exact c3) fun i hi => ?_
    have : i = 0 ∨ i = 1 ∨ i = 2 := by omega
    rcases this with rfl | rfl | rfl <;> simp only [u0, u1, u2] <;> omega
  by_cases c4 : m ≤ 40
  · refine go 4 (by decide) (by rw [u4]; exact c4) fun i hi => ?_
    have : i = 0 ∨ i = 1 ∨ i = 2 ∨ i = 3 := by omega
    rcases this with rfl | rfl | rfl | rfl <;> simp only [u0, u1, u2, u3] <;> omega
  by_cases c5 : m ≤ 460
  · refine go 5 (by decide) (by rw [u5]; exact c5) fun i hi => ?_
    have : i = 0 ∨ i = 1 ∨ i = 2 ∨ i = 3 ∨ i = 4 := by omega
    rcases this with rfl | rfl | rfl | rfl | rfl <;> simp only [u0, u1, u2, u3, u4] <;> omega
  refine go 6 (by decide) (by rw [u6]; omega) fun i hi => ?_
  have : i = 0 ∨ i = 1 ∨ i = 2 ∨ i = 3 ∨ i = 4 ∨ i = 5 := by omega
  rcases this with rfl | rfl | rfl | rfl | rfl | rfl <;> simp only [u0, u1, u2, u3, u4, u5] <;> omega
theorem Least.pow {m : Int} {st : Nat} (h : Least m st) : 1 * 2 ^ st ≤ 200000 := by
  have := h.st6
  have : 2 ^ st ≤ 2 ^ 6 := Nat.pow_le_pow_right (by decide) this
  omega
theorem firstL_rpl {st : Nat} (h : st ≤ 6) : Rpl (firstL st) ∧ (firstL st).length = st := by
  obtain ⟨f0, f1, f2, f3, f4, f5, f6⟩ := firstL_is
  have : st = 0 ∨ st = 1 ∨ st = 2 ∨ st = 3 ∨ st = 4 ∨ st = 5 ∨ st = 6 := by omega
  unfold Rpl
  rcases this with rfl | rfl | rfl | rfl | rfl | rfl | rfl
  · rw [f0]; decide
  · rw [f1]; decide
  · rw [f2]; decide
  · rw [f3]; decide
  · rw [f4]; decide
  · rw [f5]; decide
  · rw [f6]; decide
theorem lbw_le (b : Nat) : ∀ (xs : List Nat) (r : Int), 0 ≤ r → ∀ y ∈ lbw b xs r, 0 ≤ y ∧ y ≤ r + xs.length
  | [], r, h0, y, hy => by
    obtain rfl : y = r := List.mem_singleton.mp hy
    simp
    omega
  | x :: xs, r, h0, y, hy => by
    rw [lbw_cons] at hy
    rw [List.length_cons]
    by_cases c : x = b
    · rw [if_pos c] at hy
      have := lbw_le b xs (r + 1) (by omega) y hy
      omega
    · rw [if_neg c] at hy
      rcases List.mem_cons.mp hy with rfl | hy
      · omega
      · have := lbw_le b xs 0 (by omega) y hy
        omega
section
variable {P : Program} {w : World} {K : PySem.W.Frag} {mg : Str → Option Value} {base : Heap} {C : Addr}
def spSingle (C : Addr) (n : Nat) (u0 : Value) : Sp := fun vs H Q _ => ∃ (l : List Nat) (b : Nat), vs = [.ref C, .str (SX.S l), .str ⟨#[b]⟩] ∧ l.length ≤ 2000 ∧ Tkn 0 [u0] n ∧
  ∀ p dx r t m st H', H p = none → H dx = none → H r = none → H t = none → IsMax b l m → Least m st → Txt2 C H' p dx r t u0 b (appT b [l] (firstL st)) (firstL st) → Same H H' → Q (.ref p) H'
theorem ok_single {f : Addr} {fd : FuncData} (F : Fun K "single" "SqueezedText.single" s_SqueezedTextsingle f fd) (B : Bi mg) (ML : MkL P w K mg base 2 C ["self", "text", "character"] 1 (spLvInit C)) (P_longest : Pr P w K mg base 3 C "longest" (spLongest C))
    (V_feweststeps : Dv P w K mg base 3 "fewest_steps" ["length", "most"] [.int 1] spFewest) (V_bestlists : Dgv P w K mg base 5 "best_lists" ["steps", "most"] [.int 1] spBestLists) (MB_squeeze : MtB P w K mg base 5 C "squeeze" (spSqueeze C)) :
    FnW P w K mg base 9 f fd ["cls", "text", "character"] 2 (spSingle C) := by
  refine fnw_ofL F sc_SqueezedTextsingle (fun n u vs H Q E h => ?_) (y := "character") rfl rfl (fun cdv A outer s H us vs Q n u0 hr h rv hu => ?_)
  · obtain ⟨l, b, rfl, _⟩ := h
    rfl
  · obtain ⟨l, b, rfl, ll, good, q⟩ := h
    have cl : Clo (cxOf CX0 P w K mg base ["cls", "text", "character", "made", "steps", "lists", "first"] "SqueezedText.single" (defScope s_SqueezedTextsingle) f cdv A outer s H E0).nox ["character"] (fun s' => Raw (cxOf CX0 P w K mg base ["cls", "text", "character", "made", "steps", "lists", "first"] "SqueezedText.single" (defScope s_SqueezedTextsingle) f cdv A outer s H E0).nox "character" u0 s' ∧ n ≤ s'.toks) := (clo_raw rfl).and clo_n
    have kn : KnownU (cxOf CX0 P w K mg base ["cls", "text", "character", "made", "steps", "lists", "first"] "SqueezedText.single" (defScope s_SqueezedTextsingle) f cdv A outer s H E0).nox (fun s' => Raw (cxOf CX0 P w K mg base ["cls", "text", "character", "made", "steps", "lists", "first"] "SqueezedText.single" (defScope s_SqueezedTextsingle) f cdv A outer s H E0).nox "character" u0 s' ∧ n ≤ s'.toks) "character" u0 := ⟨fun s' h => .inl ⟨rfl, h.1⟩⟩
    refine ⟨_, (wu_cons (ws_set (i := 3) cl (by decide) sc_SqueezedTextsingle.nd rfl (Or.inl rfl) (we_newL (n := n) (i := 0) cl ML (fun _ h => h.2) (hr.mono (by omega)) rfl (Or.inl rfl) (wq_skip (wv 1) (wq_name (i := 2) kn rfl (Or.inl rfl) wa_nil))))
      (wu_weak (Φ := fun s => n ≤ s.toks) (wu_of (wss_cons (ws_ofP (ps_set (i := 4) sc_SqueezedTextsingle.nd rfl (Or.inl rfl) (Sq.pe_callV V_feweststeps (hr.mono (by omega)) (by rfl) (pa_cons (pe_prL P_longest (hr.mono (by omega)) (pv 3)) pa_nil))))
        (wss_cons (ws_ofP (ps_set (i := 5) sc_SqueezedTextsingle.nd rfl (Or.inl rfl) (pe_listGV V_bestlists (hr.mono (by omega)) (by rfl) (by rfl) B.n_list (pa_cons (pv 4) pa_nil))))
        (wss_cons (ws_ofP (ps_set (i := 6) sc_SqueezedTextsingle.nd rfl (Or.inl rfl) (pe_ix (r := rIxL K) ix_list (pv 5) pe_int (fun _ _ => rfl))))
        (wss_cons (ws_expr (we_mVS (n := n) clo_n MB_squeeze (fun _ h => h) (hr.mono (by omega)) (wv 3) (wv 6)))
        (wss_one (ws_ret (wv 3)))))))) (fun _ h => h.2))), ?_⟩
    have szl : sizeLine = 16777216 := sizeLine_eq
    refine ⟨rfl, _, rfl, _, rfl, fun ru x0 dx0 nx0 ndx0 nex0 => ⟨x0, dx0, l, b, rfl, ⟨upd_same, by rw [upd_ne nex0, upd_same], nex0⟩, ll, fun r t H1 nr nt L kd => ⟨rfl, ?_⟩⟩⟩
    have s01 : Same H H1 := bornS (C := C) nx0 ndx0 kd
    have hr0 : H r = none := born (C := C) (H' := H1) nx0 ndx0 nr
    have ht0 : H t = none := born (C := C) (H' := H1) nx0 ndx0 nt
    obtain ⟨m, LL, mC, mR, mT, mN⟩ := id L.m
    refine ⟨_, rfl, x0, dx0, m, _, rfl, LL, x0, dx0, r, t, u0, b, [l], [], rfl, L, fun mx H2 im s2 => ?_⟩
    have rng := lbw_le b (lastT [l]) 0 (by omega) mx im.1
    have el : lastT [l] = l := rfl
    rw [el] at im rng
    obtain ⟨st, le⟩ := Least.has (m := mx) (by omega)
    refine ⟨mx, 1, st, 1, rfl, rng.1, by decide, by decide, le.pow, le.hi, le.lo, fun H3 s3 => ?_⟩
    refine ⟨_, rfl, st, 1, 1, rfl, by decide, by decide, le.pow, by have := le.st6; omega, fun as H4 s4 ra fr q5 hq5 => ?_⟩
    have lp := lens_pos (chs_full st 1)
    have at0 : (rowsOf st 1 (lens (chs st 1)).toNat)[0]? = some (firstL st) := by
      unfold rowsOf firstL
      rw [List.getElem?_map, List.getElem?_range (by omega)]
      rfl
    obtain ⟨a0, ea, ha⟩ := ra.get at0
    have s14 := (s2.trans s3).trans s4
    refine ⟨_, rfl, q5, as.map V.ref, 0, .ref a0, rfl, rfl, SqL.of upd_same, ?_, ?_⟩
    · unfold atI ixN
      rw [if_pos (by decide), if_pos (by rw [List.length_map]; have := (List.getElem?_eq_some_iff.mp ea).1; omega)]
      show (as.map V.ref)[0]? = _
      rw [List.getElem?_map, ea]
      rfl
    obtain ⟨rpl, len⟩ := firstL_rpl le.st6
    have st6 := le.st6
    have s15 : Same H1 (upd H4 q5 (.lst (as.map V.ref))) := s14.trans (same_new hq5)
    have L5 := L.same s15
    obtain ⟨m5, LL5, _, _, _, mN5⟩ := id L5.m
    refine ⟨_, rfl, x0, dx0, m5, _, rfl, LL5, mN5 _ (by decide +kernel) (by decide +kernel) (by decide +kernel), fun q6 g6 hq6 => ⟨_, rfl, a0, (firstL st).map V.int, rfl, SqL.of (same_new hq6 _ _ (same_new hq5 _ _ ha)), upd_same, by rw [List.length_map]; omega, fun T hT => ?_⟩⟩
    have s7 := (s15.trans (same_new (o := .met g6 x0) hq6)).trans (same_new (o := .tup ((firstL st).map V.int)) hT)
    refine ⟨x0, dx0, r, t, T, u0, b, [l], [], firstL st, rfl, upd_same, L.same s7, good, rpl, by rw [len]; show 0 + st ≤ _; omega, fun H6 L6 k6 => ?_⟩
    exact ⟨_, rfl, q x0 dx0 r t mx st H6 nx0 ndx0 hr0 ht0 im le L6 fun y o e => k6 y o (s7 _ _ (s01 _ _ e)) (ne_of_none e hr0) (ne_of_none e ht0)⟩
end
end Sq
set_option Elab.async false
set_option linter.all false
set_option maxRecDepth 100000
set_option maxHeartbeats 8000000
set_option exponentiation.threshold 2000
namespace Sq
open PySem PySem.Spec PyProof.Rows L2
section
variable {P : Program} {w : World} {K : PySem.W.Frag} {mg : Str → Option Value} {base : Heap} {C : Addr}
theorem up_next : ∀ j : Fin 6, (up j.val 1 + 3) ^ 2 / 4 - 2 = up (j.val + 1) 1 ∧ 1 ≤ up j.val 1 ∧ up j.val 1 ≤ 460 := by decide +kernel
def spFewL : Sp := fun vs H Q _ => ∃ (m : Int) (st : Nat), vs = [.int m] ∧ Least m st ∧ ∀ H', Same H H' → Q (.int (st : Int)) H'
theorem ok_lawfewest {f : Addr} {fd : FuncData} (F : Fun K "_law_fewest" "_law_fewest" s_lawfewest f fd) : FnOk P w K mg base CX0 1 f fd ["long"] spFewL := by
  refine F.ok sc_lawfewest (fun vs H Q E h => ?_) (fun cdv A outer s H vs Q E hr h => ?_)
  · obtain ⟨m, st, rfl, _⟩ := h
    rfl
  · obtain ⟨m, st, rfl, le, q⟩ := h
    refine ⟨_, (pss_cons (ps_asg (pe_tup (pa_cons pe_int (pa_cons pe_int pa_nil))) (pg_tup rfl (pgs_cons (pg_name (i := 1) sc_lawfewest.nd rfl (Or.inl rfl)) (pgs_cons (pg_name (i := 2) sc_lawfewest.nd rfl (Or.inl rfl)) pgs_nil))))
 (pss_cons (ps_while PassesOwn.never (pt_cmpR op_lt (pv 2) (pv 0) (nomark _))
 (pss_one (ps_par (i := 1) (j := 2) (by rfl) sc_lawfewest.nd rfl rfl (by decide) rfl rfl (pa_cons (pe_op op_add (pv 1) pe_int) (pa_cons (pe_op op_sub (pe_op op_fdiv (pe_op op_pow (pe_op op_add (pv 2) pe_int) pe_int) pe_int) pe_int) pa_nil)) (by rfl))))
 (pss_one (ps_ret (pv 1))))), ?_⟩
    have szl : sizeLine = 16777216 := sizeLine_eq
    refine ⟨by show 2 ≤ sizeLine; omega, fun T hT => ⟨T, _, rfl, .inl (.inl upd_same), rfl, _, _, rfl, _, _, rfl, rfl, ?_⟩⟩
    have s1 := same_new (o := .tup [V.int 0, V.int 1]) hT
    refine ⟨fun n σ H' => ∃ i : Nat, i + n = st ∧ Same H H' ∧ σ = [some (.int m), some (.int (i : Int)), some (.int (up i 1))], ⟨st, 0, by omega, s1, rfl⟩, ?_⟩
    rintro n σ H' ⟨i, him, sm, rfl⟩
    refine ⟨_, rfl, _, rfl, up i 1, m, rfl, rfl, _, rfl, ?_⟩
    have st6 := le.st6
    by_cases c : up i 1 < m
    · rw [decide_eq_true c]
      have hi : i < st := by
        by_cases z : i < st
        · exact z
        · have e : i = st := by omega
          subst e
          have := le.hi
          omega
      obtain ⟨n1, n2, n3⟩ := up_next ⟨i, by omega⟩
      simp only at n1 n2 n3
      refine iteT ⟨fun σ' H'' => ∃ m', m' < n ∧ ∃ i : Nat, i + m' = st ∧ Same H H'' ∧ σ' = [some (.int m), some (.int (i : Int)), some (.int (up i 1))], fun _ _ h => h, ?_⟩
      refine ⟨_, rfl, (i : Int), 1, rfl, rfl, _, rfl, up i 1, 3, rfl, rfl, up i 1 + 3, 2, rfl, rfl, ⟨by decide, by decide, by omega⟩, _, 4, rfl, rfl, ⟨by decide, by decide⟩, _, 2, rfl, rfl, _, _, rfl, n - 1, by omega, i + 1, by omega, sm, ?_⟩
      have e2 : (up i 1 + 3) ^ (2 : Int).toNat / 4 - 2 = up (i + 1) 1 := n1
      show [some (V.int m), some (.int ((i : Int) + 1)), some (.int ((up i 1 + 3) ^ (2 : Int).toNat / 4 - 2))] = _
      rw [e2]
      rfl
    · rw [decide_eq_false c]
      have e : i = st := by
        by_cases z : i < st
        · exact absurd (le.lo i z) c
        · omega
      subst e
      exact iteF ⟨_, rfl, q _ sm⟩
end
end Sq
set_option Elab.async false
set_option linter.all false
set_option maxRecDepth 100000
set_option maxHeartbeats 8000000
set_option exponentiation.threshold 2000
namespace Sq
open PySem PySem.Spec PyProof.Rows L2
theorem sq_app3 (n : Int) (ks ls : List Int) : sq n (ks ++ ls) = sq (sq n ks) ls := List.foldl_append
theorem sqT_rep (b : Nat) (ks : List Int) (ys : List Nat) : ∀ (m : Nat) (r : Int), sqT b ks (List.replicate m b ++ ys) r = sqT b ks ys (r + m)
  | 0, r => by
    show sqT b ks ys r = _
    rw [show r + ((0 : Nat) : Int) = r by omega]
  | m + 1, r => by
    rw [List.replicate_succ, List.cons_append, sqT_cons, if_pos rfl, sqT_rep b ks ys m, show r + 1 + (m : Int) = r + ((m + 1 : Nat) : Int) by omega]
theorem sqT_comp {b : Nat} {ks ls : List Int} (h : ∀ k ∈ ks, 2 ≤ k) : ∀ (xs : List Nat) (r : Int), 0 ≤ r → sqT b (ks ++ ls) xs r = sqT b ls (sqT b ks xs r) 0
  | [], r, h0 => by
    have p := sq_low r h h0
    show List.replicate (sq r (ks ++ ls)).toNat b = sqT b ls (List.replicate (sq r ks).toNat b) 0
    have e := sqT_rep b ls [] (sq r ks).toNat 0
    rw [List.append_nil] at e
    rw [e, sq_app3, show (0 : Int) + ((sq r ks).toNat : Int) = sq r ks by omega]
    rfl
  | x :: xs, r, h0 => by
    rw [sqT_cons, sqT_cons]
    by_cases c : x = b
    · rw [if_pos c, if_pos c]
      exact sqT_comp h xs (r + 1) (by omega)
    · have p := sq_low r h h0
      rw [if_neg c, if_neg c, sqT_rep, sqT_cons, if_neg c, sqT_comp h xs 0 (by decide), sq_app3, show (0 : Int) + ((sq r ks).toNat : Int) = sq r ks by omega]
theorem sqT_nil (b : Nat) : ∀ (xs : List Nat) (r : Int), 0 ≤ r → sqT b [] xs r = List.replicate r.toNat b ++ xs
  | [], r, _ => (List.append_nil _).symm
  | x :: xs, r, h0 => by
    rw [sqT_cons]
    by_cases c : x = b
    · rw [if_pos c, sqT_nil b xs (r + 1) (by omega), show (r + 1).toNat = r.toNat + 1 by omega, List.replicate_succ', List.append_assoc, c]
      rfl
    · rw [if_neg c, sqT_nil b xs 0 (by decide)]
      rfl
theorem sqT_others (b : Nat) (ks : List Int) : ∀ (xs : List Nat) (r : Int), (sqT b ks xs r).filter (fun y => decide (y ≠ b)) = xs.filter fun y => decide (y ≠ b) := by
  have rep : ∀ m : Nat, (List.replicate m b).filter (fun y => decide (y ≠ b)) = [] := fun m => by
    rw [List.filter_eq_nil_iff]
    intro y hy
    rw [(List.mem_replicate.mp hy).2, decide_eq_false (fun z => z rfl)]
    exact Bool.false_ne_true
  intro xs
  induction xs with
  | nil => exact fun r => rep _
  | cons x xs ih =>
    intro r
    rw [sqT_cons, List.filter_cons]
    by_cases c : x = b
    · rw [if_pos c, if_neg (by rw [decide_eq_false (fun z => z c)]; exact Bool.false_ne_true), ih]
    · rw [if_neg c, if_pos (decide_eq_true c), List.filter_append, rep, List.filter_cons, if_pos (decide_eq_true c), ih]
      rfl
theorem wo_mono {G H : Hp} {D : Addr} (s : Same G H) : Same (wo G D) (wo H D) := fun b o e => by
  by_cases h : b = D
  · rw [h, wo_self] at e
    cases e
  · rw [wo_ne h] at e ⊢
    exact s b o e
/-! ### the first best list makes all runs single -/
theorem one0 : ∀ n : Fin 2, sq (n.val : Int) [] = if n.val = 0 then 0 else 1 := by decide +kernel
theorem one1 : ∀ n : Fin 3, sq (n.val : Int) [2] = if n.val = 0 then 0 else 1 := by decide +kernel
theorem one2 : ∀ n : Fin 5, sq (n.val : Int) [2, 2] = if n.val = 0 then 0 else 1 := by decide +kernel
theorem one3 : ∀ n : Fin 11, sq (n.val : Int) [3, 2, 2] = if n.val = 0 then 0 else 1 := by decide +kernel
theorem one4 : ∀ n : Fin 41, sq (n.val : Int) [6, 3, 2, 2] = if n.val = 0 then 0 else 1 := by decide +kernel
theorem one5 : ∀ n : Fin 461, sq (n.val : Int) [21, 6, 3, 2, 2] = if n.val = 0 then 0 else 1 := by decide +kernel
theorem one6 : ∀ n : Fin 2001, sq (n.val : Int) [231, 21, 6, 3, 2, 2] = if n.val = 0 then 0 else 1 := by decide +kernel
theorem single_of {m : Int} {st : Nat} (le : Least m st) {n : Int} (h0 : 0 ≤ n) (h1 : n ≤ m) (h2 : n ≤ 2000) : sq n (firstL st) = if n = 0 then 0 else 1 := by
  obtain ⟨f0, f1, f2, f3, f4, f5, f6⟩ := firstL_is
  obtain ⟨u0, u1, u2, u3, u4, u5, u6⟩ := up_is
  have hi := le.hi
  obtain ⟨k, rfl⟩ : ∃ k : Nat, n = k := ⟨n.toNat, by omega⟩
  have e : (if ((k : Nat) : Int) = 0 then (0 : Int) else 1) = if k = 0 then 0 else 1 := by
    by_cases c : k = 0
    · rw [if_pos c, if_pos (by omega)]
    · rw [if_neg c, if_neg (by omega)]
  rw [e]
  have st6 := le.st6
  have : st = 0 ∨ st = 1 ∨ st = 2 ∨ st = 3 ∨ st = 4 ∨ st = 5 ∨ st = 6 := by omega
  rcases this with rfl | rfl | rfl | rfl | rfl | rfl | rfl
  · rw [f0]; exact one0 ⟨k, by omega⟩
  · rw [f1]; exact one1 ⟨k, by omega⟩
  · rw [f2]; exact one2 ⟨k, by omega⟩
  · rw [f3]; exact one3 ⟨k, by omega⟩
  · rw [f4]; exact one4 ⟨k, by omega⟩
  · rw [f5]; exact one5 ⟨k, by omega⟩
  · rw [f6]; exact one6 ⟨k, by omega⟩
theorem rch_first {st : Nat} (h : st ≤ 6) : rch (firstL st) 1 = up st 1 := by
  have all : ∀ st : Fin 7, rch (firstL st.val) 1 = up st.val 1 := by decide +kernel
  exact all ⟨st, by omega⟩
theorem rchok_first {st : Nat} (h : st ≤ 6) : RchOk (firstL st) 1 := by
  obtain ⟨f0, f1, f2, f3, f4, f5, f6⟩ := firstL_is
  have : st = 0 ∨ st = 1 ∨ st = 2 ∨ st = 3 ∨ st = 4 ∨ st = 5 ∨ st = 6 := by omega
  rcases this with rfl | rfl | rfl | rfl | rfl | rfl | rfl
  · rw [f0]; exact trivial
  · rw [f1]; exact ⟨by decide, fun _ => by unfold CMulW; decide +kernel, trivial⟩
  · rw [f2]; exact ⟨by decide, fun _ => by unfold CMulW; decide +kernel, ⟨by decide, fun _ => by unfold CMulW; decide +kernel, trivial⟩⟩
  · rw [f3]; exact ⟨by decide, fun _ => by unfold CMulW; decide +kernel, ⟨by decide, fun _ => by unfold CMulW; decide +kernel, ⟨by decide, fun _ => by unfold CMulW; decide +kernel, trivial⟩⟩⟩
  · rw [f4]; exact ⟨by decide, fun _ => by unfold CMulW; decide +kernel, ⟨by decide, fun _ => by unfold CMulW; decide +kernel, ⟨by decide, fun _ => by unfold CMulW; decide +kernel, ⟨by decide, fun _ => by unfold CMulW; decide +kernel, trivial⟩⟩⟩⟩
  · rw [f5]; exact ⟨by decide, fun _ => by unfold CMulW; decide +kernel, ⟨by decide, fun _ => by unfold CMulW; decide +kernel, ⟨by decide, fun _ => by unfold CMulW; decide +kernel, ⟨by decide, fun _ => by unfold CMulW; decide +kernel, ⟨by decide, fun _ => by unfold CMulW; decide +kernel, trivial⟩⟩⟩⟩⟩
  · rw [f6]; exact ⟨by decide, fun _ => by unfold CMulW; decide +kernel, ⟨by decide, fun _ => by unfold CMulW; decide +kernel, ⟨by decide, fun _ => by unfold CMulW; decide +kernel, ⟨by decide, fun _ => by unfold CMulW; decide +kernel, ⟨by decide, fun _ => by unfold CMulW; decide +kernel, ⟨by decide, fun _ => by unfold CMulW; decide +kernel, trivial⟩⟩⟩⟩⟩⟩
/-! ### the runs afterwards -/
theorem lbw_rep (b : Nat) (ys : List Nat) : ∀ (m : Nat) (r : Int), lbw b (List.replicate m b ++ ys) r = lbw b ys (r + m)
  | 0, r => by
    show lbw b ys r = _
    rw [show r + ((0 : Nat) : Int) = r by omega]
  | m + 1, r => by
    rw [List.replicate_succ, List.cons_append, lbw_cons, if_pos rfl, lbw_rep b ys m, show r + 1 + (m : Int) = r + ((m + 1 : Nat) : Int) by omega]
theorem lbw_sqT {b : Nat} {ks : List Int} (h : ∀ k ∈ ks, 2 ≤ k) : ∀ (xs : List Nat) (r : Int), 0 ≤ r → lbw b (sqT b ks xs r) 0 = (lbw b xs r).map fun n => sq n ks
  | [], r, h0 => by
    have p := sq_low r h h0
    show lbw b (List.replicate (sq r ks).toNat b) 0 = [sq r ks]
    have e := lbw_rep b [] (sq r ks).toNat 0
    rw [List.append_nil] at e
    rw [e]
    show [(0 : Int) + ((sq r ks).toNat : Int)] = _
    rw [show (0 : Int) + ((sq r ks).toNat : Int) = sq r ks by omega]
  | x :: xs, r, h0 => by
    rw [sqT_cons, lbw_cons]
    by_cases c : x = b
    · rw [if_pos c, if_pos c]
      exact lbw_sqT h xs (r + 1) (by omega)
    · have p := sq_low r h h0
      rw [if_neg c, if_neg c, lbw_rep, lbw_cons, if_neg c, lbw_sqT h xs 0 (by decide), List.map_cons, show (0 : Int) + ((sq r ks).toNat : Int) = sq r ks by omega]
/-- all at once is one by one -/
theorem appT_last (b : Nat) : ∀ (ns : List Int) (T : List (List Nat)) (l : List Nat), (∀ k ∈ ns, 2 ≤ k) → lastT (appT b (T ++ [l]) ns) = sqT b ns l 0
  | [], T, l, _ => by
    rw [sqT_nil b l 0 (by decide)]
    exact lastT_snoc T l
  | k :: ns, T, l, h => by
    show lastT (appT b ((T ++ [l]) ++ [sqT b [k] (lastT (T ++ [l])) 0]) ns) = _
    rw [lastT_snoc, appT_last b ns (T ++ [l]) _ (fun x hx => h x (List.mem_cons_of_mem _ hx)), ← sqT_comp (fun x hx => by rw [List.mem_singleton.mp hx]; exact h k List.mem_cons_self) l 0 (by decide)]
    rfl
theorem appT_one {b : Nat} {ns : List Int} {l : List Nat} (h : ∀ k ∈ ns, 2 ≤ k) : lastT (appT b [l] ns) = sqT b ns l 0 := appT_last b ns [] l h
theorem filter_ones : ∀ (xs : List Int), (∀ x ∈ xs, 0 ≤ x) → (xs.map fun n => if n = 0 then (0 : Int) else 1).filter (fun n => decide (0 < n)) = List.replicate (xs.filter fun n => decide (0 < n)).length 1
  | [], _ => rfl
  | x :: xs, h => by
    have ih := filter_ones xs fun y hy => h y (List.mem_cons_of_mem _ hy)
    have h0 := h x List.mem_cons_self
    rw [List.map_cons, List.filter_cons, List.filter_cons, ih]
    by_cases c : x = 0
    · rw [if_pos c, if_neg (by decide), if_neg (by simp; omega)]
    · rw [if_neg c, if_pos (by decide), if_pos (by simp; omega), List.length_cons]
      rfl
/-- what is known of the text made single -/
structure Made (b : Nat) (l S : List Nat) : Prop where
  runs_ : runs b S = List.replicate (runs b l).length 1
  long : ∀ {m : Int}, IsMax b S m → m = if runs b l = [] then 0 else 1
  oths : S.filter (fun y => decide (y ≠ b)) = l.filter fun y => decide (y ≠ b)
theorem made_of {b : Nat} {l : List Nat} {m : Int} {st : Nat} (im : IsMax b l m) (ll : l.length ≤ 2000) (le : Least m st) : Made b l (sqT b (firstL st) l 0) := by
  have two : ∀ k ∈ firstL st, 2 ≤ k := (firstL_rpl le.st6).1.two
  have e : lbw b (sqT b (firstL st) l 0) 0 = (lbw b l 0).map fun n => if n = 0 then (0 : Int) else 1 := by
    rw [lbw_sqT two l 0 (by decide)]
    refine List.map_congr_left fun n hn => ?_
    have r := lbw_mem b l 0 (by decide) n hn
    exact single_of le r.1 (im.2 n hn) (by omega)
  have pos : ∀ x ∈ lbw b l 0, 0 ≤ x := fun x hx => (lbw_mem b l 0 (by decide) x hx).1
  refine ⟨?_, fun {m'} im' => ?_, sqT_others b _ l 0⟩
  · show (lbw b (sqT b (firstL st) l 0) 0).filter _ = _
    rw [e]
    exact filter_ones _ pos
  · have h1 := im'.1
    have h2 := im'.2
    rw [e] at h1 h2
    obtain ⟨n, hn, en⟩ := List.mem_map.mp h1
    by_cases c : runs b l = []
    · rw [if_pos c]
      have z : n = 0 := by
        by_cases q : 0 < n
        · have : n ∈ runs b l := List.mem_filter.mpr ⟨hn, decide_eq_true q⟩
          rw [c] at this
          cases this
        · have := pos n hn
          omega
      rw [← en, if_pos z]
    · rw [if_neg c]
      obtain ⟨y, hy⟩ := List.exists_mem_of_ne_nil _ c
      obtain ⟨hy1, hy2⟩ := List.mem_filter.mp hy
      have hy3 : 0 < y := of_decide_eq_true hy2
      have := h2 1 (List.mem_map.mpr ⟨y, hy1, if_neg (by omega)⟩)
      rw [← en] at this ⊢
      by_cases z : n = 0
      · rw [if_pos z] at this
        omega
      · rw [if_neg z]
theorem Least.uniq {m : Int} {s t : Nat} (a : Least m s) (b : Least m t) : s = t := by
  rcases Nat.lt_trichotomy s t with h | h | h
  · have := b.lo s h
    have := a.hi
    omega
  · exact h
  · have := a.lo t h
    have := b.hi
    omega
theorem appT_step {b : Nat} {l : List Nat} {F : List Int} {i : Nat} {k : Int} (e : F[i]? = some k) : appT b [l] (F.take (i + 1)) = appT b [l] (F.take i) ++ [sqT b [k] (lastT (appT b [l] (F.take i))) 0] := by
  rw [List.take_add_one, e]
  exact appT_snoc b [l] _ k
theorem appT_head (b : Nat) (x : List Nat) : ∀ (ns : List Int) (T : List (List Nat)), ∃ T', appT b (x :: T) ns = x :: T'
  | [], T => ⟨T, rfl⟩
  | k :: ns, T => appT_head b x ns (T ++ [sqT b [k] (lastT (x :: T)) 0])
end Sq
set_option Elab.async false
set_option linter.all false
set_option maxRecDepth 100000
set_option maxHeartbeats 4000000
namespace Sq
open PySem PySem.Spec PyProof.Rows L2 GenW
section
variable {X : Cx} {Θ : Shared → Prop} {pos : Pos}
theorem ws_break : Ws X Θ (.Break pos) tBreak := ⟨fun _ _ σ H _ I θ h => wpAny_Break ⟨θ, σ, H, I, h⟩⟩
end
end Sq
set_option Elab.async false
set_option linter.all false
set_option maxRecDepth 100000
set_option maxHeartbeats 8000000
set_option exponentiation.threshold 2000
namespace Sq
open PySem PySem.Spec PyProof.Rows L2
abbrev s_lawright : Stmt := topS 34
theorem sc_lawright : FnScope ["pool", "written", "sign", "live", "runs_here", "many", "first", "some", "long", "other", "number"] ["pool"] (defScope s_lawright) := ⟨rfl, rfl, rfl, by decide +kernel, rfl, by decide +kernel, by decide +kernel⟩
theorem Txt2.keepx {C p dx r t x : Addr} {H H' : Hp} {u0 : Value} {b : Nat} {T : List (List Nat)} {ks : List Int} (L : Txt2 C H p dx r t u0 b T ks) (k : Keep1 H H' x) {xs : List V} (hx : H x = some (.lst xs)) (nr : r ≠ x) (nt : t ≠ x) : Txt2 C H' p dx r t u0 b T ks := by
  obtain ⟨m, h, e⟩ := L.m
  have ex : ∀ {a : Addr} {φ : Heap → Prop}, H a = some (.ext φ) → a ≠ x := fun h => ne_of h hx (by intro z; cases z)
  exact ⟨⟨m, ⟨k _ _ h.i (ex h.i), k _ _ h.d (ex h.d), h.ne⟩, e⟩, L.u, k _ _ L.rp nr, k _ _ L.tx nt, L.ne, L.len, L.sz⟩
theorem pss_ofWu {X : Cx} {sts : List Stmt} {t : TS} (h : Wu X (fun _ => True) sts t) : PSs X sts t := ⟨fun pins s σ H D I q => h.run pins s σ H D I True.intro q⟩
section
variable {P : Program} {w : World} {K : PySem.W.Frag} {mg : Str → Option Value} {base : Heap} {C : Addr}
def spRight : Sp := fun vs H Q _ => ∃ (l : Addr) (seed cnt : Int), vs = [.ref l] ∧ Rng H l seed cnt ∧ cnt < 300000 ∧ ∀ cnt' H', Rng H' l seed cnt' → cnt' ≤ cnt + 2000 → Keep1 H H' l → Q (.bl true) H'
def gSK : List V → List V → List V := fun us zs => match us, zs with | [o], [c, t] => [o, t, c] | us, zs => us ++ zs
theorem ok_lawright {f : Addr} {fd : FuncData} (F : Fun K "_law_right" "_law_right" s_lawright f fd) (B : Bi mg) (D_lawdraw : Df P w K mg base 1 "_law_draw" ["pool", "many"] spDraw) (R_lawtext : DfR P w K mg base 3 "_law_text" ["pool", "most"] spLtxt)
    (D_lawruns : Df P w K mg base 1 "_law_runs" ["written", "sign"] spRunsL) (D_lawfewest : Df P w K mg base 1 "_law_fewest" ["long"] spFewL)
    (CM : CmW P w K mg base 9 "SqueezedText" C "single" ["cls", "text", "character"] 1 (spSingle C)) (CMK : CmWK P w K mg base 9 "SqueezedText" C "single" ["cls", "text", "character"] ["character", "text"] gSK (spSingle C))
    (F_bestlists : DfF P w K mg base 5 "best_lists" ["steps", "most"] [.int 1] spFirst) (V_feweststeps : Dv P w K mg base 3 "fewest_steps" ["length", "most"] [.int 1] spFewest) (V_reach : Dv P w K mg base 2 "reach" ["replacements", "most"] [.int 1] (spReach K)) (V_bestreach : Dv P w K mg base 3 "best_reach" ["steps", "most"] [.int 1] spBestReach)
    (D_squeezed : Df P w K mg base 3 "squeezed" ["length", "replacements"] (spSqueezed K)) (T_squeezetext : DfT P w K mg base 4 "squeeze_text" ["text", "character", "replacements"] 1 (spSqT K)) (W_SqueezedText : MkW P w K mg base 2 "SqueezedText" C ["self", "text", "character"] 1 (spLvInit C))
    (MV_squeeze : MtV P w K mg base 5 C "squeeze" (spSqueeze C)) (M_undo : Mt CX0 P w K mg base 1 C "undo" ["self"] (spUndo C)) (G_runs : MtG P w K mg base 3 C "runs" (spRuns C))
    (EM : EqM P w K mg base 1 C ["self", "other"] (spEqX C)) (P_text : Pr P w K mg base 1 C "text" (spText C)) (P_reps : Pr P w K mg base 1 C "replacements" (spReps C)) (P_longest : Pr P w K mg base 3 C "longest" (spLongest C)) :
    FnOk P w K mg base CX0 10 f fd ["pool"] spRight := by
  refine F.ok sc_lawright (fun vs H Q E h => ?_) (fun cdv A outer s H vs Q E hr h => ?_)
  · obtain ⟨l, seed, cnt, rfl, _⟩ := h
    rfl
  · obtain ⟨l, seed, cnt, rfl, S, hc, q⟩ := h
    have kcl : ∀ (u0 : Value) (n : Nat), Clo (cxOf CX0 P w K mg base ["pool", "written", "sign", "live", "runs_here", "many", "first", "some", "long", "other", "number"] "_law_right" (defScope s_lawright) f cdv A outer s H E).nox ["sign"] (fun s' => Raw (cxOf CX0 P w K mg base ["pool", "written", "sign", "live", "runs_here", "many", "first", "some", "long", "other", "number"] "_law_right" (defScope s_lawright) f cdv A outer s H E).nox "sign" u0 s' ∧ n ≤ s'.toks) := fun u0 n => (clo_raw rfl).and clo_n
    have kkn : ∀ (u0 : Value) (n : Nat), KnownU (cxOf CX0 P w K mg base ["pool", "written", "sign", "live", "runs_here", "many", "first", "some", "long", "other", "number"] "_law_right" (defScope s_lawright) f cdv A outer s H E).nox (fun s' => Raw (cxOf CX0 P w K mg base ["pool", "written", "sign", "live", "runs_here", "many", "first", "some", "long", "other", "number"] "_law_right" (defScope s_lawright) f cdv A outer s H E).nox "sign" u0 s' ∧ n ≤ s'.toks) "sign" u0 := fun u0 n => ⟨fun s' h => .inl ⟨rfl, h.1⟩⟩
    refine ⟨_, (pss_ofWu (wu_text1 (i := 1) (j := 2) R_lawtext (hr.mono (by omega)) (by rfl) (pa_cons (pv 0) (pa_cons pe_int pa_nil)) rfl sc_lawright.nd rfl rfl rfl rfl (fun u0 n good =>
 (wu_cons (ws_if (wt_cmp (ow_eqI (kcl u0 n)) (we_callD (kcl u0 n) D_lawdraw (hr.mono (by omega)) (by rfl) (wa_cons (wv 0) (wa_cons (we_int (kcl u0 n)) wa_nil))) (we_int (kcl u0 n)) (by rfl)) (wss_one (ws_set (i := 1) (kcl u0 n) (by decide) sc_lawright.nd rfl (Or.inl rfl) (we_op (ow_add_str (kcl u0 n)) (we_op (ow_add_str (kcl u0 n)) (we_str (kcl u0 n)) (we_op (ow_mulS (kcl u0 n)) (wv 2) (we_callD (kcl u0 n) D_lawdraw (hr.mono (by omega)) (by rfl) (wa_cons (wv 0) (wa_cons (we_int (kcl u0 n)) wa_nil))))) (we_str (kcl u0 n))))) wss_nil)
 (wu_cons (ws_par2 (i := 3) (j := 4) (kcl u0 n) (by decide) (by decide) rfl sc_lawright.nd rfl rfl (by decide) rfl rfl (wa_cons (we_cm (n := n) (kcl u0 n) CM (fun _ h => h.2) (hr.mono (by omega)) (by rfl) (wq_skip (wv 1) (wq_name (i := 2) (kkn u0 n) rfl (Or.inl rfl) wa_nil))) (wa_cons (we_callD (kcl u0 n) D_lawruns (hr.mono (by omega)) (by rfl) (wa_cons (wv 1) (wa_cons (wv 2) wa_nil))) wa_nil)) (by rfl))
 (wu_cons (ws_set (i := 5) (kcl u0 n) (by decide) sc_lawright.nd rfl (Or.inl rfl) (we_callD (kcl u0 n) D_lawfewest (hr.mono (by omega)) (by rfl) (wa_cons (we_callB (id := "max") (r := rMax K) (cw_max (kcl u0 n) rfl) (by rfl) B.n_max (by decide +kernel) (wa_cons (we_op (ow_cat (kcl u0 n)) (wv 4) (we_lst (kcl u0 n) (wa_cons (we_int (kcl u0 n)) wa_nil))) wa_nil)) wa_nil)))
 (wu_cons (ws_set (i := 6) (kcl u0 n) (by decide) sc_lawright.nd rfl (Or.inr rfl) (we_lst (kcl u0 n) wa_nil))
 (wu_cons (ws_firstD (kcl u0 n) (by decide) F_bestlists (hr.mono (by omega)) (by rfl) (wa_cons (wv 5) wa_nil) (wss_cons (ws_expr (we_append (kcl u0 n) (wv 6) (wv 7)))
 (wss_one ws_break)) PassesOwn.never sc_lawright.nd (i := 7) rfl (Or.inl rfl))
 (wu_cons (ws_if (wt_ww (ww_or (wt_cmp (ow_neD (kcl u0 n) hr.units) (we_prL (kcl u0 n) P_reps (hr.mono (by omega)) (wv 3)) (we_ixL (wv 6) (we_int (kcl u0 n)) (fun _ _ => rfl)) (by rfl)) (ww_or (wt_cmp (ow_neD (kcl u0 n) hr.units) (we_callB (id := "len") (r := rLenK K) (cw_len (kcl u0 n)) (by rfl) B.n_len (by decide +kernel) (wa_cons (we_ixL (wv 6) (we_int (kcl u0 n)) (fun _ _ => rfl)) wa_nil)) (wv 5) (by rfl)) (ww_or1 (wt_cmp (ow_neD (kcl u0 n) hr.units) (Sq.we_callV (kcl u0 n) V_feweststeps (hr.mono (by omega)) (by rfl) (wa_cons (we_callB (id := "max") (r := rMax K) (cw_max (kcl u0 n) rfl) (by rfl) B.n_max (by decide +kernel) (wa_cons (we_op (ow_cat (kcl u0 n)) (wv 4) (we_lst (kcl u0 n) (wa_cons (we_int (kcl u0 n)) wa_nil))) wa_nil)) wa_nil)) (wv 5) (by rfl)))))) (wss_one (ws_ret we_bl)) wss_nil)
 (wu_cons (ws_if (wt_ww (ww_or (wt_cmp (ow_neD (kcl u0 n) hr.units) (Sq.we_callV (kcl u0 n) V_reach (hr.mono (by omega)) (by rfl) (wa_cons (we_ixL (wv 6) (we_int (kcl u0 n)) (fun _ _ => rfl)) wa_nil)) (Sq.we_callV (kcl u0 n) V_bestreach (hr.mono (by omega)) (by rfl) (wa_cons (wv 5) wa_nil)) (by rfl)) (ww_or1 (wt_cmp (ow_neD (kcl u0 n) hr.units) (we_prL (kcl u0 n) P_longest (hr.mono (by omega)) (wv 3)) (we_callTy (T := "int") (cw_int1 (kcl u0 n)) (by rfl) B.n_int (by decide +kernel) (wa_cons (we_cmp (ow_neD (kcl u0 n) hr.units) (wv 4) (we_lst (kcl u0 n) wa_nil) (by rfl)) wa_nil)) (by rfl))))) (wss_one (ws_ret we_bl)) wss_nil)
 (wu_cons (ws_if (wt_ww (ww_or (wt_cmp (ow_neD (kcl u0 n) hr.units) (we_listG (kcl u0 n) (wgen_methL G_runs (wv 3) (hr.mono (by omega))) (hr.mono (by omega)) (by rfl) B.n_list) (we_op (ow_rep (kcl u0 n)) (we_lst (kcl u0 n) (wa_cons (we_int (kcl u0 n)) wa_nil)) (we_callB (id := "len") (r := rLenK K) (cw_len (kcl u0 n)) (by rfl) B.n_len (by decide +kernel) (wa_cons (wv 4) wa_nil))) (by rfl)) (ww_or1 (wt_cmp (ow_neS (kcl u0 n)) (we_repE (n := n) (j := 2) (kcl u0 n) (kkn u0 n) good (fun _ h => h.2) (we_prL (kcl u0 n) P_text (hr.mono (by omega)) (wv 3)) rfl (Or.inl rfl)) (we_repE (n := n) (j := 2) (kcl u0 n) (kkn u0 n) good (fun _ h => h.2) (wv 1) rfl (Or.inl rfl)) (by rfl))))) (wss_one (ws_ret we_bl)) wss_nil)
 (wu_cons (ws_if (wt_cmp (ow_neS (kcl u0 n)) (we_prL (kcl u0 n) P_text (hr.mono (by omega)) (wv 3)) (we_callT (kcl u0 n) T_squeezetext (hr.mono (by omega)) (by rfl) (wx_skip (wv 1) (wx_name (i := 2) (known_local rfl good) rfl (Or.inl rfl) (wa_cons (we_ixL (wv 6) (we_int (kcl u0 n)) (fun _ _ => rfl)) wa_nil)))) (by rfl)) (wss_one (ws_ret we_bl)) wss_nil)
 (wu_cons (ws_if (wt_cmp (ow_neD (kcl u0 n) hr.units) (we_lc (own := [("long", 8)]) (g := gName 8) (kcl u0 n) rfl sc_lawright.nd (wi_list (kcl u0 n) (wv 4)) (blkOk_by (own := [("long", 8)]) (N := ["pool", "written", "sign", "live", "runs_here", "many", "first", "some", "long", "other", "number"]) (sc := defScope s_lawright) (by decide +kernel)) (fun _ _ _ _ _ => (pg_name (i := 8) sc_lawright.nd rfl (Or.inl rfl))) (fun _ _ _ _ _ => (pts_one (pt_cmpR op_ne (pe_callD D_squeezed (hr.mono (by omega)) (by rfl) (pa_cons (pv 8) (pa_cons (pe_ix (r := rIxL K) ix_list (pv 6) pe_int (fun _ _ => rfl)) pa_nil))) pe_int (nomark _)))) (fun _ _ _ _ _ => (pv 8))) (we_lst (kcl u0 n) wa_nil) (by rfl)) (wss_one (ws_ret we_bl)) wss_nil)
 (wu_cons (ws_set (i := 9) (kcl u0 n) (by decide) sc_lawright.nd rfl (Or.inl rfl) (we_new (n := n) (kcl u0 n) W_SqueezedText (fun _ h => h.2) (hr.mono (by omega)) (by rfl) (wq_skip (wv 1) (wq_name (i := 2) (kkn u0 n) rfl (Or.inl rfl) wa_nil))))
 (wu_cons (ws_forL rfl PassesOwn.never (kcl u0 n) (we_ixL (wv 6) (we_int (kcl u0 n)) (fun _ _ => rfl)) (wg_name (i := 10) (kcl u0 n) (by decide) sc_lawright.nd rfl (Or.inl rfl)) (wss_one (ws_expr (we_mV (kcl u0 n) MV_squeeze (fun _ h => h.2) (hr.mono (by omega)) (wv 9) (wa_cons (wv 10) wa_nil)))))
 (wu_cons (ws_if (wt_ww (ww_or (wt_not (wt_cmp (ow_eqL (kcl u0 n) EM (hr.mono (by omega))) (wv 9) (wv 3) (by rfl))) (ww_or1 (wt_not (wt_cmp (ow_eqL (kcl u0 n) EM (hr.mono (by omega))) (we_cmK (n := n) (i := 2) (kcl u0 n) CMK (kkn u0 n) (fun _ h => h.2) (hr.mono (by omega)) (by rfl) rfl (Or.inl rfl) (wk_cons (wv 1) wk_nil)) (wv 3) (by rfl)))))) (wss_one (ws_ret we_bl)) wss_nil)
 (wu_cons (ws_forL rfl PassesOwn.never (kcl u0 n) (we_ixL (wv 6) (we_int (kcl u0 n)) (fun _ _ => rfl)) (wg_name (i := 10) (kcl u0 n) (by decide) sc_lawright.nd rfl (Or.inl rfl)) (wss_one (ws_expr (we_mL0 (kcl u0 n) M_undo (hr.mono (by omega)) (wv 3)))))
 (wu_of (wss_one (ws_ret (we_and (we_cmp (ow_eqS (kcl u0 n)) (we_prL (kcl u0 n) P_text (hr.mono (by omega)) (wv 3)) (wv 1) (by rfl)) (we_and (we_cmp (ow_eqD (kcl u0 n) hr.units) (we_prL (kcl u0 n) P_reps (hr.mono (by omega)) (wv 3)) (we_lst (kcl u0 n) wa_nil) (by rfl)) (we_one (we_cmp (ow_eqL (kcl u0 n) EM (hr.mono (by omega))) (wv 3) (we_new (n := n) (kcl u0 n) W_SqueezedText (fun _ h => h.2) (hr.mono (by omega)) (by rfl) (wq_skip (wv 1) (wq_name (i := 2) (kkn u0 n) rfl (Or.inl rfl) wa_nil))) (by rfl))))))))))))))))))))))))), ?_⟩
    have szl : sizeLine = 16777216 := sizeLine_eq
    have w1 : 1 ≤ sizeLine := by omega
    refine ⟨_, rfl, l, seed, cnt, 2000, rfl, by decide, by decide, S, by omega, fun xs0 b cnt1 t1 H1 lx0 b128 lo0 ht1 S1 hc1 k1 g1 => ⟨t1, _, _, rfl, g1, fun u0 n good ru => ?_⟩⟩
    refine tellSeq (fun σ2 H3 => ∃ xs c3, σ2 = [some (.ref l), some (.str (SX.S xs)), some (.str ⟨#[b]⟩), none, none, none, none, none, none, none, none] ∧ xs.length ≤ 2000 ∧ Rng H3 l seed c3 ∧ c3 ≤ cnt + 112 ∧ Keep1 H H3 l) (fun N hN => ?_) (fun σ2 H3 hh => ?_)
    · refine ⟨_, rfl, l, seed, cnt1, 4, rfl, S1, by omega, by decide, by decide, fun z c2 H2 z0 z1 S2 hc2 k2 => ⟨z, 0, rfl, rfl, _, rfl, ite2 (fun cc => ?_) (fun cc => ?_)⟩⟩
      · refine ⟨_, rfl, _, rfl, l, seed, c2, 1998, rfl, S2, by omega, by decide, by decide, fun z2 c3 H3 z20 z21 S3 hc3 k3 => ?_⟩
        refine ⟨_, z2, rfl, rfl, mul_chr_ok b z20 (by omega), ?_⟩
        rw [mul_chr b z20]
        refine ⟨_, _, rfl, rfl, ?_, _, _, rfl, rfl, ?_, hN _ _ ⟨[98] ++ List.replicate z2.toNat b ++ [99], c3, ?_, ?_, S3, by omega, (k1.trans k2).trans k3⟩⟩
        · show (SX.S [98]).length + (SX.S (List.replicate z2.toNat b)).length ≤ _
          rw [SX.S_len, SX.S_len, List.length_replicate]; show 1 + z2.toNat ≤ _; omega
        · show (SX.S [98] ++ SX.S (List.replicate z2.toNat b)).length + 1 ≤ _
          rw [SX.S_cat, SX.S_len, List.length_append, List.length_replicate]; show 1 + z2.toNat + 1 ≤ _; omega
        · rw [← SX.S_cat, ← SX.S_cat]; rfl
        · rw [List.length_append, List.length_append, List.length_replicate]; show 1 + z2.toNat + 1 ≤ _; omega
      · exact hN _ _ ⟨xs0, c2, rfl, by omega, S2, by omega, k1.trans k2⟩
    obtain ⟨xs, c3, rfl, lx, S3, hc3, k3⟩ := hh
    clear k1 g1 S1 ht1 hc1 lo0 lx0 xs0
    -- live, runs_here
    refine ⟨_, rfl, _, rfl, fun ru' => ⟨xs, b, rfl, lx, good, fun p dx r t m st H4 np ndx nr nt im le L4 s4 => ?_⟩⟩
    refine ⟨_, rfl, _, rfl, xs, b, rfl, lx, fun t5 H5 ht5 s5 g5 => ⟨_, _, rfl, ?_⟩⟩
    have st6 := le.st6
    obtain ⟨F, eF⟩ : ∃ F, F = firstL st := ⟨_, rfl⟩
    obtain ⟨T, eT⟩ : ∃ T, T = appT b [xs] F := ⟨_, rfl⟩
    obtain ⟨rplF, lenF⟩ := firstL_rpl st6
    have two : ∀ k ∈ firstL st, 2 ≤ k := rplF.two
    have eS : lastT T = sqT b F xs 0 := by rw [eT, eF]; exact appT_one two
    have md := made_of im lx le
    rw [← eF] at L4 rplF lenF two md
    rw [← eT] at L4
    rw [← eS] at md
    have L5 := L4.same s5
    obtain ⟨R, eR⟩ : ∃ R, R = runs b xs := ⟨_, rfl⟩
    rw [← eR] at g5
    have lenR : R.length ≤ 2001 := by
      have h1 := List.length_filter_le (fun n : Int => decide (0 < n)) (lbw b xs 0)
      have h2 := lbw_len b xs 0
      have h3 := List.length_filter_le (fun x => decide (x ≠ b)) xs
      have h4 : R.length = ((lbw b xs 0).filter fun n : Int => decide (0 < n)).length := by rw [eR]; rfl
      omega
    -- many
    refine ⟨_, rfl, w1, fun q1 hq1 => ?_⟩
    have s6 := same_new (o := .lst [V.int 0]) hq1
    refine ⟨t5, q1, _, _, rfl, rfl, s6 _ _ g5, upd_same, by rw [List.length_map]; show R.length + 1 ≤ _; omega, fun q2 hq2 => ?_⟩
    have s7 := s6.trans (same_new (o := .lst (R.map V.int ++ [V.int 0])) hq2)
    have maxed : ∀ mm, mm ∈ R ++ [0] → (∀ y, y ∈ R ++ [0] → y ≤ mm) → mm = m := fun mm h1 h2 => max_runs im (by rw [← eR]; exact h1) (by rw [← eR]; exact h2)
    refine ⟨q2, R ++ [0], rfl, SqL.of (by rw [List.map_append]; exact upd_same), by rw [List.length_append]; exact Nat.succ_pos _, fun mm h1 h2 => ?_⟩
    obtain rfl := maxed mm h1 h2
    refine ⟨mm, st, rfl, le, fun H7 s8 => ?_⟩
    -- first
    refine ⟨Nat.zero_le _, fun q3 hq3 => ?_⟩
    have s9 := (s7.trans s8).trans (same_new (o := .lst []) hq3)
    refine ⟨_, rfl, st, 1, 1, rfl, by decide, by decide, le.pow, by omega, fun a0 H9 ha0 s10 ga0 => ?_⟩
    have g3 := s10 _ _ (show upd H7 q3 (.lst []) q3 = some (.lst []) from upd_same)
    refine ⟨_, rfl, .inl ⟨rfl, _, SqL.of g3⟩, _, rfl, q3, _, .ref a0, rfl, rfl, g3, by show 0 < sizeLine; omega, ?_⟩
    have n3 : ∀ {x : Addr} {o : HO}, H5 x = some o → x ≠ q3 := fun e => ne_of_none ((s7.trans s8) _ _ e) hq3
    have n30 : a0 ≠ q3 := (ne_of_none (show upd H7 q3 (.lst []) q3 = some (.lst []) from upd_same) ha0).symm
    have kA : Keep1 H5 (upd H9 q3 (.lst ([] ++ [V.ref a0]))) q3 := fun y o e ny => by
      rw [upd_ne ny]
      exact s10 _ _ (s9 _ _ e)
    have LA : Txt2 C (upd H9 q3 (.lst ([] ++ [V.ref a0]))) p dx r t u0 b T F := L5.same (((s7.trans s8).trans (same_new hq3)).trans s10) |>.keepx Keep1.set g3 (n3 L5.rp) (n3 L5.tx)
    have gA3 : upd H9 q3 (.lst ([] ++ [V.ref a0])) q3 = some (.lst [.ref a0]) := upd_same
    have gA0 : upd H9 q3 (.lst ([] ++ [V.ref a0])) a0 = some (.lst (F.map V.int)) := by rw [upd_ne n30, eF]; exact ga0
    have gA5 : upd H9 q3 (.lst ([] ++ [V.ref a0])) t5 = some (.lst (R.map V.int)) := kA _ _ g5 (n3 g5)
    have S5 : Rng H5 l seed c3 := (S3.same s4).same s5
    obtain ⟨dg5, hl5⟩ := S5.ob
    have SA : Rng (upd H9 q3 (.lst ([] ++ [V.ref a0]))) l seed c3 := ⟨⟨dg5, kA _ _ hl5 (n3 hl5)⟩, S5.s0, S5.s1, S5.c0⟩
    have kHA : Keep1 H (upd H9 q3 (.lst ([] ++ [V.ref a0]))) l := fun y o e ny => by
      have e5 := (s4.trans s5) _ _ (k3 y o e ny)
      exact kA y o e5 (n3 e5)
    have nrl : r ≠ l := S3.ne nr
    have ntl : t ≠ l := S3.ne nt
    have na0r : a0 ≠ r := (ne_of_none (s9 _ _ L5.rp) ha0).symm
    have na0t : a0 ≠ t := (ne_of_none (s9 _ _ L5.tx) ha0).symm
    generalize upd H9 q3 (.lst ([] ++ [V.ref a0])) = HA at LA gA3 gA0 gA5 SA kHA ⊢
    clear kA n3 n30 g3 s10 ga0 ha0 s9 hq3 s8 s7 hq2 s6 hq1 h1 h2 g5 s5 ht5
    obtain ⟨mA, LL, mC, mR, mT, mN⟩ := id LA.m
    have TE : T ≠ [] := fun e => by have := LA.len; rw [e] at this; cases this
    -- replacements, len, fewest_steps
    refine ⟨_, rfl, p, dx, mA, _, rfl, LL, p, dx, r, t, u0, b, T, F, rfl, LA, fun q4 hq4 => ?_⟩
    have s1 := same_new (o := .lst (F.map V.int)) hq4
    refine ⟨_, rfl, q3, _, 0, .ref a0, rfl, rfl, SqL.of (s1 _ _ gA3), rfl, ?_⟩
    refine ⟨.list (F.map PyData.int), .list (F.map PyData.int), .lst (SqL.of upd_same) (dpInts _), .lst (SqL.of (s1 _ _ gA0)) (dpInts _), shapedInts _, shapedInts _, _, rfl, ?_⟩
    rw [eqv_ints, decide_eq_true rfl]
    refine iteF ?_
    refine ⟨_, rfl, q3, _, 0, .ref a0, rfl, rfl, SqL.of (s1 _ _ gA3), rfl, a0, _, rfl, .inl (SqL.of (s1 _ _ gA0)), _, rfl, .int _, .int _, .int _, .int _, rfl, rfl, _, rfl, ?_⟩
    rw [List.length_map, lenF, show PyData.eqv (.int (st : Int)) (.int (st : Int)) = true from by show ((st : Int) == (st : Int)) = true; exact beq_self_eq_true _]
    refine iteF ?_
    refine ⟨_, rfl, w1, fun q5 hq5 => ?_⟩
    have s2 := s1.trans (same_new (o := .lst [V.int 0]) hq5)
    refine ⟨t5, q5, _, _, rfl, rfl, s2 _ _ gA5, upd_same, by rw [List.length_map]; show R.length + 1 ≤ _; omega, fun q6 hq6 => ?_⟩
    have s3 := s2.trans (same_new (o := .lst (R.map V.int ++ [V.int 0])) hq6)
    refine ⟨q6, R ++ [0], rfl, SqL.of (by rw [List.map_append]; exact upd_same), by rw [List.length_append]; exact Nat.succ_pos _, fun m2 h1 h2 => ?_⟩
    obtain rfl := maxed m2 h1 h2
    have rngm := lbw_mem b xs 0 (by decide) _ im.1
    refine ⟨m2, 1, st, 1, rfl, rngm.1, by decide, by decide, le.pow, le.hi, le.lo, fun HB s4' => ?_⟩
    refine ⟨_, rfl, .int _, .int _, .int _, .int _, rfl, rfl, _, rfl, ?_⟩
    rw [show PyData.eqv (.int (st : Int)) (.int (st : Int)) = true from by show ((st : Int) == (st : Int)) = true; exact beq_self_eq_true _]
    refine iteF ?_
    have sB := s3.trans s4'
    clear s1 s2 s3 s4' h1 h2 hq4 hq5 hq6
    -- reach, longest
    refine ⟨_, rfl, q3, _, 0, .ref a0, rfl, rfl, SqL.of (sB _ _ gA3), rfl, a0, F, 1, rfl, SqL.of (sB _ _ gA0), two, by rw [eF]; exact rchok_first st6, by decide, fun HC s5' => ?_⟩
    refine ⟨_, rfl, st, 1, 1, rfl, by decide, by decide, le.pow, by omega, fun HD s6' => ?_⟩
    refine ⟨.int _, .int _, .int _, .int _, rfl, rfl, _, rfl, ?_⟩
    rw [show rch F 1 = up st 1 from by rw [eF]; exact rch_first st6, show PyData.eqv (.int (up st 1)) (.int (up st 1)) = true from by show (up st 1 == up st 1) = true; exact beq_self_eq_true _]
    refine iteF ?_
    have sD := (sB.trans s5').trans s6'
    clear s5' s6' sB
    refine ⟨_, rfl, p, dx, mA, _, rfl, LL.same sD, p, dx, r, t, u0, b, T, F, rfl, LA.same sD, fun m3 HE im3 s7' => ?_⟩
    have sE := sD.trans s7'
    refine ⟨_, rfl, Nat.zero_le _, fun q7 hq7 => ?_⟩
    have sF := sE.trans (same_new (o := .lst []) hq7)
    refine ⟨.list (R.map PyData.int), .list (([] : List Int).map PyData.int), .lst (SqL.of (sF _ _ gA5)) (dpInts _), .lst (SqL.of (show _ = some (.lst (([] : List Int).map V.int)) from upd_same)) (dpInts _), shapedInts _, shapedInts _, .inr ⟨_, rfl, ?_⟩⟩
    rw [eqv_ints]
    have em3 := md.long im3
    rw [← eR] at em3
    refine ⟨.int _, .int _, .int _, .int _, rfl, rfl, _, rfl, ?_⟩
    rw [show PyData.eqv (.int m3) (.int (if (!decide (R = [])) = true then (1 : Int) else 0)) = true from by
      show (m3 == (if (!decide (R = [])) = true then (1 : Int) else 0)) = true
      rw [em3]
      by_cases c : R = []
      · rw [if_pos c, decide_eq_true c]; rfl
      · rw [if_neg c, decide_eq_false c]; rfl]
    refine iteF ?_
    clear s7' sD sE hq7
    -- runs, the other characters
    have LF := LA.same sF
    refine ⟨_, rfl, p, dx, mA, _, rfl, LL.same sF, mN _ (by decide +kernel) (by decide +kernel) (by decide +kernel), p, dx, r, t, u0, b, T, F, rfl, LF, fun HG s8' q8 hq8 => ?_⟩
    have s1 := (sF.trans s8').trans (same_new (o := .lst ((runs b (lastT T)).map V.int)) hq8)
    refine ⟨w1, fun q9 hq9 => ?_⟩
    have s2 := s1.trans (same_new (o := .lst [V.int 1]) hq9)
    refine ⟨_, rfl, t5, _, rfl, .inl (SqL.of (s2 _ _ gA5)), q9, _, _, rfl, rfl, upd_same, by omega, by rw [List.length_map]; omega, by rw [List.length_map]; show 1 * ((R.length : Nat) : Int).toNat ≤ _; omega, fun q10 hq10 => ?_⟩
    have s3 := s2.trans (same_new (o := .lst (List.replicate (((R.map V.int).length : Nat) : Int).toNat [V.int 1]).flatten) hq10)
    have ones : (List.replicate (((R.map V.int).length : Nat) : Int).toNat [V.int 1]).flatten = (List.replicate R.length (1 : Int)).map V.int := by
      rw [Int.toNat_natCast, List.length_map, List.map_replicate]
      generalize R.length = n
      induction n with
      | zero => rfl
      | succ n ih => rw [List.replicate_succ, List.flatten_cons, ih]; rfl
    have er : runs b (lastT T) = List.replicate R.length 1 := by rw [md.runs_, eR]
    refine ⟨.list ((runs b (lastT T)).map PyData.int), .list ((List.replicate R.length (1 : Int)).map PyData.int), .lst (SqL.of (same_new hq10 _ _ (same_new hq9 _ _ upd_same))) (dpInts _), .lst (SqL.of (show _ = some (HO.lst ((List.replicate R.length (1 : Int)).map V.int)) from by rw [← ones]; exact upd_same)) (dpInts _), shapedInts _, shapedInts _, _, rfl, ?_⟩
    rw [eqv_ints, decide_eq_true er]
    refine iteF ?_
    have lS : (lastT T).length ≤ 2000 := lastT_size LA.sz
    refine ⟨_, rfl, p, dx, mA, _, rfl, LL.same s3, p, dx, r, t, u0, b, T, F, rfl, LA.same s3, _, b, rfl, rfl, by rw [SX.S_len]; omega, ?_⟩
    refine ⟨_, rfl, _, b, rfl, rfl, by rw [SX.S_len]; omega, _, _, rfl, rfl, _, rfl, ?_⟩
    have eo : Txt.replace (SX.S (lastT T)) ⟨#[b]⟩ "" = Txt.replace (SX.S xs) ⟨#[b]⟩ "" := by
      have e1 := repl_chr (SX.S (lastT T)) b
      have e2 := repl_chr (SX.S xs) b
      have e3 : (Txt.replace (SX.S (lastT T)) ⟨#[b]⟩ "").cps.toList = (Txt.replace (SX.S xs) ⟨#[b]⟩ "").cps.toList := by
        rw [e1, e2]
        exact md.oths
      exact TL.ext_tl e3
    rw [eo, beq_self_eq_true]
    refine iteF ?_
    -- squeeze_text
    refine ⟨_, rfl, p, dx, mA, _, rfl, LL.same s3, p, dx, r, t, u0, b, T, F, rfl, LA.same s3, ?_⟩
    refine ⟨_, rfl, _, rfl, _, rfl, q3, _, 0, .ref a0, rfl, rfl, SqL.of (s3 _ _ gA3), rfl, SX.S xs, b, a0, F, rfl, SqL.of (s3 _ _ gA0), rplF, by rw [SX.S_len]; omega, fun HH s9' => ?_⟩
    refine ⟨_, _, rfl, rfl, _, rfl, ?_⟩
    rw [eS, show (SX.S (sqT b F xs 0) == (⟨(sqT b F (SX.S xs).cps.toList 0).toArray⟩ : Str)) = true from by rw [show (SX.S xs).cps.toList = xs from rfl]; exact beq_self_eq_true _]
    refine iteF ?_
    have sH := s3.trans s9'
    clear s1 s2 s3 s8' s9' hq8 hq9 hq10 LF sF
    -- squeezed
    refine ⟨_, rfl, t5, rfl, ⟨_, SqL.of (sH _ _ gA5)⟩, fun E hE => lc_list (K := K) (a := t5) (xs := R.map V.int) (fun j Hc => Same HH (wo Hc E) ∧ Hc E = some (.lst [])) ⟨by rw [wo_upd]; exact same_wo (Same.refl _) hE, upd_same⟩
      (fun j Hc _ h => SqL.of ((h.1.trans wo_same) _ _ (sH _ _ gA5))) ?_ ?_⟩
    · rintro j x Hc hx ⟨sc, gE⟩
      obtain ⟨n1, en, rfl⟩ := map_at hx
      have sc2 := sc.trans wo_same
      have mem : n1 ∈ runs b xs := by rw [← eR]; exact List.mem_of_getElem? en
      obtain ⟨m1, m2'⟩ := List.mem_filter.mp mem
      have pos : 0 < n1 := of_decide_eq_true m2'
      have rg := lbw_mem b xs 0 (by decide) n1 m1
      refine ⟨rfl, _, rfl, _, rfl, q3, _, 0, .ref a0, rfl, rfl, SqL.of (sc2 _ _ (sH _ _ gA3)), rfl, n1, a0, F, rfl, SqL.of (sc2 _ _ (sH _ _ gA0)), rg.1, rplF, fun H' s' => ⟨rfl, ?_⟩⟩
      have e1 : sq n1 F = 1 := by rw [eF, single_of le rg.1 (im.2 n1 m1) (by omega), if_neg (by omega)]
      rw [e1, decide_eq_true (rfl : V.int 1 = V.int 1)]
      exact ⟨_, rfl, iteF ⟨sc.trans (wo_mono s'), s' _ _ gE⟩⟩
    · rintro HI ⟨scw, gE⟩
      have sI := scw.trans wo_same
      have s1 := (sH.trans sI)
      refine ⟨Nat.zero_le _, fun q11 hq11 => ?_⟩
      have s2 := s1.trans (same_new (o := .lst []) hq11)
      refine ⟨.list (([] : List Int).map PyData.int), .list (([] : List Int).map PyData.int), .lst (SqL.of (same_new hq11 _ _ (show HI E = some (HO.lst (([] : List Int).map V.int)) from gE))) (dpInts _), .lst (SqL.of (show _ = some (HO.lst (([] : List Int).map V.int)) from upd_same)) (dpInts _), shapedInts _, shapedInts _, _, rfl, ?_⟩
      rw [eqv_ints, decide_eq_true rfl]
      refine iteF ?_
      generalize upd HI q11 (.lst []) = HJ at s2 ⊢
      clear sI s1 sH hq11 gE scw
      -- other
      refine ⟨_, rfl, _, rfl, fun ru2 x0 dx0 nx0 ndx0 nex0 => ⟨x0, dx0, xs, b, rfl, ⟨upd_same, by rw [upd_ne nex0, upd_same], nex0⟩, lx, fun r2 t2 H2 nr2 nt2 L2 kd => ⟨rfl, ?_⟩⟩⟩
      have sJ2 : Same HJ H2 := bornS (C := C) nx0 ndx0 kd
      have nr2' : HJ r2 = none := born (C := C) (H' := H2) nx0 ndx0 nr2
      have nt2' : HJ t2 = none := born (C := C) (H' := H2) nx0 ndx0 nt2
      refine ⟨_, rfl, q3, _, 0, .ref a0, rfl, rfl, SqL.of ((s2.trans sJ2) _ _ gA3), rfl, a0, F.map V.int, rfl, SqL.of ((s2.trans sJ2) _ _ gA0),
        (fun i σ H' => ∃ y10, σ = [some (.ref l), some (.str (SX.S xs)), some (.str ⟨#[b]⟩), some (.ref p), some (.ref t5), some (.int (st : Int)), some (.ref q3), some (.ref a0), none, some (.ref x0), y10] ∧ Txt2 C H' x0 dx0 r2 t2 u0 b (appT b [xs] (F.take i)) (F.take i) ∧ But2 H2 H' r2 t2),
        ⟨none, rfl, L2, But2.refl⟩, ?_, ?_, ?_⟩
      · rintro i σ H' ⟨y10, rfl, L', k'⟩
        exact SqL.of (k' _ _ ((s2.trans sJ2) _ _ gA0) (ne_of_none (s2 _ _ gA0) nr2') (ne_of_none (s2 _ _ gA0) nt2'))
      · rintro i x σ H' hx ⟨y10, rfl, L', k'⟩
        obtain ⟨k0, ek, rfl⟩ := map_at hx
        obtain ⟨m', LL', _, _, _, mN'⟩ := id L'.m
        have il : i < F.length := (List.getElem?_eq_some_iff.mp ek).1
        refine ⟨_, rfl, x0, dx0, m', _, rfl, LL', mN' _ (by decide +kernel) (by decide +kernel) (by decide +kernel), _, rfl, by show 1 ≤ sizeLine; omega, fun T' hT' => ⟨x0, dx0, r2, t2, T', u0, b, _, _, [k0], rfl, upd_same, L'.same (same_new hT'), good, fun j hj => by rw [List.mem_singleton.mp hj]; exact rplF k0 (List.mem_of_getElem? ek), by rw [List.length_take]; show min i F.length + 1 ≤ _; omega, fun H3' L3 k3' => ?_⟩⟩
        refine ⟨_, rfl, ?_, ((k'.trans (But2.of (same_new hT'))).trans k3')⟩
        have et : F.take (i + 1) = F.take i ++ [k0] := by rw [List.take_add_one, ek]; rfl
        rw [appT_step ek, et]
        exact L3
      · rintro σ H3' ⟨y10, rfl, L3, k3'⟩
        rw [List.length_map, List.take_length] at L3
        have LL3 : Txt2 C H3' p dx r t u0 b T F := by
          have L2' := (LA.same s2).same sJ2
          obtain ⟨mz, hz, ez⟩ := L2'.m
          have nx : ∀ {a : Addr} {o : HO}, HJ a = some o → H2 a = some o → H3' a = some o := fun e e2 => k3' _ _ e2 (ne_of_none e nr2') (ne_of_none e nt2')
          have LJ := LA.same s2
          obtain ⟨mj, hj, ej⟩ := LJ.m
          exact ⟨⟨mj, ⟨nx hj.i (sJ2 _ _ hj.i), nx hj.d (sJ2 _ _ hj.d), hj.ne⟩, ej⟩, LJ.u, nx LJ.rp (sJ2 _ _ LJ.rp), nx LJ.tx (sJ2 _ _ LJ.tx), LJ.ne, LJ.len, LJ.sz⟩
        have up3 : ∀ {a : Addr} {o : HO}, HJ a = some o → H3' a = some o := fun e => k3' _ _ (sJ2 _ _ e) (ne_of_none e nr2') (ne_of_none e nt2')
        obtain ⟨T0, eT0⟩ := appT_head b xs F []
        have eT' : T = xs :: T0 := by rw [eT]; exact eT0
        have e0 : appT b [xs] F = xs :: T0 := eT0
        rw [e0] at L3
        rw [eT'] at LL3
        obtain ⟨mo, Lo, _⟩ := id L3.m
        obtain ⟨ml, Ll, _⟩ := id LL3.m
        refine ⟨_, rfl, _, rfl, x0, dx0, mo, _, p, dx, ml, _, rfl, rfl, Lo, Ll, .inl ⟨x0, dx0, r2, t2, p, dx, r, t, u0, u0, b, b, xs, xs, T0, T0, F, F, rfl, L3, LL3, _, rfl, ?_⟩⟩
        rw [decide_eq_true rfl, decide_eq_true rfl, decide_eq_true rfl]
        refine ⟨_, rfl, iteF ?_⟩
        -- single once more
        refine ⟨_, rfl, fun ru3 => ⟨_, rfl, rfl, xs, b, rfl, lx, good, fun p4 dx4 r4 t4 m4 st4 H5' np4 ndx4 nr4 nt4 im4 le4 L4' s4' => ?_⟩⟩
        obtain rfl := IsMax.uniq im im4
        obtain rfl := Least.uniq le le4
        rw [← eF, e0] at L4'
        have LL5 := LL3.same s4'
        obtain ⟨m4', Lo4, _⟩ := id L4'.m
        obtain ⟨ml5, Ll5, _⟩ := id LL5.m
        refine ⟨_, rfl, p4, dx4, m4', _, p, dx, ml5, _, rfl, rfl, Lo4, Ll5, .inl ⟨p4, dx4, r4, t4, p, dx, r, t, u0, u0, b, b, xs, xs, T0, T0, F, F, rfl, L4', LL5, _, rfl, ?_⟩⟩
        rw [decide_eq_true rfl, decide_eq_true rfl, decide_eq_true rfl]
        refine ⟨_, rfl, iteF ?_⟩
        have g3K := s4' _ _ (up3 (s2 _ _ gA3))
        have g0K := s4' _ _ (up3 (s2 _ _ gA0))
        -- undone
        refine ⟨_, rfl, q3, _, 0, .ref a0, rfl, rfl, SqL.of g3K, rfl, a0, F.map V.int, rfl, SqL.of g0K,
          (fun i σ H' => ∃ y10, σ = [some (.ref l), some (.str (SX.S xs)), some (.str ⟨#[b]⟩), some (.ref p), some (.ref t5), some (.int (st : Int)), some (.ref q3), some (.ref a0), none, some (.ref x0), y10] ∧ Txt2 C H' p dx r t u0 b (appT b [xs] (F.take (F.length - i))) (F.take (F.length - i)) ∧ But2 H5' H' r t),
          ⟨_, rfl, by rw [Nat.sub_zero, List.take_length, e0]; exact LL5, But2.refl⟩, ?_, ?_, ?_⟩
        · rintro i σ H' ⟨y10, rfl, L', k'⟩
          exact SqL.of (k' _ _ g0K na0r na0t)
        · rintro i x σ H' hx ⟨y10, rfl, L', k'⟩
          obtain ⟨k0, ek, rfl⟩ := map_at hx
          have il : i < F.length := (List.getElem?_eq_some_iff.mp ek).1
          obtain ⟨j, ej⟩ : ∃ j, F.length - i = j + 1 := ⟨F.length - i - 1, by omega⟩
          obtain ⟨kj, ekj⟩ : ∃ kj, F[j]? = some kj := ⟨_, List.getElem?_eq_getElem (by omega)⟩
          have et : F.take (j + 1) = F.take j ++ [kj] := by rw [List.take_add_one, ekj]; rfl
          rw [ej, appT_step ekj, et] at L'
          obtain ⟨m', LL', _, _, _, mN'⟩ := id L'.m
          refine ⟨_, rfl, p, dx, m', _, rfl, LL', mN' _ (by decide +kernel) (by decide +kernel) (by decide +kernel), p, dx, r, t, u0, b, _, _, _, kj, rfl, L', fun H'' L'' k'' => ⟨_, rfl, ?_, k'.trans k''⟩⟩
          rw [show F.length - (i + 1) = j by omega]
          exact L''
        · rintro σ H6' ⟨y10, rfl, L6, k6'⟩
          rw [List.length_map, Nat.sub_self, List.take_zero] at L6
          obtain ⟨m', LL', _⟩ := id L6.m
          refine ⟨_, rfl, p, dx, m', _, rfl, LL', p, dx, r, t, u0, b, [xs], [], rfl, L6, _, rfl, _, _, rfl, rfl, _, rfl, ?_⟩
          rw [show (SX.S (lastT [xs]) == SX.S xs) = true from beq_self_eq_true _]
          refine iteT ?_
          refine ⟨_, rfl, p, dx, m', _, rfl, LL', p, dx, r, t, u0, b, [xs], [], rfl, L6, fun q7 hq7 => ⟨Nat.zero_le _, fun q8 hq8 => ?_⟩⟩
          refine ⟨.list (([] : List Int).map PyData.int), .list (([] : List Int).map PyData.int), .lst (SqL.of (same_new hq8 _ _ (show _ = some (HO.lst (([] : List Int).map V.int)) from upd_same))) (dpInts _), .lst (SqL.of (show _ = some (HO.lst (([] : List Int).map V.int)) from upd_same)) (dpInts _), shapedInts _, shapedInts _, _, rfl, ?_⟩
          rw [eqv_ints, decide_eq_true rfl]
          refine iteT ?_
          have s68 := (same_new (o := .lst (([] : List Int).map V.int)) hq7).trans (same_new (o := .lst []) hq8)
          refine ⟨_, rfl, _, rfl, _, rfl, fun ru4 x9 dx9 nx9 ndx9 nex9 => ⟨x9, dx9, xs, b, rfl, ⟨upd_same, by rw [upd_ne nex9, upd_same], nex9⟩, lx, fun r9 t9 H9 nr9 nt9 L9 kd9 => ⟨rfl, ?_⟩⟩⟩
          have s9 := s68.trans (bornS (C := C) nx9 ndx9 kd9)
          have L69 := L6.same s9
          obtain ⟨m69, LL69, _⟩ := id L69.m
          obtain ⟨m99, LL99, _⟩ := id L9.m
          refine ⟨p, dx, m69, _, x9, dx9, m99, _, rfl, rfl, LL69, LL99, .inl ⟨p, dx, r, t, x9, dx9, r9, t9, u0, u0, b, b, xs, xs, [], [], [], [], rfl, L69, L9, _, rfl, ?_⟩⟩
          rw [decide_eq_true rfl, decide_eq_true rfl, decide_eq_true rfl]
          have stay : ∀ {a : Addr} {o : HO}, HA a = some o → a ≠ r → a ≠ t → H9 a = some o := fun e n1 n2 => s9 _ _ (k6' _ _ (s4' _ _ (up3 (s2 _ _ e))) n1 n2)
          obtain ⟨dgA, hlA⟩ := SA.ob
          exact q c3 H9 ⟨⟨dgA, stay hlA nrl.symm ntl.symm⟩, SA.s0, SA.s1, SA.c0⟩ (by omega) fun y o e ny => stay (kHA y o e ny) (ne_of_none (k3 y o e ny) nr) (ne_of_none (k3 y o e ny) nt)
end
end Sq
set_option Elab.async false
set_option linter.all false
set_option maxRecDepth 100000
set_option maxHeartbeats 4000000
/-! A written text as the argument whose token is asked for. -/
namespace Sq
open PySem PySem.Spec PyProof.Rows L2 GenW
/-- behind it a token has been given out -/
structure Wc (X : Cx) (Θ Θ' : Shared → Prop) (e : Expr) (t : TE) : Prop where
  run : ∀ (pins : List (Addr × Obj)) (s : Shared) (σ : L2.St) (H : Hp) (Q : VK), Inv X pins σ H s → Θ s → t σ H Q → wpAny (model X.prog X.w) X.A (eval e X.env) (fun u s' => Θ' s' ∧ EP X pins σ Q u s') X.xe s
section
variable {X : Cx} {Θ Θ' : Shared → Prop} {ys : List Str} {x m : Str} {z : Str} {p pos apos cp : Pos} {e e2 : Expr} {es : List Expr} {te tf : TE} {t : TA} {C : Addr} {k kc j n : Nat} {pl : Sem Bool} {ps : List Str} {op : Operator} {r : R2}
theorem wc_str : Wc X (fun _ => True) (fun s => 1 ≤ s.toks) (.Constant (.str z) kc pos) (tC (.str z)) := by
  refine ⟨fun pins s σ H Q I _ h => Calls.Constant_str ⟨Nat.succ_le_succ (Nat.zero_le _), .str z, H, I.tok _, ⟨_, rfl⟩, h⟩⟩
theorem wc_op (ho : OpW X Θ' (binaryOp op) r) (ha : Wc X Θ Θ' e te) (hb : We X Θ' e2 tf) : Wc X Θ Θ' (.BinOp e op e2 pos) (tOp r te tf) := by
  refine ⟨fun pins s σ H Q I θ h => wpAny_BinOp (thn (ha.run pins s σ H _ I θ h) fun v s1 hh => ?_)⟩
  obtain ⟨g1, a, H1, I1, r1, q1⟩ := hh
  refine thn (hb.run pins s1 σ H1 _ I1 g1 q1) fun u s2 hh => ?_
  obtain ⟨g2, b, H2, I2, r2, q2⟩ := hh
  exact ho pins s2 σ H2 a b v u Q I2 g2 r1 r2 q2
/-- [e, 'z'] -/
theorem wx_lit (ha : Wc X (fun _ => True) (fun s => 1 ≤ s.toks) e te) (hs : starEach [e, .Constant (.str z) kc cp] X.env = [(false, eval e X.env), (false, eval (.Constant (.str z) kc cp) X.env)] := by rfl) :
    Wx X (fun _ => True) 1 [e, .Constant (.str z) kc cp] (tCons te (tCons (tC (.str z)) tNil)) := by
  refine ⟨fun pos pins s σ H Q I θ h => ?_⟩
  rw [hs]
  show wpAny _ _ (spliced ((false, eval e X.env) :: (false, eval (.Constant (.str z) kc cp) X.env) :: [])) _ _ s
  refine Calls.spliced_cons (thn (ha.run pins s σ H _ I θ h) fun v s1 hh => ?_)
  obtain ⟨g1, x, H1, I1, r1, q1⟩ := hh
  refine Calls.spliced_cons (Calls.Constant_str (Calls.spliced_nil ⟨⟨True.intro, fun b tk eb one => ?_⟩, [x, .str z], H1, I1.tok _, .cons r1 (.cons ⟨_, rfl⟩ .nil), q1⟩))
  have e2 : Value.str z s1.toks = .str b tk := Option.some.inj eb
  injection e2 with _ e3
  subst e3
  exact ⟨Nat.ne_of_gt g1, Nat.lt_succ_self _⟩
/-- C.m(..), the token of an argument good -/
def tCmX (C : Addr) (sp : Nat → Value → Sp) (t : TA) : TE := fun σ H Q => t σ H fun vs H1 => ∀ u0 n, Tkn 0 [u0] n → sp n u0 (.ref C :: vs) H1 Q E0
theorem we_cmX {spn : Nat → Value → Sp} (Cl : Clo X ys Θ) (D : CmW X.prog X.w X.K X.mg X.base k x C m ps j spn) (hr : Room k X.A) (hg : Gl X x) (ha : Wx X Θ j (e :: es) t) (hj : j + 1 < ps.length) (hdb : (x == ("__debug__" : Str)) = false := by decide)
    (hst : starEach (e :: es) X.env = (false, eval e X.env) :: starEach es X.env := by rfl) (hpl : (backTo pos (starEach es X.env)).any (·.1) = false := by rfl)
    (ht : eval (.Call (.Attribute (.Name x p) m apos) (e :: es) [] pos) X.env = (do
      let ov ← eval (.Name x p) X.env
      standAt apos.atName
      let (f, first) ← holding [ov] (getMethod ov m pl)
      callWith pos f first (backTo pos (starEach (e :: es) X.env)) (backToKw pos (keywordEach [] X.env))) := by rfl) :
    We X Θ (.Call (.Attribute (.Name x p) m apos) (e :: es) [] pos) (tCmX C spn t) := by
  obtain ⟨⟨mc, q, g, fd, r, c, F, hb⟩, hm⟩ := D
  refine ⟨fun pins s σ H Q I θ h => ?_⟩
  refine PySem.W.methodCall_KW (pl := pl) (ld_glob I hg hm ?_ hdb) ht
  refine cm_bound I r c fun I2 => ?_
  have θ2 : Θ { s with heap := s.heap.push (PySem.W.methodObj (.ref g) (.ref C)), toks := s.toks + 1 } := Cl.kept (s' := { s with heap := s.heap.push (PySem.W.methodObj (.ref g) (.ref C)), toks := s.toks + 1 }) I (Nat.le_succ _) (fun b u z => Heap.get?_push_of_some _ z) θ
  refine ClX.callwith_cm I2 (ClX.base_none I (Nat.le_refl _)) c.fi (thn (ha.run pos _ _ σ H _ I2 θ2 h) fun us s3 hh => ?_) hst hpl
  obtain ⟨⟨g3, tkn⟩, vs, H1, I3, rv, hq⟩ := hh
  refine ⟨⟨ClX.pin_at I3, I3.kIn⟩, ?_⟩
  have any : ∀ u0 n, Tkn 0 [u0] n → (V.ref C :: vs).length = ps.length := fun u0 n tk => F.len _ _ _ _ _ _ (hq u0 n tk)
  have few : (V.ref C :: vs).length = ps.length := any .none 0 fun b t e => by cases e
  have r2 : Vals (V.ref C :: vs) (Value.ref C :: us) := .cons (show RelV (V.ref C) (Value.ref C) from rfl) rv
  have lus : us.length + 1 = ps.length := by rw [← few]; show _ = vs.length + 1; rw [rv.length]
  obtain ⟨u, eu⟩ : ∃ u, us[j]? = some u := ⟨_, List.getElem?_eq_getElem (by omega)⟩
  have tk1 : Tkn 0 [u] s3.toks := fun b t e one => tkn b t (by
    have : u = .str b t := Option.some.inj e
    rw [eu, this]) one
  have bind := hb s3 (Value.ref C :: us) I3.kIn (by rw [List.append_nil]; exact lus)
  rw [List.append_nil] at bind
  have called : wpAny (model X.prog X.w) X.A (call (.ref s.heap.objs.size) us) (fun u s' => (s3.toks ≤ s'.toks → Θ s') ∧ EP X pins σ Q u s') X.xe s3 := by
    refine wpAny_call (PySem.W.method_call (ClX.pin_at I3) (codeAny_mono (F.run X.A X.stack s3 H1 ⟨.ref C :: us, []⟩ (.ref C :: us) (.ref C :: vs) Q s3.toks u hr I3.env0 bind r2 (Nat.le_refl _) eu (hq u s3.toks tk1)) fun r s' hq' => ?_))
    match r, hq' with
    | .ok (.ret w), hq' =>
      have ce : CE X.stack X.prog X.w H1 s3 Q w s' := hq'
      obtain ⟨_, _, _, _, un, _⟩ := id ce
      exact ⟨fun up => Cl.un0 I3 up un g3, ClX.unpinE (I3.after ce)⟩
  exact wpAny_mono (PySem.wpAny_toks called) (fun u s' z => ⟨z.2.1 z.1, z.2.2⟩) fun _ _ z => z.2
theorem clo_true : Clo X [] (fun _ => True) := ⟨fun _ _ _ _ _ h => h, fun _ _ _ _ _ h => h, fun _ _ _ _ h => h⟩
theorem pe_ofT (h : We X (fun _ => True) e te) : PE X e te := ⟨fun pins s σ H Q I q => wpAny_mono (h.run pins s σ H Q I True.intro q) (fun _ _ z => z.2) fun _ _ z => z⟩
theorem pss_ofT {sts : List Stmt} {ts : TS} (h : Wss X (fun _ => True) sts ts) : PSs X sts ts := ⟨fun pins s σ H D I q => wpAny_mono (h.run pins s σ H D I True.intro q) (fun _ _ z => z.2) fun _ _ z => z⟩
end
end Sq
set_option Elab.async false
set_option linter.all false
set_option maxRecDepth 100000
set_option maxHeartbeats 8000000
set_option exponentiation.threshold 2000
namespace Sq
open PySem PySem.Spec PyProof.Rows L2
abbrev s_law : Stmt := topS 35
theorem sc_law : FnScope ["script", "at", "pool", "turn", "long", "many"] ["script"] (defScope s_law) := ⟨rfl, rfl, rfl, by decide +kernel, rfl, by decide +kernel, by decide +kernel⟩
theorem lbw_spell (n : Nat) : lbw 32 ([120] ++ List.replicate n 32 ++ [121]) 0 = [0, (n : Int), 0] := by
  rw [List.append_assoc]
  show lbw 32 (120 :: (List.replicate n 32 ++ [121])) 0 = _
  rw [lbw_cons, if_neg (by decide), lbw_rep, lbw_cons, if_neg (by decide)]
  show [(0 : Int), 0 + (n : Int), 0] = _
  rw [Int.zero_add]
theorem max_spell {n : Nat} {m : Int} (h : IsMax 32 ([120] ++ List.replicate n 32 ++ [121]) m) : m = (n : Int) := by
  have h1 := h.1
  have h2 := h.2
  rw [lbw_spell] at h1 h2
  have := h2 (n : Int) (by simp)
  have : m = 0 ∨ m = (n : Int) ∨ m = 0 := by simpa using h1
  omega
theorem kb_single {K : PySem.W.Frag} {f : Addr} {fd : FuncData} (F : Fun K "single" "SqueezedText.single" s_SqueezedTextsingle f fd) : KBn K fd ["cls", "text", "character"] 1 ["character", "text"] (fun us ws => match us, ws with | [o], [c, t] => [o, t, c] | us, ws => us ++ ws) gSK :=
  kbn_mk1 F _ _ _ (fun {vs us zs ws} r1 r2 => by
    cases r1 with
    | nil => cases r2 with
      | nil => exact .nil
      | cons a b => exact .cons a b
    | cons a b =>
      cases b with
      | nil =>
        cases r2 with
        | nil => exact .cons a .nil
        | cons c d =>
          cases d with
          | nil => exact .cons a (.cons c .nil)
          | cons e f =>
            cases f with
            | nil => exact .cons a (.cons e (.cons c .nil))
            | cons g h => exact .cons a (.cons c (.cons e (.cons g h)))
      | cons b1 b2 => exact vals_app (.cons a (.cons b1 b2)) r2) fun _ _ _ _ _ _ _ ws hl => match ws, hl with | [_, _], _ => rfl
section
variable {P : Program} {w : World} {K : PySem.W.Frag} {mg : Str → Option Value} {base : Heap}
def spLaw (K : PySem.W.Frag) : Sp := fun vs H Q _ => ∃ (a : Addr) (ns : List Int), vs = [.ref a] ∧ SqL K H a (ns.map V.int) ∧ ns.length ≤ 63 ∧ ∀ H', Q (.bl true) H'
theorem ok_law {f C : Addr} {fd : FuncData} (F : Fun K "law" "law" s_law f fd) (B : Bi mg) (D_lawpool : Df P w K mg base 1 "_law_pool" ["script", "at"] (spPool K)) (D_lawright : Df P w K mg base 10 "_law_right" ["pool"] spRight)
    (CM : CmW P w K mg base 9 "SqueezedText" C "single" ["cls", "text", "character"] 1 (spSingle C)) (P_reps : Pr P w K mg base 1 C "replacements" (spReps C)) : Top P w K mg base 11 f fd "script" (spLaw K) := by
  refine atTop F sc_law ⟨rfl, by decide, by decide⟩ (fun vs H Q E h => ?_) (fun cdv outer s H vs Q E hr h => ?_)
  · obtain ⟨a, ns, rfl, _⟩ := h
    rfl
  · obtain ⟨a, ns, rfl, hS, hn, q⟩ := h
    refine ⟨_, (pss_cons (ps_for PassesOwn.never rfl (pi_range1 (by rfl) B.n_range (pa_cons (pe_callB (id := "max") (call_max2 rfl) (by rfl) B.n_max (by decide +kernel) (pa_cons pe_int (pa_cons (pe_callB (id := "min") (call_min2 rfl) (by rfl) B.n_min (by decide +kernel) (pa_cons pe_int (pa_cons (pe_callB (id := "len") (r := rLenK K) call_lenK (by rfl) B.n_len (by decide +kernel) (pa_cons (pv 0) pa_nil)) pa_nil))) pa_nil))) pa_nil)) (pg_name (i := 1) sc_law.nd rfl (Or.inl rfl))
 (pss_cons (ps_set (i := 2) sc_law.nd rfl (Or.inl rfl) (pe_callD D_lawpool (hr.mono (by omega)) (by rfl) (pa_cons (pv 0) (pa_cons (pv 1) pa_nil))))
 (pss_one (ps_for PassesOwn.never rfl (pi_range1 (by rfl) B.n_range (pa_cons pe_int pa_nil)) (pg_name (i := 3) sc_law.nd rfl (Or.inl rfl))
 (pss_one (ps_if (pt_not (pt_val (pe_callD D_lawright (hr.mono (by omega)) (by rfl) (pa_cons (pv 2) pa_nil))))
 (pss_one (ps_ret pe_bl))
 pss_nil)))))) (pss_cons (ps_for PassesOwn.never rfl (pi_list (pe_lst (pa_cons (pe_tup (pa_cons pe_int (pa_cons pe_int pa_nil))) (pa_cons (pe_tup (pa_cons pe_int (pa_cons pe_int pa_nil))) (pa_cons (pe_tup (pa_cons pe_int (pa_cons pe_int pa_nil))) (pa_cons (pe_tup (pa_cons pe_int (pa_cons pe_int pa_nil))) (pa_cons (pe_tup (pa_cons pe_int (pa_cons pe_int pa_nil))) (pa_cons (pe_tup (pa_cons pe_int (pa_cons pe_int pa_nil))) pa_nil)))))))) (pg_tup rfl (pgs_cons (pg_name (i := 4) sc_law.nd rfl (Or.inl rfl)) (pgs_cons (pg_name (i := 5) sc_law.nd rfl (Or.inl rfl)) pgs_nil)))
      (pss_ofT (wss_one (ws_if (wt_cmp (ow_neD clo_true hr.units) (we_callB (id := "len") (r := rLenK K) (cw_len clo_true) (by rfl) B.n_len (by decide +kernel) (wa_cons (we_prL clo_true P_reps (hr.mono (by omega)) (we_cmX clo_true CM (hr.mono (by omega)) (by rfl) (wx_lit (wc_op (ow_add_str clo_n) (wc_op (ow_add_str clo_n) wc_str (we_op (ow_mulS clo_n) (we_str clo_n) (wv 4))) (we_str clo_n))) (by decide))) wa_nil)) (wv 5) (nomark _)) (wss_one (ws_ret we_bl)) wss_nil))))
      (pss_one (ps_ret (pe_and (pe_ofT (we_cmp (ow_eqD clo_true hr.units) (we_prL clo_true P_reps (hr.mono (by omega)) (we_cmX clo_true CM (hr.mono (by omega)) (by rfl) (wx_lit wc_str) (by decide))) (we_lst clo_true (wa_cons (we_int clo_true) (wa_cons (we_int clo_true) wa_nil))) (nomark _)))
        (pe_one (pe_ofT (we_cmp (ow_eqD clo_true hr.units) (we_prL clo_true P_reps (hr.mono (by omega)) (we_cmX clo_true CM (hr.mono (by omega)) (by rfl) (wx_lit wc_str) (by decide))) (we_lst clo_true wa_nil) (nomark _))))))))), ?_⟩
    have lim : sizeLine = 16777216 := sizeLine_eq
    obtain ⟨u0, u1, u2, u3, u4, u5, u6⟩ := up_is
    obtain ⟨f0, f1, f2, f3, f4, f5, f6⟩ := firstL_is
    have le0 : Least 0 0 := ⟨by decide, by rw [u0]; decide, fun i hi => absurd hi (Nat.not_lt_zero i)⟩
    have le4 : Least 4 2 := ⟨by decide, by rw [u2]; decide, fun i hi => by
      have : i = 0 ∨ i = 1 := by omega
      rcases this with rfl | rfl <;> simp only [u0, u1] <;> decide⟩
    have le10 : Least 10 3 := ⟨by decide, by rw [u3]; decide, fun i hi => by
      have : i = 0 ∨ i = 1 ∨ i = 2 := by omega
      rcases this with rfl | rfl | rfl <;> simp only [u0, u1, u2] <;> decide⟩
    have le11 : Least 11 4 := ⟨by decide, by rw [u4]; decide, fun i hi => by
      have : i = 0 ∨ i = 1 ∨ i = 2 ∨ i = 3 := by omega
      rcases this with rfl | rfl | rfl | rfl <;> simp only [u0, u1, u2, u3] <;> decide⟩
    have le40 : Least 40 4 := ⟨by decide, by rw [u4]; decide, fun i hi => by
      have : i = 0 ∨ i = 1 ∨ i = 2 ∨ i = 3 := by omega
      rcases this with rfl | rfl | rfl | rfl <;> simp only [u0, u1, u2, u3] <;> decide⟩
    have le460 : Least 460 5 := ⟨by decide, by rw [u5]; decide, fun i hi => by
      have : i = 0 ∨ i = 1 ∨ i = 2 ∨ i = 3 ∨ i = 4 := by omega
      rcases this with rfl | rfl | rfl | rfl | rfl <;> simp only [u0, u1, u2, u3, u4] <;> decide⟩
    have le461 : Least 461 6 := ⟨by decide, by rw [u6]; decide, fun i hi => by
      have : i = 0 ∨ i = 1 ∨ i = 2 ∨ i = 3 ∨ i = 4 ∨ i = 5 := by omega
      rcases this with rfl | rfl | rfl | rfl | rfl | rfl <;> simp only [u0, u1, u2, u3, u4, u5] <;> decide⟩
    refine ⟨_, rfl, a, _, rfl, .inl hS, 6, _, rfl, 1, _, rfl, ?_⟩
    rw [List.length_map]
    obtain ⟨N, eN⟩ : ∃ N, N = (if (if (ns.length : Int) < 6 then (ns.length : Int) else 6) > 1 then (if (ns.length : Int) < 6 then (ns.length : Int) else 6) else 1) := ⟨_, rfl⟩
    have hN : 1 ≤ N ∧ N ≤ 6 := by
      rw [eN]
      split <;> split <;> omega
    refine ⟨N, by subst eN; rfl, by omega, by omega, for_range (lo := 0) (n := N.toNat) (fun i σ H' => Same H H' ∧ ∃ y1 y2 y3, σ = [some (.ref a), y1, y2, y3, none, none]) ⟨Same.refl H, none, none, none, rfl⟩ ?_ ?_⟩
    · rintro i σ H1 hi ⟨s1, y1, y2, y3, rfl⟩
      refine ⟨_, rfl, _, rfl, a, ns, i, by rw [Int.zero_add]; rfl, s1.seq hS, hn, by omega, fun l seed H2 hl s2 S2 => ?_⟩
      refine ⟨4, rfl, by decide, by decide, for_range (lo := 0) (n := 4) (fun j σ H' => ∃ cnt y3, σ = [some (.ref a), some (.int (0 + (i : Int))), some (.ref l), y3, none, none] ∧ Rng H' l seed cnt ∧ cnt ≤ 2000 * j ∧ Same H1 H')
        ⟨0, y3, rfl, S2, by omega, s2⟩ ?_ ?_⟩
      · rintro j σ H3 hj ⟨cnt, y3, rfl, S3, hc3, s3⟩
        refine ⟨_, rfl, l, seed, cnt, rfl, S3, by omega, fun c4 H4 S4 hc4 k4 => ⟨_, rfl, iteF ⟨c4, _, rfl, S4, by omega, fun b o e => k4 _ _ (s3 _ _ e) (ne_of_none e hl)⟩⟩⟩
      · rintro σ H3 ⟨cnt, y3, rfl, S3, hc3, s3⟩
        exact ⟨s1.trans s3, _, _, _, rfl⟩
    · rintro σ H1 ⟨s1, y1, y2, y3, rfl⟩
      refine ⟨by show 2 ≤ _; omega, fun p0 h0 => ⟨by show 2 ≤ _; omega, fun p1 h1 => ⟨by show 2 ≤ _; omega, fun p2 h2 => ⟨by show 2 ≤ _; omega, fun p3 h3 => ⟨by show 2 ≤ _; omega, fun p4 h4 => ⟨by show 2 ≤ _; omega, fun p5 h5 => ⟨by show 6 ≤ _; omega, fun q0 hq0 => ?_⟩⟩⟩⟩⟩⟩⟩
      have s10 := same_new (o := .tup [.int 4, .int 2]) h0
      have s11 := same_new (o := .tup [.int 10, .int 3]) h1
      have s12 := same_new (o := .tup [.int 11, .int 4]) h2
      have s13 := same_new (o := .tup [.int 40, .int 4]) h3
      have s14 := same_new (o := .tup [.int 460, .int 5]) h4
      have s15 := same_new (o := .tup [.int 461, .int 6]) h5
      have s16 := same_new (o := .lst [V.ref p0, .ref p1, .ref p2, .ref p3, .ref p4, .ref p5]) hq0
      have g0 := (s16 _ _ (s15 _ _ (s14 _ _ (s13 _ _ (s12 _ _ (s11 _ _ (upd_same)))))))
      have g1 := (s16 _ _ (s15 _ _ (s14 _ _ (s13 _ _ (s12 _ _ (upd_same))))))
      have g2 := (s16 _ _ (s15 _ _ (s14 _ _ (s13 _ _ (upd_same)))))
      have g3 := (s16 _ _ (s15 _ _ (s14 _ _ (upd_same))))
      have g4 := (s16 _ _ (s15 _ _ (upd_same)))
      have g5 := (s16 _ _ (upd_same))
      have gq : upd _ q0 (.lst [V.ref p0, .ref p1, .ref p2, .ref p3, .ref p4, .ref p5]) q0 = _ := upd_same (H := upd (upd (upd (upd (upd (upd H1 p0 (.tup [.int 4, .int 2])) p1 (.tup [.int 10, .int 3])) p2 (.tup [.int 11, .int 4])) p3 (.tup [.int 40, .int 4])) p4 (.tup [.int 460, .int 5])) p5 (.tup [.int 461, .int 6]))
      clear s10 s11 s12 s13 s14 s15 s16 h0 h1 h2 h3 h4 h5 hq0
      generalize upd (upd (upd (upd (upd (upd (upd H1 p0 (.tup [.int 4, .int 2])) p1 (.tup [.int 10, .int 3])) p2 (.tup [.int 11, .int 4])) p3 (.tup [.int 40, .int 4])) p4 (.tup [.int 460, .int 5])) p5 (.tup [.int 461, .int 6])) q0 (.lst [V.ref p0, .ref p1, .ref p2, .ref p3, .ref p4, .ref p5]) = G at g0 g1 g2 g3 g4 g5 gq ⊢
      refine ⟨q0, rfl, ⟨_, SqL.of gq⟩, for_list (K := K) (a := q0) (xs := [V.ref p0, .ref p1, .ref p2, .ref p3, .ref p4, .ref p5]) (fun i σ H' => Same G H' ∧ ∃ y4 y5, σ = [some (.ref a), y1, y2, y3, y4, y5]) ⟨Same.refl G, none, none, rfl⟩ (fun i σ H' _ h => SqL.of (h.1 _ _ gq)) ?_ ?_⟩
      · rintro i x σ H2 hx ⟨s2, y4, y5, rfl⟩
        suffices key : ∃ (p : Addr) (n st : Nat), x = .ref p ∧ G p = some (.tup [.int (n : Int), .int (st : Int)]) ∧ n ≤ 461 ∧ Least (n : Int) st by
          obtain ⟨p, n, st, rfl, gp, hn6, le⟩ := key
          have st6 := le.st6
          refine ⟨p, _, rfl, SqT.of (s2 _ _ gp), rfl, _, _, rfl, ⟨_, _, rfl, rfl, ?_⟩⟩
          refine ⟨_, rfl, _, (n : Int), rfl, rfl, mul_chr_ok 32 (by omega) (by omega), ?_⟩
          have em := mul_chr 32 (n := (n : Int)) (by omega)
          rw [Int.toNat_natCast] at em
          change Txt.mul (Str.ofString " ") (n : Int) = _ at em
          rw [em]
          have ln : (SX.S (List.replicate n 32)).length = n := by rw [SX.S_len, List.length_replicate]
          have lx : ([120] ++ List.replicate n 32 ++ [121]).length = n + 2 := by rw [List.length_append, List.length_append, List.length_replicate]; show 1 + n + 1 = _; omega
          refine ⟨_, _, rfl, rfl, ?_, _, _, rfl, rfl, ?_, fun u0 k good => ⟨[120] ++ List.replicate n 32 ++ [121], 32, ?_, by omega, good, fun p' dx r t m st' H3 np ndx nr nt im le' L s3 => ?_⟩⟩
          · show (SX.S [120]).length + (SX.S (List.replicate n 32)).length ≤ _
            rw [ln]; show 1 + n ≤ _; omega
          · show (SX.S [120] ++ SX.S (List.replicate n 32)).length + 1 ≤ _
            rw [SX.S_cat, SX.S_len, List.length_append, List.length_replicate]; show 1 + n + 1 ≤ _; omega
          · rw [← SX.S_cat, ← SX.S_cat]; rfl
          obtain rfl := max_spell im
          obtain rfl := Least.uniq le le'
          obtain ⟨m', LL, _⟩ := id L.m
          refine ⟨p', dx, m', _, rfl, LL, p', dx, r, t, u0, 32, _, _, rfl, L, fun q' hq' => ⟨q', _, rfl, .inl (SqL.of upd_same), ?_⟩⟩
          refine ⟨_, rfl, .int _, .int _, .int _, .int _, rfl, rfl, _, rfl, ?_⟩
          rw [List.length_map, (firstL_rpl st6).2, show PyData.eqv (.int (st : Int)) (.int (st : Int)) = true from by show ((st : Int) == (st : Int)) = true; exact beq_self_eq_true _]
          exact iteF ⟨(s2.trans s3).trans (same_new hq'), _, _, rfl⟩
        match i, hx with
        | 0, hx => exact ⟨p0, 4, 2, (Option.some.inj hx).symm, g0, by decide, le4⟩
        | 1, hx => exact ⟨p1, 10, 3, (Option.some.inj hx).symm, g1, by decide, le10⟩
        | 2, hx => exact ⟨p2, 11, 4, (Option.some.inj hx).symm, g2, by decide, le11⟩
        | 3, hx => exact ⟨p3, 40, 4, (Option.some.inj hx).symm, g3, by decide, le40⟩
        | 4, hx => exact ⟨p4, 460, 5, (Option.some.inj hx).symm, g4, by decide, le460⟩
        | 5, hx => exact ⟨p5, 461, 6, (Option.some.inj hx).symm, g5, by decide, le461⟩
        | k + 6, hx => exact absurd hx (by simp)
      · rintro σ H2 ⟨s2, y4, y5, rfl⟩
        refine fun u0 k good => ⟨[120] ++ List.replicate 4 32 ++ [121], 32, rfl, by decide, good, fun p' dx r t m st' H3 np ndx nr nt im le' L s3 => ?_⟩
        obtain rfl := max_spell im
        obtain rfl := Least.uniq le4 le'
        obtain ⟨m', LL, _⟩ := id L.m
        refine ⟨p', dx, m', _, rfl, LL, p', dx, r, t, u0, 32, _, _, rfl, L, fun q' hq' => ⟨by show 2 ≤ _; omega, fun q2 hq2 => ?_⟩⟩
        rw [f2]
        refine ⟨.list (([2, 2] : List Int).map PyData.int), .list (([2, 2] : List Int).map PyData.int), .lst (SqL.of (same_new hq2 _ _ (show _ = some (HO.lst (([2, 2] : List Int).map V.int)) from upd_same))) (dpInts _), .lst (SqL.of (show _ = some (HO.lst (([2, 2] : List Int).map V.int)) from upd_same)) (dpInts _), shapedInts _, shapedInts _, _, rfl, ?_⟩
        rw [eqv_ints, decide_eq_true rfl]
        refine iteT ?_
        refine fun u0' k' good' => ⟨[], 97, rfl, by decide, good', fun p2 dx2 r2 t2 m2 st2 H4 np2 ndx2 nr2 nt2 im2 le2 L2 s4 => ?_⟩
        have em : m2 = 0 := List.mem_singleton.mp (show m2 ∈ [(0 : Int)] from im2.1)
        subst em
        obtain rfl := Least.uniq le0 le2
        obtain ⟨m2', LL2, _⟩ := id L2.m
        refine ⟨p2, dx2, m2', _, rfl, LL2, p2, dx2, r2, t2, u0', 97, _, _, rfl, L2, fun q3 hq3 => ⟨Nat.zero_le _, fun q4 hq4 => ?_⟩⟩
        rw [f0]
        refine ⟨.list (([] : List Int).map PyData.int), .list (([] : List Int).map PyData.int), .lst (SqL.of (same_new hq4 _ _ (show _ = some (HO.lst (([] : List Int).map V.int)) from upd_same))) (dpInts _), .lst (SqL.of (show _ = some (HO.lst (([] : List Int).map V.int)) from upd_same)) (dpInts _), shapedInts _, shapedInts _, ?_⟩
        rw [eqv_ints, decide_eq_true rfl]
        exact q _
end
end Sq
set_option Elab.async false
set_option linter.all false
set_option maxRecDepth 100000
set_option maxHeartbeats 4000000
namespace Sq
open PySem PySem.Spec PyProof.Rows L2
theorem all_mk {l : PySem.W.OpenLaw} {w : World} {K : PySem.W.Frag} {h : Heap} {mg : Str → Option Value} {fa : Addr} (X : K.In h) (G : h.Ns mainGlobals mg) (hfa : mg "law" = some (.ref fa))
    {f_checklist : Addr} {od_checklist an_checklist : Option Addr} {sl_checklist : Array (Option Value)} {oc_checklist kV_checklist dc_checklist pm_checklist cd_checklist ct_checklist : Value}
    (a_checklist : PySem.W.nsIn K mainGlobals "check_list" = some (some (.ref f_checklist)))
    (l_checklist : K.lookup f_checklist = some ⟨oc_checklist, od_checklist, .func (PySem.W.fnOf "check_list" "check_list" (defArgs s_checklist) (defBody s_checklist) (defScope s_checklist) .none kV_checklist dc_checklist pm_checklist an_checklist cd_checklist ct_checklist), sl_checklist⟩)
    (c_checklist : PySem.W.codeIn K cd_checklist "check_list" = true) (k_checklist : PySem.W.keepIn K (.ref f_checklist) = true)
    {f_checknumber : Addr} {od_checknumber an_checknumber : Option Addr} {sl_checknumber : Array (Option Value)} {oc_checknumber kV_checknumber dc_checknumber pm_checknumber cd_checknumber ct_checknumber : Value}
    (a_checknumber : PySem.W.nsIn K mainGlobals "check_number" = some (some (.ref f_checknumber)))
    (l_checknumber : K.lookup f_checknumber = some ⟨oc_checknumber, od_checknumber, .func (PySem.W.fnOf "check_number" "check_number" (defArgs s_checknumber) (defBody s_checknumber) (defScope s_checknumber) .none kV_checknumber dc_checknumber pm_checknumber an_checknumber cd_checknumber ct_checknumber), sl_checknumber⟩)
    (c_checknumber : PySem.W.codeIn K cd_checknumber "check_number" = true) (k_checknumber : PySem.W.keepIn K (.ref f_checknumber) = true)
    {f_checkcharacter : Addr} {od_checkcharacter an_checkcharacter : Option Addr} {sl_checkcharacter : Array (Option Value)} {oc_checkcharacter kV_checkcharacter dc_checkcharacter pm_checkcharacter cd_checkcharacter ct_checkcharacter : Value}
    (a_checkcharacter : PySem.W.nsIn K mainGlobals "check_character" = some (some (.ref f_checkcharacter)))
    (l_checkcharacter : K.lookup f_checkcharacter = some ⟨oc_checkcharacter, od_checkcharacter, .func (PySem.W.fnOf "check_character" "check_character" (defArgs s_checkcharacter) (defBody s_checkcharacter) (defScope s_checkcharacter) .none kV_checkcharacter dc_checkcharacter pm_checkcharacter an_checkcharacter cd_checkcharacter ct_checkcharacter), sl_checkcharacter⟩)
    (c_checkcharacter : PySem.W.codeIn K cd_checkcharacter "check_character" = true) (k_checkcharacter : PySem.W.keepIn K (.ref f_checkcharacter) = true)
    {f_squeezed : Addr} {od_squeezed an_squeezed : Option Addr} {sl_squeezed : Array (Option Value)} {oc_squeezed kV_squeezed dc_squeezed pm_squeezed cd_squeezed ct_squeezed : Value}
    (a_squeezed : PySem.W.nsIn K mainGlobals "squeezed" = some (some (.ref f_squeezed)))
    (l_squeezed : K.lookup f_squeezed = some ⟨oc_squeezed, od_squeezed, .func (PySem.W.fnOf "squeezed" "squeezed" (defArgs s_squeezed) (defBody s_squeezed) (defScope s_squeezed) .none kV_squeezed dc_squeezed pm_squeezed an_squeezed cd_squeezed ct_squeezed), sl_squeezed⟩)
    (c_squeezed : PySem.W.codeIn K cd_squeezed "squeezed" = true) (k_squeezed : PySem.W.keepIn K (.ref f_squeezed) = true)
    {f_squeezetext : Addr} {od_squeezetext an_squeezetext : Option Addr} {sl_squeezetext : Array (Option Value)} {oc_squeezetext kV_squeezetext dc_squeezetext pm_squeezetext cd_squeezetext ct_squeezetext : Value}
    (a_squeezetext : PySem.W.nsIn K mainGlobals "squeeze_text" = some (some (.ref f_squeezetext)))
    (l_squeezetext : K.lookup f_squeezetext = some ⟨oc_squeezetext, od_squeezetext, .func (PySem.W.fnOf "squeeze_text" "squeeze_text" (defArgs s_squeezetext) (defBody s_squeezetext) (defScope s_squeezetext) .none kV_squeezetext dc_squeezetext pm_squeezetext an_squeezetext cd_squeezetext ct_squeezetext), sl_squeezetext⟩)
    (c_squeezetext : PySem.W.codeIn K cd_squeezetext "squeeze_text" = true) (k_squeezetext : PySem.W.keepIn K (.ref f_squeezetext) = true)
    {f_lengthafter : Addr} {od_lengthafter an_lengthafter : Option Addr} {sl_lengthafter : Array (Option Value)} {oc_lengthafter kV_lengthafter dc_lengthafter pm_lengthafter cd_lengthafter ct_lengthafter : Value}
    (a_lengthafter : PySem.W.nsIn K mainGlobals "length_after" = some (some (.ref f_lengthafter)))
    (l_lengthafter : K.lookup f_lengthafter = some ⟨oc_lengthafter, od_lengthafter, .func (PySem.W.fnOf "length_after" "length_after" (defArgs s_lengthafter) (defBody s_lengthafter) (defScope s_lengthafter) .none kV_lengthafter dc_lengthafter pm_lengthafter an_lengthafter cd_lengthafter ct_lengthafter), sl_lengthafter⟩)
    (c_lengthafter : PySem.W.codeIn K cd_lengthafter "length_after" = true) (k_lengthafter : PySem.W.keepIn K (.ref f_lengthafter) = true)
    {f_lengthafterone : Addr} {od_lengthafterone an_lengthafterone : Option Addr} {sl_lengthafterone : Array (Option Value)} {oc_lengthafterone kV_lengthafterone dc_lengthafterone pm_lengthafterone cd_lengthafterone ct_lengthafterone : Value}
    (a_lengthafterone : PySem.W.nsIn K mainGlobals "length_after_one" = some (some (.ref f_lengthafterone)))
    (l_lengthafterone : K.lookup f_lengthafterone = some ⟨oc_lengthafterone, od_lengthafterone, .func (PySem.W.fnOf "length_after_one" "length_after_one" (defArgs s_lengthafterone) (defBody s_lengthafterone) (defScope s_lengthafterone) .none kV_lengthafterone dc_lengthafterone pm_lengthafterone an_lengthafterone cd_lengthafterone ct_lengthafterone), sl_lengthafterone⟩)
    (c_lengthafterone : PySem.W.codeIn K cd_lengthafterone "length_after_one" = true) (k_lengthafterone : PySem.W.keepIn K (.ref f_lengthafterone) = true)
    {f_lengthsbetween : Addr} {od_lengthsbetween an_lengthsbetween : Option Addr} {sl_lengthsbetween : Array (Option Value)} {oc_lengthsbetween kV_lengthsbetween dc_lengthsbetween pm_lengthsbetween cd_lengthsbetween ct_lengthsbetween : Value}
    (a_lengthsbetween : PySem.W.nsIn K mainGlobals "lengths_between" = some (some (.ref f_lengthsbetween)))
    (l_lengthsbetween : K.lookup f_lengthsbetween = some ⟨oc_lengthsbetween, od_lengthsbetween, .func (PySem.W.fnOf "lengths_between" "lengths_between" (defArgs s_lengthsbetween) (defBody s_lengthsbetween) (defScope s_lengthsbetween) .none kV_lengthsbetween dc_lengthsbetween pm_lengthsbetween an_lengthsbetween cd_lengthsbetween ct_lengthsbetween), sl_lengthsbetween⟩)
    (c_lengthsbetween : PySem.W.codeIn K cd_lengthsbetween "lengths_between" = true) (k_lengthsbetween : PySem.W.keepIn K (.ref f_lengthsbetween) = true)
    {f_reach : Addr} {od_reach an_reach : Option Addr} {sl_reach : Array (Option Value)} {oc_reach kV_reach dc_reach pm_reach cd_reach ct_reach : Value}
    (a_reach : PySem.W.nsIn K mainGlobals "reach" = some (some (.ref f_reach)))
    {T_reach : Addr} {oT_reach : Value} {dT_reach : Option Addr} {nT_reach : Nat} {sT_reach : Array (Option Value)} {t_reach0 : Tok}
    (l_reach : K.lookup f_reach = some ⟨oc_reach, od_reach, .func (PySem.W.fnOf "reach" "reach" (defArgs s_reach) (defBody s_reach) (defScope s_reach) (.ref T_reach) kV_reach dc_reach pm_reach an_reach cd_reach ct_reach), sl_reach⟩)
    (c_reach : PySem.W.codeIn K cd_reach "reach" = true) (k_reach : PySem.W.keepIn K (.ref f_reach) = true)
    (lT_reach : K.lookup T_reach = some ⟨oT_reach, dT_reach, .seq #[.int 1 t_reach0] nT_reach, sT_reach⟩)
    {f_bestreach : Addr} {od_bestreach an_bestreach : Option Addr} {sl_bestreach : Array (Option Value)} {oc_bestreach kV_bestreach dc_bestreach pm_bestreach cd_bestreach ct_bestreach : Value}
    (a_bestreach : PySem.W.nsIn K mainGlobals "best_reach" = some (some (.ref f_bestreach)))
    {T_bestreach : Addr} {oT_bestreach : Value} {dT_bestreach : Option Addr} {nT_bestreach : Nat} {sT_bestreach : Array (Option Value)} {t_bestreach0 : Tok}
    (l_bestreach : K.lookup f_bestreach = some ⟨oc_bestreach, od_bestreach, .func (PySem.W.fnOf "best_reach" "best_reach" (defArgs s_bestreach) (defBody s_bestreach) (defScope s_bestreach) (.ref T_bestreach) kV_bestreach dc_bestreach pm_bestreach an_bestreach cd_bestreach ct_bestreach), sl_bestreach⟩)
    (c_bestreach : PySem.W.codeIn K cd_bestreach "best_reach" = true) (k_bestreach : PySem.W.keepIn K (.ref f_bestreach) = true)
    (lT_bestreach : K.lookup T_bestreach = some ⟨oT_bestreach, dT_bestreach, .seq #[.int 1 t_bestreach0] nT_bestreach, sT_bestreach⟩)
    {f_feweststeps : Addr} {od_feweststeps an_feweststeps : Option Addr} {sl_feweststeps : Array (Option Value)} {oc_feweststeps kV_feweststeps dc_feweststeps pm_feweststeps cd_feweststeps ct_feweststeps : Value}
    (a_feweststeps : PySem.W.nsIn K mainGlobals "fewest_steps" = some (some (.ref f_feweststeps)))
    {T_feweststeps : Addr} {oT_feweststeps : Value} {dT_feweststeps : Option Addr} {nT_feweststeps : Nat} {sT_feweststeps : Array (Option Value)} {t_feweststeps0 : Tok}
    (l_feweststeps : K.lookup f_feweststeps = some ⟨oc_feweststeps, od_feweststeps, .func (PySem.W.fnOf "fewest_steps" "fewest_steps" (defArgs s_feweststeps) (defBody s_feweststeps) (defScope s_feweststeps) (.ref T_feweststeps) kV_feweststeps dc_feweststeps pm_feweststeps an_feweststeps cd_feweststeps ct_feweststeps), sl_feweststeps⟩)
    (c_feweststeps : PySem.W.codeIn K cd_feweststeps "fewest_steps" = true) (k_feweststeps : PySem.W.keepIn K (.ref f_feweststeps) = true)
    (lT_feweststeps : K.lookup T_feweststeps = some ⟨oT_feweststeps, dT_feweststeps, .seq #[.int 1 t_feweststeps0] nT_feweststeps, sT_feweststeps⟩)
    {f_bestlists : Addr} {od_bestlists an_bestlists : Option Addr} {sl_bestlists : Array (Option Value)} {oc_bestlists kV_bestlists dc_bestlists pm_bestlists cd_bestlists ct_bestlists : Value}
    (a_bestlists : PySem.W.nsIn K mainGlobals "best_lists" = some (some (.ref f_bestlists)))
    {T_bestlists : Addr} {oT_bestlists : Value} {dT_bestlists : Option Addr} {nT_bestlists : Nat} {sT_bestlists : Array (Option Value)} {t_bestlists0 : Tok}
    (l_bestlists : K.lookup f_bestlists = some ⟨oc_bestlists, od_bestlists, .func (PySem.W.fnOf "best_lists" "best_lists" (defArgs s_bestlists) (defBody s_bestlists) (defScope s_bestlists) (.ref T_bestlists) kV_bestlists dc_bestlists pm_bestlists an_bestlists cd_bestlists ct_bestlists), sl_bestlists⟩)
    (c_bestlists : PySem.W.codeIn K cd_bestlists "best_lists" = true) (k_bestlists : PySem.W.keepIn K (.ref f_bestlists) = true)
    (lT_bestlists : K.lookup T_bestlists = some ⟨oT_bestlists, dT_bestlists, .seq #[.int 1 t_bestlists0] nT_bestlists, sT_bestlists⟩)
    {f_reachwith : Addr} {od_reachwith an_reachwith : Option Addr} {sl_reachwith : Array (Option Value)} {oc_reachwith kV_reachwith dc_reachwith pm_reachwith cd_reachwith ct_reachwith : Value}
    (a_reachwith : PySem.W.nsIn K mainGlobals "reach_with" = some (some (.ref f_reachwith)))
    (l_reachwith : K.lookup f_reachwith = some ⟨oc_reachwith, od_reachwith, .func (PySem.W.fnOf "reach_with" "reach_with" (defArgs s_reachwith) (defBody s_reachwith) (defScope s_reachwith) .none kV_reachwith dc_reachwith pm_reachwith an_reachwith cd_reachwith ct_reachwith), sl_reachwith⟩)
    (c_reachwith : PySem.W.codeIn K cd_reachwith "reach_with" = true) (k_reachwith : PySem.W.keepIn K (.ref f_reachwith) = true)
    {f_bestnumbers : Addr} {od_bestnumbers an_bestnumbers : Option Addr} {sl_bestnumbers : Array (Option Value)} {oc_bestnumbers kV_bestnumbers dc_bestnumbers pm_bestnumbers cd_bestnumbers ct_bestnumbers : Value}
    (a_bestnumbers : PySem.W.nsIn K mainGlobals "best_numbers" = some (some (.ref f_bestnumbers)))
    (l_bestnumbers : K.lookup f_bestnumbers = some ⟨oc_bestnumbers, od_bestnumbers, .func (PySem.W.fnOf "best_numbers" "best_numbers" (defArgs s_bestnumbers) (defBody s_bestnumbers) (defScope s_bestnumbers) .none kV_bestnumbers dc_bestnumbers pm_bestnumbers an_bestnumbers cd_bestnumbers ct_bestnumbers), sl_bestnumbers⟩)
    (c_bestnumbers : PySem.W.codeIn K cd_bestnumbers "best_numbers" = true) (k_bestnumbers : PySem.W.keepIn K (.ref f_bestnumbers) = true)
    {f_greatestreachwithone : Addr} {od_greatestreachwithone an_greatestreachwithone : Option Addr} {sl_greatestreachwithone : Array (Option Value)} {oc_greatestreachwithone kV_greatestreachwithone dc_greatestreachwithone pm_greatestreachwithone cd_greatestreachwithone ct_greatestreachwithone : Value}
    (a_greatestreachwithone : PySem.W.nsIn K mainGlobals "greatest_reach_with_one" = some (some (.ref f_greatestreachwithone)))
    (l_greatestreachwithone : K.lookup f_greatestreachwithone = some ⟨oc_greatestreachwithone, od_greatestreachwithone, .func (PySem.W.fnOf "greatest_reach_with_one" "greatest_reach_with_one" (defArgs s_greatestreachwithone) (defBody s_greatestreachwithone) (defScope s_greatestreachwithone) .none kV_greatestreachwithone dc_greatestreachwithone pm_greatestreachwithone an_greatestreachwithone cd_greatestreachwithone ct_greatestreachwithone), sl_greatestreachwithone⟩)
    (c_greatestreachwithone : PySem.W.codeIn K cd_greatestreachwithone "greatest_reach_with_one" = true) (k_greatestreachwithone : PySem.W.keepIn K (.ref f_greatestreachwithone) = true)
    {f_bestchoices : Addr} {od_bestchoices an_bestchoices : Option Addr} {sl_bestchoices : Array (Option Value)} {oc_bestchoices kV_bestchoices dc_bestchoices pm_bestchoices cd_bestchoices ct_bestchoices : Value}
    (a_bestchoices : PySem.W.nsIn K mainGlobals "best_choices" = some (some (.ref f_bestchoices)))
    (l_bestchoices : K.lookup f_bestchoices = some ⟨oc_bestchoices, od_bestchoices, .func (PySem.W.fnOf "best_choices" "best_choices" (defArgs s_bestchoices) (defBody s_bestchoices) (defScope s_bestchoices) .none kV_bestchoices dc_bestchoices pm_bestchoices an_bestchoices cd_bestchoices ct_bestchoices), sl_bestchoices⟩)
    (c_bestchoices : PySem.W.codeIn K cd_bestchoices "best_choices" = true) (k_bestchoices : PySem.W.keepIn K (.ref f_bestchoices) = true)
    {f_listat : Addr} {od_listat an_listat : Option Addr} {sl_listat : Array (Option Value)} {oc_listat kV_listat dc_listat pm_listat cd_listat ct_listat : Value}
    (a_listat : PySem.W.nsIn K mainGlobals "list_at" = some (some (.ref f_listat)))
    (l_listat : K.lookup f_listat = some ⟨oc_listat, od_listat, .func (PySem.W.fnOf "list_at" "list_at" (defArgs s_listat) (defBody s_listat) (defScope s_listat) .none kV_listat dc_listat pm_listat an_listat cd_listat ct_listat), sl_listat⟩)
    (c_listat : PySem.W.codeIn K cd_listat "list_at" = true) (k_listat : PySem.W.keepIn K (.ref f_listat) = true)
    {f_lawpool : Addr} {od_lawpool an_lawpool : Option Addr} {sl_lawpool : Array (Option Value)} {oc_lawpool kV_lawpool dc_lawpool pm_lawpool cd_lawpool ct_lawpool : Value}
    (a_lawpool : PySem.W.nsIn K mainGlobals "_law_pool" = some (some (.ref f_lawpool)))
    (l_lawpool : K.lookup f_lawpool = some ⟨oc_lawpool, od_lawpool, .func (PySem.W.fnOf "_law_pool" "_law_pool" (defArgs s_lawpool) (defBody s_lawpool) (defScope s_lawpool) .none kV_lawpool dc_lawpool pm_lawpool an_lawpool cd_lawpool ct_lawpool), sl_lawpool⟩)
    (c_lawpool : PySem.W.codeIn K cd_lawpool "_law_pool" = true) (k_lawpool : PySem.W.keepIn K (.ref f_lawpool) = true)
    {f_lawdraw : Addr} {od_lawdraw an_lawdraw : Option Addr} {sl_lawdraw : Array (Option Value)} {oc_lawdraw kV_lawdraw dc_lawdraw pm_lawdraw cd_lawdraw ct_lawdraw : Value}
    (a_lawdraw : PySem.W.nsIn K mainGlobals "_law_draw" = some (some (.ref f_lawdraw)))
    (l_lawdraw : K.lookup f_lawdraw = some ⟨oc_lawdraw, od_lawdraw, .func (PySem.W.fnOf "_law_draw" "_law_draw" (defArgs s_lawdraw) (defBody s_lawdraw) (defScope s_lawdraw) .none kV_lawdraw dc_lawdraw pm_lawdraw an_lawdraw cd_lawdraw ct_lawdraw), sl_lawdraw⟩)
    (c_lawdraw : PySem.W.codeIn K cd_lawdraw "_law_draw" = true) (k_lawdraw : PySem.W.keepIn K (.ref f_lawdraw) = true)
    {f_lawtext : Addr} {od_lawtext an_lawtext : Option Addr} {sl_lawtext : Array (Option Value)} {oc_lawtext kV_lawtext dc_lawtext pm_lawtext cd_lawtext ct_lawtext : Value}
    (a_lawtext : PySem.W.nsIn K mainGlobals "_law_text" = some (some (.ref f_lawtext)))
    (l_lawtext : K.lookup f_lawtext = some ⟨oc_lawtext, od_lawtext, .func (PySem.W.fnOf "_law_text" "_law_text" (defArgs s_lawtext) (defBody s_lawtext) (defScope s_lawtext) .none kV_lawtext dc_lawtext pm_lawtext an_lawtext cd_lawtext ct_lawtext), sl_lawtext⟩)
    (c_lawtext : PySem.W.codeIn K cd_lawtext "_law_text" = true) (k_lawtext : PySem.W.keepIn K (.ref f_lawtext) = true)
    {f_lawruns : Addr} {od_lawruns an_lawruns : Option Addr} {sl_lawruns : Array (Option Value)} {oc_lawruns kV_lawruns dc_lawruns pm_lawruns cd_lawruns ct_lawruns : Value}
    (a_lawruns : PySem.W.nsIn K mainGlobals "_law_runs" = some (some (.ref f_lawruns)))
    (l_lawruns : K.lookup f_lawruns = some ⟨oc_lawruns, od_lawruns, .func (PySem.W.fnOf "_law_runs" "_law_runs" (defArgs s_lawruns) (defBody s_lawruns) (defScope s_lawruns) .none kV_lawruns dc_lawruns pm_lawruns an_lawruns cd_lawruns ct_lawruns), sl_lawruns⟩)
    (c_lawruns : PySem.W.codeIn K cd_lawruns "_law_runs" = true) (k_lawruns : PySem.W.keepIn K (.ref f_lawruns) = true)
    {f_lawfewest : Addr} {od_lawfewest an_lawfewest : Option Addr} {sl_lawfewest : Array (Option Value)} {oc_lawfewest kV_lawfewest dc_lawfewest pm_lawfewest cd_lawfewest ct_lawfewest : Value}
    (a_lawfewest : PySem.W.nsIn K mainGlobals "_law_fewest" = some (some (.ref f_lawfewest)))
    (l_lawfewest : K.lookup f_lawfewest = some ⟨oc_lawfewest, od_lawfewest, .func (PySem.W.fnOf "_law_fewest" "_law_fewest" (defArgs s_lawfewest) (defBody s_lawfewest) (defScope s_lawfewest) .none kV_lawfewest dc_lawfewest pm_lawfewest an_lawfewest cd_lawfewest ct_lawfewest), sl_lawfewest⟩)
    (c_lawfewest : PySem.W.codeIn K cd_lawfewest "_law_fewest" = true) (k_lawfewest : PySem.W.keepIn K (.ref f_lawfewest) = true)
    {f_lawright : Addr} {od_lawright an_lawright : Option Addr} {sl_lawright : Array (Option Value)} {oc_lawright kV_lawright dc_lawright pm_lawright cd_lawright ct_lawright : Value}
    (a_lawright : PySem.W.nsIn K mainGlobals "_law_right" = some (some (.ref f_lawright)))
    (l_lawright : K.lookup f_lawright = some ⟨oc_lawright, od_lawright, .func (PySem.W.fnOf "_law_right" "_law_right" (defArgs s_lawright) (defBody s_lawright) (defScope s_lawright) .none kV_lawright dc_lawright pm_lawright an_lawright cd_lawright ct_lawright), sl_lawright⟩)
    (c_lawright : PySem.W.codeIn K cd_lawright "_law_right" = true) (k_lawright : PySem.W.keepIn K (.ref f_lawright) = true)
    {f_law : Addr} {od_law an_law : Option Addr} {sl_law : Array (Option Value)} {oc_law kV_law dc_law pm_law cd_law ct_law : Value}
    (a_law : PySem.W.nsIn K mainGlobals "law" = some (some (.ref f_law)))
    (l_law : K.lookup f_law = some ⟨oc_law, od_law, .func (PySem.W.fnOf "law" "law" (defArgs s_law) (defBody s_law) (defScope s_law) .none kV_law dc_law pm_law an_law cd_law ct_law), sl_law⟩)
    (c_law : PySem.W.codeIn K cd_law "law" = true) (k_law : PySem.W.keepIn K (.ref f_law) = true)
    (z_len : PySem.W.nsIn K mainGlobals "len" = some none)
    (z_min : PySem.W.nsIn K mainGlobals "min" = some none)
    (z_max : PySem.W.nsIn K mainGlobals "max" = some none)
    (z_abs : PySem.W.nsIn K mainGlobals "abs" = some none)
    (z_range : PySem.W.nsIn K mainGlobals "range" = some none)
    (z_isinstance : PySem.W.nsIn K mainGlobals "isinstance" = some none)
    (z_repr : PySem.W.nsIn K mainGlobals "repr" = some none)
    (z_enumerate : PySem.W.nsIn K mainGlobals "enumerate" = some none)
    (z_reversed : PySem.W.nsIn K mainGlobals "reversed" = some none)
    (z_sorted : PySem.W.nsIn K mainGlobals "sorted" = some none)
    (z_bool : PySem.W.nsIn K mainGlobals "bool" = some none)
    (z_int : PySem.W.nsIn K mainGlobals "int" = some none)
    (z_str : PySem.W.nsIn K mainGlobals "str" = some none)
    (z_list : PySem.W.nsIn K mainGlobals "list" = some none)
    (z_tuple : PySem.W.nsIn K mainGlobals "tuple" = some none)
    (z_set : PySem.W.nsIn K mainGlobals "set" = some none)
    (z_sum : PySem.W.nsIn K mainGlobals "sum" = some none)
    (z_zip : PySem.W.nsIn K mainGlobals "zip" = some none)
    (z_all : PySem.W.nsIn K mainGlobals "all" = some none)
    (z_any : PySem.W.nsIn K mainGlobals "any" = some none)
    (z_ValueError : PySem.W.nsIn K mainGlobals "ValueError" = some none)
    (z_divmod : PySem.W.nsIn K mainGlobals "divmod" = some none)
    {CT : Addr} (aCT : PySem.W.nsIn K mainGlobals "SqueezedText" = some (some (.ref CT)))
    (pgCT : PySem.W.plainGet K CT Str.empty = true)
    (hdCT : PySem.W.hasDictIn K CT = true)
    (poCT : PySem.W.plainOver K CT = true)
    (saCT : PySem.W.findIn K (.ref CT) "__setattr__" = some (some (.builtin "object.__setattr__")))
    (mkCT : PySem.W.makesIn K CT = true)
    (kcCT : PySem.W.keepIn K (.ref CT) = true)
    (nCT_0 : PySem.W.findIn K (.ref CT) "_character" = some none)
    (nCT_1 : PySem.W.findIn K (.ref CT) "_replacements" = some none)
    (nCT_2 : PySem.W.findIn K (.ref CT) "_texts" = some none)
    {f_SqueezedTextinit : Addr} {od_SqueezedTextinit an_SqueezedTextinit : Option Addr} {sl_SqueezedTextinit : Array (Option Value)} {oc_SqueezedTextinit kV_SqueezedTextinit dc_SqueezedTextinit pm_SqueezedTextinit cd_SqueezedTextinit ct_SqueezedTextinit : Value}
    (a_SqueezedTextinit : PySem.W.findIn K (.ref CT) "__init__" = some (some (.ref f_SqueezedTextinit))) (i_SqueezedTextinit : PySem.W.isFn K (.ref f_SqueezedTextinit) = true)
    (l_SqueezedTextinit : K.lookup f_SqueezedTextinit = some ⟨oc_SqueezedTextinit, od_SqueezedTextinit, .func (PySem.W.fnOf "__init__" "SqueezedText.__init__" (defArgs s_SqueezedTextinit) (defBody s_SqueezedTextinit) (defScope s_SqueezedTextinit) .none kV_SqueezedTextinit dc_SqueezedTextinit pm_SqueezedTextinit an_SqueezedTextinit cd_SqueezedTextinit ct_SqueezedTextinit), sl_SqueezedTextinit⟩)
    (c_SqueezedTextinit : PySem.W.codeIn K cd_SqueezedTextinit "SqueezedText.__init__" = true) (k_SqueezedTextinit : PySem.W.keepIn K (.ref f_SqueezedTextinit) = true)
    {f_SqueezedTexteq : Addr} {od_SqueezedTexteq an_SqueezedTexteq : Option Addr} {sl_SqueezedTexteq : Array (Option Value)} {oc_SqueezedTexteq kV_SqueezedTexteq dc_SqueezedTexteq pm_SqueezedTexteq cd_SqueezedTexteq ct_SqueezedTexteq : Value}
    (a_SqueezedTexteq : PySem.W.findIn K (.ref CT) "__eq__" = some (some (.ref f_SqueezedTexteq))) (i_SqueezedTexteq : PySem.W.isFn K (.ref f_SqueezedTexteq) = true)
    (l_SqueezedTexteq : K.lookup f_SqueezedTexteq = some ⟨oc_SqueezedTexteq, od_SqueezedTexteq, .func (PySem.W.fnOf "__eq__" "SqueezedText.__eq__" (defArgs s_SqueezedTexteq) (defBody s_SqueezedTexteq) (defScope s_SqueezedTexteq) .none kV_SqueezedTexteq dc_SqueezedTexteq pm_SqueezedTexteq an_SqueezedTexteq cd_SqueezedTexteq ct_SqueezedTexteq), sl_SqueezedTexteq⟩)
    (c_SqueezedTexteq : PySem.W.codeIn K cd_SqueezedTexteq "SqueezedText.__eq__" = true) (k_SqueezedTexteq : PySem.W.keepIn K (.ref f_SqueezedTexteq) = true)
    {f_SqueezedTextsqueeze : Addr} {od_SqueezedTextsqueeze an_SqueezedTextsqueeze : Option Addr} {sl_SqueezedTextsqueeze : Array (Option Value)} {oc_SqueezedTextsqueeze kV_SqueezedTextsqueeze dc_SqueezedTextsqueeze pm_SqueezedTextsqueeze cd_SqueezedTextsqueeze ct_SqueezedTextsqueeze : Value}
    (a_SqueezedTextsqueeze : PySem.W.findIn K (.ref CT) "squeeze" = some (some (.ref f_SqueezedTextsqueeze))) (i_SqueezedTextsqueeze : PySem.W.isFn K (.ref f_SqueezedTextsqueeze) = true)
    (l_SqueezedTextsqueeze : K.lookup f_SqueezedTextsqueeze = some ⟨oc_SqueezedTextsqueeze, od_SqueezedTextsqueeze, .func (PySem.W.fnOf "squeeze" "SqueezedText.squeeze" (defArgs s_SqueezedTextsqueeze) (defBody s_SqueezedTextsqueeze) (defScope s_SqueezedTextsqueeze) .none kV_SqueezedTextsqueeze dc_SqueezedTextsqueeze pm_SqueezedTextsqueeze an_SqueezedTextsqueeze cd_SqueezedTextsqueeze ct_SqueezedTextsqueeze), sl_SqueezedTextsqueeze⟩)
    (c_SqueezedTextsqueeze : PySem.W.codeIn K cd_SqueezedTextsqueeze "SqueezedText.squeeze" = true) (k_SqueezedTextsqueeze : PySem.W.keepIn K (.ref f_SqueezedTextsqueeze) = true)
    {f_SqueezedTextundo : Addr} {od_SqueezedTextundo an_SqueezedTextundo : Option Addr} {sl_SqueezedTextundo : Array (Option Value)} {oc_SqueezedTextundo kV_SqueezedTextundo dc_SqueezedTextundo pm_SqueezedTextundo cd_SqueezedTextundo ct_SqueezedTextundo : Value}
    (a_SqueezedTextundo : PySem.W.findIn K (.ref CT) "undo" = some (some (.ref f_SqueezedTextundo))) (i_SqueezedTextundo : PySem.W.isFn K (.ref f_SqueezedTextundo) = true)
    (l_SqueezedTextundo : K.lookup f_SqueezedTextundo = some ⟨oc_SqueezedTextundo, od_SqueezedTextundo, .func (PySem.W.fnOf "undo" "SqueezedText.undo" (defArgs s_SqueezedTextundo) (defBody s_SqueezedTextundo) (defScope s_SqueezedTextundo) .none kV_SqueezedTextundo dc_SqueezedTextundo pm_SqueezedTextundo an_SqueezedTextundo cd_SqueezedTextundo ct_SqueezedTextundo), sl_SqueezedTextundo⟩)
    (c_SqueezedTextundo : PySem.W.codeIn K cd_SqueezedTextundo "SqueezedText.undo" = true) (k_SqueezedTextundo : PySem.W.keepIn K (.ref f_SqueezedTextundo) = true)
    {f_SqueezedTextruns : Addr} {od_SqueezedTextruns an_SqueezedTextruns : Option Addr} {sl_SqueezedTextruns : Array (Option Value)} {oc_SqueezedTextruns kV_SqueezedTextruns dc_SqueezedTextruns pm_SqueezedTextruns cd_SqueezedTextruns ct_SqueezedTextruns : Value}
    (a_SqueezedTextruns : PySem.W.findIn K (.ref CT) "runs" = some (some (.ref f_SqueezedTextruns))) (i_SqueezedTextruns : PySem.W.isFn K (.ref f_SqueezedTextruns) = true)
    (l_SqueezedTextruns : K.lookup f_SqueezedTextruns = some ⟨oc_SqueezedTextruns, od_SqueezedTextruns, .func (PySem.W.fnOf "runs" "SqueezedText.runs" (defArgs s_SqueezedTextruns) (defBody s_SqueezedTextruns) (defScope s_SqueezedTextruns) .none kV_SqueezedTextruns dc_SqueezedTextruns pm_SqueezedTextruns an_SqueezedTextruns cd_SqueezedTextruns ct_SqueezedTextruns), sl_SqueezedTextruns⟩)
    (c_SqueezedTextruns : PySem.W.codeIn K cd_SqueezedTextruns "SqueezedText.runs" = true) (k_SqueezedTextruns : PySem.W.keepIn K (.ref f_SqueezedTextruns) = true)
    {f_SqueezedTexttext p_SqueezedTexttext : Addr} {od_SqueezedTexttext an_SqueezedTexttext : Option Addr} {sl_SqueezedTexttext : Array (Option Value)} {oc_SqueezedTexttext kV_SqueezedTexttext dc_SqueezedTexttext pm_SqueezedTexttext cd_SqueezedTexttext ct_SqueezedTexttext : Value}
    {rs_SqueezedTexttext : List Value} (a_SqueezedTexttext : PySem.W.findIn K (.ref CT) "text" = some (some (.ref p_SqueezedTexttext))) (g_SqueezedTexttext : PySem.W.specialIn K (.ref p_SqueezedTexttext) "__get__" = some (some (.builtin "property.__get__"))) (t_SqueezedTexttext : PySem.W.takesIn K (.ref p_SqueezedTexttext) = some true) (r_SqueezedTexttext : PySem.W.recIn K p_SqueezedTexttext "property" = some (.ref f_SqueezedTexttext :: rs_SqueezedTexttext))
    (l_SqueezedTexttext : K.lookup f_SqueezedTexttext = some ⟨oc_SqueezedTexttext, od_SqueezedTexttext, .func (PySem.W.fnOf "text" "SqueezedText.text" (defArgs s_SqueezedTexttext) (defBody s_SqueezedTexttext) (defScope s_SqueezedTexttext) .none kV_SqueezedTexttext dc_SqueezedTexttext pm_SqueezedTexttext an_SqueezedTexttext cd_SqueezedTexttext ct_SqueezedTexttext), sl_SqueezedTexttext⟩)
    (c_SqueezedTexttext : PySem.W.codeIn K cd_SqueezedTexttext "SqueezedText.text" = true) (k_SqueezedTexttext : PySem.W.keepIn K (.ref f_SqueezedTexttext) = true)
    {f_SqueezedTextreplacements p_SqueezedTextreplacements : Addr} {od_SqueezedTextreplacements an_SqueezedTextreplacements : Option Addr} {sl_SqueezedTextreplacements : Array (Option Value)} {oc_SqueezedTextreplacements kV_SqueezedTextreplacements dc_SqueezedTextreplacements pm_SqueezedTextreplacements cd_SqueezedTextreplacements ct_SqueezedTextreplacements : Value}
    {rs_SqueezedTextreplacements : List Value} (a_SqueezedTextreplacements : PySem.W.findIn K (.ref CT) "replacements" = some (some (.ref p_SqueezedTextreplacements))) (g_SqueezedTextreplacements : PySem.W.specialIn K (.ref p_SqueezedTextreplacements) "__get__" = some (some (.builtin "property.__get__"))) (t_SqueezedTextreplacements : PySem.W.takesIn K (.ref p_SqueezedTextreplacements) = some true) (r_SqueezedTextreplacements : PySem.W.recIn K p_SqueezedTextreplacements "property" = some (.ref f_SqueezedTextreplacements :: rs_SqueezedTextreplacements))
    (l_SqueezedTextreplacements : K.lookup f_SqueezedTextreplacements = some ⟨oc_SqueezedTextreplacements, od_SqueezedTextreplacements, .func (PySem.W.fnOf "replacements" "SqueezedText.replacements" (defArgs s_SqueezedTextreplacements) (defBody s_SqueezedTextreplacements) (defScope s_SqueezedTextreplacements) .none kV_SqueezedTextreplacements dc_SqueezedTextreplacements pm_SqueezedTextreplacements an_SqueezedTextreplacements cd_SqueezedTextreplacements ct_SqueezedTextreplacements), sl_SqueezedTextreplacements⟩)
    (c_SqueezedTextreplacements : PySem.W.codeIn K cd_SqueezedTextreplacements "SqueezedText.replacements" = true) (k_SqueezedTextreplacements : PySem.W.keepIn K (.ref f_SqueezedTextreplacements) = true)
    {f_SqueezedTextlongest p_SqueezedTextlongest : Addr} {od_SqueezedTextlongest an_SqueezedTextlongest : Option Addr} {sl_SqueezedTextlongest : Array (Option Value)} {oc_SqueezedTextlongest kV_SqueezedTextlongest dc_SqueezedTextlongest pm_SqueezedTextlongest cd_SqueezedTextlongest ct_SqueezedTextlongest : Value}
    {rs_SqueezedTextlongest : List Value} (a_SqueezedTextlongest : PySem.W.findIn K (.ref CT) "longest" = some (some (.ref p_SqueezedTextlongest))) (g_SqueezedTextlongest : PySem.W.specialIn K (.ref p_SqueezedTextlongest) "__get__" = some (some (.builtin "property.__get__"))) (t_SqueezedTextlongest : PySem.W.takesIn K (.ref p_SqueezedTextlongest) = some true) (r_SqueezedTextlongest : PySem.W.recIn K p_SqueezedTextlongest "property" = some (.ref f_SqueezedTextlongest :: rs_SqueezedTextlongest))
    (l_SqueezedTextlongest : K.lookup f_SqueezedTextlongest = some ⟨oc_SqueezedTextlongest, od_SqueezedTextlongest, .func (PySem.W.fnOf "longest" "SqueezedText.longest" (defArgs s_SqueezedTextlongest) (defBody s_SqueezedTextlongest) (defScope s_SqueezedTextlongest) .none kV_SqueezedTextlongest dc_SqueezedTextlongest pm_SqueezedTextlongest an_SqueezedTextlongest cd_SqueezedTextlongest ct_SqueezedTextlongest), sl_SqueezedTextlongest⟩)
    (c_SqueezedTextlongest : PySem.W.codeIn K cd_SqueezedTextlongest "SqueezedText.longest" = true) (k_SqueezedTextlongest : PySem.W.keepIn K (.ref f_SqueezedTextlongest) = true)
    {f_SqueezedTextsingle p_SqueezedTextsingle : Addr} {od_SqueezedTextsingle an_SqueezedTextsingle : Option Addr} {sl_SqueezedTextsingle : Array (Option Value)} {oc_SqueezedTextsingle kV_SqueezedTextsingle dc_SqueezedTextsingle pm_SqueezedTextsingle cd_SqueezedTextsingle ct_SqueezedTextsingle : Value} {rs_SqueezedTextsingle : List Value}
    (rd_SqueezedTextsingle : PySem.W.readsIn K CT (.type "type") = true)
    (ga_SqueezedTextsingle : PySem.W.specialIn K (.ref CT) "__getattribute__" = some (some (.builtin "type.__getattribute__")))
    (a_SqueezedTextsingle : PySem.W.findCls K (.ref CT) (.type "type") "single" = some (.get (.builtin "classmethod.__get__") (.ref p_SqueezedTextsingle) .none (.ref CT)))
    (r_SqueezedTextsingle : PySem.W.recIn K p_SqueezedTextsingle "classmethod" = some (.ref f_SqueezedTextsingle :: rs_SqueezedTextsingle))
    (fi_SqueezedTextsingle : PySem.W.fnIn K f_SqueezedTextsingle = true)
    (l_SqueezedTextsingle : K.lookup f_SqueezedTextsingle = some ⟨oc_SqueezedTextsingle, od_SqueezedTextsingle, .func (PySem.W.fnOf "single" "SqueezedText.single" (defArgs s_SqueezedTextsingle) (defBody s_SqueezedTextsingle) (defScope s_SqueezedTextsingle) .none kV_SqueezedTextsingle dc_SqueezedTextsingle pm_SqueezedTextsingle an_SqueezedTextsingle cd_SqueezedTextsingle ct_SqueezedTextsingle), sl_SqueezedTextsingle⟩)
    (c_SqueezedTextsingle : PySem.W.codeIn K cd_SqueezedTextsingle "SqueezedText.single" = true)
    (k_SqueezedTextsingle : PySem.W.keepIn K (.ref f_SqueezedTextsingle) = true)
    (bg_sq : PySem.W.specialIn K (.ref f_SqueezedTextsqueeze) "__get__" = some (some (.builtin "function.__get__")))
    (bt_sq : PySem.W.takesIn K (.ref f_SqueezedTextsqueeze) = some false)
    (bf_sq : PySem.W.fnIn K f_SqueezedTextsqueeze = true)
    (haT : PySem.W.findIn K (.ref CT) "__class__" = some (some (.builtin "object.__class__")))
    (hnT : PySem.W.specialIn K (.builtin "object.__class__") "__get__" = some (some (.builtin "getset_descriptor.__get__")))
    (htkT : PySem.W.takesIn K (.builtin "object.__class__") = some true)
    (hmT : PySem.W.mroIn K CT (.type "object") = some true)
    (meT : PySem.W.kitOne K (.ref CT) (.ref CT) = some true)
    (neT : PySem.W.findIn K (.ref CT) "__ne__" = some (some (.builtin "object.__ne__")))
    (nfT : PySem.W.notFirst K CT (.type "str") = true)
    (isNoneType : PySem.W.kitOne K (.type "NoneType") (.ref CT) = some false)
    (mroNoneType : PySem.W.mroIn K CT (.type "NoneType") = some false)
    (isint : PySem.W.kitOne K (.type "int") (.ref CT) = some false)
    (mroint : PySem.W.mroIn K CT (.type "int") = some false)
    (isstr : PySem.W.kitOne K (.type "str") (.ref CT) = some false)
    (mrostr : PySem.W.mroIn K CT (.type "str") = some false)
    (islist : PySem.W.kitOne K (.type "list") (.ref CT) = some false)
    (mrolist : PySem.W.mroIn K CT (.type "list") = some false)
    (istuple : PySem.W.kitOne K (.type "tuple") (.ref CT) = some false)
    (mrotuple : PySem.W.mroIn K CT (.type "tuple") = some false)
    : ∃ fd : FuncData, (∀ (s : Shared) (v : Value), BindsTo s fd ⟨[v], []⟩ [("script", v)]) ∧ ∀ base : Heap, K.In base → base.Ns mainGlobals mg → Top l.prog w K mg base 11 fa fd "script" (spLaw K) := by
  have e := hfa.symm.trans (PySem.W.mg_of X G a_law)
  cases e
  have B : Bi mg := ⟨PySem.W.mg_none_of X G z_len, PySem.W.mg_none_of X G z_min, PySem.W.mg_none_of X G z_max, PySem.W.mg_none_of X G z_abs, PySem.W.mg_none_of X G z_range, PySem.W.mg_none_of X G z_isinstance, PySem.W.mg_none_of X G z_repr, PySem.W.mg_none_of X G z_enumerate, PySem.W.mg_none_of X G z_reversed, PySem.W.mg_none_of X G z_sorted, PySem.W.mg_none_of X G z_bool, PySem.W.mg_none_of X G z_int, PySem.W.mg_none_of X G z_str, PySem.W.mg_none_of X G z_list, PySem.W.mg_none_of X G z_tuple, PySem.W.mg_none_of X G z_set, PySem.W.mg_none_of X G z_sum, PySem.W.mg_none_of X G z_zip, PySem.W.mg_none_of X G z_all, PySem.W.mg_none_of X G z_any, PySem.W.mg_none_of X G z_ValueError, PySem.W.mg_none_of X G z_divmod⟩
  have F_checklist := fun_mk (st := s_checklist) l_checklist c_checklist k_checklist
  have b_checklist := F_checklist.binds (ps := ["replacements"]) fun _ _ _ _ _ _ us hl => match us, hl with | [_], _ => rfl
  have g_checklist := PySem.W.mg_of X G a_checklist
  have F_checknumber := fun_mk (st := s_checknumber) l_checknumber c_checknumber k_checknumber
  have b_checknumber := F_checknumber.binds (ps := ["number", "least"]) fun _ _ _ _ _ _ us hl => match us, hl with | [_, _], _ => rfl
  have g_checknumber := PySem.W.mg_of X G a_checknumber
  have F_checkcharacter := fun_mk (st := s_checkcharacter) l_checkcharacter c_checkcharacter k_checkcharacter
  have b_checkcharacter := F_checkcharacter.binds (ps := ["character"]) fun _ _ _ _ _ _ us hl => match us, hl with | [_], _ => rfl
  have g_checkcharacter := PySem.W.mg_of X G a_checkcharacter
  have F_squeezed := fun_mk (st := s_squeezed) l_squeezed c_squeezed k_squeezed
  have b_squeezed := F_squeezed.binds (ps := ["length", "replacements"]) fun _ _ _ _ _ _ us hl => match us, hl with | [_, _], _ => rfl
  have g_squeezed := PySem.W.mg_of X G a_squeezed
  have F_squeezetext := fun_mk (st := s_squeezetext) l_squeezetext c_squeezetext k_squeezetext
  have b_squeezetext := F_squeezetext.binds (ps := ["text", "character", "replacements"]) fun _ _ _ _ _ _ us hl => match us, hl with | [_, _, _], _ => rfl
  have g_squeezetext := PySem.W.mg_of X G a_squeezetext
  have F_lengthafter := fun_mk (st := s_lengthafter) l_lengthafter c_lengthafter k_lengthafter
  have b_lengthafter := F_lengthafter.binds (ps := ["length", "replacements"]) fun _ _ _ _ _ _ us hl => match us, hl with | [_, _], _ => rfl
  have g_lengthafter := PySem.W.mg_of X G a_lengthafter
  have F_lengthafterone := fun_mk (st := s_lengthafterone) l_lengthafterone c_lengthafterone k_lengthafterone
  have b_lengthafterone := F_lengthafterone.binds (ps := ["length", "number"]) fun _ _ _ _ _ _ us hl => match us, hl with | [_, _], _ => rfl
  have g_lengthafterone := PySem.W.mg_of X G a_lengthafterone
  have F_lengthsbetween := fun_mk (st := s_lengthsbetween) l_lengthsbetween c_lengthsbetween k_lengthsbetween
  have b_lengthsbetween := F_lengthsbetween.binds (ps := ["text", "character"]) fun _ _ _ _ _ _ us hl => match us, hl with | [_, _], _ => rfl
  have g_lengthsbetween := PySem.W.mg_of X G a_lengthsbetween
  have F_reach : FunD K "reach" "reach" (defArgs s_reach) (defBody s_reach) (defScope s_reach) [.int 1] [] f_reach _ := ⟨⟨_, _, _, _, _, _, _, _, _, _, rfl, l_reach, c_reach, .inr ⟨by simp, T_reach, _, _, _, rfl, lT_reach, rfl, .cons ⟨_, rfl⟩ (.nil)⟩, .inl rfl⟩, k_reach⟩
  have g_reach := PySem.W.mg_of X G a_reach
  have F_bestreach : FunD K "best_reach" "best_reach" (defArgs s_bestreach) (defBody s_bestreach) (defScope s_bestreach) [.int 1] [] f_bestreach _ := ⟨⟨_, _, _, _, _, _, _, _, _, _, rfl, l_bestreach, c_bestreach, .inr ⟨by simp, T_bestreach, _, _, _, rfl, lT_bestreach, rfl, .cons ⟨_, rfl⟩ (.nil)⟩, .inl rfl⟩, k_bestreach⟩
  have g_bestreach := PySem.W.mg_of X G a_bestreach
  have F_feweststeps : FunD K "fewest_steps" "fewest_steps" (defArgs s_feweststeps) (defBody s_feweststeps) (defScope s_feweststeps) [.int 1] [] f_feweststeps _ := ⟨⟨_, _, _, _, _, _, _, _, _, _, rfl, l_feweststeps, c_feweststeps, .inr ⟨by simp, T_feweststeps, _, _, _, rfl, lT_feweststeps, rfl, .cons ⟨_, rfl⟩ (.nil)⟩, .inl rfl⟩, k_feweststeps⟩
  have g_feweststeps := PySem.W.mg_of X G a_feweststeps
  have F_bestlists : FunD K "best_lists" "best_lists" (defArgs s_bestlists) (defBody s_bestlists) (defScope s_bestlists) [.int 1] [] f_bestlists _ := ⟨⟨_, _, _, _, _, _, _, _, _, _, rfl, l_bestlists, c_bestlists, .inr ⟨by simp, T_bestlists, _, _, _, rfl, lT_bestlists, rfl, .cons ⟨_, rfl⟩ (.nil)⟩, .inl rfl⟩, k_bestlists⟩
  have g_bestlists := PySem.W.mg_of X G a_bestlists
  have F_reachwith := fun_mk (st := s_reachwith) l_reachwith c_reachwith k_reachwith
  have b_reachwith := F_reachwith.binds (ps := ["number", "longest"]) fun _ _ _ _ _ _ us hl => match us, hl with | [_, _], _ => rfl
  have g_reachwith := PySem.W.mg_of X G a_reachwith
  have F_bestnumbers := fun_mk (st := s_bestnumbers) l_bestnumbers c_bestnumbers k_bestnumbers
  have b_bestnumbers := F_bestnumbers.binds (ps := ["longest"]) fun _ _ _ _ _ _ us hl => match us, hl with | [_], _ => rfl
  have g_bestnumbers := PySem.W.mg_of X G a_bestnumbers
  have F_greatestreachwithone := fun_mk (st := s_greatestreachwithone) l_greatestreachwithone c_greatestreachwithone k_greatestreachwithone
  have b_greatestreachwithone := F_greatestreachwithone.binds (ps := ["longest"]) fun _ _ _ _ _ _ us hl => match us, hl with | [_], _ => rfl
  have g_greatestreachwithone := PySem.W.mg_of X G a_greatestreachwithone
  have F_bestchoices := fun_mk (st := s_bestchoices) l_bestchoices c_bestchoices k_bestchoices
  have b_bestchoices := F_bestchoices.binds (ps := ["steps", "most"]) fun _ _ _ _ _ _ us hl => match us, hl with | [_, _], _ => rfl
  have g_bestchoices := PySem.W.mg_of X G a_bestchoices
  have F_listat := fun_mk (st := s_listat) l_listat c_listat k_listat
  have b_listat := F_listat.binds (ps := ["choices", "place"]) fun _ _ _ _ _ _ us hl => match us, hl with | [_, _], _ => rfl
  have g_listat := PySem.W.mg_of X G a_listat
  have F_lawpool := fun_mk (st := s_lawpool) l_lawpool c_lawpool k_lawpool
  have b_lawpool := F_lawpool.binds (ps := ["script", "at"]) fun _ _ _ _ _ _ us hl => match us, hl with | [_, _], _ => rfl
  have g_lawpool := PySem.W.mg_of X G a_lawpool
  have F_lawdraw := fun_mk (st := s_lawdraw) l_lawdraw c_lawdraw k_lawdraw
  have b_lawdraw := F_lawdraw.binds (ps := ["pool", "many"]) fun _ _ _ _ _ _ us hl => match us, hl with | [_, _], _ => rfl
  have g_lawdraw := PySem.W.mg_of X G a_lawdraw
  have F_lawtext := fun_mk (st := s_lawtext) l_lawtext c_lawtext k_lawtext
  have b_lawtext := F_lawtext.binds (ps := ["pool", "most"]) fun _ _ _ _ _ _ us hl => match us, hl with | [_, _], _ => rfl
  have g_lawtext := PySem.W.mg_of X G a_lawtext
  have F_lawruns := fun_mk (st := s_lawruns) l_lawruns c_lawruns k_lawruns
  have b_lawruns := F_lawruns.binds (ps := ["written", "sign"]) fun _ _ _ _ _ _ us hl => match us, hl with | [_, _], _ => rfl
  have g_lawruns := PySem.W.mg_of X G a_lawruns
  have F_lawfewest := fun_mk (st := s_lawfewest) l_lawfewest c_lawfewest k_lawfewest
  have b_lawfewest := F_lawfewest.binds (ps := ["long"]) fun _ _ _ _ _ _ us hl => match us, hl with | [_], _ => rfl
  have g_lawfewest := PySem.W.mg_of X G a_lawfewest
  have F_lawright := fun_mk (st := s_lawright) l_lawright c_lawright k_lawright
  have b_lawright := F_lawright.binds (ps := ["pool"]) fun _ _ _ _ _ _ us hl => match us, hl with | [_], _ => rfl
  have g_lawright := PySem.W.mg_of X G a_lawright
  have F_law := fun_mk (st := s_law) l_law c_law k_law
  exact ⟨_, fun s v => .of_eq rfl, fun base _ _ => by
    have F_SqueezedTextinit := fun_mk (st := s_SqueezedTextinit) l_SqueezedTextinit c_SqueezedTextinit k_SqueezedTextinit
    have F_SqueezedTexteq := fun_mk (st := s_SqueezedTexteq) l_SqueezedTexteq c_SqueezedTexteq k_SqueezedTexteq
    have F_SqueezedTextsqueeze := fun_mk (st := s_SqueezedTextsqueeze) l_SqueezedTextsqueeze c_SqueezedTextsqueeze k_SqueezedTextsqueeze
    have F_SqueezedTextundo := fun_mk (st := s_SqueezedTextundo) l_SqueezedTextundo c_SqueezedTextundo k_SqueezedTextundo
    have F_SqueezedTextruns := fun_mk (st := s_SqueezedTextruns) l_SqueezedTextruns c_SqueezedTextruns k_SqueezedTextruns
    have F_SqueezedTexttext := fun_mk (st := s_SqueezedTexttext) l_SqueezedTexttext c_SqueezedTexttext k_SqueezedTexttext
    have F_SqueezedTextreplacements := fun_mk (st := s_SqueezedTextreplacements) l_SqueezedTextreplacements c_SqueezedTextreplacements k_SqueezedTextreplacements
    have F_SqueezedTextlongest := fun_mk (st := s_SqueezedTextlongest) l_SqueezedTextlongest c_SqueezedTextlongest k_SqueezedTextlongest
    have clT : Cls K CT := ⟨pgCT, hdCT, poCT, saCT⟩
    have F_SqueezedTextsingle := fun_mk (st := s_SqueezedTextsingle) l_SqueezedTextsingle c_SqueezedTextsingle k_SqueezedTextsingle
    have b_SqueezedTextinit := F_SqueezedTextinit.binds (ps := ["self", "text", "character"]) fun _ _ _ _ _ _ us hl => match us, hl with | [_, _, _], _ => rfl
    have b_SqueezedTexteq := F_SqueezedTexteq.binds (ps := ["self", "other"]) fun _ _ _ _ _ _ us hl => match us, hl with | [_, _], _ => rfl
    have b_SqueezedTextsingle := F_SqueezedTextsingle.binds (ps := ["cls", "text", "character"]) fun _ _ _ _ _ _ us hl => match us, hl with | [_, _, _], _ => rfl
    have b_SqueezedTextundo := F_SqueezedTextundo.binds (ps := ["self"]) fun _ _ _ _ _ _ us hl => match us, hl with | [_], _ => rfl
    have b_SqueezedTextruns := F_SqueezedTextruns.binds (ps := ["self"]) fun _ _ _ _ _ _ us hl => match us, hl with | [_], _ => rfl
    have b_SqueezedTexttext := F_SqueezedTexttext.binds (ps := ["self"]) fun _ _ _ _ _ _ us hl => match us, hl with | [_], _ => rfl
    have b_SqueezedTextreplacements := F_SqueezedTextreplacements.binds (ps := ["self"]) fun _ _ _ _ _ _ us hl => match us, hl with | [_], _ => rfl
    have b_SqueezedTextlongest := F_SqueezedTextlongest.binds (ps := ["self"]) fun _ _ _ _ _ _ us hl => match us, hl with | [_], _ => rfl
    have TH : Lc K CT := ⟨clT, nCT_0, nCT_1, nCT_2⟩
    have D_checklistT : Df l.prog w K mg base 1 "check_list" ["replacements"] spCheckListT := .mk' F_checklist (ok_checklistT F_checklist B) g_checklist b_checklist
    have D_checklist : Df l.prog w K mg base 1 "check_list" ["replacements"] (spCheckList K) := .mk' F_checklist (ok_checklist F_checklist B) g_checklist b_checklist
    have D_checknumber : Df l.prog w K mg base 1 "check_number" ["number", "least"] spCheckNumber := .mk' F_checknumber (ok_checknumber F_checknumber) g_checknumber b_checknumber
    have D_checkcharacter : Df l.prog w K mg base 1 "check_character" ["character"] spCheckChr := .mk' F_checkcharacter (ok_checkcharacter F_checkcharacter B) g_checkcharacter b_checkcharacter
    have D_lengthafterone : Df l.prog w K mg base 1 "length_after_one" ["length", "number"] spOnceS := .mk' F_lengthafterone (ok_lengthafterone F_lengthafterone B) g_lengthafterone b_lengthafterone
    have D_lengthafter : Df l.prog w K mg base 2 "length_after" ["length", "replacements"] (spSqzS K) := .mk' F_lengthafter (ok_lengthafter F_lengthafter D_lengthafterone) g_lengthafter b_lengthafter
    have D_squeezed : Df l.prog w K mg base 3 "squeezed" ["length", "replacements"] (spSqueezed K) := .mk' F_squeezed (ok_squeezed F_squeezed D_checknumber D_checklist D_lengthafter) g_squeezed b_squeezed
    have D_lengthsbetween : Df l.prog w K mg base 1 "lengths_between" ["text", "character"] spBetween := .mk' F_lengthsbetween (ok_between F_lengthsbetween B) g_lengthsbetween b_lengthsbetween
    have T_squeezetext : DfT l.prog w K mg base 4 "squeeze_text" ["text", "character", "replacements"] 1 (spSqT K) := ⟨_, _, ok_squeezetext F_squeezetext B D_checkcharacter D_checklist D_lengthsbetween D_lengthafter, g_squeezetext, k_squeezetext, b_squeezetext⟩
    have D_reachwith : Df l.prog w K mg base 1 "reach_with" ["number", "longest"] spReachWith := .mk' F_reachwith (ok_reachwith F_reachwith) g_reachwith b_reachwith
    have D_bestnumbers : Df l.prog w K mg base 1 "best_numbers" ["longest"] spBestNumbers := .mk' F_bestnumbers (ok_bestnumbers F_bestnumbers) g_bestnumbers b_bestnumbers
    have D_grow : Df l.prog w K mg base 2 "greatest_reach_with_one" ["longest"] spGrow := .mk' F_greatestreachwithone (ok_grow F_greatestreachwithone D_reachwith D_bestnumbers) g_greatestreachwithone b_greatestreachwithone
    have V_bestreach := (bestreach_d (P := l.prog) (w := w) (mg := mg) (base := base) F_bestreach (ok_bestreach F_bestreach B D_checknumber D_grow) g_bestreach).2
    have V_feweststeps := fewest_v (P := l.prog) (w := w) (mg := mg) (base := base) F_feweststeps (ok_feweststeps F_feweststeps B D_checknumber D_grow) g_feweststeps
    have V_reach := reach_v (P := l.prog) (w := w) (mg := mg) (base := base) F_reach (ok_reach F_reach B D_checklist D_checknumber D_reachwith) g_reach
    have D_bestchoices : Df l.prog w K mg base 3 "best_choices" ["steps", "most"] spBestChoices := .mk' F_bestchoices (ok_bestchoices F_bestchoices B D_bestnumbers D_grow) g_bestchoices b_bestchoices
    have D_listat : Df l.prog w K mg base 1 "list_at" ["choices", "place"] spListAt := .mk' F_listat (ok_listat F_listat B) g_listat b_listat
    have V_bestlists := bestlists_v (P := l.prog) (w := w) (mg := mg) (base := base) F_bestlists (ok_bestlists F_bestlists B D_checknumber D_bestchoices D_listat) g_bestlists
    have F1_bestlists := first_v (P := l.prog) (w := w) (mg := mg) (base := base) F_bestlists (ok_first F_bestlists B D_checknumber D_bestchoices D_listat) g_bestlists
    have Mk_ : Mk K CT f_SqueezedTextinit := ⟨mkCT, a_SqueezedTextinit, i_SqueezedTextinit, kcCT⟩
    have P_text : Pr l.prog w K mg base 1 CT "text" (spText CT) := ⟨⟨_, _, _, ⟨a_SqueezedTexttext, g_SqueezedTexttext, t_SqueezedTexttext, ⟨_, r_SqueezedTexttext⟩⟩, ok_text F_SqueezedTexttext TH, b_SqueezedTexttext⟩, clT⟩
    have P_reps : Pr l.prog w K mg base 1 CT "replacements" (spReps CT) := ⟨⟨_, _, _, ⟨a_SqueezedTextreplacements, g_SqueezedTextreplacements, t_SqueezedTextreplacements, ⟨_, r_SqueezedTextreplacements⟩⟩, ok_reps F_SqueezedTextreplacements B TH, b_SqueezedTextreplacements⟩, clT⟩
    have P_longest : Pr l.prog w K mg base 3 CT "longest" (spLongest CT) := ⟨⟨_, _, _, ⟨a_SqueezedTextlongest, g_SqueezedTextlongest, t_SqueezedTextlongest, ⟨_, r_SqueezedTextlongest⟩⟩, ok_longest F_SqueezedTextlongest B TH P_text D_lengthsbetween, b_SqueezedTextlongest⟩, clT⟩
    have FV_squeeze := ok_squeeze F_SqueezedTextsqueeze B TH P_text P_longest D_lengthsbetween D_checklistT T_squeezetext
    have MV_squeeze : MtV l.prog w K mg base 5 CT "squeeze" (spSqueeze CT) := ⟨⟨_, FV_squeeze, ⟨a_SqueezedTextsqueeze, i_SqueezedTextsqueeze, k_SqueezedTextsqueeze⟩⟩, clT⟩
    have MB_squeeze : MtB l.prog w K mg base 5 CT "squeeze" (spSqueeze CT) := ⟨⟨_, FV_squeeze, ⟨⟨a_SqueezedTextsqueeze, i_SqueezedTextsqueeze, k_SqueezedTextsqueeze⟩, bg_sq, bt_sq, by decide, bf_sq⟩⟩, clT⟩
    have M_undo : Mt CX0 l.prog w K mg base 1 CT "undo" ["self"] (spUndo CT) := ⟨⟨_, _, ok_undo F_SqueezedTextundo TH, ⟨a_SqueezedTextundo, i_SqueezedTextundo, k_SqueezedTextundo⟩, b_SqueezedTextundo⟩, clT⟩
    have G_runs : MtG l.prog w K mg base 3 CT "runs" (spRuns CT) := ⟨⟨_, _, ok_runs F_SqueezedTextruns TH P_text D_lengthsbetween, ⟨a_SqueezedTextruns, i_SqueezedTextruns, k_SqueezedTextruns⟩, b_SqueezedTextruns⟩, clT⟩
    have FW_init := ok_lvinit F_SqueezedTextinit TH D_checkcharacter
    have ML : MkL l.prog w K mg base 2 CT ["self", "text", "character"] 1 (spLvInit CT) := ⟨⟨_, _, Mk_, FW_init, b_SqueezedTextinit⟩⟩
    have W_SqueezedText : MkW l.prog w K mg base 2 "SqueezedText" CT ["self", "text", "character"] 1 (spLvInit CT) := ⟨⟨_, _, Mk_, FW_init, b_SqueezedTextinit⟩, PySem.W.mg_of X G aCT⟩
    have FW_single := ok_single F_SqueezedTextsingle B ML P_longest V_feweststeps V_bestlists MB_squeeze
    have CM : CmW l.prog w K mg base 9 "SqueezedText" CT "single" ["cls", "text", "character"] 1 (spSingle CT) := ⟨⟨_, _, _, _, ⟨rd_SqueezedTextsingle, ga_SqueezedTextsingle⟩, ⟨a_SqueezedTextsingle, ⟨_, r_SqueezedTextsingle⟩, fi_SqueezedTextsingle⟩, FW_single, b_SqueezedTextsingle⟩, PySem.W.mg_of X G aCT⟩
    have CMK : CmWK l.prog w K mg base 9 "SqueezedText" CT "single" ["cls", "text", "character"] ["character", "text"] gSK (spSingle CT) := ⟨⟨_, _, _, _, _, 2, ⟨rd_SqueezedTextsingle, ga_SqueezedTextsingle⟩, ⟨a_SqueezedTextsingle, ⟨_, r_SqueezedTextsingle⟩, fi_SqueezedTextsingle⟩, FW_single, kb_single F_SqueezedTextsingle, fun o ws u hl hu => match ws, hl with | [_, _], _ => hu⟩, PySem.W.mg_of X G aCT⟩
    have OC_ : OthC K CT := ⟨fun T h => by rcases h with rfl | rfl | rfl | rfl | rfl <;> assumption, fun T h => by rcases h with rfl | rfl | rfl | rfl | rfl <;> assumption⟩
    have NC_ : NeC K CT := ⟨neT, hmT, nfT⟩
    have IC_ : C8.InsC K CT := ⟨clT, haT, hnT, htkT, hmT, meT⟩
    have gT := PySem.W.mg_of X G aCT
    have EM_ : EqM l.prog w K mg base 1 CT ["self", "other"] (spEqX CT) := ⟨⟨_, _, FnOk.orS (ok_eqT F_SqueezedTexteq B TH IC_ gT) (ok_eqO F_SqueezedTexteq B OC_ gT), a_SqueezedTexteq, i_SqueezedTexteq, b_SqueezedTexteq⟩⟩
    have D_lawpool : Df l.prog w K mg base 1 "_law_pool" ["script", "at"] (spPool K) := .mk' F_lawpool (ok_lawpool F_lawpool B) g_lawpool b_lawpool
    have D_lawdraw : Df l.prog w K mg base 1 "_law_draw" ["pool", "many"] spDraw := .mk' F_lawdraw (ok_lawdraw F_lawdraw) g_lawdraw b_lawdraw
    have R_lawtext : DfR l.prog w K mg base 3 "_law_text" ["pool", "most"] spLtxt := ⟨_, _, ok_lawtext F_lawtext B D_lawdraw, g_lawtext, k_lawtext, b_lawtext⟩
    have D_lawruns : Df l.prog w K mg base 1 "_law_runs" ["written", "sign"] spRunsL := .mk' F_lawruns (ok_lawruns F_lawruns B) g_lawruns b_lawruns
    have D_lawfewest : Df l.prog w K mg base 1 "_law_fewest" ["long"] spFewL := .mk' F_lawfewest (ok_lawfewest F_lawfewest) g_lawfewest b_lawfewest
    have D_lawright : Df l.prog w K mg base 10 "_law_right" ["pool"] spRight := .mk' F_lawright (ok_lawright F_lawright B D_lawdraw R_lawtext D_lawruns D_lawfewest CM CMK F1_bestlists V_feweststeps V_reach V_bestreach D_squeezed T_squeezetext W_SqueezedText MV_squeeze M_undo G_runs EM_ P_text P_reps P_longest) g_lawright b_lawright
    exact ok_law F_law B D_lawpool D_lawright CM P_reps⟩
end Sq
open PySem PySem.W PyProof.Rows
set_option maxRecDepth 100000 in
set_option maxHeartbeats 0 in
theorem PySem.Challenge.cw_squeezelists_k23_whole_texts_made_single_holds : PySem.Challenge.rw_squeezelists_k23_whole_texts_made_single.Holds := by
  w_on; o_law; k_head; (case hw => w_witness2)
  k_fill
  refine Sq.walkAt (l := PySem.Challenge.rw_squeezelists_k23_whole_texts_made_single) (n := 63) (k := 11) (x := "script") (sp := fun w => Sq.spLaw _) rfl (by decide) rfl (fun w h Y => PySem.W.kIn_of Y) ?F (fun _ _ a ns hl _ hS => ⟨a, ns, rfl, hS, hl, fun _ => rfl⟩)
  case F =>
    intro w mg fa h KX G hmg
    refine' Sq.all_mk KX G hmg ?a_checklist ?l_checklist ?c_checklist ?k_checklist ?a_checknumber ?l_checknumber ?c_checknumber ?k_checknumber ?a_checkcharacter ?l_checkcharacter ?c_checkcharacter ?k_checkcharacter ?a_squeezed ?l_squeezed ?c_squeezed ?k_squeezed ?a_squeezetext ?l_squeezetext ?c_squeezetext ?k_squeezetext ?a_lengthafter ?l_lengthafter ?c_lengthafter ?k_lengthafter ?a_lengthafterone ?l_lengthafterone ?c_lengthafterone ?k_lengthafterone ?a_lengthsbetween ?l_lengthsbetween ?c_lengthsbetween ?k_lengthsbetween ?a_reach ?l_reach ?c_reach ?k_reach ?lT_reach ?a_bestreach ?l_bestreach ?c_bestreach ?k_bestreach ?lT_bestreach ?a_feweststeps ?l_feweststeps ?c_feweststeps ?k_feweststeps ?lT_feweststeps ?a_bestlists ?l_bestlists ?c_bestlists ?k_bestlists ?lT_bestlists ?a_reachwith ?l_reachwith ?c_reachwith ?k_reachwith ?a_bestnumbers ?l_bestnumbers ?c_bestnumbers ?k_bestnumbers ?a_greatestreachwithone ?l_greatestreachwithone ?c_greatestreachwithone ?k_greatestreachwithone ?a_bestchoices ?l_bestchoices ?c_bestchoices ?k_bestchoices ?a_listat ?l_listat ?c_listat ?k_listat ?a_lawpool ?l_lawpool ?c_lawpool ?k_lawpool ?a_lawdraw ?l_lawdraw ?c_lawdraw ?k_lawdraw ?a_lawtext ?l_lawtext ?c_lawtext ?k_lawtext ?a_lawruns ?l_lawruns ?c_lawruns ?k_lawruns ?a_lawfewest ?l_lawfewest ?c_lawfewest ?k_lawfewest ?a_lawright ?l_lawright ?c_lawright ?k_lawright ?a_law ?l_law ?c_law ?k_law ?z_len ?z_min ?z_max ?z_abs ?z_range ?z_isinstance ?z_repr ?z_enumerate ?z_reversed ?z_sorted ?z_bool ?z_int ?z_str ?z_list ?z_tuple ?z_set ?z_sum ?z_zip ?z_all ?z_any ?z_ValueError ?z_divmod ?aCT ?pgCT ?hdCT ?poCT ?saCT ?mkCT ?kcCT ?nCT_0 ?nCT_1 ?nCT_2 ?a_SqueezedTextinit ?i_SqueezedTextinit ?l_SqueezedTextinit ?c_SqueezedTextinit ?k_SqueezedTextinit ?a_SqueezedTexteq ?i_SqueezedTexteq ?l_SqueezedTexteq ?c_SqueezedTexteq ?k_SqueezedTexteq ?a_SqueezedTextsqueeze ?i_SqueezedTextsqueeze ?l_SqueezedTextsqueeze ?c_SqueezedTextsqueeze ?k_SqueezedTextsqueeze ?a_SqueezedTextundo ?i_SqueezedTextundo ?l_SqueezedTextundo ?c_SqueezedTextundo ?k_SqueezedTextundo ?a_SqueezedTextruns ?i_SqueezedTextruns ?l_SqueezedTextruns ?c_SqueezedTextruns ?k_SqueezedTextruns ?a_SqueezedTexttext ?g_SqueezedTexttext ?t_SqueezedTexttext ?r_SqueezedTexttext ?l_SqueezedTexttext ?c_SqueezedTexttext ?k_SqueezedTexttext ?a_SqueezedTextreplacements ?g_SqueezedTextreplacements ?t_SqueezedTextreplacements ?r_SqueezedTextreplacements ?l_SqueezedTextreplacements ?c_SqueezedTextreplacements ?k_SqueezedTextreplacements ?a_SqueezedTextlongest ?g_SqueezedTextlongest ?t_SqueezedTextlongest ?r_SqueezedTextlongest ?l_SqueezedTextlongest ?c_SqueezedTextlongest ?k_SqueezedTextlongest ?rd_SqueezedTextsingle ?ga_SqueezedTextsingle ?a_SqueezedTextsingle ?r_SqueezedTextsingle ?fi_SqueezedTextsingle ?l_SqueezedTextsingle ?c_SqueezedTextsingle ?k_SqueezedTextsingle ?bg_sq ?bt_sq ?bf_sq ?haT ?hnT ?htkT ?hmT ?meT ?neT ?nfT ?isNoneType ?mroNoneType ?isint ?mroint ?isstr ?mrostr ?islist ?mrolist ?istuple ?mrotuple
    (case a_checklist => k_is); (case l_checklist => k_is); (case c_checklist => k_is); (case k_checklist => k_is); (case a_checknumber => k_is); (case l_checknumber => k_is); (case c_checknumber => k_is); (case k_checknumber => k_is); (case a_checkcharacter => k_is); (case l_checkcharacter => k_is); (case c_checkcharacter => k_is); (case k_checkcharacter => k_is); (case a_squeezed => k_is); (case l_squeezed => k_is); (case c_squeezed => k_is); (case k_squeezed => k_is); (case a_squeezetext => k_is); (case l_squeezetext => k_is); (case c_squeezetext => k_is); (case k_squeezetext => k_is); (case a_lengthafter => k_is); (case l_lengthafter => k_is); (case c_lengthafter => k_is); (case k_lengthafter => k_is); (case a_lengthafterone => k_is); (case l_lengthafterone => k_is); (case c_lengthafterone => k_is); (case k_lengthafterone => k_is); (case a_lengthsbetween => k_is); (case l_lengthsbetween => k_is); (case c_lengthsbetween => k_is); (case k_lengthsbetween => k_is); (case a_reach => k_is); (case l_reach => k_is); (case c_reach => k_is); (case k_reach => k_is); (case lT_reach => k_is); (case a_bestreach => k_is); (case l_bestreach => k_is); (case c_bestreach => k_is); (case k_bestreach => k_is); (case lT_bestreach => k_is); (case a_feweststeps => k_is); (case l_feweststeps => k_is); (case c_feweststeps => k_is); (case k_feweststeps => k_is); (case lT_feweststeps => k_is); (case a_bestlists => k_is); (case l_bestlists => k_is); (case c_bestlists => k_is); (case k_bestlists => k_is); (case lT_bestlists => k_is); (case a_reachwith => k_is); (case l_reachwith => k_is); (case c_reachwith => k_is); (case k_reachwith => k_is); (case a_bestnumbers => k_is); (case l_bestnumbers => k_is); (case c_bestnumbers => k_is); (case k_bestnumbers => k_is); (case a_greatestreachwithone => k_is); (case l_greatestreachwithone => k_is); (case c_greatestreachwithone => k_is); (case k_greatestreachwithone => k_is); (case a_bestchoices => k_is); (case l_bestchoices => k_is); (case c_bestchoices => k_is); (case k_bestchoices => k_is); (case a_listat => k_is); (case l_listat => k_is); (case c_listat => k_is); (case k_listat => k_is); (case a_lawpool => k_is); (case l_lawpool => k_is); (case c_lawpool => k_is); (case k_lawpool => k_is); (case a_lawdraw => k_is); (case l_lawdraw => k_is); (case c_lawdraw => k_is); (case k_lawdraw => k_is); (case a_lawtext => k_is); (case l_lawtext => k_is); (case c_lawtext => k_is); (case k_lawtext => k_is); (case a_lawruns => k_is); (case l_lawruns => k_is); (case c_lawruns => k_is); (case k_lawruns => k_is); (case a_lawfewest => k_is); (case l_lawfewest => k_is); (case c_lawfewest => k_is); (case k_lawfewest => k_is); (case a_lawright => k_is); (case l_lawright => k_is); (case c_lawright => k_is); (case k_lawright => k_is); (case a_law => k_is); (case l_law => k_is); (case c_law => k_is); (case k_law => k_is); (case z_len => k_is); (case z_min => k_is); (case z_max => k_is); (case z_abs => k_is); (case z_range => k_is); (case z_isinstance => k_is); (case z_repr => k_is); (case z_enumerate => k_is); (case z_reversed => k_is); (case z_sorted => k_is); (case z_bool => k_is); (case z_int => k_is); (case z_str => k_is); (case z_list => k_is); (case z_tuple => k_is); (case z_set => k_is); (case z_sum => k_is); (case z_zip => k_is); (case z_all => k_is); (case z_any => k_is); (case z_ValueError => k_is); (case z_divmod => k_is); (case aCT => k_is); (case pgCT => k_is); (case hdCT => k_is); (case poCT => k_is); (case saCT => k_is); (case mkCT => k_is); (case kcCT => k_is); (case nCT_0 => k_is); (case nCT_1 => k_is); (case nCT_2 => k_is); (case a_SqueezedTextinit => k_is); (case i_SqueezedTextinit => k_is); (case l_SqueezedTextinit => k_is); (case c_SqueezedTextinit => k_is); (case k_SqueezedTextinit => k_is); (case a_SqueezedTexteq => k_is); (case i_SqueezedTexteq => k_is); (case l_SqueezedTexteq => k_is); (case c_SqueezedTexteq => k_is); (case k_SqueezedTexteq => k_is); (case a_SqueezedTextsqueeze => k_is); (case i_SqueezedTextsqueeze => k_is); (case l_SqueezedTextsqueeze => k_is); (case c_SqueezedTextsqueeze => k_is); (case k_SqueezedTextsqueeze => k_is); (case a_SqueezedTextundo => k_is); (case i_SqueezedTextundo => k_is); (case l_SqueezedTextundo => k_is); (case c_SqueezedTextundo => k_is); (case k_SqueezedTextundo => k_is); (case a_SqueezedTextruns => k_is); (case i_SqueezedTextruns => k_is); (case l_SqueezedTextruns => k_is); (case c_SqueezedTextruns => k_is); (case k_SqueezedTextruns => k_is); (case a_SqueezedTexttext => k_is); (case g_SqueezedTexttext => k_is); (case t_SqueezedTexttext => k_is); (case r_SqueezedTexttext => k_is); (case l_SqueezedTexttext => k_is); (case c_SqueezedTexttext => k_is); (case k_SqueezedTexttext => k_is); (case a_SqueezedTextreplacements => k_is); (case g_SqueezedTextreplacements => k_is); (case t_SqueezedTextreplacements => k_is); (case r_SqueezedTextreplacements => k_is); (case l_SqueezedTextreplacements => k_is); (case c_SqueezedTextreplacements => k_is); (case k_SqueezedTextreplacements => k_is); (case a_SqueezedTextlongest => k_is); (case g_SqueezedTextlongest => k_is); (case t_SqueezedTextlongest => k_is); (case r_SqueezedTextlongest => k_is); (case l_SqueezedTextlongest => k_is); (case c_SqueezedTextlongest => k_is); (case k_SqueezedTextlongest => k_is); (case rd_SqueezedTextsingle => k_is); (case ga_SqueezedTextsingle => k_is); (case a_SqueezedTextsingle => k_is); (case r_SqueezedTextsingle => k_is); (case fi_SqueezedTextsingle => k_is); (case l_SqueezedTextsingle => k_is); (case c_SqueezedTextsingle => k_is); (case k_SqueezedTextsingle => k_is); (case bg_sq => k_is); (case bt_sq => k_is); (case bf_sq => k_is); (case haT => k_is); (case hnT => k_is); (case htkT => k_is); (case hmT => k_is); (case meT => kit_is); (case neT => k_is); (case nfT => k_is); (case isNoneType => kit_is); (case mroNoneType => k_is); (case isint => kit_is); (case mroint => k_is); (case isstr => kit_is); (case mrostr => k_is); (case islist => kit_is); (case mrolist => k_is); (case istuple => kit_is); (case mrotuple => k_is)
