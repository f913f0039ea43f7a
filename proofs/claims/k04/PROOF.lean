import PyProof.Rows.All
import Wide.All
import OpenK.AllK
import Wide.FinOn
import HandS.ForMost
import HandS.IsInst
import HandS.Walk
import HandS.Defaults
import HandS.RaiseMore
import HandS.Wide
import HandS.Exc
import HandS.ExcOwn
import HandS.ExcInit
import HandS.ExcSuper
import KE.KExcSuper
import HandS.ExcValue
import HandS.ExcIs
import HandS.ExcField
import HandS.GenList
import HandS.WordsExc
import HandS.HotCalls
import HandS.Comp
import HandS.Deep
import HandS.Text
import HandS.StrMore
import HandS.Style
import HandS.GenBody
import HandS.GenYield
import PyProof.GenComp
import PyProof.ForAny
import HandS.Strs
import HandS.SetBool
import HandS.SuiteRaise
import HandS.Iter
import HandS.Property
import HandS.MakeKw
import HandS.MakeKwOnly
import PyProof.FactsSeq
import HandS.Replace
import HandS.GenOver
import HandS.Words
import HandS.WideBits
import HandS.SortInts
import HandS.Set
import HandS.SetFor
import HandS.Zip
import HandS.DictComp
import KE.GoesMore
import PyProof.LongRange
import HandS.More
import HandS.FStr
import HandS.NoneIn
import HandS.ReplaceList
import HandS.Codes
import PySem.Challenge.RW_squeezelists_k04_errors_of_squeezing
set_option Elab.async false
set_option linter.all false
set_option maxRecDepth 100000
set_option maxHeartbeats 2000000
/-! The layer for the laws: a def of the law run at the outermost call (where no repr is under way), repr of data, calls by keywords alone. -/
namespace Sq
open PySem PySem.Spec PyProof.Rows L2

/-! ### the law's own def, at one given surrounding -/
theorem fnAt {CX : CXT} {P : Program} {w : World} {K : PySem.W.Frag} {mg : Str → Option Value} {base : Heap} {k : Nat} {f : Addr} {nmF qualF : Str} {prm : Arguments} {bd : List Stmt} {scp : Scope}
    {dflt kwd docv pmv cdv ctv ocv : Value} {anv odv : Option Addr} {slv : Array (Option Value)} {names prs : List Str} {sp : Sp} {A : Around}
    (stands : K.lookup f = some ⟨ocv, odv, .func (PySem.W.fnOf nmF qualF prm bd scp dflt kwd docv pmv anv cdv ctv), slv⟩)
    (code : PySem.W.codeIn K cdv qualF = true) (sc : FnScope names prs scp)
    (count : ∀ vs H Q E, sp vs H Q E → vs.length = prs.length)
    (inner : ∀ (outer : List Env) (s : Shared) (H : Hp) (vs : List V) (Q : VK) (E : XK), Room k (A.deeper (envOfC qualF scp s.heap.objs.size f cdv)) → sp vs H Q E →
      ∃ t, PSs (cxOf CX P w K mg base names qualF scp f cdv A outer s H E) bd t ∧ t { nx := fun _ H' => Q .non H', rt := Q } (start names vs) H)
    {outer : List Env} {s : Shared} {H : Hp} {ag : Args} {us : List Value} {vs : List V} {Q : VK} {E : XK}
    (room : Room (k + 1) A) (entry : Env0 P w K mg base A outer s H)
    (bound : BindsTo s (PySem.W.fnOf nmF qualF prm bd scp dflt kwd docv pmv anv cdv ctv) ag (prs.zip us)) (rel : Vals vs us) (wish : sp vs H Q E) :
    codeAny (model P w) A (.call (.ref f) ag) (CR CX outer P w H s Q E) s := by
  have written : K.In s.heap := entry.mod.kin.keeps (fun b o e => (entry.bs b o e).1)
  have roomy : s.heap.NoLimit := entry.mod.nolimit.keeps (fun b o e => (entry.bs b o e).1)
  refine codeAny_call_function room.depth (written _ _ stands) rfl sc.co sc.gen rfl (PySem.W.codeRec_of written code) (bound _ _ _ _ ?_)
  refine wpAny_newFunctionEnv_cells sc.kind ?kinds ?body
  case kinds =>
    rintro ⟨n, v⟩ hn
    have inP := (List.of_mem_zip hn).1
    cases sc.par n inP with
    | inl q => exact Or.inl q
    | inr q => exact Or.inr ⟨q, PySem.W.cellsFrom_some _ _ _ (Or.inl q)⟩
  case body =>
    intro env eqn s1 fresh
    subst eqn
    refine ⟨roomy.keeps fresh.toInCall.keep, codeAny_func ?_⟩
    obtain ⟨t, steps, holds⟩ := inner outer s H vs Q E (room.deeper _) wish
    have inv := inv_start (CX := CX) (mg := mg) (base := base) (E := E) sc room.hd entry (count _ _ _ _ wish) rel fresh
    refine wpAny_mono (steps.run [] s1 (start names vs) H _ inv holds) ?_ (fun _ _ q => q)
    intro flow s' got
    cases flow with
    | ret u =>
      obtain ⟨v, σ', H', J, rv, q⟩ := got
      exact ⟨v, H', J.os, J.bare, J.base, J.hok, rv, q⟩
    | next =>
      obtain ⟨σ', H', J, q⟩ := got
      exact ⟨V.non, H', J.os, J.bare, J.base, J.hok, rfl, q⟩
    | brk => exact got.elim fun _ h => h.elim fun _ h => False.elim h.2
    | cont => exact got.elim fun _ h => h.elim fun _ h => False.elim h.2

/-- what the top's def promises at the outermost call alone -/
def Top (P : Program) (w : World) (K : PySem.W.Frag) (mg : Str → Option Value) (base : Heap) (k : Nat) (f : Addr) (fd : FuncData) (x : Str) (sp : Sp) : Prop :=
  ∀ (s : Shared) (H : Hp) (ag : Args) (u : Value) (v : V) (Q : VK), Env0 P w K mg base callerA [] s H → BindsTo s fd ag [(x, u)] → RelV v u → sp [v] H Q (fun _ _ _ => False) →
    codeAny (model P w) callerA (.call (.ref f) ag) (CR CX0 [] P w H s Q (fun _ _ _ => False)) s

theorem atTop {P : Program} {w : World} {K : PySem.W.Frag} {mg : Str → Option Value} {base : Heap} {k : Nat} {f : Addr} {fd : FuncData} {x y qual : Str} {st : Stmt} {names : List Str} {sp : Sp}
    (F : Fun K y qual st f fd) (sc : FnScope names [x] (defScope st)) (room : Room (k + 1) callerA) (count : ∀ vs H Q E, sp vs H Q E → vs.length = 1)
    (inner : ∀ (cdv : Value) (outer : List Env) (s : Shared) (H : Hp) (vs : List V) (Q : VK) (E : XK), Room k (callerA.deeper (envOfC qual (defScope st) s.heap.objs.size f cdv)) → sp vs H Q E →
      ∃ t, PSs (cxOf CX0 P w K mg base names qual (defScope st) f cdv callerA outer s H E).nox (defBody st) t ∧ t { nx := fun _ H' => Q .non H', rt := Q } (start names vs) H) :
    Top P w K mg base k f fd x sp := by
  intro s H ag u v Q e0 hb hv hs
  obtain ⟨oc, od, kV, doc, pm, an, cdv, ct, osl, rfl, lk, hcd⟩ := F.ex
  refine fnAt (us := [u]) (vs := [v]) lk hcd sc count (fun outer s' H' vs' Q' E' room' wish => ?_) room e0 hb (.cons hv .nil) hs
  obtain ⟨t, h, q⟩ := inner cdv outer s' H' vs' Q' E' room' wish
  exact ⟨t, h.nox, q⟩

/-- from the def's promise at the outermost call to the row's claim about that call -/
theorem lawAt {P : Program} {w : World} {K : PySem.W.Frag} {mg mb : Str → Option Value} {k : Nat} {fa a : Addr} {fd : FuncData} {x : Str} {sp : Sp} {s₁ : Shared} {cells : List Value} {nums : List Int}
    (inK : K.In s₁.heap) (nsM : s₁.heap.Ns mainGlobals mg) (nsB : s₁.heap.Ns builtinsNs mb) (boot : ∀ y : Str, y ≠ "__name__" → mb y = bootBuiltins y) (lim : s₁.heap.NoLimit) (gens : s₁.gens = #[])
    (script : s₁.heap.get? a = some { cls := .type "list", data := .seq cells.toArray }) (are : IntsAre cells nums) (few : nums.length ≤ sizeLine)
    (main : ∀ base : Heap, K.In base → base.Ns mainGlobals mg → Top P w K mg base k fa fd x sp) (binds : ∀ (s : Shared) (u : Value), BindsTo s fd ⟨[u], []⟩ [(x, u)])
    (told : ∀ H : Hp, Only H → SqL K H a (nums.map V.int) → sp [.ref a] H (fun v _ => v = .bl true) fun _ _ _ => False) :
    codeAny (model P w) callerA (.call (.ref fa) ⟨[.ref a], []⟩) (fun r s' => r = .ok (.ret (.bool true)) ∧ OldK s₁.heap s'.heap ∧ s'.os = s₁.os ∧ AllBare s'.gens) s₁ := by
  have rel := vals_ints are
  have same := are.length
  suffices goal : ∀ H : Hp, Only H → SqL K H a (nums.map V.int) → HOk P w H s₁.heap → (∀ b o, H b = some o → b = a ∧ K.lookup a = none) →
      codeAny (model P w) callerA (.call (.ref fa) ⟨[.ref a], []⟩) (fun r s' => r = .ok (.ret (.bool true)) ∧ OldK s₁.heap s'.heap ∧ s'.os = s₁.os ∧ AllBare s'.gens) s₁ by
    cases look : K.lookup a with
    | some o =>
      have here := inK a o look
      rw [script] at here
      cases here
      exact goal (fun _ => none) (fun _ => Or.inl rfl) (Or.inr ⟨_, cells.toArray, _, look, rfl, rfl, rfl, (by rw [List.size_toArray, same]; exact few), (by simpa using rel)⟩) (fun b u z => by cases (show (none : Option HO) = some u from z)) (fun b o z => by cases (show (none : Option HO) = some o from z))
    | none =>
      let Ha : Hp := fun b => if b = a then some (.frz { cls := .type "list", data := .seq cells.toArray } (.lst (nums.map V.int))) else none
      have at_a : Ha a = some (.frz { cls := .type "list", data := .seq cells.toArray } (.lst (nums.map V.int))) := if_pos rfl
      have off : ∀ b o, Ha b = some o → b = a := fun b o z => by
        by_cases hb : b = a
        · exact hb
        · rw [show Ha b = none from if_neg hb] at z
          cases z
      refine goal Ha (fun b => ?_) (Or.inl (Or.inr ⟨_, at_a⟩)) (fun b u z => ?_) (fun b o z => ⟨off b o z, look⟩)
      · by_cases hb : b = a
        · exact Or.inr ⟨_, _, if_pos hb⟩
        · exact Or.inl (if_neg hb)
      · obtain rfl := off b u z
        rw [at_a] at z
        cases z
        exact ⟨script, by rw [List.length_map]; exact few, cells, _, rel, script⟩
  intro H only seq hok apart
  have free : ∀ {b : Addr} {o : Obj}, s₁.heap.get? b = some o → (∀ u, H b = some u → False) → (hidT s₁.heap H).get? b = some o := fun {b o} e n =>
    hidT_get e (by
      cases q : H b with
      | none => rfl
      | some u => exact (n u q).elim)
  have nsH : ∀ {b : Addr} {m : Str → Option Value}, s₁.heap.Ns b m → (hidT s₁.heap H).Ns b m := by
    rintro b m ⟨o, es, ep, e, d, r⟩
    refine ⟨o, es, ep, free e fun u z => ?_, d, r⟩
    obtain ⟨rfl, _⟩ := apart b u z
    rw [script] at e
    cases e
    cases (show Data.seq cells.toArray _ = Data.dict es ep from d)
  have kH : K.In (hidT s₁.heap H) := fun b o e => free (inK b o e) fun u z => by
    obtain ⟨rfl, n⟩ := apart b u z
    rw [n] at e
    cases e
  have mod : Mod K mg (hidT s₁.heap H) := ⟨kH, nsH nsM, ⟨mb, nsH nsB, boot⟩, let ⟨mc, h1, h2⟩ := lim; ⟨mc, nsH h1, h2⟩⟩
  have entry : Env0 P w K mg (hidT s₁.heap H) callerA [] s₁ H :=
    ⟨rfl, mod, fun b o e => of_hidT e, Nat.le_of_eq (hidT_size _ _), trivial, fun b hb => absurd (show b ∈ ([] : List Addr) from hb) (by simp), hok, .of_eq gens⟩
  refine codeAny_mono (main _ kH (nsH nsM) s₁ H ⟨[.ref a], []⟩ (.ref a) (.ref a) _ entry (binds s₁ (.ref a)) rfl (told H only seq)) ?_
  intro r s' got
  match r, got with
  | .ok (.ret u), got =>
    obtain ⟨v, H', os, bare, un, hok', rv, q⟩ := got
    obtain rfl : v = .bl true := q
    obtain rfl : u = Value.bool true := rv
    refine ⟨rfl, OldK.of_keep fun b o e => ?_, os, bare⟩
    rcases only b with z | ⟨ob, xs, z⟩
    · exact un.keep b o e z (by intro y; exact absurd (show b ∈ ([] : List Addr) from y) (by simp)) (by simp)
    · obtain ⟨e1, _⟩ := hok b _ z
      obtain ⟨e2, _⟩ := hok' b _ (un.frzs b ob _ z)
      rw [e] at e1
      cases e1
      exact e2

/-- the goal that k_head leaves, from the law's promise at the outermost call -/
theorem walkAt {l : PySem.W.OpenLaw} {n k : Nat} {q : Program} {loose : List Str} {XP : (Str → Option Value) → Heap → Prop} {YP : World → Heap → Prop} {d : DefRec} {K : Params → PySem.W.Frag} {sp : World → Sp} {x : Str}
    (most : l.most = some n) (line : n ≤ sizeLine) (plain : d.params.defaults = []) (inK : ∀ (w : World) (h : Heap), YP w h → (K w.params).In h)
    (F : ∀ (w : World) (mg : Str → Option Value) (fa : Addr) (h : Heap), (K w.params).In h → h.Ns mainGlobals mg → mg d.name = some (.ref fa) →
      ∃ fd : FuncData, (∀ (s : Shared) (u : Value), BindsTo s fd ⟨[u], []⟩ [(x, u)]) ∧ ∀ base : Heap, (K w.params).In base → base.Ns mainGlobals mg → Top l.prog w (K w.params) mg base k fa fd x (sp w))
    (told : ∀ (w : World) (H : Hp) (a : Addr) (ns : List Int), ns.length ≤ n → Only H → SqL (K w.params) H a (ns.map V.int) → sp w [.ref a] H (fun v _ => v = .bl true) fun _ _ _ => False) :
    PySem.W.WalkO q loose XP YP l.row.toRowW d [] (fun f vs => PySem.call f vs) := by
  refine Att.attach_call most plain ?_
  intro w s₀ s₁ mg mb fa o pm cd doc a vs ns G Y ho hd hcd hmg hobj hints hlen hg
  obtain ⟨fd, hb, hF⟩ := F w mg fa _ (inK w _ Y) G.T.g hmg
  exact lawAt (inK w _ Y) G.T.g G.T.b G.T.builtins G.T.nolimit hg hobj hints (Nat.le_trans hlen line) hF hb fun H hO hS => told w H a ns hlen hO hS

/-! ### repr of data, where no repr is under way -/
def rReprD (K : PySem.W.Frag) : List V → Hp → VK → Prop := fun xs H Q => ∃ a d, xs = [.ref a] ∧ Dp K H (.ref a) d ∧ d.showable = true ∧ d.hasDict = false ∧ d.depth ≤ 40 ∧ d.shown.length ≤ sizeLine ∧ Q (.str d.shown) H
theorem call_reprD {X : Cx} (hg : X.A.guards = some []) (hu : X.A.units + 64 < cLine) : CallR X (.builtin "repr") (rReprD X.K) := by
  intro pins s σ H xs us Q I r h
  obtain ⟨a, d, rfl, hd, sh, nd, dep, sz, q⟩ := h
  obtain ⟨u, rfl, rv⟩ := vals1 r
  obtain rfl : u = Value.ref a := rv
  obtain ⟨as, rd⟩ := Dp.reads I d _ _ hd (show RelV (.ref a) (.ref a) from rfl)
  refine repr_of_reads' rd sh (by rw [nd]; exact fun z => nomatch z) hg (by omega) (fun b o e => e) (fun h' u tk keep => ?_) sz
  exact ⟨.str _, H, I.kept keep, ⟨_, rfl⟩, q⟩

/-! ### f(k = v, ..): keywords alone -/
section
variable {X : Cx} {CX : CXT} {k : Nat} {f : Addr} {fd : FuncData} {ps ks : List Str} {sp : Sp} {E : XK} {x : Str} {p pos : Pos} {kws : List Keyword} {tk : TA} {g : List Value → List Value → List Value} {gV : List V → List V → List V}
theorem pe_callK0 (F : FnOk X.prog X.w X.K X.mg X.base CX k f fd ps sp) (hr : Room k X.A) (hg : Gl X x) (hm : X.mg x = some (.ref f)) (hk : PySem.W.keepIn X.K (.ref f) = true) (hb : KBn X.K fd ps 0 ks g gV) (hx : Passes CX X E) (hkw : PK X kws tk)
    (hall : (backToKw pos (keywordEach kws X.env)).all (·.1.isSome) = true := by rfl) (hks : (backToKw pos (keywordEach kws X.env)).filterMap (·.1) = ks := by rfl) (hdb : (x == ("__debug__" : Str)) = false := by decide)
    (hpl : ((backTo pos (starEach [] X.env)).any (·.1) || (backToKw pos (keywordEach kws X.env)).any (·.1.isNone)) = false := by rfl) :
    PE X (.Call (.Name x p) [] kws pos) (tCallN 0 ks.length sp gV E tNil tk) := by
  refine ⟨fun pins s σ H Q I h => ?_⟩
  refine wpAny_Call_Name_kw (ld_glob I hg hm ?_ hdb)
  refine PySem.W.callWith_KW0 (h₀ := X.base) I.ok.mod.kin hk hall ?_ hpl
  refine thn (hkw.run pos pins s σ H _ I h) ?_
  rintro ws s2 ⟨zs, H2, I2, rz, l1, l2, q2⟩
  refine ⟨I2.kIn, ?_⟩
  rw [hks]
  exact run_fnN F hr hb hx I2 (.nil) rz l1 l2 q2
end
end Sq

namespace Sq
open PySem PySem.Spec PyProof.Rows L2
/-- what a caller wants of a def of the text: it stands at its name and keeps its promise -/
structure Df (P : Program) (w : World) (K : PySem.W.Frag) (mg : Str → Option Value) (base : Heap) (k : Nat) (x : Str) (ps : List Str) (sp : Sp) : Prop where
  ex : ∃ f fd, FnOk P w K mg base CX0 k f fd ps sp ∧ mg x = some (.ref f) ∧ PySem.W.keepIn K (.ref f) = true ∧ Binds K fd ps []
section
variable {X : Cx} {k : Nat} {ps : List Str} {sp : Sp} {x : Str} {p pos : Pos} {e : Expr} {es : List Expr} {t : TA}
theorem pe_callD (D : Df X.prog X.w X.K X.mg X.base k x ps sp) (hr : Room k X.A) (hg : Gl X x) (ha : PA X (e :: es) t) (hdb : (x == ("__debug__" : Str)) = false := by decide)
    (he : starEach (e :: es) X.env = (false, eval e X.env) :: starEach es X.env := by rfl) (hpl : (backTo pos (starEach es X.env)).any (·.1) = false := by rfl) :
    PE X (.Call (.Name x p) (e :: es) [] pos) (tCall sp [] E0 t) := by
  obtain ⟨f, fd, F, g, kp, b⟩ := D.ex
  exact pe_call F hr hg g kp b .nil pass0 ha hdb he hpl
end
section
variable {P : Program} {w : World} {K : PySem.W.Frag} {mg : Str → Option Value} {base : Heap}
/-- a def without defaults, from its place in the text and its promise -/
theorem Df.mk' {k : Nat} {x : Str} {st : Stmt} {ps : List Str} {sp : Sp} {f : Addr} {fd : FuncData} (F : Fun K x x st f fd) (G : FnOk P w K mg base CX0 k f fd ps sp) (g : mg x = some (.ref f)) (b : Binds K fd ps []) : Df P w K mg base k x ps sp :=
  ⟨⟨f, fd, G, g, F.kp, b⟩⟩
end
end Sq

namespace Sq
open PySem PySem.Spec PyProof.Rows L2
/-- a def with defaults, no error leaves it -/
theorem okD {P : Program} {w : World} {K : PySem.W.Frag} {mg : Str → Option Value} {base : Heap} {x qual : Str} {prm : Arguments} {bd : List Stmt} {scp : Scope} {dvs : List V} {kws : List (Str × V)} {f : Addr} {fd : FuncData} {names ps : List Str} {k : Nat} {sp : Sp}
    (F : FunD K x qual prm bd scp dvs kws f fd) (sc : FnScope names ps scp) (count : ∀ vs H Q E, sp vs H Q E → vs.length = ps.length)
    (inner : ∀ (cdv : Value) (A : Around) (outer : List Env) (s : Shared) (H : Hp) (vs : List V) (Q : VK) (E : XK), Room k (A.deeper (envOfC qual scp s.heap.objs.size f cdv)) → sp vs H Q E →
      ∃ t, PSs (cxOf CX0 P w K mg base names qual scp f cdv A outer s H E).nox bd t ∧ t { nx := fun _ H' => Q .non H', rt := Q } (start names vs) H) : FnOk P w K mg base CX0 (k + 1) f fd ps sp :=
  F.ok sc count fun cdv A outer s H vs Q E hr h => let ⟨t, a, b⟩ := inner cdv A outer s H vs Q E hr h; ⟨t, a.nox, b⟩

/-- the same as Df for a call that leaves the last ones to their defaults dvs -/
structure Dv (P : Program) (w : World) (K : PySem.W.Frag) (mg : Str → Option Value) (base : Heap) (k : Nat) (x : Str) (ps : List Str) (dvs : List V) (sp : Sp) : Prop where
  ex : ∃ f fd ds, FnOk P w K mg base CX0 k f fd ps sp ∧ mg x = some (.ref f) ∧ PySem.W.keepIn K (.ref f) = true ∧ Vals dvs ds ∧ Binds K fd ps ds
/-- .. by keywords alone -/
structure Dk (P : Program) (w : World) (K : PySem.W.Frag) (mg : Str → Option Value) (base : Heap) (k : Nat) (x : Str) (ps ks : List Str) (gV : List V → List V → List V) (sp : Sp) : Prop where
  ex : ∃ f fd g, FnOk P w K mg base CX0 k f fd ps sp ∧ mg x = some (.ref f) ∧ PySem.W.keepIn K (.ref f) = true ∧ KBn K fd ps 0 ks g gV
section
variable {X : Cx} {k : Nat} {ps ks : List Str} {sp : Sp} {x : Str} {p pos : Pos} {e : Expr} {es : List Expr} {t tk : TA} {dvs : List V} {gV : List V → List V → List V} {kws : List Keyword}
theorem pe_callV (D : Dv X.prog X.w X.K X.mg X.base k x ps dvs sp) (hr : Room k X.A) (hg : Gl X x) (ha : PA X (e :: es) t) (hdb : (x == ("__debug__" : Str)) = false := by decide)
    (he : starEach (e :: es) X.env = (false, eval e X.env) :: starEach es X.env := by rfl) (hpl : (backTo pos (starEach es X.env)).any (·.1) = false := by rfl) :
    PE X (.Call (.Name x p) (e :: es) [] pos) (tCall sp dvs E0 t) := by
  obtain ⟨f, fd, ds, F, g, kp, hd, b⟩ := D.ex
  exact pe_call F hr hg g kp b hd pass0 ha hdb he hpl
theorem pe_callKD (D : Dk X.prog X.w X.K X.mg X.base k x ps ks gV sp) (hr : Room k X.A) (hg : Gl X x) (hkw : PK X kws tk)
    (hall : (backToKw pos (keywordEach kws X.env)).all (·.1.isSome) = true := by rfl) (hks : (backToKw pos (keywordEach kws X.env)).filterMap (·.1) = ks := by rfl) (hdb : (x == ("__debug__" : Str)) = false := by decide)
    (hpl : ((backTo pos (starEach [] X.env)).any (·.1) || (backToKw pos (keywordEach kws X.env)).any (·.1.isNone)) = false := by rfl) :
    PE X (.Call (.Name x p) [] kws pos) (tCallN 0 ks.length sp gV E0 tNil tk) := by
  obtain ⟨f, fd, g, F, hm, kp, b⟩ := D.ex
  exact pe_callK0 F hr hg hm kp b pass0 hkw hall hks hdb hpl
end
theorem vals_nil {ds : List Value} (h : Vals [] ds) : ds = [] := by
  cases h
  rfl
end Sq

namespace Sq
open PySem PySem.Spec PyProof.Rows L2
theorem vals_rev : ∀ {zs : List V} {ws : List Value}, Vals zs ws → Vals zs.reverse ws.reverse
  | [], [], _ => .nil
  | _ :: _, _ :: _, .cons h t => by
    rw [List.reverse_cons, List.reverse_cons]
    exact (vals_rev t).append (.cons h .nil)
/-- keywords, where the def has defaults and no keyword-only parameters -/
theorem kbinds' {K : PySem.W.Frag} {x qual : Str} {prm : Arguments} {bd : List Stmt} {scp : Scope} {dvs : List V} {f : Addr} {fd : FuncData} {ps : List Str}
    (F : FunD K x qual prm bd scp dvs [] f fd) (n : Nat) (ks : List Str) (g : List Value → List Value → List Value) (gV : List V → List V → List V) (hd : dvs ≠ [])
    (rel : ∀ {vs : List V} {us : List Value} {zs : List V} {ws : List Value}, Vals vs us → Vals zs ws → Vals (gV vs zs) (g us ws))
    (h : ∀ (T : Addr) (kV doc pm : Value) (an : Option Addr) (cdv ct : Value) (us its ws : List Value), us.length = n → its.length = dvs.length → ws.length = ks.length →
      ∃ k, bindArgs (PySem.W.fnOf x qual prm bd scp (.ref T) kV doc pm an cdv ct) ⟨us, ks.zip ws⟩ = seqItems? (.ref T) >>= k ∧ k (some its.toArray) = pure (ps.zip (g us ws))) : KBn K fd ps n ks g gV := by
  obtain ⟨oc, od, dV, kV, doc, pm, an, cdv, ct, osl, rfl, lk, hcd, hD, hK⟩ := F.ex
  rcases hD with ⟨e, _⟩ | ⟨_, T, o, its, m, rfl, lT, oT, rT⟩
  · exact absurd e hd
  · refine ⟨fun s us ws X l1 l2 => ?_, rel⟩
    obtain ⟨k, e1, e2⟩ := h T kV doc pm an cdv ct us its ws l1 rT.length.symm l2
    refine BindsTo.of_looks fun M => ?_
    rw [e1]
    exact looks_items X lT oT (.of_pure e2)
end Sq

namespace Sq
open PySem PySem.Spec PyProof.Rows L2
/-- a test whose ways are told apart from what follows -/
theorem tell {c : TT} {σ : L2.St} {H : Hp} {Q : Bool → Hp → Prop} (T F : Hp → Prop) (h : ∀ Q' : Bool → Hp → Prop, (∀ H2, T H2 → Q' true H2) → (∀ H2, F H2 → Q' false H2) → c σ H Q') (hT : ∀ H2, T H2 → Q true H2) (hF : ∀ H2, F H2 → Q false H2) : c σ H Q := h Q hT hF
/-- a value that is told apart from what follows -/
theorem tellV {c : TE} {σ : L2.St} {H : Hp} {Q : VK} (T : V → Hp → Prop) (h : ∀ Q' : VK, (∀ v H2, T v H2 → Q' v H2) → c σ H Q') (hT : ∀ v H2, T v H2 → Q v H2) : c σ H Q := h Q hT
/-- a statement that goes on alone -/
theorem tellS {c : TS} {D : Ends} {σ : L2.St} {H : Hp} (T : L2.St → Hp → Prop) (h : ∀ N : L2.St → Hp → Prop, (∀ σ2 H2, T σ2 H2 → N σ2 H2) → c { D with nx := N } σ H) (hT : ∀ σ2 H2, T σ2 H2 → D.nx σ2 H2) : c D σ H := h D.nx hT
end Sq

set_option Elab.async false
set_option linter.all false
set_option maxRecDepth 100000
set_option maxHeartbeats 2000000
/-! Own errors whose __init__ says super().__init__(..) and stores its argument as value. -/
namespace SqX
open PySem PySem.W PySem.Calls PyProof.Rows PySem.HandSPX
def xA (p1 p2 : Pos) : Arguments := { posonlyargs := [], args := [{ arg := "self", annotation := none, pos := p1 }, { arg := "value", annotation := none, pos := p2 }], vararg := none, kwonlyargs := [], kw_defaults := [], kwarg := none, defaults := [] }
def xB (msg : Str) (j : Nat) (q0 q1 q2 q3 q4 q5 r1 r2 r3 r4 : Pos) : List Stmt :=
  [.Expr (.Call (.Attribute (.Call (.Name "super" q0) [] [] q1) "__init__" q2) [.Constant (.str msg) j q3] [] q4) q5, .Assign [.Attribute (.Name "self" r1) "value" r2] (.Name "value" r3) r4]
def xS : Scope := { kind := .function, names := [(PySem.Str.ofString "self", .local), (PySem.Str.ofString "value", .local), (PySem.Str.ofString "__class__", .free), (PySem.Str.ofString "super", .globalImplicit)], isGenerator := false, isCoroutine := false, more := [] }
/-- what the written part says of such a class at C, of its __init__ at fI -/
structure Er (K : Frag) (prog : Program) (C fI : Addr) (q : Str) : Prop where
  cls : ∃ nm qn N bs bm sn sub ab col dd k0 k1 k2 k3 k5, K.lookup C = some (excClassObj nm qn C N bs bm true sn sub ab col dd k0 k1 k2 k3 k5 "ValueError.__new__") ∧ refsVE bm = true
  sa : findIn K (.ref C) "__setattr__" = some (some (.builtin "object.__setattr__"))
  noV : findIn K (.ref C) "value" = some none
  iC : findIn K (.ref C) "__init__" = some (some (.ref fI))
  tC : typeIn K (.ref fI) = some (.type "function")
  kC : keepIn K (.ref C) = true
  exC : subIn K (.ref C) (.type "BaseException") = some true
  veC : subIn K (.ref C) (.type "ValueError") = some true
  tyC : typeIn K (.ref C) = some (.type "type")
  mC : mroIn K C (.ref C) = some true
  suC : ks_superIn K C C "__init__" = some (some (.builtin "ValueError.__init__"))
  third : nsIn K cStatics "thirdparty.any" = some none
  super : nsIn K mainGlobals "super" = some none
  top : (prog.main.scope.names.lookup ("super" : Str)).isSome = false
  fn : ∃ (oc : Value) (od : Option Addr) (doc pm : Value) (an : Option Addr) (ct : Value) (osl : Array (Option Value)) (cda cc : Addr) (msg : Str) (j : Nat) (p1 p2 q0 q1 q2 q3 q4 q5 r1 r2 r3 r4 : Pos) (ccl : Value) (cdd : Option Addr) (vs : Array Value) (ccs : Array (Option Value)) (file : Str) (tf : Tok) (cl : Value) (cld : Option Addr) (csl : Array (Option Value)),
    K.lookup fI = some ⟨oc, od, .func (ksFn "__init__" q (xA p1 p2) (xB msg j q0 q1 q2 q3 q4 q5 r1 r2 r3 r4) xS .none .none doc pm an (.ref cda) ct cc), osl⟩ ∧ codeIn K (.ref cda) q = true ∧
    K.lookup cda = some ⟨ccl, cdd, .fields vs, ccs⟩ ∧ vs[2]? = some (.str file tf) ∧ ((prog.main.file : Str) == file) = true ∧ K.lookup cc = some ⟨cl, cld, .cell (some (.ref C)), csl⟩ ∧ (q2.endLine == q4.line) = true
/-- what __init__ leaves of a fresh exception at x -/
structure Inited (h h' : Heap) (x C dx t1 : Addr) (v : Value) : Prop where
  keep : ∀ b o, b ≠ x → h.get? b = some o → h'.get? b = some o
  obj : h'.get? x = some { cls := .ref C, dict := some dx, data := .fields #[.ref t1, .none, .none, .none, .bool false, .none] }
  dbig : h.objs.size ≤ dx
  dne : dx ≠ x
  ns : h'.Ns1 dx (fun y => if y = "value" then some v else none)
theorem one_size (v : Value) : [v].length ≤ sizeLine := by
  rw [sizeLine_eq]
  exact (by decide : 1 ≤ 16777216)
theorem call_is {o e : Expr} {name : Str} {apos pos : Pos} {env : Env} (hline : (apos.endLine == pos.line) = true) (he : starEach [e] env = [(false, eval e env)]) :
    eval (.Call (.Attribute o name apos) [e] [] pos) env = (do
      let ov ← attributeBase o name env (eval o env)
      standAt apos.atName
      let (f, first) ← holding [ov] (getMethod ov name (do return (← importBound o env).getD true))
      callWith pos f first (backTo pos (starEach [e] env)) []) := by
  rw [arm_eval_Call]
  have hf : methodCallForm 1 (backTo pos (starEach [e] env)) (backToKw pos (keywordEach [] env)) = true := by
    rw [he]
    rfl
  have hp : methodCallPos true o env apos pos = pure pos := by
    unfold methodCallPos
    simp [hline]
  refine congrArg _ (funext fun ov => congrArg _ (funext fun _ => ?_))
  show methodCall o name apos pos env ov 1 (backTo pos (starEach [e] env)) (backToKw pos (keywordEach [] env)) = _
  unfold methodCall
  rw [hf, hp]
  rfl
/-- the bound ValueError.__init__ called: the args are laid anew -/
theorem call_mw {prog : Program} {w : World} {A : Around} {E : Value → Shared → Prop} {h : Heap} {g : Array GenState} {d : Drawn} {t : Nat} {os : OsState}
    {nm qn : Str} {C N : Addr} {bs bm : List Value} {hdct : Bool} {sn : List Str} {sub : List Value} {ab : Bool} {col : Option Bool} {dd : Option Addr} {k0 k1 k2 k3 k5 : Option Value} {u e t0 : Addr} {rest : List Value} {Q : Value → Shared → Prop}
    (atC : h.get? C = some (excClassObj nm qn C N bs bm hdct sn sub ab col dd k0 k1 k2 k3 k5 "ValueError.__new__")) (atE : h.get? e = some (excO C t0)) (atU : h.get? u = some (kxs_mw "ValueError.__init__" e)) (line : rest.length ≤ sizeLine)
    (fin : ∀ h' t1, (∀ b o, b ≠ e → h.get? b = some o → h'.get? b = some o) → h'.get? e = some (excO C t1) → Q .none ⟨h', g, d, t, os⟩) :
    wpAny (model prog w) A (call (.ref u) rest) Q E ⟨h, g, d, t, os⟩ := by
  refine wpAny_call (codeAny_of_tree ?_)
  show wpAny _ A.in1 (callAny (.ref u) ⟨rest, []⟩) _ _ _
  simp only [callAny]
  refine wpAny_bind (wpAny_load atU ?_)
  simp only [kxs_mw, show (Value.type "method-wrapper" == Value.type "method" || Value.type "method-wrapper" == Value.type "builtin_function_or_method" || Value.type "method-wrapper" == Value.type "method-wrapper") = true by decide, if_true]
  refine W.KFB.if_so (by decide) ?_
  refine wpAny_bind (ESX.check_bound F.excBase_ValueError atC atE rfl ?_)
  refine wpAny_bind (wpAny_pure (wpAny_pure ?_))
  refine ⟨Code.quiet_builtin _ (by decide +kernel), codeAny_builtin F.excBase_ValueError.initEntry ?_⟩
  rw [Around.under_plainId F.excBase_ValueError.init.plain _]
  wp_walk
  refine fin _ h.objs.size (fun b o nb hb => ?_) ?_
  · exact (Heap.get?_update_other _ _ (Ne.symm nb)).trans (Heap.get?_push_of_some _ hb)
  · exact (Heap.get?_update_self _ (Heap.get?_push_of_some _ atE) rfl).trans rfl
section
variable {prog : Program} {w : World} {A : Around} {E : Value → Shared → Prop} {R : Result → Shared → Prop} {s : Shared} {K : Frag} {mg : Str → Option Value} {base : Heap} {C fI : Addr} {q : Str}
theorem init (T : Er K prog C fI q) {x t0 : Addr} {v : Value} {args : Args} (X : K.In s.heap) (hg : s.heap.Ns mainGlobals mg) (hlim : s.heap.NoLimit) {mb : Str → Option Value} (hb : s.heap.Ns builtinsNs mb) (boot : ∀ y : Str, y ≠ "__name__" → mb y = bootBuiltins y)
    (hx : s.heap.get? x = some (excO C t0)) (hnx : K.lookup x = none) (hroom : A.depth < recursionLimit)
    (hargs : ∀ fd : FuncData, (∃ p1 p2 bd doc pm an cda ct cc, fd = ksFn "__init__" q (xA p1 p2) bd xS .none .none doc pm an (.ref cda) ct cc) → BindsTo s fd args [("self", .ref x), ("value", v)])
    (hq : ∀ h' tk dx t1, Inited s.heap h' x C dx t1 v → R (.ok (.ret .none)) { s with heap := h', toks := tk }) :
    codeAny (model prog w) A (.call (.ref fI) args) R s := by
  obtain ⟨oc, od, doc, pm, an, ct, osl, cda, cc, msg, j, p1, p2, q0, q1, q2, q3, q4, q5, r1, r2, r3, r4, ccl, cdd, vs, ccs, file, tf, cl, cld, csl, ho, hcd, hcode, hvs, hfile, hcell, hline⟩ := T.fn
  obtain ⟨nm, qn, N, bs, bm, sn, sub, ab, col, dd, k0, k1, k2, k3, k5, hC, hbm⟩ := T.cls
  have hcl : clsIn K C = some { name := nm, bases := bs, mro := .ref C :: bm, ns := N, qualname := qn, hasDict := true, slotNames := sn, subclasses := sub, abstract := ab, collection := col, hasDel := false } := by unfold clsIn; rw [hC] <;> rfl
  refine ks_codeAny_call_defAt (fd := ksFn "__init__" q (xA p1 p2) (xB msg j q0 q1 q2 q3 q4 q5 r1 r2 r3 r4) xS .none .none doc pm an (.ref cda) ct cc) (binds := [("self", .ref x), ("value", v)]) hroom (X _ _ ho) rfl hlim (codeRec_of X hcd) rfl
    (hargs _ ⟨_, _, _, _, _, _, _, _, _, rfl⟩) (show ∀ x ∈ xS.names, x.2 ≠ .cell by decide) (fun y hy => ?loc) (fun h₁ hns k => ?_)
  case loc =>
    rcases List.mem_cons.mp hy with rfl | hy
    · exact (show xS.names.lookup ("self" : Str) = some .local by decide)
    · obtain rfl := List.mem_singleton.mp hy
      exact (show xS.names.lookup ("value" : Str) = some .local by decide)
  have X₁ : K.In h₁ := X.keeps k
  have hx₁ := k _ _ hx
  obtain ⟨hh, g, d, t, os⟩ := s
  show _root_.PySem.wpAt _ _ _ (execs (xB msg j q0 q1 q2 q3 q4 q5 r1 r2 r3 r4) _) _ _ _
  refine ks_wpAt_execs_cons (ks_wpAt_Expr_any (ks_wpAt_MethodCall ?_ (call_is hline rfl)))
  obtain ⟨oD, hD1, hD2⟩ : ∃ oD, h₁.get? C = some oD ∧ ∃ cdD, oD.data = .cls cdD := ⟨_, X₁ _ _ hC, _, rfl⟩
  obtain ⟨cdD, hD2⟩ := hD2
  have I₁ : InstAt h₁ x (excO C t0) C none := ⟨hx₁, rfl, rfl, trivial⟩
  refine ks_wpAt_super_base (f := fI) (cc := cda) rfl rfl rfl rfl (X₁ _ _ ho) rfl rfl rfl (X₁ _ _ hcode) rfl hvs hfile T.top ?_
  refine ks_loadName_global rfl rfl (loadGlobal_builtin (hg.keeps k) (mg_none_of X hg T.super) (hb.keeps k) ((boot _ (by decide +kernel)).trans (by decide +kernel)) ⟨rfl, ?_⟩)
  refine wpAny_loadName_free rfl rfl rfl ⟨_, X₁ _ _ hcell, rfl⟩ ?_
  refine wpAny_loadName_local (v := .ref x) rfl rfl hns rfl ?_
  refine ks_wpAny_isType_cls hD1 hD2 ⟨rfl, ?_⟩
  refine ks_wpAny_call_super hD1 hD2 I₁.at_ I₁.cls (fun c e => by cases e) (looks_mroIn X₁ T.mC) (fun h₂ e₂ k₂ => ?_)
  have X₂ : K.In h₂ := X₁.keeps k₂
  have hx₂ := k₂ _ _ hx₁
  have I₂ : InstAt h₂ x (excO C t0) C none := ⟨hx₂, rfl, rfl, trivial⟩
  have al := T.suC
  unfold ks_superIn at al
  rw [hcl] at al
  refine kxs_getMethod kxs_ValueError e₂ (looks_opaque X₂ T.third) (l₀ := .ref C :: bm) ((looks_clsIn X₂ hcl).andThen .now) rfl X₂ al (I₂.type.andThen (looks_subIn X₂ T.veC)) (ks_ne X₂ I₂ hcl) (by decide) ?_
  have k₃ : ∀ b o, h₂.get? b = some o → (h₂.push (kxs_mw "ValueError.__init__" x)).get? b = some o := fun b o e => Heap.get?_push_of_some _ e
  have hu : (h₂.push (kxs_mw "ValueError.__init__" x)).get? h₂.objs.size = some (kxs_mw "ValueError.__init__" x) := Heap.get?_push_at rfl rfl
  refine kxs_callWith (i := "ValueError.__init__") (x := x) rfl (evalArgs_plain ?_)
  refine Calls.spliced_cons ?_
  show wpAny _ _ (eval (.Constant (.str msg) j q3) _) _ _ _
  refine Calls.Constant_str ?_
  refine Calls.spliced_nil ⟨hu, ?_⟩
  refine call_mw (k₃ _ _ (X₂ _ _ hC)) (k₃ _ _ hx₂) hu (one_size _) (fun h₄ t1 k₄ hx₄ => ?_)
  have kk : ∀ b o, b ≠ x → hh.get? b = some o → h₄.get? b = some o := fun b o nb e => k₄ b o nb (k₃ _ _ (k₂ _ _ (k _ _ e)))
  have X₄ : K.In h₄ := fun a o e => kk a o (fun z => by rw [z, hnx] at e; cases e) (X a o e)
  have nx : hh.objs.size ≠ x := fun z => by
    have := Heap.lt_size hx
    rw [← z] at this
    exact absurd this (Nat.lt_irrefl _)
  have ns₄ : h₄.Ns hh.objs.size (fun y => List.lookup y [(("self" : Str), Value.ref x), ("value", v)].reverse) :=
    hns.at fun o e => k₄ _ _ nx (k₃ _ _ (k₂ _ _ e))
  -- self.value = value
  refine ks_wpAt_execs_cons (wpAt_of_wpAny (plainObj_wpAny_Assign_Attribute ?_))
  refine wpAny_Name (wpAny_loadName_local (v := v) rfl rfl ns₄ rfl ?_) (by decide)
  refine wpAny_Name (wpAny_loadName_local (v := .ref x) rfl rfl ns₄ rfl ?_) (by decide)
  refine set_plain X₄ (ox := excO C t1) (od := none) ⟨hx₄, rfl, rfl, trivial⟩ T.sa ?_
  refine exc_osa X₄ hx₄ hcl (show refsVE (.ref C :: bm) = true from hbm) rfl T.noV (fun h₅ tk₅ dx k₅ dn dne hx₅ hn₅ => ?_)
  have big : hh.objs.size ≤ dx := by
    have l1 : hh.objs.size < h₁.objs.size := hns.lt
    have l2 : h₁.objs.size < h₂.objs.size := Heap.lt_size e₂
    have nu : h₂.objs.size ≠ x := Nat.ne_of_gt (Heap.lt_size hx₂)
    have l4 : h₂.objs.size < h₄.objs.size := Heap.lt_size (k₄ _ _ nu hu)
    have l5 : h₄.objs.size ≤ dx := dn
    exact Nat.le_trans (Nat.le_of_lt (Nat.lt_trans l1 (Nat.lt_trans l2 l4))) l5
  refine wpAt_of_wpAny (wpAny_execs_nil ?_)
  exact hq h₅ tk₅ dx t1 ⟨fun b o nb e => k₅ b o nb (kk b o nb e), hx₅, big, dne, hn₅⟩
end
end SqX

set_option Elab.async false
set_option linter.all false
set_option maxRecDepth 100000
set_option maxHeartbeats 2000000
namespace SqX
open PySem PySem.W PySem.Calls PyProof.Rows PySem.HandSPX
/-- a new error at e, its dict at d -/
structure New (h h' : Heap) (e C d t1 : Addr) (v : Value) : Prop where
  keep : ∀ b o, h.get? b = some o → h'.get? b = some o
  big : h.objs.size ≤ e
  obj : h'.get? e = some { cls := .ref C, dict := some d, data := .fields #[.ref t1, .none, .none, .none, .bool false, .none] }
  dbig : h.objs.size ≤ d
  dne : d ≠ e
  ns : h'.Ns1 d (fun y => if y = "value" then some v else none)
section
variable {prog : Program} {w : World} {A : Around} {E : Value → Shared → Prop} {R : Result → Shared → Prop} {K : Frag} {mg mb : Str → Option Value} {C fI : Addr} {q : Str}
theorem bind2 {s : Shared} {q : Str} {x v : Value} : ∀ fd : FuncData, (∃ p1 p2 bd doc pm an cda ct cc, fd = ksFn "__init__" q (xA p1 p2) bd xS .none .none doc pm an (.ref cda) ct cc) → BindsTo s fd ⟨[x, v], []⟩ [("self", x), ("value", v)] := by
  rintro fd ⟨p1, p2, bd, doc, pm, an, cda, ct, cc, rfl⟩
  exact BindsTo.of_eq (by first | rfl | with_unfolding_all rfl)
theorem bindK {s : Shared} {q : Str} {x v : Value} : ∀ fd : FuncData, (∃ p1 p2 bd doc pm an cda ct cc, fd = ksFn "__init__" q (xA p1 p2) bd xS .none .none doc pm an (.ref cda) ct cc) → BindsTo s fd ⟨[x], [("value", v)]⟩ [("self", x), ("value", v)] := by
  rintro fd ⟨p1, p2, bd, doc, pm, an, cda, ct, cc, rfl⟩
  exact BindsTo.of_eq (by first | rfl | with_unfolding_all rfl)
theorem made {s : Shared} (T : Er K prog C fI q) {v : Value} (X : K.In s.heap) (hg : s.heap.Ns mainGlobals mg) (hlim : s.heap.NoLimit) (hb : s.heap.Ns builtinsNs mb) (boot : ∀ y : Str, y ≠ "__name__" → mb y = bootBuiltins y)
    (hroom : A.depth + 1 < recursionLimit)
    (fin : ∀ h' tk e d t1, New s.heap h' e C d t1 v → R (.ok (.ret (.ref e))) { s with heap := h', toks := tk }) :
    codeAny (model prog w) A (.call (.ref C) ⟨[v], []⟩) R s := by
  obtain ⟨nm, qn, N, bs, bm, sn, sub, ab, col, dd, k0, k1, k2, k3, k5, hC, hbm⟩ := T.cls
  obtain ⟨hp, g, dr, tk, os⟩ := s
  have k : ∀ b o, hp.get? b = some o → ((hp.push (kdv_tup [v])).push (excO C hp.objs.size)).get? b = some o := fun b o e => Heap.get?_push_of_some _ (Heap.get?_push_of_some _ e)
  have atE : ((hp.push (kdv_tup [v])).push (excO C hp.objs.size)).get? (hp.objs.size + 1) = some (excO C hp.objs.size) := by heap_get
  have off : K.lookup (hp.objs.size + 1) = none := by
    cases e : K.lookup (hp.objs.size + 1) with
    | none => rfl
    | some o => exact absurd (Nat.lt_of_succ_lt (Heap.lt_size (X _ _ e))) (Nat.lt_irrefl _)
  refine call_own F.excBase_ValueError (fun Y => refsVE_contains Y bm hbm) (X _ _ hC) (looks_findIn X T.iC) (fun self => bind_fn X self T.tC) (one_size v) ?_
  refine init (s := ⟨(hp.push (kdv_tup [v])).push (excO C hp.objs.size), g, dr, tk, os⟩) T (X.keeps k) (hg.keeps k) (hlim.keeps k) (hb.keeps k) boot atE off (show A.depth + 1 < recursionLimit from hroom) bind2 ?_
  rintro h' tk' dx t1 ⟨kp, ob, dn, dne, ns⟩
  have old : ∀ b o, hp.get? b = some o → h'.get? b = some o := fun b o e => kp b o (Nat.ne_of_lt (Nat.lt_succ_of_lt (Heap.lt_size e))) (k b o e)
  have z : hp.objs.size + 1 + 1 ≤ dx := by
    first
      | (simpa only [Heap.size_push] using dn)
      | exact dn
      | (have y := dn; rw [Heap.size_push, Heap.size_push] at y; exact y)
  exact ⟨rfl, fin h' tk' (hp.objs.size + 1) dx t1 ⟨old, Nat.le_succ _, ob, Nat.le_trans (Nat.le_trans (Nat.le_succ _) (Nat.le_succ _)) z, dne, ns⟩⟩
end
end SqX

set_option Elab.async false
set_option linter.all false
set_option maxRecDepth 100000
set_option maxHeartbeats 4000000
/-! The same by keyword. -/
namespace SqX
open PySem PySem.W PySem.Calls PySem.HandSPX
section
variable {M : Model} {prog : Program} {w : World} {A : Around} {E : Value → Shared → Prop} {R : Result → Shared → Prop} {h : Heap} {g : Array GenState} {d : Drawn} {t : Nat} {os : OsState}
variable {nm qn : Str} {C N : Addr} {bs bm : List Value} {sn : List Str} {sub : List Value} {ab : Bool} {col : Option Bool} {dd : Option Addr} {k0 k1 k2 k3 k5 : Option Value} {v : Value}
abbrev VC (nm qn : Str) (C N : Addr) (bs bm : List Value) (sn : List Str) (sub : List Value) (ab : Bool) (col : Option Bool) (dd : Option Addr) (k0 k1 k2 k3 k5 : Option Value) : Obj := excClassObj nm qn C N bs bm true sn sub ab col dd k0 k1 k2 k3 k5 "ValueError.__new__"
theorem newCheckK (refs : refsVE bm = true) {Q : Unit → Shared → Prop} (atC : h.get? C = some (VC nm qn C N bs bm sn sub ab col dd k0 k1 k2 k3 k5)) (fin : Q () ⟨h, g, d, t, os⟩) :
    wpAny M A (checkBuiltinCall "ValueError.__new__" ⟨[.ref C], [("value", v)]⟩) Q E ⟨h, g, d, t, os⟩ := by
  have F := F.excBase_ValueError
  have has : (Value.ref C :: bm).contains (.type "ValueError") = true := by
    rw [List.contains_cons, refsVE_contains _ _ refs, F.hasB, Bool.or_true]
  have star := F.noStar
  simp only [checkBuiltinCall, F.newKind, F.newSplit, F.newRow]
  repeat (first
    | refine wpAny_loadPart_at atC ?_
    | (refine wpAny_isSubtype_exc atC ?_; rw [has])
    | refine wpAny_staticBase_exc atC ?_
    | refine wpAny_madeBy_exc atC ?_
    | simp only [bne_self_eq_false, Bool.false_eq_true, if_false]
    | wp_step)
  exact fin
theorem newK (refs : refsVE bm = true) (atC : h.get? C = some (VC nm qn C N bs bm sn sub ab col dd k0 k1 k2 k3 k5))
    (fin : R (.ok (.ret (.ref (h.objs.size + 1)))) ⟨(h.push (kdv_tup [])).push (excO C h.objs.size), g, d, t, os⟩) :
    codeAny (model prog w) A (.builtin "ValueError.__new__" ⟨[.ref C], [("value", v)]⟩) R ⟨h, g, d, t, os⟩ := by
  have F := F.excBase_ValueError
  have ends := F.ends
  have has : ∀ Y : String, (Value.ref C :: bm).contains (.type Y) = veTail.contains (.type Y) := fun Y => by
    rw [List.contains_cons, refsVE_contains _ _ refs]
    rfl
  have yB : (Value.ref C :: bm).contains (.type "ValueError") = true := (has _).trans (by decide +kernel)
  have nA : (Value.ref C :: bm).contains (.type "AttributeError") = false := (has _).trans (by decide +kernel)
  have nN : (Value.ref C :: bm).contains (.type "NameError") = false := (has _).trans (by decide +kernel)
  refine codeAny_builtinAt F.entry ?_
  unfold Builtin.«BaseException.__new__»
  refine wpAt_bind ?_
  show wpAt _ _ _ (stack >>= _) _ _ _
  refine wpAt_bind (wpAt_stack fun p below => wpAt_of_wpAny ?_)
  wp_walk
  refine wpAt_of_wpAny ?_
  rw [F.owner]
  repeat (first
    | with_reducible refine wpAny_madeHere_exc F.canon atC ?_
    | with_reducible refine wpAny_loadPart_at atC ?_
    | (with_reducible refine wpAny_isSubtype_exc atC ?_; first | rw [yB] | rw [nA] | rw [nN])
    | wp_step)
  show R _ _
  rw [Heap.size_push]
  exact fin
theorem typeCheckK {Q : Unit → Shared → Prop} (atC : h.get? C = some (VC nm qn C N bs bm sn sub ab col dd k0 k1 k2 k3 k5)) (fin : Q () ⟨h, g, d, t, os⟩) :
    wpAny M A (checkBuiltinCall "type.__call__" ⟨[.ref C], [("value", v)]⟩) Q E ⟨h, g, d, t, os⟩ := by
  have f3 := tc_sub
  have isT : (⟨h, g, d, t, os⟩ : Shared).TypeIs (.ref C) "type" := ⟨_, atC, rfl⟩
  simp only [checkBuiltinCall, tc_kind, tc_split]
  repeat (any_goals (first
    | assumption
    | with_reducible refine wpAny_loadPart_at atC ?_
    | with_reducible refine wpAny_onRaise ?_
    | with_reducible refine wpAny_map ?_
    | wp_step))
theorem typeCallK (refs : refsVE bm = true) {fI : Addr} {Q : Fin → Shared → Prop} (atC : h.get? C = some (VC nm qn C N bs bm sn sub ab col dd k0 k1 k2 k3 k5))
    (lookI : W.Looks (model prog w) h (typeLookup (.ref C) "__init__") (some (.ref fI))) (bindI : ∀ self, W.Looks (model prog w) h (bindSpecial (.ref fI) self) (.ref fI, [self]))
    (fin : codeAny (model prog w) A (.call (.ref fI) ⟨[.ref (h.objs.size + 1)], [("value", v)]⟩)
      (fun r s' => match r with | .ok (.ret u) => u = .none ∧ Q (.done (.ret (.ref (h.objs.size + 1)))) s' | .ok _ => False | .error e => E e s')
      ⟨(h.push (kdv_tup [])).push (excO C h.objs.size), g, d, t, os⟩) :
    wpAny (model prog w) A (Builtin.«type.__call__» ⟨[.ref C], [("value", v)]⟩) Q E ⟨h, g, d, t, os⟩ := by
  have F := F.excBase_ValueError
  repeat (first
    | with_reducible refine wpAny_loadPart_at atC ?_
    | with_reducible refine wpAny_madeBy_exc atC ?_
    | wp_step)
  refine codeAny_call_builtin_code (Code.quiet_builtin _ F.quiet) (newCheckK refs atC ?_)
  refine newK refs atC ?_
  show wpAny _ _ _ _ _ _
  have kp : ∀ b o, h.get? b = some o → ((h.push (kdv_tup [])).push (excO C h.objs.size)).get? b = some o := fun b o e => Heap.get?_push_of_some _ (Heap.get?_push_of_some _ e)
  have atC1 := kp _ _ atC
  have atE : ((h.push (kdv_tup [])).push (excO C h.objs.size)).get? (h.objs.size + 1) = some (excO C h.objs.size) := by heap_get
  have own : (Value.ref C :: bm).contains (.ref C) = true := by simp
  have look1 := lookI.keeps kp
  have bind1 := (bindI (.ref (h.objs.size + 1))).keeps kp
  unfold isInstance
  repeat (first
    | with_reducible refine wpAny_loadPart_at atE ?_
    | (with_reducible refine wpAny_isSubtype_exc atC1 ?_; rw [own])
    | wp_step)
  show wpAny _ _ (typeLookup (.ref C) _) _ _ _
  refine look1.at ?_
  refine wpAny_holding (wpAny_bind (bind1.at ?_))
  refine wpAny_bind (wpAny_call (codeAny_mono fin fun r s' z => ?_))
  match r, z with
  | .error e, z => exact z
  | .ok (.ret u), z =>
    obtain ⟨rfl, z⟩ := z
    first
      | exact wpAny_pure (wpAny_pure z)
      | (wp_walk; exact z)
theorem callK (refs : refsVE bm = true) {fI : Addr} (atC : h.get? C = some (VC nm qn C N bs bm sn sub ab col dd k0 k1 k2 k3 k5))
    (lookI : W.Looks (model prog w) h (typeLookup (.ref C) "__init__") (some (.ref fI))) (bindI : ∀ self, W.Looks (model prog w) h (bindSpecial (.ref fI) self) (.ref fI, [self]))
    (fin : codeAny (model prog w) (A.under (.builtin "type.__call__" ⟨[.ref C], [("value", v)]⟩)) (.call (.ref fI) ⟨[.ref (h.objs.size + 1)], [("value", v)]⟩) (W.InitBack (h.objs.size + 1) R)
      ⟨(h.push (kdv_tup [])).push (excO C h.objs.size), g, d, t, os⟩) :
    codeAny (model prog w) A (.call (.ref C) ⟨[], [("value", v)]⟩) R ⟨h, g, d, t, os⟩ := by
  have f1 := tc_lookup
  have f2 := tc_bind (.ref C)
  have isT : (⟨h, g, d, t, os⟩ : Shared).TypeIs (.ref C) "type" := ⟨_, atC, rfl⟩
  refine codeAny_of_tree ?_
  show wpAny _ _ (callAny (.ref C) _) _ _ _
  repeat (any_goals (first
    | assumption
    | with_reducible refine wpAny_loadPart_at atC ?_
    | wp_step))
  refine ⟨rfl, ?_⟩
  refine codeAny_call_builtin_at (Code.quiet_builtin _ (by decide +kernel)) entry_typeCall (typeCheckK atC (typeCallK refs atC lookI bindI ?_))
  refine codeAny_mono fin fun r s' z => ?_
  match r, z with
  | .error e, z => exact z
  | .ok (.ret u), z => exact z
end
section
variable {prog : Program} {w : World} {A : Around} {R : Result → Shared → Prop} {K : Frag} {mg mb : Str → Option Value} {C fI : Addr} {q : Str}
theorem madeK {s : Shared} (T : Er K prog C fI q) {v : Value} (X : K.In s.heap) (hg : s.heap.Ns mainGlobals mg) (hlim : s.heap.NoLimit) (hb : s.heap.Ns builtinsNs mb) (boot : ∀ y : Str, y ≠ "__name__" → mb y = bootBuiltins y)
    (hroom : A.depth + 1 < recursionLimit)
    (fin : ∀ h' tk e d t1, New s.heap h' e C d t1 v → R (.ok (.ret (.ref e))) { s with heap := h', toks := tk }) :
    codeAny (model prog w) A (.call (.ref C) ⟨[], [("value", v)]⟩) R s := by
  obtain ⟨nm, qn, N, bs, bm, sn, sub, ab, col, dd, k0, k1, k2, k3, k5, hC, hbm⟩ := T.cls
  obtain ⟨hp, g, dr, tk, os⟩ := s
  have k : ∀ b o, hp.get? b = some o → ((hp.push (kdv_tup [])).push (excO C hp.objs.size)).get? b = some o := fun b o e => Heap.get?_push_of_some _ (Heap.get?_push_of_some _ e)
  have atE : ((hp.push (kdv_tup [])).push (excO C hp.objs.size)).get? (hp.objs.size + 1) = some (excO C hp.objs.size) := by heap_get
  have off : K.lookup (hp.objs.size + 1) = none := by
    cases e : K.lookup (hp.objs.size + 1) with
    | none => rfl
    | some o => exact absurd (Nat.lt_of_succ_lt (Heap.lt_size (X _ _ e))) (Nat.lt_irrefl _)
  refine callK hbm (X _ _ hC) (looks_findIn X T.iC) (fun self => bind_fn X self T.tC) ?_
  refine init (s := ⟨(hp.push (kdv_tup [])).push (excO C hp.objs.size), g, dr, tk, os⟩) T (X.keeps k) (hg.keeps k) (hlim.keeps k) (hb.keeps k) boot atE off (show A.depth + 1 < recursionLimit from hroom) bindK ?_
  rintro h' tk' dx t1 ⟨kp, ob, dn, dne, ns⟩
  have old : ∀ b o, hp.get? b = some o → h'.get? b = some o := fun b o e => kp b o (Nat.ne_of_lt (Nat.lt_succ_of_lt (Heap.lt_size e))) (k b o e)
  have z : hp.objs.size + 1 + 1 ≤ dx := by
    first
      | (simpa only [Heap.size_push] using dn)
      | exact dn
      | (have y := dn; rw [Heap.size_push, Heap.size_push] at y; exact y)
  exact ⟨rfl, fin h' tk' (hp.objs.size + 1) dx t1 ⟨old, Nat.le_succ _, ob, Nat.le_trans (Nat.le_trans (Nat.le_succ _) (Nat.le_succ _)) z, dne, ns⟩⟩
end
end SqX

set_option Elab.async false
set_option linter.all false
set_option maxRecDepth 100000
set_option maxHeartbeats 2000000
/-! Own errors as values of the layer: made by position and by name, isinstance of them, their value. -/
namespace Sq
open PySem PySem.Spec PyProof.Rows L2
/-- an error of the class at C stands at a, its dict at d; it holds v -/
def ErrAt (H : Hp) (a d C : Addr) (v : V) : Prop := H a = some (exo a C (some d)) ∧ H d = some (exd d [(("value" : Str), v)])
theorem ErrAt.same {H H' : Hp} {a d C : Addr} {v : V} (s : Same H H') (e : ErrAt H a d C v) : ErrAt H' a d C v := ⟨s _ _ e.1, s _ _ e.2⟩
def tErr (C : Addr) (te : TE) : TE := fun σ H Q => te σ H fun v H1 => ∀ a d, H1 a = none → H1 d = none → d ≠ a → Q (.ref a) (upd (upd H1 d (exd d [(("value" : Str), v)])) a (exo a C (some d)))
section
variable {X : Cx} {C fI : Addr} {q : Str} {pins : List (Addr × Obj)} {σ : L2.St} {H : Hp} {s : Shared} {Q : VK}
/-- a made error comes into the layer's heap -/
theorem err_laid {h' : Heap} {e d t1 : Addr} {v : V} {u : Value} {tk : Nat} (I : Inv X pins σ H s) (r : RelV v u) (M : SqX.New s.heap h' e C d t1 u)
    (h : ∀ a d, H a = none → H d = none → d ≠ a → Q (.ref a) (upd (upd H d (exd d [(("value" : Str), v)])) a (exo a C (some d)))) : EP X pins σ Q (.ref e) { s with heap := h', toks := tk } := by
  have he : H e = none := I.hok.fresh M.big
  have hd : H d = none := I.hok.fresh M.dbig
  obtain ⟨G, g1, g2⟩ := restrict h' fun b => decide (b ≠ e)
  have gk : ∀ b, b ≠ e → G.get? b = h'.get? b := fun b hb => g1 b (decide_eq_true hb)
  have ge : G.get? e = none := g2 e (by simp)
  have old : ∀ b o, s.heap.get? b = some o → G.get? b = some o := fun b o z => (gk b (Nat.ne_of_lt (Nat.lt_of_lt_of_le (Heap.lt_size z) M.big))).trans (M.keep b o z)
  have up : ∀ b o, G.get? b = some o → h'.get? b = some o := fun b o z => by
    by_cases hb : b = e
    · rw [hb, ge] at z
      cases z
    · rw [← gk b hb]
      exact z
  have rel : ∀ f, RelO (List.lookup f [(("value" : Str), v)]) (if f = "value" then some u else none) := relO_put (fs := []) (mA := fun _ => none) r fun g => True.intro
  have nsG : G.Ns1 d (fun y => if y = "value" then some u else none) := M.ns.at fun o z => (gk d M.dne).trans z
  have J : Inv X pins σ (upd H d (exd d [(("value" : Str), v)])) { s with heap := G, toks := tk } := I.laid (t' := tk) old M.dbig (exd_ok nsG rel)
  have he2 : (upd H d (exd d [(("value" : Str), v)])) e = none := by rw [upd_ne (Ne.symm M.dne)]; exact he
  have J2 : Inv X pins σ (upd (upd H d (exd d [(("value" : Str), v)])) e (exo e C (some d))) { s with heap := h', toks := tk } := J.laidN (t' := tk) up ge he2 (exo_ok M.obj)
  exact ⟨.ref e, _, J2, rfl, h e d he hd M.dne⟩
/-- X(e) -/
theorem pe_err {e : Expr} {te : TE} {x : Str} {p pos : Pos} {k : Nat} (T : SqX.Er X.K X.prog C fI q) (gC : X.mg x = some (.ref C)) (hr : Room k X.A) (hg : Gl X x) (he : PE X e te)
    (hs : starEach [e] X.env = (false, eval e X.env) :: starEach [] X.env := by rfl) (hdb : (x == ("__debug__" : Str)) = false := by decide) : PE X (.Call (.Name x p) [e] [] pos) (tErr C te) := by
  refine ⟨fun pins s σ H Q I h => ?_⟩
  refine wpAny_Call_Name_kw (ld_glob I hg gC ?_ hdb)
  refine PySem.W.callWith_K (h₀ := X.base) I.ok.mod.kin T.kC ?_ hs (by rfl)
  rw [hs]
  show wpAny _ _ (spliced ((false, eval e X.env) :: backTo pos (starEach [] X.env))) _ _ s
  refine Calls.spliced_cons (thn (he.run pins s σ H _ I h) fun u s1 hh => ?_)
  obtain ⟨v, H1, I1, r1, q1⟩ := hh
  refine Calls.spliced_nil ⟨I1.kIn, ?_⟩
  show wpAny _ _ (call (.ref C) [u]) _ _ _
  obtain ⟨mb, hb, boot⟩ := I1.ok.mod.blt
  exact wpAny_call (SqX.made T I1.kIn (I1.ok.mod.glob.keeps I1.bk) I1.nolimit (hb.keeps I1.bk) boot (by have := hr.dp; omega) fun h' tk e d t1 M => err_laid I1 r1 M q1)
/-- X(value=e) -/
theorem pe_errK {e : Expr} {te : TE} {x : Str} {p pos kp : Pos} {k : Nat} (T : SqX.Er X.K X.prog C fI q) (gC : X.mg x = some (.ref C)) (hr : Room k X.A) (hg : Gl X x) (he : PE X e te) (hdb : (x == ("__debug__" : Str)) = false := by decide)
    (hpl : ((backTo pos (starEach [] X.env)).any (·.1) || (backToKw pos (keywordEach [⟨some "value", e, kp⟩] X.env)).any (·.1.isNone)) = false := by rfl) : PE X (.Call (.Name x p) [] [⟨some "value", e, kp⟩] pos) (tErr C te) := by
  refine ⟨fun pins s σ H Q I h => ?_⟩
  refine wpAny_Call_Name_kw (ld_glob I hg gC ?_ hdb)
  refine PySem.W.callWith_KW0 (h₀ := X.base) I.ok.mod.kin T.kC (by rfl) ?_ hpl
  refine thn ((pk_cons he pk_nil).run pos pins s σ H (fun zs H' => match zs with | [v] => ∀ a d, H' a = none → H' d = none → d ≠ a → Q (.ref a) (upd (upd H' d (exd d [(("value" : Str), v)])) a (exo a C (some d))) | _ => False) I ?_) ?_
  · exact h
  · rintro ws s2 ⟨zs, H2, I2, rz, q2⟩
    obtain ⟨v, rfl, q2⟩ : ∃ v, zs = [v] ∧ ∀ a d, H2 a = none → H2 d = none → d ≠ a → Q (.ref a) (upd (upd H2 d (exd d [(("value" : Str), v)])) a (exo a C (some d))) := by
      match zs, q2 with
      | [v], q2 => exact ⟨v, rfl, q2⟩
    refine ⟨I2.kIn, ?_⟩
    cases rz with
    | cons r1 rn =>
      cases rn
      rename_i u
      obtain ⟨mb, hb, boot⟩ := I2.ok.mod.blt
      show wpAny _ _ (call (.ref C) [] [(("value" : Str), u)]) _ _ _
      exact wpAny_call (SqX.madeK T I2.kIn (I2.ok.mod.glob.keeps I2.bk) I2.nolimit (hb.keeps I2.bk) boot (by have := hr.dp; omega) fun h' tk e d t1 M => err_laid I2 r1 M q2)
end
end Sq

set_option Elab.async false
set_option linter.all false
set_option maxRecDepth 100000
set_option maxHeartbeats 2000000
namespace SqX
open PySem PySem.W PySem.Spec PySem.Calls
section
variable {prog : Program} {w : World} {A : Around} {E : Value → Shared → Prop} {s : Shared} {K : Frag} {x D : Addr} {ox : Obj} {od : Option Obj}
/-- err.__class__, whatever the error's own dict holds -/
theorem classOf (T : L2.ExcC K D) (X : K.In s.heap) (I : InstAt s.heap x ox D od) {Q : Option Value → Shared → Prop} (fin : Q (some (.ref D)) { s with toks := s.toks + 1 }) :
    wpAny (model prog w) A (getAttr? (.ref x) "__class__") Q E s := by
  have found : findObj K D od "__class__" = some (.bind (.builtin "getset_descriptor.__get__") (.builtin "object.__class__")) := by
    obtain ⟨cd, hc, _⟩ := any_some T.hd
    unfold findObj
    rw [hc, Option.bind_some, T.ha, Option.bind_some]
    simp [T.hn, T.ht]
  obtain ⟨hp, g, d, t, os⟩ := s
  have ty := I.type (M := model prog w)
  have hookA := looks_findIn (M := model prog w) X T.hg
  have hookB := looks_findIn (M := model prog w) X T.hk
  have look := looks_find (M := model prog w) X I found
  have isB : Looks (model prog w) hp (isInstance (.ref x) (.type "BaseException")) true := ty.andThen (looks_subIn X T.hs)
  have differ : (Value.builtin "BaseException.__getattribute__" == Value.builtin "object.__getattribute__") = false := by decide +kernel
  have off : (onTheHeap (Value.ref D) && Value.builtin "BaseException.__getattribute__" == Value.builtin "object.__getattribute__") = false := by
    rw [differ]
    rfl
  unfold getAttr? getAttrBy? getAttrBy
  refine wpAny_bind (wpAny_mkText (wpAny_bind (wpAny_attempt (wpAny_holding (wpAny_bind (ty.at (wpAny_bind (hookA.at ?_))))))))
  show wpAny _ _ (if (onTheHeap (Value.ref D) && Value.builtin "BaseException.__getattribute__" == Value.builtin "object.__getattribute__") = true then _ else _) _ _ _
  rw [off, if_neg Bool.false_ne_true]
  unfold getAttrByItsOwn hookBefore
  refine wpAny_bind ?_
  rw [if_pos (show onTheHeap (Value.ref D) = true from rfl)]
  refine hookB.at ?_
  refine wpAny_bind (wpAny_attempt (wpAny_holding ?_))
  unfold callGetattribute
  rw [show (false && onTheHeap (Value.builtin "BaseException.__getattribute__")) = false from rfl, if_neg Bool.false_ne_true]
  unfold boundAndCalled
  rw [PySem.F.excAttr_ValueError.ga.bind (.ref x)]
  refine wpAny_bind (wpAny_pure ?_)
  show wpAny _ _ (call (.builtin "BaseException.__getattribute__") [.ref x, .str "__class__" t]) _ _ _
  refine wpAny_call (codeAny_call_builtin PySem.F.excAttr_ValueError.ga.plain PySem.F.entry_bexc_ga ?_)
  refine @check_slot (model prog w) _ _ ⟨hp, g, d, t + 1, os⟩ "BaseException.__getattribute__" "BaseException" "__getattribute__" (.ref x) [.str "__class__" t] [] _ (by decide +kernel) (by decide +kernel) isB (PySem.F.args_bexc_ga (.ref x) (.str "__class__" t)) ?_
  unfold Builtin.«object.__getattribute__»
  refine wpAny_bind (wpAny_of_eq (a := ((Value.ref x : Value), [Value.str "__class__" t])) (by first | rfl | (simp only [slotArgs]; rfl)) ?_)
  refine wpAny_bind (wpAny_pure (wpAny_bind (ty.at (wpAny_bind (look.at ?_)))))
  show wpAny _ _ (holding [Value.builtin "object.__class__"] (call (.builtin "getset_descriptor.__get__") [.builtin "object.__class__", .ref x, .ref D]) >>= ret) _ _ _
  refine wpAny_bind (wpAny_holding (wpAny_call (class_get (s := ⟨hp, g, d, t + 1, os⟩) (ox := ox) (od := od) X I T.hm ?_)))
  refine wpAny_pure ?_
  show wpAny _ _ (handedOut (.ref D)) _ _ _
  rw [handedOut_of (v := .ref D) rfl]
  first
    | exact wpAny_pure (wpAny_pure fin)
    | exact wpAny_pure fin
    | exact wpAny_pure (wpAny_bind (wpAny_pure (wpAny_pure fin)))
theorem kit (T : L2.ExcC K D) : KitX K (.ref x) (.ref D) (fun h => InstAt h x ox D od) where
  ty := fun _ _ _ I => I.type
  it := fun _ _ X _ => by
    obtain ⟨cdD, found, _⟩ := any_some T.hd
    unfold clsIn at found
    split at found
    · rename_i c' d' cd' sl' there
      intro A' Q' E' s' keep q
      unfold isType loadHead
      exact wpAny_bind (wpAny_loadPart (keep _ _ (X _ _ there)) (wpAny_pure q))
    · cases found
  ne := fun h tp dd its n sl X tup => by
    obtain ⟨cdD, found, _⟩ := any_some T.hd
    refine Bool.eq_false_iff.mpr fun q => ?_
    obtain rfl : D = tp := Value.ref.inj (beq_iff_eq.mp q)
    unfold clsIn at found
    split at found
    · rename_i c' d' cd' sl' there
      cases (X _ _ there).symm.trans tup
    · cases found
  ca := fun X I fin => classOf T X I fin
end
end SqX
namespace Sq
open PySem PySem.Spec PyProof.Rows L2
theorem kit_own {K : PySem.W.Frag} {C D : Addr} {b : Bool} (h1 : PySem.W.isClsIn K D = true) (h2 : PySem.W.typeIn K (.ref D) = some (.type "type")) (h3 : PySem.W.subIn K (.ref C) (.ref D) = some b) (h4 : C = D → b = true) : PySem.W.kitOne K (.ref C) (.ref D) = some b := by
  unfold PySem.W.kitOne
  by_cases e : C = D
  · subst e
    rw [if_pos (by simp), h4 rfl]
  · rw [if_neg (by simpa using e)]
    show (if ((PySem.W.clsIn K D).isSome && PySem.W.typeIn K (.ref D) == some (.type "type")) = true then PySem.W.subIn K (.ref C) (.ref D) else none) = some b
    have h1' : (PySem.W.clsIn K D).isSome = true := h1
    rw [h1', h2, if_pos (by rfl)]
    exact h3
theorem kit_base {K : PySem.W.Frag} {C : Addr} {T : String} {b : Bool} (h1 : PySem.W.kitMeta T = true) (h3 : PySem.W.subIn K (.ref C) (.type T) = some b) : PySem.W.kitOne K (.ref C) (.type T) = some b := by
  unfold PySem.W.kitOne
  rw [if_neg (by simp)]
  show (if PySem.W.kitMeta T = true then PySem.W.subIn K (.ref C) (.type T) else none) = some b
  rw [if_pos h1]
  exact h3
def rIsiE (K : PySem.W.Frag) : List V → Hp → VK → Prop := fun xs H Q => ∃ (a d C : Addr) (v c : V) (u : Value) (b : Bool), xs = [.ref a, c] ∧ ClsV c u ∧ ErrAt H a d C v ∧ ExcC K C ∧ PySem.W.kitOne K (.ref C) u = some b ∧ Q (.bl b) H
section
variable {X : Cx}
theorem call_isiE : CallR X (.builtin "isinstance") (rIsiE X.K) := by
  intro pins s σ H xs us Q I r h
  obtain ⟨a, d, C, v, c, u, b, rfl, k, at_, T, e, q⟩ := h
  obtain ⟨u1, u2, rfl, r1, r2⟩ := vals2 r
  obtain rfl := k.eq r2
  obtain rfl : u1 = Value.ref a := r1
  obtain ⟨t1, ho⟩ := exo_at I.hok at_.1
  obtain ⟨mA, hns, _⟩ := exd_at I.hok at_.2
  obtain ⟨od, hod, _⟩ := lookIn_ns hns
  have J : PySem.W.InstAt s.heap a _ C (some od) := ⟨ho, rfl, rfl, hod⟩
  exact PySem.W.kia_one (SqX.kit (ox := _) (od := some od) T) I.kIn J e (fun z => nomatch z) fun tk => ⟨.bl b, H, I.tok tk, rfl, q⟩
/-- error.value -/
def tErrV (K : PySem.W.Frag) (te : TE) : TE := fun σ H Q => te σ H fun x H1 => ∃ (a d C : Addr) (v : V), x = .ref a ∧ ErrAt H1 a d C v ∧ XfC K C ∧ PySem.W.findIn K (.ref C) "value" = some none ∧ Q v H1
theorem pe_errV {e : Expr} {te : TE} {pos : Pos} (he : PE X e te) (hb : attributeBase e "value" X.env (eval e X.env) = eval e X.env := by rfl) : PE X (.Attribute e "value" pos) (tErrV X.K te) := by
  refine ⟨fun pins s σ H Q I h => ?_⟩
  refine attr_of hb (thn (he.run pins s σ H _ I h) fun u s1 hh => ?_)
  obtain ⟨x, H1, I1, rx, a, d, C, v, ex, at_, T, hno, q⟩ := hh
  subst ex
  obtain rfl : u = Value.ref a := rx
  obtain ⟨t1, ho⟩ := exo_at I1.hok at_.1
  obtain ⟨mA, hns, hr⟩ := exd_at I1.hok at_.2
  obtain ⟨od, hod, hl⟩ := lookIn_ns hns
  have l : List.lookup ("value" : Str) [(("value" : Str), v)] = some v := by simp [List.lookup]
  obtain ⟨u, hu, ru⟩ := RelO.some_of (v := v) (o := mA "value") (by rw [← l]; exact hr "value")
  have J : PySem.W.InstAt s1.heap a _ C (some od) := ⟨ho, rfl, rfl, hod⟩
  exact HandSPX.exc_get I1.kIn J T.ga T.gg T.exC (PySem.W.findObj_own T.hdC hno rfl (by rw [hl, hu])) (handed_of ru) ⟨v, H1, I1.tok _, ru, q⟩
end
end Sq

set_option Elab.async false
set_option linter.all false
set_option maxRecDepth 100000
set_option maxHeartbeats 2000000
/-! Own errors raised; a caught one kept behind its suite. -/
namespace Sq
open PySem PySem.Spec PyProof.Rows L2
/-- an error that was raised: its class and its dict are known -/
def exq (a C : Addr) (d : Option Addr) : HO := .ext fun h => ∃ (oe : Obj) (vs : Array Value), h.get? a = some oe ∧ Zc (.ref C) d oe ∧ oe.data = .fields vs
theorem exq_ok {P : Program} {w : World} {H : Hp} {h : Heap} {a C : Addr} {d : Option Addr} {oe : Obj} {vs : Array Value} (e : h.get? a = some oe) (z : Zc (.ref C) d oe) (hd : oe.data = .fields vs) : ObjOk P w H h a (exq a C d) :=
  ⟨⟨oe, vs, e, z, hd⟩, ⟨oe, e⟩, fun _ _ ⟨o, v, q, r⟩ k => ⟨o, v, k o q, r⟩⟩
theorem exq_at {P : Program} {w : World} {H : Hp} {h : Heap} {a C : Addr} {d : Option Addr} (hok : HOk P w H h) (e : H a = some (exq a C d)) : ∃ (oe : Obj) (vs : Array Value), h.get? a = some oe ∧ Zc (.ref C) d oe ∧ oe.data = .fields vs := by
  have x : ObjOk P w H h a (.ext fun h => ∃ (oe : Obj) (vs : Array Value), h.get? a = some oe ∧ Zc (.ref C) d oe ∧ oe.data = .fields vs) := hok a _ e
  exact x.1
section
variable {X : Cx} {pins : List (Addr × Obj)} {σ : L2.St} {H : Hp} {s : Shared}
/-- an object that came into being since the entry is tracked from now on -/
theorem tracked {a C : Addr} {d : Option Addr} {oe : Obj} {vs : Array Value} (I : Inv X pins σ H s) (na : H a = none) (n0 : X.s_0.heap.get? a = none) (e : s.heap.get? a = some oe) (z : Zc (.ref C) d oe) (hd : oe.data = .fields vs)
    (hp : ∀ p ∈ X.pn ++ pins, p.1 ≠ a) (nL : a ≠ X.env.locals) : Inv X pins σ (upd H a (exq a C d)) s := by
  refine ⟨I.ok, I.os, I.bare, ⟨I.base.keep, I.base.slot, fun b o q n hx => ?_, I.base.there, fun b xs q => ?_, fun b o xs q => ?_, fun b ps q => ?_⟩, I.loc, I.cell, ?_, fun x c q => ?_, fun p q => ?_, fun b u q => ?_, I.len⟩
  · rw [upd_ne (fun z => by rw [z, n0] at q; cases q)]
    exact I.base.free b o q n hx
  · have y := I.base.tups b xs q
    rw [upd_ne (ne_of_none y na)]
    exact y
  · have y := I.base.frzs b o xs q
    rw [upd_ne (ne_of_none y na)]
    exact y
  · obtain ⟨m, y⟩ := I.base.tbls b ps q
    exact ⟨m, by rw [upd_ne (ne_of_none y na)]; exact y⟩
  · rw [upd_ne (Ne.symm nL)]
    exact I.free
  · obtain ⟨v, o, ho, hv⟩ := I.cell x c q
    have ne : c ≠ a := fun z => by
      rw [z, e] at ho
      cases ho
      rw [hd] at hv
      cases hv
    rw [upd_ne ne]
    exact I.freeC x c q
  · obtain ⟨y1, y2, y3, y4, y5⟩ := I.pin p q
    exact ⟨y1, by rw [upd_ne (hp p q)]; exact y2, y3, y4, y5⟩
  · by_cases hb : b = a
    · subst hb
      rw [upd_same] at q
      cases q
      exact exq_ok e z hd
    · rw [upd_ne hb] at q
      exact (I.hok b u q).stay (fun _ _ _ y => y) (fun c y => by rw [upd_ne (ne_of_none y na)]; exact y) fun c xs y => by rw [upd_ne (ne_of_none y na)]; exact y
/-- the name of an except clause goes; all but the frame's own record stands -/
theorem gone_stays {M : Model} {A : Around} {E : Value → Shared → Prop} {i : Nat} {n : Str} {pos : Pos} {Q : Unit → Shared → Prop} (I : Inv X pins σ H s) (hN : X.N.Nodup) (hi : X.N[i]? = some n) (hl : X.env.kindOf n = some .local)
    (h : ∀ s', Inv X pins (σ.set i none) H s' → (∀ b o, b ≠ X.env.locals → s.heap.get? b = some o → s'.heap.get? b = some o) → Q () s') : wpAny M A (do bindName X.env n .none; unbindBehindTheSuite X.env n pos) Q E s := by
  obtain ⟨spaces, there, held⟩ := id I.loc
  have plain : (X.env.scope.kind == .class || (X.env.scope.kind == .module && X.env.locals != X.env.globals)) = false := by
    rw [I.ok.kind]
    rfl
  have older : ∀ b o, X.s_0.heap.get? b = some o → b ≠ X.env.locals := fun b o e => Nat.ne_of_lt (Nat.lt_of_lt_of_le (Heap.lt_size e) I.ok.above)
  refine wpAny_nameGoes_keeps hl there plain fun h2 v there2 but => h _ ?_ fun b o nb e => (but.2 b nb).trans e
  have base2 : Un X.fs X.ex X.H_0 H X.s_0.heap h2 := {
    keep := fun b o e n hb hx => (but.2 b (older b o e)).trans (I.base.keep b o e n hb hx)
    slot := fun b o e n hb hx => let ⟨sl, y⟩ := I.base.slot b o e n hb hx; ⟨sl, (but.2 b (older b o e)).trans y⟩
    free := I.base.free
    there := fun b o e hx => let ⟨o', y⟩ := I.base.there b o e hx; ⟨o', (but.2 b (older b o e)).trans y⟩
    tups := I.base.tups
    frzs := I.base.frzs
    tbls := I.base.tbls }
  have cells2 : ∀ y c, X.env.cells.lookup y = some c → ∃ w', h2.IsCell c w' := fun y c e => let ⟨w', z⟩ := I.cell y c e; ⟨w', z.sameBut but (I.cne y c e)⟩
  refine ⟨I.ok, I.os, I.bare, base2, ⟨_, there2, fun j y v' at_ val vis => ?_⟩, cells2, I.free, I.freeC, fun q hq => ?_, fun b ob eb => ?_, by simpa using I.len⟩
  · by_cases same : j = i
    · exfalso
      subst same
      rw [List.getElem?_set] at val
      split at val
      · split at val <;> cases val
      · rename_i z
        exact z rfl
    · rw [List.getElem?_set_ne (Ne.symm same)] at val
      obtain ⟨u', rel, place⟩ := held j y v' at_ val vis
      refine ⟨u', rel, place.elim (fun ⟨k, e⟩ => .inl ⟨k, ?_⟩) fun ⟨k, c, e, z⟩ => .inr ⟨k, c, e, z.sameBut but (I.cne y c e)⟩⟩
      have other : y ≠ n := fun e => same (nodup_ix hN at_ (e ▸ hi))
      exact (if_neg other).trans e
  · obtain ⟨y1, y2, y3, y4, y5⟩ := I.pin q hq
    exact ⟨(but.2 q.1 y3).trans y1, y2, y3, y4, y5⟩
  · refine (I.hok b ob eb).stay (fun c w' hc z => (but.2 c fun isL => ?_).trans z) (fun _ z => z) fun _ _ z => z
    subst isL
    rcases hc with hc | hc
    · rw [← hc, I.free] at eb
      cases eb
    · rw [I.free] at hc
      cases hc
/-- raise X(e): what is made -/
theorem pmk_er {C fI : Addr} {q : Str} {e : Expr} {te : TE} {x : Str} {p pos : Pos} {k : Nat} (T : SqX.Er X.K X.prog C fI q) (gC : X.mg x = some (.ref C)) (hr : Room k X.A) (hg : Gl X x) (he : PE X e te)
    (hs : starEach [e] X.env = (false, eval e X.env) :: starEach [] X.env := by rfl) (hdb : (x == ("__debug__" : Str)) = false := by decide) :
    PMk X (.Call (.Name x p) [e] [] pos) (fun σ H Q => te σ H fun v H1 => ∀ d, H1 d = none → Q (.ref C) (some d) (upd H1 d (exd d [(("value" : Str), v)]))) := by
  intro pins s σ H Q I h
  refine wpAny_Call_Name_kw (ld_glob I hg gC ?_ hdb)
  refine PySem.W.callWith_K (h₀ := X.base) I.ok.mod.kin T.kC ?_ hs (by rfl)
  rw [hs]
  show wpAny _ _ (spliced ((false, eval e X.env) :: backTo pos (starEach [] X.env))) _ _ s
  refine Calls.spliced_cons (thn (he.run pins s σ H _ I h) fun u s1 hh => ?_)
  obtain ⟨v, H1, I1, r1, q1⟩ := hh
  refine Calls.spliced_nil ⟨I1.kIn, ?_⟩
  show wpAny _ _ (call (.ref C) [u]) _ _ _
  obtain ⟨mb, hb, boot⟩ := I1.ok.mod.blt
  refine wpAny_call (SqX.made T I1.kIn (I1.ok.mod.glob.keeps I1.bk) I1.nolimit (hb.keeps I1.bk) boot (by have := hr.dp; omega) fun h' tk a d t1 M => ?_)
  have na : H1 a = none := I1.hok.fresh M.big
  have nd : H1 d = none := I1.hok.fresh M.dbig
  obtain ⟨G, g1, g2⟩ := restrict h' fun b => decide (b ≠ a)
  have gk : ∀ b, b ≠ a → G.get? b = h'.get? b := fun b hb => g1 b (decide_eq_true hb)
  have ga : G.get? a = none := g2 a (by simp)
  have old : ∀ b o, s1.heap.get? b = some o → G.get? b = some o := fun b o z => (gk b (Nat.ne_of_lt (Nat.lt_of_lt_of_le (Heap.lt_size z) M.big))).trans (M.keep b o z)
  have nsG : G.Ns1 d (fun y => if y = "value" then some u else none) := M.ns.at fun o z => (gk d M.dne).trans z
  have rel : ∀ f, RelO (List.lookup f [(("value" : Str), v)]) (if f = "value" then some u else none) := relO_put (fs := []) (mA := fun _ => none) r1 fun g => True.intro
  have J : Inv X pins σ (upd H1 d (exd d [(("value" : Str), v)])) { s1 with heap := G, toks := tk } := I1.laid (t' := tk) old M.dbig (exd_ok nsG rel)
  refine ⟨a, _, _, { s1 with heap := G, toks := tk }, _, .ref C, some d, rfl, J, fun b o z => ?_, ga, M.obj, ⟨rfl, rfl⟩, rfl, rfl, by rw [upd_ne (Ne.symm M.dne)]; exact na, rfl, I1.bare, raises_own T.exC T.tyC, q1 d nd⟩
  by_cases hb : b = a
  · rw [hb, ga] at z
    cases z
  · rw [← gk b hb]
    exact z
end
end Sq

set_option Elab.async false
set_option linter.all false
set_option maxRecDepth 100000
set_option maxHeartbeats 4000000
/-! try: .. except X as n: suite, where the caught error is still known behind it. -/
namespace Sq
open PySem PySem.Spec PyProof.Rows L2
/-- what the clause wishes of an error of the body; behind the suite the error stands at its place -/
def wKeep (K : PySem.W.Frag) (c : Value) (i : Nat) (ts : Addr → Value → Option Addr → TS) (Wout : WX) (D : Ends) : WX := fun cls d σ H =>
  ∃ b, PySem.W.exmOne K cls c = some b ∧
    (b = true → ∃ C, cls = .ref C ∧ ∀ a, H a = none → ts a cls d { nx := fun σ' H' => D.nx (σ'.set i none) (upd H' a (exq a C d)), rt := fun v H' => D.rt v (upd H' a (exq a C d)), bk := fun σ' H' => D.bk (σ'.set i none) (upd H' a (exq a C d)), ct := fun σ' H' => D.ct (σ'.set i none) (upd H' a (exq a C d)) } (σ.set i (some (.ref a))) H) ∧
    (b = false → Wout cls d σ H)
section
variable {X : Cx} {x n : Str} {c : Value} {i : Nat} {body suite : List Stmt} {b₀ : Stmt} {np pos pos' : Pos} {tb : WX → TS} {ts : Addr → Value → Option Addr → TS} {Wout : WX}
theorem ps_try_keep (stack : X.stack = X.env :: X.outer) (frame : X.env.frame = some X.env.locals) (noex : X.ex = []) (nodup : X.N.Nodup) (slot : X.N[i]? = some n) (isLocal : X.env.kindOf n = some .local) (named : Names X x c) (takes : Takes X Wout)
    (tried : ∀ (W : WX) (pn : List (Addr × Obj)) (xe : Value → Shared → Prop), Takes (X.tr pn xe) W → PassesOwn (model X.prog X.w) X.A X.env xe → PSs (X.tr pn xe) body (tb W))
    (caught : ∀ (a : Addr) (oe : Obj) (cls : Value) (d : Option Addr) (pn : List (Addr × Obj)), Zc cls d oe → (∃ vs, oe.data = .fields vs) → PSs (X.suite a ((a, oe) :: pn)) (b₀ :: suite) (ts a cls d)) :
    PS X (.Try body [.ExceptHandler (some (.Name x np)) (some n) (b₀ :: suite) pos'] [] [] pos) (fun D σ H => tb (wKeep X.K c i ts Wout D) D σ H) := by
  refine ⟨fun pins s σ H D I h => ?_⟩
  have ok := I.ok
  have frames : X.A.frames = some (X.env :: X.outer) := by rw [ok.frames, stack]
  refine wpAny_Try_except (wpAny_mono ((tried (wKeep X.K c i ts Wout D) (X.pn ++ pins) (fun e s₁ => wpAny (model X.prog X.w) X.A (noteFrame e X.env) (fun _ s₂ => wpAny (model X.prog X.w) X.A (setFlight e none) (fun _ s₃ =>
    wpAny (model X.prog X.w) X.A (handleBy e X.env [.ExceptHandler (some (.Name x np)) (some n) (b₀ :: suite) pos']) (SP X pins D) X.xe s₃) X.xe s₂) X.xe s₁) (fun u s' air => ?_) PassesOwn.looking).run [] s σ H D (I.toTry _) h) (fun f s1 done => ?_) (fun e s1 he => he))
  · obtain ⟨a, B, sI, pins2, σ2, H2, cls, d, rfl, J', ground, upto, sky, na, os, ag, b, match_, yes, no⟩ := air
    have J : Inv X pins σ2 H2 sI := J'.ofTry ok
    have sky2 : Sky B (X.env :: X.outer) a (Zc cls d) X.env.locals s'.heap := by
      rw [← stack]
      exact sky
    refine Sky.land Zc.steady frames frame sky2 fun h3 fl3 up3 => ?_
    have J3 : Inv X pins σ2 H2 { s' with heap := h3 } := J.landed ground fl3.1 (upto.trans up3) os ag
    obtain ⟨oe3, vs3, he3, hz3, hd3⟩ := fl3.there
    have noFrame : a ∉ frs (X.env :: X.outer) := fun hm => by
      obtain ⟨_, o', e', hnf⟩ := fl3.2.2.1.mem hm
      rw [he3] at e'
      cases e'
      exact hnf _ hd3
    have nL : a ≠ X.env.locals := fun z => noFrame (List.mem_filterMap.mpr ⟨X.env, List.mem_cons_self, by rw [frame, z]⟩)
    have nF : a ∉ X.fs := fun hm => by
      obtain ⟨e, he, q⟩ := List.mem_filterMap.mp hm
      exact noFrame (List.mem_filterMap.mpr ⟨e, List.mem_cons_of_mem _ he, q⟩)
    -- the error is younger than all that stood at the entry, and no pin
    have newI : sI.heap.get? a = none := by
      cases e : sI.heap.get? a with
      | none => rfl
      | some o =>
        have z := ground a o e (by rw [stack]; exact noFrame)
        rw [fl3.2.1] at z
        cases z
    have new0 : X.s_0.heap.get? a = none := by
      cases e : X.s_0.heap.get? a with
      | none => rfl
      | some o =>
        obtain ⟨o', z⟩ := J.base.there a o e (by rw [noex]; exact fun z => nomatch z)
        rw [newI] at z
        cases z
    have noPin : ∀ q ∈ X.pn ++ pins, q.1 ≠ a := fun q hq z => by
      have y := (J.pin q hq).1
      rw [z, newI] at y
      cases y
    have S3 := J3.suite he3 hd3 na nL nF
    refine wpAny_handleBy_cons (codeAny_handlers_test ?_) (by intro q; cases q)
    have LT : PySem.W.Looks (model X.prog X.w) h3 (typeOf (.ref a)) cls := fun A Q E s k q => wpAny_typeOf_ref (k _ _ he3) (by rw [hz3.1]; exact q)
    have LM := PySem.W.exm_one (M := model X.prog X.w) (J3.kIn) LT match_
    have test : ∀ {Q : Value → Shared → Prop} {E : Value → Shared → Prop}, Q c { s' with heap := h3 } → wpAny (model X.prog X.w) (X.A.mark (some (.ref a))) (eval (.Name x np) X.env) Q E { s' with heap := h3 } := fun {Q E} q => by
      obtain ⟨hg, hdbg, hm | ⟨hm, hv, hnn⟩⟩ := named
      · exact ld_glob (X := X.suite a ((a, oe3) :: (X.pn ++ pins))) S3 hg hm q hdbg
      · exact ld_blt (X := X.suite a ((a, oe3) :: (X.pn ++ pins))) S3 hg hm hv q hnn hdbg
    refine test (LM.here ?_)
    cases b with
    | true =>
      obtain ⟨C, rfl, yes⟩ := yes rfl
      refine codeAny_handlers_suite_as ?_
      refine HandSPX.lands_againZ fl3 fun h4 fl4 up4 => ?_
      have J4 : Inv X pins σ2 H2 { s' with heap := h4 } := J.landed ground fl4.1 ((upto.trans up3).trans up4) os ag
      obtain ⟨oe4, vs4, he4, hz4, hd4⟩ := fl4.there
      have S4 := J4.suite he4 hd4 na nL nF
      refine store_ok (X := X.suite a ((a, oe4) :: (X.pn ++ pins))) (v := .ref a) S4 nodup slot (.inl isLocal) rfl (fun s5 S5 => ?_) (.inr isLocal)
      refine wpAny_mono ((caught a oe4 (.ref C) d (X.pn ++ pins) hz4 ⟨_, hd4⟩).run [] s5 _ H2 _ S5 (yes a na)) (fun f s6 after => ?_) (fun _ _ z => False.elim z)
      have leave : ∀ {σ6 : L2.St} {H6 : Hp} {Q : Shared → Prop}, Inv (X.suite a ((a, oe4) :: (X.pn ++ pins))) [] σ6 H6 s6 → (∀ s7, Inv X pins (σ6.set i none) (upd H6 a (exq a C d)) s7 → Q s7) →
          wpAny (model X.prog X.w) X.A (do bindName X.env n .none; unbindBehindTheSuite X.env n pos') (fun _ s7 => Q s7) X.xe s6 := fun {σ6 H6 Q} S6 hq => by
        obtain ⟨p1, p2, _⟩ := S6.pin (a, oe4) (List.mem_append_left _ List.mem_cons_self)
        exact gone_stays (S6.unsuite ok) nodup slot isLocal fun s7 J7 stays => hq s7 (tracked J7 p2 new0 (stays a oe4 nL p1) hz4 hd4 noPin nL)
      cases f with
      | next =>
        obtain ⟨σ6, H6, S6, q6⟩ := after
        exact leave S6 fun s7 J7 => ⟨_, _, J7, q6⟩
      | brk =>
        obtain ⟨σ6, H6, S6, q6⟩ := after
        exact leave S6 fun s7 J7 => ⟨_, _, J7, q6⟩
      | cont =>
        obtain ⟨σ6, H6, S6, q6⟩ := after
        exact leave S6 fun s7 J7 => ⟨_, _, J7, q6⟩
      | ret u =>
        obtain ⟨v6, σ6, H6, S6, r6, q6⟩ := after
        exact leave S6 fun s7 J7 => ⟨_, _, _, J7, r6, q6⟩
    | false =>
      show wpAny _ X.A (handleBy (.ref a) X.env []) _ _ _
      refine wpAny_handleBy_nil ?_
      obtain ⟨k1, k2, k3, oe, vs, T, oT, ts', he, hz, hd, h1, rest⟩ := id fl3
      unfold PySem.passOn
      refine wpAny_bind (wpAny_field he hd h1 ?_)
      rw [if_neg (show ¬ ((Value.ref T == Value.none) = true) from by simp)]
      have fin : wpAny (model X.prog X.w) X.A (setFlight (.ref a) X.env.frame) (fun _ s4 => wpAny (model X.prog X.w) X.A (throw (.ref a) : Sem Flow) (SP X pins D) X.xe s4) X.xe { s' with heap := h3 } := by
        rw [frame]
        refine HandSPX.setFlight_upZ fl3 fun h4 hh4 up4 => wpAny_throw (takes _ _ ?_)
        exact ⟨a, B, sI, pins, σ2, H2, cls, d, rfl, J, ground, (upto.trans up3).trans up4, .inr (.inr (by rw [stack]; exact hh4)), na, os, ag, no rfl⟩
      first
        | exact wpAny_bind (wpAny_pure (wpAny_bind fin))
        | exact wpAny_bind fin
  · cases f with
    | next =>
      obtain ⟨σ2, H2, J', q⟩ := done
      exact wpAny_execs_nil ⟨σ2, H2, J'.ofTry ok, q⟩
    | brk =>
      obtain ⟨σ2, H2, J', q⟩ := done
      exact ⟨σ2, H2, J'.ofTry ok, q⟩
    | cont =>
      obtain ⟨σ2, H2, J', q⟩ := done
      exact ⟨σ2, H2, J'.ofTry ok, q⟩
    | ret u =>
      obtain ⟨v, σ2, H2, J', r, q⟩ := done
      exact ⟨v, σ2, H2, J'.ofTry ok, r, q⟩
end
/-! ### what is asked of a caught error -/
/-- an error of the class at C was caught at a, its dict at d; it holds v -/
def CaughtAt (H : Hp) (a d C : Addr) (v : V) : Prop := H a = some (exq a C (some d)) ∧ H d = some (exd d [(("value" : Str), v)])
theorem CaughtAt.same {H H' : Hp} {a d C : Addr} {v : V} (s : Same H H') (e : CaughtAt H a d C v) : CaughtAt H' a d C v := ⟨s _ _ e.1, s _ _ e.2⟩
theorem caught_obj {X : Cx} {pins : List (Addr × Obj)} {σ : L2.St} {H : Hp} {s : Shared} {a d C : Addr} {v : V} (I : Inv X pins σ H s) (e : CaughtAt H a d C v) :
    ∃ ox od u, PySem.W.InstAt s.heap a ox C (some od) ∧ PySem.W.lookIn "value" od = some (some u) ∧ RelV v u := by
  obtain ⟨oe, vs, ho, z, hd⟩ := exq_at I.hok e.1
  obtain ⟨mA, hns, hr⟩ := exd_at I.hok e.2
  obtain ⟨od, hod, hl⟩ := lookIn_ns hns
  have l : List.lookup ("value" : Str) [(("value" : Str), v)] = some v := by simp [List.lookup]
  obtain ⟨u, hu, ru⟩ := RelO.some_of (v := v) (o := mA "value") (by rw [← l]; exact hr "value")
  exact ⟨oe, od, u, ⟨ho, z.1, by unfold PySem.W.notCls; rw [hd] <;> rfl, by rw [z.2]; exact hod⟩, by rw [hl, hu], ru⟩
end Sq
namespace Sq
open PySem PySem.Spec PyProof.Rows L2
section
variable {X : Cx}
def rIsiQ (K : PySem.W.Frag) : List V → Hp → VK → Prop := fun xs H Q => ∃ (a d C : Addr) (v c : V) (u : Value) (b : Bool), xs = [.ref a, c] ∧ ClsV c u ∧ CaughtAt H a d C v ∧ ExcC K C ∧ PySem.W.kitOne K (.ref C) u = some b ∧ Q (.bl b) H
theorem call_isiQ : CallR X (.builtin "isinstance") (rIsiQ X.K) := by
  intro pins s σ H xs us Q I r h
  obtain ⟨a, d, C, v, c, u, b, rfl, k, at_, T, e, q⟩ := h
  obtain ⟨u1, u2, rfl, r1, r2⟩ := vals2 r
  obtain rfl := k.eq r2
  obtain rfl : u1 = Value.ref a := r1
  obtain ⟨ox, od, uv, J, _, _⟩ := caught_obj I at_
  exact PySem.W.kia_one (SqX.kit (ox := ox) (od := some od) T) I.kIn J e (fun z => nomatch z) fun tk => ⟨.bl b, H, I.tok tk, rfl, q⟩
/-- isinstance(error, (X, Y)) -/
def rIsiQT (K : PySem.W.Frag) : List V → Hp → VK → Prop := fun xs H Q => ∃ (a d C tp : Addr) (v : V) (cs : List V) (us : List Value) (b : Bool), xs = [.ref a, .ref tp] ∧ H tp = some (.tup cs) ∧ Paired ClsV cs us ∧ CaughtAt H a d C v ∧ ExcC K C ∧ PySem.W.kitAny K (.ref C) us = some b ∧ Q (.bl b) H
theorem call_isiQT : CallR X (.builtin "isinstance") (rIsiQT X.K) := by
  intro pins s σ H xs vs Q I r h
  obtain ⟨a, d, C, tp, v, cs, us, b, rfl, ht, pc, at_, T, e, q⟩ := h
  obtain ⟨u1, u2, rfl, r1, r2⟩ := vals2 r
  obtain rfl : u1 = Value.ref a := r1
  obtain rfl : u2 = Value.ref tp := r2
  obtain ⟨ox, od, uv, J, _, _⟩ := caught_obj I at_
  obtain ⟨few, its, rv, ob, there, isT, n, data⟩ := (show ObjOk X.prog X.w H s.heap tp (.tup cs) from I.hok tp _ ht)
  have same := ClsV.all pc rv
  subst same
  obtain ⟨oc, dct, dt, sl⟩ := ob
  simp only at isT data
  subst isT data
  exact PySem.W.kia_tup (SqX.kit (ox := ox) (od := some od) T) I.kIn J there e (fun z => nomatch z) fun tk => ⟨.bl b, H, I.tok tk, rfl, q⟩
/-- error.value of a caught one -/
def tQv (K : PySem.W.Frag) (te : TE) : TE := fun σ H Q => te σ H fun x H1 => ∃ (a d C : Addr) (v : V), x = .ref a ∧ CaughtAt H1 a d C v ∧ XfC K C ∧ PySem.W.findIn K (.ref C) "value" = some none ∧ Q v H1
theorem pe_qv {e : Expr} {te : TE} {pos : Pos} (he : PE X e te) (hb : attributeBase e "value" X.env (eval e X.env) = eval e X.env := by rfl) : PE X (.Attribute e "value" pos) (tQv X.K te) := by
  refine ⟨fun pins s σ H Q I h => ?_⟩
  refine attr_of hb (thn (he.run pins s σ H _ I h) fun u s1 hh => ?_)
  obtain ⟨x, H1, I1, rx, a, d, C, v, ex, at_, T, hno, q⟩ := hh
  subst ex
  obtain rfl : u = Value.ref a := rx
  obtain ⟨ox, od, uv, J, l, ru⟩ := caught_obj I1 at_
  exact HandSPX.exc_get I1.kIn J T.ga T.gg T.exC (PySem.W.findObj_own T.hdC hno rfl l) (handed_of ru) ⟨v, H1, I1.tok _, ru, q⟩
end
end Sq

set_option Elab.async false
set_option linter.all false
set_option maxRecDepth 100000
set_option maxHeartbeats 2000000
/-! A walk that is left at its first item: for x in g(..): break. -/
namespace Sq
open PySem PySem.Spec PyProof.Rows L2 GenW
def Y1 (P : Program) (w : World) (outer : List Env) (H : Hp) (s : Shared) (a : Addr) (g : Nat) (q : V → Hp → Prop) : Protocol := fun _ _ v s1 _ =>
  s1.os = s.os ∧ AllBare s1.gens ∧ s1.heap.IsGen a g ∧ ∃ x H', Un (frs outer) [] H H' s.heap s1.heap ∧ HOk P w H' s1.heap ∧ RelV x v ∧ q x H'
def R1 (P : Program) (w : World) (outer : List Env) (H : Hp) (s : Shared) (a : Addr) (g : Nat) (E : XK) : GenEnd := fun _ _ r s1 => ∃ e, r = .error e ∧ CX P w outer H s E e s1 ∧ s1.heap.IsGen a g
/-- a generator that has not begun: its first item, or an error -/
def GFst (P : Program) (w : World) (k : Nat) (outer : List Env) (H : Hp) (s : Shared) (q : V → Hp → Prop) (E : XK) (u : Value) (s' : Shared) : Prop :=
  ∃ (a : Addr) (g : Nat) (c : Code), u = .ref a ∧ s.heap.objs.size ≤ a ∧ s'.heap.IsGen a g ∧ s'.gens[g]? = some (.fresh c) ∧ s'.os = s.os ∧ AllBare s'.gens ∧ s'.heap.NoLimit ∧ (∀ b o, s.heap.get? b = some o → s'.heap.get? b = some o) ∧
    ∀ (A : Around) (s2 : Shared), Room k A → A.frames = some outer → (∀ b o, s'.heap.get? b = some o → s2.heap.get? b = some o) → s2.os = s.os → AllBare s2.gens →
      Seg (model P w) A (R1 P w outer H s a g E) (Y1 P w outer H s a g q) 1 s2 c ((model P w).den c) [] s2
abbrev SpF := List V → Hp → (V → Hp → Prop) → XK → Prop
structure GFn1 (P : Program) (w : World) (K : PySem.W.Frag) (mg : Str → Option Value) (base : Heap) (k : Nat) (f : Addr) (fd : FuncData) (ps : List Str) (sp : SpF) : Prop where
  len : ∀ vs H Q E, sp vs H Q E → vs.length = ps.length
  run : ∀ (A : Around) (outer : List Env) (s : Shared) (H : Hp) (args : Args) (us : List Value) (vs : List V) (Q : V → Hp → Prop) (E : XK), Room k A → Env0 P w K mg base A outer s H → BindsTo s fd args (ps.zip us) → Vals vs us → sp vs H Q E →
    codeAny (model P w) A (.call (.ref f) args) (fun r s' => match r with | .ok (.ret u) => GFst P w k outer H s Q E u s' | _ => False) s
/-- two statements, then the first yield -/
theorem gfn1_of {P : Program} {w : World} {K : PySem.W.Frag} {mg : Str → Option Value} {base : Heap} {k : Nat} {f : Addr} {name qual : Str} {params : Arguments} {st1 st2 : Stmt} {ey : Expr} {yp ypos : Pos} {rest : List Stmt} {scope : Scope} {dV kV doc pm cdv ct oc : Value} {an od : Option Addr}
    {osl : Array (Option Value)} {N ps : List Str} {sp : SpF} (found : K.lookup f = some ⟨oc, od, .func (PySem.W.fnOf name qual params (st1 :: st2 :: .Expr (.Yield (some ey) yp) ypos :: rest) scope dV kV doc pm an cdv ct), osl⟩) (coded : PySem.W.codeIn K cdv qual = true) (S : GScope N ps scope)
    (len : ∀ vs H Q E, sp vs H Q E → vs.length = ps.length) (inter : ∀ n : Nat, interactive (envOfC qual scope n f cdv) = false)
    (inner : ∀ (A : Around) (outer : List Env) (s : Shared) (H : Hp) (vs : List V) (Q : V → Hp → Prop) (E : XK) (pn : List (Addr × Obj)), Room k (A.deeper (envOfC qual scope s.heap.objs.size f cdv)) → sp vs H Q E →
      ∃ t1 t2 te, PS (gcxOf P w K mg base N qual scope f cdv A outer s H E pn) st1 t1 ∧ PS (gcxOf P w K mg base N qual scope f cdv A outer s H E pn) st2 t2 ∧ PE (gcxOf P w K mg base N qual scope f cdv A outer s H E pn) ey te ∧
        t1 { nx := fun σ1 H1 => t2 { nx := fun σ2 H2 => te σ2 H2 Q, rt := fun _ _ => False } σ1 H1, rt := fun _ _ => False } (start N vs) H) :
    GFn1 P w K mg base (k + 1) f (PySem.W.fnOf name qual params (st1 :: st2 :: .Expr (.Yield (some ey) yp) ypos :: rest) scope dV kV doc pm an cdv ct) ps sp := by
  refine ⟨len, fun A outer s H args us vs Q E room e0 bound rel wish => ?_⟩
  have few := len _ _ _ _ wish
  have inK : K.In s.heap := e0.mod.kin.keeps fun b o e => (e0.bs b o e).1
  have noLim : s.heap.NoLimit := e0.mod.nolimit.keeps fun b o e => (e0.bs b o e).1
  have kinds : ∀ y ∈ ps.zip us, scope.names.lookup y.1 = some .local ∨ (scope.names.lookup y.1 = some .cell ∧ ((cellsFrom (s.heap.objs.size + 1) scope.names []).lookup y.1).isSome = true) := fun ⟨n, v⟩ hy =>
    (S.par n (List.of_mem_zip hy).1).elim .inl fun z => .inr ⟨z, PySem.W.cellsFrom_some _ _ _ (.inl z)⟩
  refine codeAny_call_generator room.depth (inK _ _ found) rfl S.co S.gen rfl (PySem.W.codeRec_of inK coded) (bound _ _ _ _ ?_)
  refine wpAny_newFunctionEnv_cells S.kind kinds fun env he s1 made => ?_
  subst he
  have lim1 : s1.heap.NoLimit := noLim.keeps made.toInCall.keep
  refine ⟨lim1, ?_⟩
  obtain ⟨h1, tk, es1, keep1⟩ := made.done
  have os1 : s1.os = s.os := by rw [es1]
  have gen1 : s1.gens = s.gens := by rw [es1]
  have lt1 : s.heap.objs.size < s1.heap.objs.size := made.toInCall.ns.lt
  have keepS : ∀ b o, s.heap.get? b = some o → s1.heap.get? b = some o := made.toInCall.keep
  suffices main : ∀ (go : Obj) (nm qn : Value) (tk2 : Nat), go.cls = .type "generator" → go.data = .fields #[.int s1.gens.size 0, nm, qn] → go.slots = #[] → (∀ h : Heap, (h.push go).get? h.objs.size = some go) →
      GFst P w (k + 1) outer H s Q E (.ref s1.heap.objs.size) { s1 with gens := s1.gens.push (.fresh (.func (st1 :: st2 :: .Expr (.Yield (some ey) yp) ypos :: rest) (envOfC qual scope s.heap.objs.size f cdv))), toks := tk2, heap := s1.heap.push go } from
    main _ _ _ _ rfl rfl rfl fun h => Heap.get?_push_size _ rfl
  intro go nm qn tk2 isG dataG slotsG pushG
  have isGen : ∀ h : Heap, h.get? s1.heap.objs.size = some go → h.IsGen s1.heap.objs.size s1.gens.size := fun h e => ⟨go, nm, qn, e, isG, dataG, slotsG⟩
  refine ⟨s1.heap.objs.size, s1.gens.size, _, rfl, Nat.le_of_lt lt1, isGen _ (pushG _), Array.getElem?_push_size .., os1, AllBare.push (by rw [gen1]; exact e0.bare) rfl, lim1.keeps fun b o e => Heap.get?_push_of_some _ e, fun b o e => Heap.get?_push_of_some _ (keepS b o e), ?_⟩
  intro Aw s2 roomW framesW keep2 os2 bare2
  have e0w : Env0 P w K mg base Aw outer s H := ⟨framesW, e0.mod, e0.bs, e0.bsz, e0.funs, e0.frf, e0.hok, e0.bare⟩
  obtain ⟨t1, t2, te, p1, p2, pe, reading⟩ := inner Aw outer s H vs Q E [(s1.heap.objs.size, go)] (roomW.deeper _) wish
  have I1 : Inv (gcxOf P w K mg base N qual scope f cdv Aw outer s H E []) [] (start N vs) H s1 := inv_startG S roomW.hd e0w few rel made
  have keep12 : ∀ b o, s1.heap.get? b = some o → s2.heap.get? b = some o := fun b o e => keep2 b o (Heap.get?_push_of_some _ e)
  have I2 : Inv (gcxOf P w K mg base N qual scope f cdv Aw outer s H E []) [] (start N vs) H s2 :=
    I1.call' (ch := []) (os2.trans os1.symm) (Un.kept keep12) (I1.hok.kept keep12) bare2 fun b z => by simp at z
  have thereG : s2.heap.get? s1.heap.objs.size = some go := keep2 s1.heap.objs.size go (pushG _)
  have I3 : Inv (gcxOf P w K mg base N qual scope f cdv Aw outer s H E [(s1.heap.objs.size, go)]) [] (start N vs) H s2 := Inv.pinnedG I2 fun p hp => by
    have hp' : p = (s1.heap.objs.size, go) := by simpa using hp
    rw [hp']
    exact ⟨thereG, I1.hok.fresh (Nat.le_refl _), Nat.ne_of_gt lt1, I1.nofs (Nat.le_refl _), fun v q => by rw [dataG] at q; cases q⟩
  have stillG : ∀ {σ' : L2.St} {H' : Hp} {s' : Shared}, Inv (gcxOf P w K mg base N qual scope f cdv Aw outer s H E [(s1.heap.objs.size, go)]) [] σ' H' s' → s'.heap.IsGen s1.heap.objs.size s1.gens.size := fun J =>
    isGen _ (J.pin (s1.heap.objs.size, go) (by simp [gcxOf])).1
  refine seg_func ?_
  have away : ∀ (n : Nat) (s₀ : Shared) (e : Value) (s' : Shared), (gcxOf P w K mg base N qual scope f cdv Aw outer s H E [(s1.heap.objs.size, go)]).xe e s' →
      Seg (model P w) Aw (R1 P w outer H s s1.heap.objs.size s1.gens.size E) (Y1 P w outer H s s1.heap.objs.size s1.gens.size Q) n s₀ (.func (st1 :: st2 :: .Expr (.Yield (some ey) yp) ypos :: rest) (envOfC qual scope s.heap.objs.size f cdv))
        ((leaving (envOfC qual scope s.heap.objs.size f cdv) e).wrap (fun _ => .raise e) .raise id id) [] s' := fun n s₀ e s' hx => by
    refine seg_wrap ?_
    rw [over_func]
    refine wpAny_mono (show wpAny (model P w) (Aw.deeper (envOfC qual scope s.heap.objs.size f cdv)) (leaving (envOfC qual scope s.heap.objs.size f cdv) e) (fun _ s'' => CX P w outer H s E e s'' ∧ ∀ p ∈ [(s1.heap.objs.size, go)], s''.heap.get? p.1 = some p.2) (fun _ _ => False) s' from hx) (fun _ s'' q => ?_) fun _ s'' q => q.elim
    exact seg_end (.error e) ⟨e, rfl, q.1, isGen _ (q.2 (s1.heap.objs.size, go) (List.mem_singleton.mpr rfl))⟩
  refine seg_execs_cons (seg_wrap ?_)
  rw [over_func]
  refine wpAny_mono (p1.run [] s2 (start N vs) H _ I3 reading) (fun fl s3 q3 => ?_) fun e s3 hx => away _ _ e s3 hx
  cases fl with
  | brk => exact q3.elim fun _ z => z.elim fun _ z => False.elim z.2
  | cont => exact q3.elim fun _ z => z.elim fun _ z => False.elim z.2
  | ret u => exact q3.elim fun _ z => z.elim fun _ z => z.elim fun _ z => False.elim z.2.2
  | next =>
    obtain ⟨σ3, H3, J3, r3⟩ := q3
    refine seg_execs_cons (seg_wrap ?_)
    rw [over_func]
    refine wpAny_mono (p2.run [] s3 σ3 H3 _ J3 r3) (fun fl s4 q4 => ?_) fun e s4 hx => away _ _ e s4 hx
    cases fl with
    | brk => exact q4.elim fun _ z => z.elim fun _ z => False.elim z.2
    | cont => exact q4.elim fun _ z => z.elim fun _ z => False.elim z.2
    | ret u => exact q4.elim fun _ z => z.elim fun _ z => z.elim fun _ z => False.elim z.2.2
    | next =>
      obtain ⟨σ4, H4, J4, r4⟩ := q4
      refine seg_execs_cons (seg_Expr_Yield rfl rfl rfl ?_ S.co (inter _))
      rw [over_func]
      refine wpAny_mono (pe.run [] s4 σ4 H4 _ J4 r4) (fun v s5 q5 => ?_) fun e s5 hx => away _ _ e s5 hx
      obtain ⟨x, H5, J5, rv, q⟩ := q5
      intro kap hk
      exact ⟨J5.os, J5.bare, stillG J5, x, H5, J5.base, J5.hok, rv, q⟩
end Sq
namespace Sq
open PySem PySem.Spec PyProof.Rows L2 GenW
/-- for x in g(e, ..): break -/
def tFirst (sp : SpF) (E : L2.St → XK) (t : TA) (i : Nat) : TS := fun D σ H => t σ H fun vs H1 => sp vs H1 (fun v H2 => D.nx (σ.set i (some v)) H2) (E σ)
section
variable {X : Cx} {k i : Nat} {f : Addr} {fd : FuncData} {ps : List Str} {sp : SpF} {E : L2.St → XK} {x y : Str} {p op bp cpos pos : Pos} {e : Expr} {es : List Expr} {t : TA}
theorem ps_first (F : GFn1 X.prog X.w X.K X.mg X.base k f fd ps sp) (hr : Room (k + 1) X.A) (hg : Gl X x) (hm : X.mg x = some (.ref f)) (hk : PySem.W.keepIn X.K (.ref f) = true) (hb : Binds X.K fd ps []) (ha : PA X (e :: es) t)
    (hx : ∀ σ, PassesAt (L2.CX X.prog X.w) X σ (E σ)) (ns : ∀ σ, NoStop X.K (E σ)) (own : PassesOwn (model X.prog X.w) X.A X.env X.xe) (hN : X.N.Nodup) (hi : X.N[i]? = some y) (hl : Loc X.env.scope y) (hfn : X.fn y = true ∨ X.env.scope.names.lookup y = some .local)
    (hdb : (x == ("__debug__" : Str)) = false := by decide) (he : starEach (e :: es) X.env = (false, eval e X.env) :: starEach es X.env := by rfl) (hpl : (backTo cpos (starEach es X.env)).any (·.1) = false := by rfl) :
    PS X (.For (.Name y op) (.Call (.Name x p) (e :: es) [] cpos) [.Break bp] [] pos) (tFirst sp E t i) := by
  refine ⟨fun pins s σ H D I h => ?_⟩
  refine wpAny_For (wpAny_Call_Name_kw (ld_glob I hg hm ?_ hdb)) (by intro _; rfl)
  refine PySem.W.callWith_K (h₀ := X.base) I.ok.mod.kin hk (thn (ha.run cpos pins s σ H _ I h) fun us s1 hh => ?_) he hpl
  obtain ⟨vs, H1, I1, r1, q⟩ := hh
  refine ⟨I1.kIn, ?_⟩
  have few : us.length = ps.length := by rw [← r1.length]; exact F.len _ _ _ _ q
  have bind := hb s1 us I1.kIn (by rw [List.append_nil]; exact few)
  rw [List.append_nil] at bind
  refine wpAny_call (codeAny_mono (F.run X.A X.stack s1 H1 ⟨us, []⟩ us vs _ (E σ) (hr.mono (by omega)) I1.env0 bind r1 q) fun r s2 hq => ?_)
  match r, hq with
  | .ok (.ret u), hq =>
    obtain ⟨a, g, c, rfl, ha1, isG, fresh, os2, bare2, lim2, keep2, wake⟩ := hq
    refine wpAny_pyIter_gen isG ?_
    refine codeAny_forLoop_any (fun n s' => s' = s2) (fun n s' hs => ?_) 0 rfl
    subst hs
    have seg := wake X.A.in1 (s'.setGen g .running) ⟨hr.hd, by have := hr.dp; show X.A.depth + 3 * k + 5 < _; omega, by have := hr.un; show X.A.units + 1 + 16 * k + 200 < _; omega⟩ I1.ok.frames (fun b o e => e) os2 (allBare_setGen bare2 rfl)
    have goes : (GenState.fresh c).Goes (model X.prog X.w) X.A.in1 (fun n s₀ r s₁ => ((r = .ok (.ret .none) ∨ r = .ok .next) ∧ False) ∨ ∃ e, r = .error e ∧ (CX X.prog X.w X.stack H1 s1 (E σ) e s₁ ∧ s₁.heap.IsGen a g)) (Y1 X.prog X.w X.stack H1 s1 a g (fun v H2 => D.nx (σ.set i (some v)) H2)) 1 (.send .none) (s'.setGen g .running) :=
      ⟨rfl, seg_imp (R := R1 X.prog X.w X.stack H1 s1 a g (E σ)) (Y := Y1 X.prog X.w X.stack H1 s1 a g (fun v H2 => D.nx (σ.set i (some v)) H2)) (fun n s₀ r s z => Or.inr z) (fun n s₀ v s kap kap' _ z => z) 1 seg⟩
    refine next_genG (A := X.A) (F := fun _ _ _ => False) hr.hd lim2 (by have := hr.dp; omega) isG fresh goes (fun v s₁ gs' bare' hv => ?_) (fun s₁ z => z.elim) fun er s₁ he => ?_
    · obtain ⟨os3, bare3, isG3, z, H3, un3, ok3, rv, qv⟩ := hv
      have I3 : Inv X pins σ H3 (s₁.setGen g gs') := I1.call' (ch := []) os3 un3 ok3 (allBare_setGen bare3 bare') fun b z => by simp at z
      refine wpAny_of_eq (rfl : letOwnedTupleGo (.Name y op) (.ref a) v = pure ()) ?_
      refine wpAny_passesOwn own (thn ((pg_name hN hi hl hfn).run pins _ σ H3 z v (fun σ2 H2 => D.nx σ2 H2) I3 rv qv) fun _ s4 h4 => ?_)
      obtain ⟨σ4, H4, I4, q4⟩ := h4
      exact wpAny_execs_cons (wpAny_Break ⟨σ4, H4, I4, q4⟩)
    · obtain ⟨hc, hg1⟩ := he
      have kin : X.K.In s₁.heap := by
        obtain ⟨b1, B, H2, cls, d, _, fl, _, ub, _⟩ := id hc
        refine I1.ok.mod.kin.keeps fun b o eb => fl.1 b o (ub.keep b o (I1.bs b o eb).1 (I1.bs b o eb).2 fun hm => ?_)
        rcases List.mem_cons.mp (I1.stkSub b hm) with z | z
        · have low := Heap.lt_size eb
          rw [z] at low
          exact absurd (Nat.lt_of_lt_of_le low (Nat.le_trans I1.ok.bsz I1.ok.above)) (Nat.lt_irrefl _)
        · exact I1.ok.nofr eb z
      refine ⟨hg1, notStop_of (ns σ) kin hc, own _ _ (hx σ pins H1 s1 er _ I1 ?_)⟩
      obtain ⟨b1, B, H2, cls, d, z1, fl, z2, ub, z3, z4, z5, z6⟩ := hc
      exact ⟨b1, B, H2, cls, d, z1, fl, z2, ub, z3, z4, allBare_setGen z5 rfl, z6⟩
end
end Sq

set_option Elab.async false
set_option linter.all false
set_option maxRecDepth 100000
set_option maxHeartbeats 2000000
/-! Calls that may raise. -/
namespace Sq
open PySem PySem.Spec PyProof.Rows L2
structure Dx (P : Program) (w : World) (K : PySem.W.Frag) (mg : Str → Option Value) (base : Heap) (k : Nat) (x : Str) (ps : List Str) (sp : Sp) : Prop where
  ex : ∃ f fd, FnOk P w K mg base (L2.CX P w) k f fd ps sp ∧ mg x = some (.ref f) ∧ PySem.W.keepIn K (.ref f) = true ∧ Binds K fd ps []
structure Dxk (P : Program) (w : World) (K : PySem.W.Frag) (mg : Str → Option Value) (base : Heap) (k : Nat) (x : Str) (ps ks : List Str) (g : List Value → List Value → List Value) (gV : List V → List V → List V) (sp : Sp) : Prop where
  ex : ∃ f fd, FnOk P w K mg base (L2.CX P w) k f fd ps sp ∧ mg x = some (.ref f) ∧ PySem.W.keepIn K (.ref f) = true ∧ KBn K fd ps 0 ks g gV
structure Dx1 (P : Program) (w : World) (K : PySem.W.Frag) (mg : Str → Option Value) (base : Heap) (k : Nat) (x : Str) (ps : List Str) (sp : SpF) : Prop where
  ex : ∃ f fd, GFn1 P w K mg base k f fd ps sp ∧ mg x = some (.ref f) ∧ PySem.W.keepIn K (.ref f) = true ∧ Binds K fd ps []
theorem Dx.mk' {P : Program} {w : World} {K : PySem.W.Frag} {mg : Str → Option Value} {base : Heap} {k : Nat} {x : Str} {st : Stmt} {ps : List Str} {sp : Sp} {f : Addr} {fd : FuncData} (F : Fun K x x st f fd) (G : FnOk P w K mg base (L2.CX P w) k f fd ps sp) (g : mg x = some (.ref f)) (b : Binds K fd ps []) : Dx P w K mg base k x ps sp :=
  ⟨⟨f, fd, G, g, F.kp, b⟩⟩
section
variable {P : Program} {w : World} {K : PySem.W.Frag} {mg : Str → Option Value} {base : Heap} {N : List Str} {qual : Str} {scope : Scope} {f : Addr} {cd : Value} {A : Around} {outer : List Env} {s : Shared} {H : Hp} {E : XK}
theorem takesX : Takes (cxOf (L2.CX P w) P w K mg base N qual scope f cd A outer s H E) (fun cls d _ H' => E cls d H') := takes_of rfl rfl rfl rfl
theorem ownsX : PassesOwn (model P w) (cxOf (L2.CX P w) P w K mg base N qual scope f cd A outer s H E).A (cxOf (L2.CX P w) P w K mg base N qual scope f cd A outer s H E).env (cxOf (L2.CX P w) P w K mg base N qual scope f cd A outer s H E).xe := passes_of rfl
end
section
variable {X : Cx} {k : Nat} {ps ks : List Str} {sp : Sp} {x : Str} {p pos : Pos} {e : Expr} {es : List Expr} {t tk : TA} {W : WX} {kws : List Keyword} {g : List Value → List Value → List Value} {gV : List V → List V → List V}
theorem pe_callX (D : Dx X.prog X.w X.K X.mg X.base k x ps sp) (takes : Takes X W) (hr : Room k X.A) (hg : Gl X x) (ha : PA X (e :: es) t) (hdb : (x == ("__debug__" : Str)) = false := by decide)
    (he : starEach (e :: es) X.env = (false, eval e X.env) :: starEach es X.env := by rfl) (hpl : (backTo pos (starEach es X.env)).any (·.1) = false := by rfl) :
    PE X (.Call (.Name x p) (e :: es) [] pos) (tCallS sp (WE W) t) := by
  obtain ⟨f, fd, F, g, kp, b⟩ := D.ex
  exact pe_callS F hr hg g kp b (passAt takes) ha hdb he hpl
/-- f(k = v, ..), which may raise -/
def tCallKX (n : Nat) (sp : Sp) (gV : List V → List V → List V) (E : L2.St → XK) (tk : TA) : TE := fun σ H Q => tk σ H fun zs H1 => zs.length = n ∧ sp (gV [] zs) H1 Q (E σ)
theorem pe_callXK (D : Dxk X.prog X.w X.K X.mg X.base k x ps ks g gV sp) (takes : Takes X W) (hr : Room k X.A) (hg : Gl X x) (hkw : PK X kws tk)
    (hall : (backToKw pos (keywordEach kws X.env)).all (·.1.isSome) = true := by rfl) (hks : (backToKw pos (keywordEach kws X.env)).filterMap (·.1) = ks := by rfl) (hdb : (x == ("__debug__" : Str)) = false := by decide)
    (hpl : ((backTo pos (starEach [] X.env)).any (·.1) || (backToKw pos (keywordEach kws X.env)).any (·.1.isNone)) = false := by rfl) :
    PE X (.Call (.Name x p) [] kws pos) (tCallKX ks.length sp gV (WE W) tk) := by
  obtain ⟨f, fd, F, hm, kp, hb⟩ := D.ex
  refine ⟨fun pins s σ H Q I h => ?_⟩
  refine wpAny_Call_Name_kw (ld_glob I hg hm ?_ hdb)
  refine PySem.W.callWith_KW0 (h₀ := X.base) I.ok.mod.kin kp hall ?_ hpl
  refine thn (hkw.run pos pins s σ H _ I h) ?_
  rintro ws s2 ⟨zs, H2, I2, rz, l2, q2⟩
  refine ⟨I2.kIn, ?_⟩
  rw [hks]
  have to := hb.to s2 [] ws I2.kIn rfl (rz.length.symm.trans l2)
  refine wpAny_call (codeAny_mono (F.run X.A X.stack s2 H2 ⟨[], ks.zip ws⟩ (g [] ws) (gV [] zs) Q (WE W σ) hr I2.env0 to (hb.rel .nil rz) q2) fun r s' hq => ?_)
  match r, hq with
  | .error u, hq => exact passAt takes σ pins H2 s2 u s' I2 hq
  | .ok (.ret u), hq => exact I2.after hq
end
/-- the same for a walk that is left at its first item -/
def EF (K : PySem.W.Frag) (W : WX) : L2.St → XK := fun σ cls d H => W cls d σ H ∧ PySem.W.subIn K cls (.type "StopIteration") = some false
section
variable {X : Cx} {k i : Nat} {ps : List Str} {sp : SpF} {x y : Str} {p op bp cpos pos : Pos} {e : Expr} {es : List Expr} {t : TA} {W : WX}
theorem ps_firstD {K0 : PySem.W.Frag} (sameK : X.K = K0) (D : Dx1 X.prog X.w X.K X.mg X.base k x ps sp) (takes : Takes X W) (hr : Room (k + 1) X.A) (hg : Gl X x) (ha : PA X (e :: es) t) (own : PassesOwn (model X.prog X.w) X.A X.env X.xe) (hN : X.N.Nodup) (hi : X.N[i]? = some y) (hl : Loc X.env.scope y)
    (hfn : X.fn y = true ∨ X.env.scope.names.lookup y = some .local) (hdb : (x == ("__debug__" : Str)) = false := by decide)
    (he : starEach (e :: es) X.env = (false, eval e X.env) :: starEach es X.env := by rfl) (hpl : (backTo cpos (starEach es X.env)).any (·.1) = false := by rfl) :
    PS X (.For (.Name y op) (.Call (.Name x p) (e :: es) [] cpos) [.Break bp] [] pos) (tFirst sp (EF K0 W) t i) := by
  obtain ⟨f, fd, F, g, kp, b⟩ := D.ex
  subst sameK
  exact ps_first (E := EF X.K W) F hr hg g kp b ha (fun σ pins H s e s' I c => passAt (W := fun cls d σ H => W cls d σ H ∧ PySem.W.subIn X.K cls (.type "StopIteration") = some false) (takes.imp fun _ _ _ _ z => z.1) σ pins H s e s' I c) (fun σ cls d H (z : EF X.K W σ cls d H) => z.2) own hN hi hl hfn hdb he hpl
end
/-- list.count(True) of bools -/
def rCountB (K : PySem.W.Frag) : V → List V → Hp → VK → Prop := fun x xs H Q => ∃ (p : Addr) (bs : List Bool) (k : Bool), x = .ref p ∧ xs = [.bl k] ∧ SqL K H p (bs.map V.bl) ∧ Q (.int (bs.count k : Nat)) H
theorem reads_bools : ∀ {bs : List Bool} {its : List Value} {hp : Heap}, Vals (bs.map V.bl) its → ∃ as, ReadsAll hp its (bs.map PyData.bool) as
  | [], _, _, r => by
    cases r
    exact ⟨_, ReadsAll.nil⟩
  | b :: bs, _, hp, r => by
    cases r with
    | cons r1 r2 =>
      rename_i u us
      obtain rfl : u = Value.bool b := r1
      obtain ⟨as, h⟩ := reads_bools (hp := hp) r2
      exact ⟨_, ReadsAll.cons (Reads.bool b) h⟩
theorem count_bools (k : Bool) : ∀ bs : List Bool, Spec.countIn (.bool k) (bs.map PyData.bool) = bs.count k
  | [] => rfl
  | b :: bs => by
    show (if Spec.same (.bool b) (.bool k) then 1 else 0) + Spec.countIn (.bool k) (bs.map PyData.bool) = ((b :: bs).count k : Nat)
    rw [count_bools k bs, List.count_cons]
    cases b <;> cases k <;> simp [Spec.same] <;> omega
theorem all_bools : ∀ bs : List Bool, (bs.map PyData.bool).all Shape.bool.has = true
  | [] => rfl
  | _ :: bs => all_bools bs
theorem mt_countB {X : Cx} : MtR X "list.count" (rCountB X.K) := by
  intro pins s σ H x xs v us Q I rx rxs h
  obtain ⟨p, bs, k, rfl, rfl, hs, q⟩ := h
  obtain rfl : v = Value.ref p := rx
  obtain ⟨u, rfl, ru⟩ := rxs.one
  obtain rfl : u = Value.bool k := ru
  obtain ⟨its, rv, hl, _⟩ := I.list hs
  obtain ⟨as, ra⟩ := reads_bools (hp := s.heap) rv
  refine count_list_bools hl.isList ra ?_ ⟨.int (bs.count k : Nat), H, I.tok _, ⟨s.toks, ?_⟩, q⟩
  · exact all_bools bs
  · rw [count_bools]
/-- what is wanted of an error of the class at C that holds v -/
def Wish (E : XK) (C : Addr) (v : V) (H : Hp) : Prop := ∀ d, H d = none → E (.ref C) (some d) (upd H d (exd d [(("value" : Str), v)]))
end Sq

set_option Elab.async false
set_option linter.all false
set_option maxRecDepth 100000
set_option maxHeartbeats 4000000
/-! A def called within an except suite: walks over lists, pairs unpacked, comprehensions, the handled error asked. -/
namespace Sq
open PySem PySem.Spec PyProof.Rows L2 HotX L2H
section
variable {prog : Program} {w : World} {A : Around} {E : Value → Shared → Prop} {s : Shared}
/-- the walk over a list ends while an error is handled -/
theorem list_end_hot {it l x1 : Addr} {i : Nat} {items : Array Value} {Q : Option Value → Shared → Prop} (hot : HotAt A x1 s.heap)
    (hit : s.heap.IsListIter it l i) (lenσ : s.heap.IsList l items) (gotX : items[i]? = none)
    (hQ : ∀ h', Heap.ExtBut it s.heap h' → Q none { s with heap := h' }) : wpAny (model prog w) A (pyNext (.ref it)) Q E s := by
  obtain ⟨o, ho, mood, hd⟩ := id hit
  obtain ⟨ol, hol, _, nl, hdl⟩ := lenσ
  obtain ⟨hh, o1, vsB, h1, d1, c1⟩ := hot
  by_cases n1 : x1 = it
  · exfalso
    subst n1
    rw [ho] at h1
    cases h1
    rw [hd] at d1
    cases d1
    cases c1
  have k1 : (s.heap.update it (Obj.mapFields (·.setIfInBounds 0 Value.none))).get? x1 = some o1 := (Heap.get?_update_other _ _ (Ne.symm n1)).trans h1
  unfold pyNext
  refine wpAny_bind (wpAny_attempt (wpAny_callSpecial?_slot (name := Str.ofString "__next__") hit.typeIs slot_listiter_next
    (wpAny_call_entry slot_listiter_next hit.typeIs entry_listiter_next ?_ (args_listiter_next _))))
  show wpAny _ _ (field (.ref it) 0 >>= _) _ _ s
  refine wpAny_bind (wpAny_field ho hd (x := .ref l) rfl ?_)
  show wpAny _ _ (if (Value.ref l == Value.none) = true then _ else _) _ _ s
  rw [if_neg (show ¬ ((Value.ref l == Value.none) = true) from Bool.false_ne_true)]
  show wpAny _ _ (field (.ref it) 1 >>= _) _ _ s
  refine wpAny_bind (wpAny_field ho hd (x := .int i 0) rfl ?_)
  show wpAny _ _ (seqItems? (.ref l) >>= _) _ _ s
  refine wpAny_bind (wpAny_seqItems hol hdl ?_)
  simp only [Int.toNat_natCast, gotX]
  refine wpAny_bind (wpAny_rule (wpAny_bind (wpAny_setField ho hd (by simp) ?_)))
  show wpAny _ _ (newExc (.type "StopIteration") [] >>= _) _ _ _
  refine wpAny_bind ?_
  simp only [newExc, newTuple]
  refine wpAny_bind (wpAny_newObj_type ?_ (by size_fits))
  refine wpAny_bind (m := firstArgMember _ _) (wpAny_of_eq (a := Value.none) (by first | rfl | (simp only [firstArgMember]; rfl)) ?_)
  refine wpAny_newObj_type ?_ (by size_fits)
  refine raiseNew_hot ⟨hh, o1, vsB, Heap.get?_push_of_some _ (Heap.get?_push_of_some _ k1), d1, c1⟩ (Nat.ne_of_lt (Heap.lt_size (Heap.get?_push_of_some _ k1))) (Heap.get?_push_size _ rfl) rfl (by first | (simp; done) | (simp; omega) | (simp only [Array.size_append]; simp; omega)) ?_
  refine wpAny_bind (wpAny_isInstance (T := "StopIteration") (b := true) ⟨_, Heap.get?_update_self _ (Heap.get?_push_size _ rfl) rfl, rfl⟩ isSubtype_stop ?_)
  refine wpAny_pure (hQ _ fun b o nb e => ?_)
  have e2 : (s.heap.update it (Obj.mapFields (·.setIfInBounds 0 Value.none))).get? b = some o := (Heap.get?_update_other _ _ (Ne.symm nb)).trans e
  rw [Heap.get?_update_other _ _ (Nat.ne_of_gt (Heap.lt_size (Heap.get?_push_of_some _ e2)))]
  exact Heap.get?_push_of_some _ (Heap.get?_push_of_some _ e2)
/-- the same of a pair -/
theorem tup_end_hot {it t x1 : Addr} {i : Nat} {items : Array Value} {Q : Option Value → Shared → Prop} (hot : HotAt A x1 s.heap)
    (hit : IsTupIter s.heap it t i) (testsA : IsTup s.heap t items) (gotX : items[i]? = none)
    (hQ : ∀ h', Heap.ExtBut it s.heap h' → Q none { s with heap := h' }) : wpAny (model prog w) A (pyNext (.ref it)) Q E s := by
  obtain ⟨o, ho, mood, hd⟩ := id hit
  obtain ⟨ol, hol, _, nl, hdl⟩ := testsA
  obtain ⟨hh, o1, vsB, h1, d1, c1⟩ := hot
  by_cases n1 : x1 = it
  · exfalso
    subst n1
    rw [ho] at h1
    cases h1
    rw [hd] at d1
    cases d1
    cases c1
  have k1 : (s.heap.update it (Obj.mapFields (·.setIfInBounds 0 Value.none))).get? x1 = some o1 := (Heap.get?_update_other _ _ (Ne.symm n1)).trans h1
  unfold pyNext
  refine wpAny_bind (wpAny_attempt (wpAny_callSpecial?_slot (name := Str.ofString "__next__") hit.typeIs slot_tupleiter_next
    (wpAny_call_entry slot_tupleiter_next hit.typeIs entry_tupleiter_next ?_ (args_tupleiter_next _))))
  show wpAny _ _ (field (.ref it) 0 >>= _) _ _ s
  refine wpAny_bind (wpAny_field ho hd (x := .ref t) rfl ?_)
  show wpAny _ _ (if (Value.ref t == Value.none) = true then _ else _) _ _ s
  rw [if_neg (show ¬ ((Value.ref t == Value.none) = true) from Bool.false_ne_true)]
  show wpAny _ _ (field (.ref it) 1 >>= _) _ _ s
  refine wpAny_bind (wpAny_field ho hd (x := .int i 0) rfl ?_)
  show wpAny _ _ (seqItems? (.ref t) >>= _) _ _ s
  refine wpAny_bind (wpAny_seqItems hol hdl ?_)
  simp only [Int.toNat_natCast, gotX]
  refine wpAny_bind (wpAny_rule (wpAny_bind (wpAny_setField ho hd (by simp) ?_)))
  show wpAny _ _ (newExc (.type "StopIteration") [] >>= _) _ _ _
  refine wpAny_bind ?_
  simp only [newExc, newTuple]
  refine wpAny_bind (wpAny_newObj_type ?_ (by size_fits))
  refine wpAny_bind (m := firstArgMember _ _) (wpAny_of_eq (a := Value.none) (by first | rfl | (simp only [firstArgMember]; rfl)) ?_)
  refine wpAny_newObj_type ?_ (by size_fits)
  refine raiseNew_hot ⟨hh, o1, vsB, Heap.get?_push_of_some _ (Heap.get?_push_of_some _ k1), d1, c1⟩ (Nat.ne_of_lt (Heap.lt_size (Heap.get?_push_of_some _ k1))) (Heap.get?_push_size _ rfl) rfl (by first | (simp; done) | (simp; omega) | (simp only [Array.size_append]; simp; omega)) ?_
  refine wpAny_bind (wpAny_isInstance (T := "StopIteration") (b := true) ⟨_, Heap.get?_update_self _ (Heap.get?_push_size _ rfl) rfl, rfl⟩ isSubtype_stop ?_)
  refine wpAny_pure (hQ _ fun b o nb e => ?_)
  have e2 : (s.heap.update it (Obj.mapFields (·.setIfInBounds 0 Value.none))).get? b = some o := (Heap.get?_update_other _ _ (Ne.symm nb)).trans e
  rw [Heap.get?_update_other _ _ (Nat.ne_of_gt (Heap.lt_size (Heap.get?_push_of_some _ e2)))]
  exact Heap.get?_push_of_some _ (Heap.get?_push_of_some _ e2)
theorem unpack_hot {t x1 : Addr} {items : Array Value} {Q : List Value → Shared → Prop} (hot : HotAt A x1 s.heap) (testsA : IsTup s.heap t items)
    (hQ : ∀ h', Heap.ExtBut s.heap.objs.size s.heap h' → Q items.toList { s with heap := h' }) : wpAny (model prog w) A (unpackItems (.ref t) items.size none) Q E s := by
  have hlt : t ≠ s.heap.objs.size := by obtain ⟨o, ho, _⟩ := testsA; exact Nat.ne_of_lt (Heap.lt_size ho)
  unfold unpackItems
  refine wpAny_bind ?_
  · unfold notIterableAtAll
    refine wpAny_bind (wpAny_specialOf testsA.typeIs slot_tuple_iter.lookup ?_)
    refine wpAny_pure ?_
    simp only [Bool.false_eq_true, if_false]
    refine wpAny_bind (wpAny_holding (iter_tuple testsA ?_))
    refine wpAny_bind (wpAny_holding (draw_tuple hlt items.size 0 _ _ ⟨_, Heap.get?_push_size _ rfl, rfl, rfl⟩ (testsA.push _) (by omega) fun h₁ hit₁ hs₁ => ?_))
    have hall : List.take items.size (List.drop 0 items.toList) = items.toList := by
      rw [List.drop_zero]; exact List.take_of_length_le (by simp)
    rw [hall]
    rw [if_neg (by simp)]
    have ht₁ : IsTup h₁ t items := (testsA.push _).extBut hs₁.extBut hlt
    have hot₁ : HotAt A x1 h₁ := by
      obtain ⟨hh, o1, vsB, h1, d1, c1⟩ := hot
      exact ⟨hh, o1, vsB, hs₁.extBut x1 o1 (Nat.ne_of_lt (Heap.lt_size h1)) (Heap.get?_push_of_some _ h1), d1, c1⟩
    refine wpAny_bind (wpAny_holding (tup_end_hot hot₁ hit₁ ht₁ (by simp) fun h₂ he₂ => ?_))
    simp only [Option.isSome_none, Bool.false_eq_true, if_false]
    refine wpAny_pure (hQ h₂ fun b o hb e => he₂ b o hb (hs₁.extBut b o hb (Heap.get?_push_of_some _ e)))
theorem assign_tup_hot {env : Env} {elts : List Expr} {k} {pos : Pos} {t x1 : Addr} {items : Array Value} {Q : Unit → Shared → Prop} (hot : HotAt A x1 s.heap) (testsA : IsTup s.heap t items)
    (nsC : (assignEach elts env).length = items.size) (hstar : (assignEach elts env).findIdx? (·.1) = none)
    (h : ∀ h', Heap.ExtBut s.heap.objs.size s.heap h' → wpAny (model prog w) A (assignInOrder ((assignEach elts env).map (·.2)) items.toList) Q E { s with heap := h' }) :
    wpAny (model prog w) A (assign (.Tuple elts k pos) env (.ref t)) Q E s := by
  rw [assign_Tuple]
  refine wpAny_bind (wpAny_standAt ?_)
  unfold unpack
  rw [nsC, hstar]
  exact wpAny_bind (wpAny_holding (unpack_hot hot testsA h))
end
/-! ### hot contexts -/
/-- wherever the context's invariant holds an error is handled whose context is None -/
def HotW (X : Cx) : Prop := ∀ (pins : List (Addr × Obj)) (σ : L2.St) (H : Hp) (s : Shared), Inv X pins σ H s → ∃ x1, HotAt X.A x1 s.heap
theorem HotC.w {X : Cx} (c : HotC X) : HotW X := fun _ _ _ _ I => c.at I
theorem hot_pgTup {X : Cx} {es : List Expr} {k : Nat} {t : TGs} {n : Nat} {pos : Pos} (mood : HotW X) (h : PGs X es t)
    (nsC : (assignEach es X.env).length = n := by rfl) (hst : (assignEach es X.env).findIdx? (·.1) = none := by rfl) : PG X (.Tuple es k pos) (gTup X.K n t) := by
  refine ⟨fun pins s σ H v u Q I r hw => ?_⟩
  obtain ⟨a, xs, eqB, hq, lenσ, hw⟩ := hw
  subst eqB
  cases r
  obtain ⟨its, rv, testsA, hz⟩ := I.tuple hq
  obtain ⟨x1, hot⟩ := mood _ _ _ _ I
  refine assign_tup_hot hot testsA (by simp [nsC, ← lenσ, rv.length]) hst fun h' gotX => ?_
  have I1 : Inv X pins σ H { s with heap := h' } := I.kept (t' := s.toks) fun b o e => gotX b o (Nat.ne_of_lt (Heap.lt_size e)) e
  exact h.run pins _ σ H xs _ Q I1 (by simpa using rv) hw
structure TurnW (P : Program) (w : World) (K : PySem.W.Frag) (tg : Expr) (J : It) (fp : List Addr) (it : Addr) (tn : Nat → Heap → Prop) : Prop where
  mem : it ∈ fp
  obj : ∀ i h, tn i h → ∀ b ∈ fp, ∃ o, h.get? b = some o ∧ ∀ v, o.data ≠ .cell v
  keep : ∀ i h h', tn i h → (∀ b ∈ fp, ∀ o, h.get? b = some o → h'.get? b = some o) → tn i h'
  item : ∀ (X : Cx), X.prog = P → X.w = w → X.K = K → HotW X → ∀ (i : Nat) (pins : List (Addr × Obj)) (s : Shared) (σ : L2.St) (H : Hp) (E : Value → Shared → Prop), Inv X pins σ H s → (∀ b ∈ fp, FpOk X pins H b) → tn i s.heap → J.go i H →
    wpAny (model P w) X.A (pyNext (.ref it)) (fun r sA => ∃ u, r = some u ∧
      wpAny (model P w) X.A (letOwnedTupleGo tg (.ref it) u) (fun _ sB => ∃ x H', Inv X pins σ H' sB ∧ RelV x u ∧ J.yld i H x H' ∧ tn (i + 1) sB.heap ∧ ∀ b ∈ fp, H' b = none) E sA) E s
  done : ∀ (X : Cx), X.prog = P → X.w = w → X.K = K → HotW X → ∀ (i : Nat) (pins : List (Addr × Obj)) (s : Shared) (σ : L2.St) (H : Hp) (E : Value → Shared → Prop), Inv X pins σ H s → (∀ b ∈ fp, FpOk X pins H b) → tn i s.heap → J.stop i H →
    wpAny (model P w) X.A (pyNext (.ref it)) (fun r sA => r = none ∧ Inv X pins σ H sA) E s
  self : ∀ (A : Around) (i : Nat) (s : Shared) (Q : Value → Shared → Prop) (E : Value → Shared → Prop), tn i s.heap → Q (.ref it) s → wpAny (model P w) A (pyIter (.ref it)) Q E s
theorem turn_listW {P : Program} {w : World} {K : PySem.W.Frag} {tg : Expr} (a it : Addr) : TurnW P w K tg (Itl K a) [it] it (fun i h => h.IsListIter it a i) where
  mem := by simp
  obj := fun i h st b hb => by
    have e : b = it := by simpa using hb
    subst e
    obtain ⟨o, e, c, d⟩ := st
    exact ⟨o, e, fun v z => by rw [d] at z; cases z⟩
  keep := fun i h h' st k => st.at fun o e => k it (by simp) o e
  item := by
    intro X hP hw hK mood i pins s σ H E I hf st targetA
    subst hP hw hK
    obtain ⟨xs, x, hq, gotX⟩ := targetA
    obtain ⟨its, rv, p, hz⟩ := I.list hq
    obtain ⟨u, hu, ru⟩ := rv.get gotX
    obtain ⟨f0, f1, f2, roam3, f4, f5⟩ := hf it (by simp)
    refine wpAny_pyNext_list_item st p.isList (x := u) (by simpa using hu) fun h' st' sb => ?_
    have I1 : Inv X pins σ H { s with heap := h' } := I.turned (t' := s.toks) (fun b o hb e => (sb.2 b hb).trans e) f0 f1 roam3 f4 f5
    obtain ⟨o, e, c, d⟩ := id st'
    exact ⟨u, rfl, go_of (s := { s with heap := h' }) e c d (by decide) ⟨x, H, I1, ru, ⟨rfl, fun ys hy => by rw [I.list_inj hy hq]; exact gotX⟩, st', fun b hb => (hf b hb).1⟩⟩
  done := by
    intro X hP hw hK mood i pins s σ H E I hf st targetA
    subst hP hw hK
    obtain ⟨xs, hq, gotX⟩ := targetA
    obtain ⟨its, rv, p, hz⟩ := I.list hq
    obtain ⟨f0, f1, f2, roam3, f4, f5⟩ := hf it (by simp)
    have lenσ := rv.length
    obtain ⟨x1, hot⟩ := mood _ _ _ _ I
    exact list_end_hot hot st p.isList (by simp; omega) fun h' eb => ⟨rfl, I.turned (t' := s.toks) (fun b o hb e => eb b o hb e) f0 f1 roam3 f4 f5⟩
  self := fun _ _ _ _ _ st h => wpAny_pyIter_listiter st h
def PIEW (X : Cx) (pins : List (Addr × Obj)) (σ : L2.St) (tg : Expr) (R : It → Hp → Prop) (itV : Value) (sB : Shared) : Prop :=
  ∃ (it : Addr) (fp : List Addr) (tn : Nat → Heap → Prop) (J : It) (H' : Hp), itV = .ref it ∧ Inv X pins σ H' sB ∧ TurnW X.prog X.w X.K tg J fp it tn ∧ tn 0 sB.heap ∧ (∀ b ∈ fp, FpOk X pins H' b) ∧ R J H'
structure PIW (X : Cx) (tg iter : Expr) (wi : TI) : Prop where
  run : ∀ (pins : List (Addr × Obj)) (s : Shared) (σ : L2.St) (H : Hp) (R : It → Hp → Prop), Inv X pins σ H s → wi σ H R →
    wpAny (model X.prog X.w) X.A (eval iter X.env) (fun v sA => wpAny (model X.prog X.w) X.A (pyIter v) (PIEW X pins σ tg R) X.xe sA) X.xe s
theorem hot_list {X : Cx} {tg l : Expr} {tl : TE} (lenσ : PE X l tl) : PIW X tg l (iList X.K tl) := by
  refine ⟨fun pins s σ H R I h => ?_⟩
  refine thn (lenσ.run pins s σ H _ I h) fun v sA ⟨x, H1, I1, r1, q1⟩ => ?_
  obtain ⟨a, e, ⟨xs, hq⟩, q⟩ := q1
  subst e
  cases r1
  obtain ⟨its, rv, p, hz⟩ := I1.list hq
  refine wpAny_pyIter_list p.isList ?_
  refine ⟨sA.heap.objs.size, [sA.heap.objs.size], _, _, H1, rfl, I1.kept (t' := sA.toks) fun b o e => Heap.get?_push_of_some _ e, turn_listW a _, ⟨_, Heap.get?_push_size _ rfl, rfl, rfl⟩, fun b hb => ?_, q⟩
  have e : b = sA.heap.objs.size := by simpa using hb
  subst e
  exact I1.fpOk (Nat.le_refl _) (I1.hok.fresh (Nat.le_refl _))
section
variable {X : Cx}
theorem lc_coreH {pins : List (Addr × Obj)} {s : Shared} {σ : L2.St} {H : Hp} {Q : VK} {elt tg iter : Expr} {ifs : List Expr} {scope : Scope} {own : List (Str × Nat)} {pos pos' : Pos} {wi : TI} {g : TG} {tt : TT} {te : TE} {use : Option (Value → Sem Unit)} {Qf : Value → Shared → Prop}
    (mood : HotC X) (nodupN : X.N.Nodup) (I : Inv X pins σ H s) (sourceA : PIW X tg iter wi) (ok : BlkOk X.N X.env.scope scope own)
    (targetA : ∀ (s : Shared) (H : Hp) (C : Addr) (cl : List (Str × Addr)) (fp : List Addr), HotW (X.blk s H scope (compEnvC scope cl C X.env) fp) → PG (X.blk s H scope (compEnvC scope cl C X.env) fp) tg g) (testsA : ∀ (s : Shared) (H : Hp) (C : Addr) (cl : List (Str × Addr)) (fp : List Addr), PTs (X.blk s H scope (compEnvC scope cl C X.env) fp) ifs tt)
    (elemA : ∀ (s : Shared) (H : Hp) (C : Addr) (cl : List (Str × Addr)) (fp : List Addr), PE (X.blk s H scope (compEnvC scope cl C X.env) fp) elt te) (plainA : ∀ x, foldedSetIterable iter X.env x = pure x)
    (h : tLc wi g tt te (own.map (·.2)) σ H Q)
    (back : ∀ D C s' m H', Inv X pins σ H' s' → Q (.ref D) H' → s'.heap.Ns C m → FpOk X pins H' C → compPost (model X.prog X.w) X.A X.xe use Qf (.ref D) C (.ok .next) s') :
    wpAny (model X.prog X.w) X.A (comprehension (.ListComp elt [⟨tg, iter, ifs, 0⟩] scope pos) scope X.env pos' (newList []) false (eval iter X.env) use) Qf X.xe s := by
  have captured : ∀ y ∈ scope.names, y.2 = .free → ∃ c, X.env.cells.lookup y.1 = some c := fun y hy e => by
    rcases ok.free y hy e with k | k
    · exact I.ok.has _ (.inl k)
    · exact I.ok.has _ (.inr k)
  refine wpAny_comprehension_free (use := use) rfl plainA (closure_ok captured) ok.kind (fun y hy e => by rw [ok.uniq y hy, e])
    (thn (sourceA.run pins s σ H _ I h) fun srcV sA gotX => thn gotX fun itV sB h2 => ?_)
  obtain ⟨it, fp, tn, J, HB, e, I2, T, st2, f2, q⟩ := h2
  subst e
  refine wpAny_newObj_type (newEnv_comp ?_) (by show 0 ≤ sizeLine; decide)
  generalize atD : sB.heap.objs.size = D
  have freshD : HB D = none := I2.hok.fresh (Nat.le_of_eq atD)
  obtain ⟨W, ⟨mes0, inv0⟩, walk0⟩ := q D freshD
  -- the new list
  generalize laid3 : ({ sB with heap := sB.heap.push { cls := .type "list", data := .seq ([] : List Value).toArray } } : Shared) = sC
  have J3 : Inv X pins σ (upd HB D (.lst [])) sC := by
    rw [← laid3]
    refine I2.laid (t' := sB.toks) (fun b o e => Heap.get?_push_of_some _ e) (Nat.le_of_eq atD) ⟨Nat.zero_le _, [], 0, .nil, ?_⟩
    rw [← atD]
    exact Heap.get?_push_size _ rfl
  have heap3 : sC.heap = sB.heap.push { cls := .type "list", data := .seq ([] : List Value).toArray } := by rw [← laid3]
  have below : ∀ b ∈ fp, b < sB.heap.objs.size := fun b hb => by
    obtain ⟨o, e, _⟩ := T.obj _ _ st2 b hb
    exact Heap.lt_size e
  have roam3 : ∀ b ∈ fp, FpOk X pins (upd HB D (.lst [])) b ∧ b < sC.heap.objs.size := fun b hb => by
    have hlt := below b hb
    refine ⟨⟨?_, (f2 b hb).2⟩, by rw [heap3, Heap.size_push]; exact Nat.lt_succ_of_lt hlt⟩
    rw [upd_ne (by rw [← atD]; exact Nat.ne_of_lt hlt)]
    exact (f2 b hb).1
  have turn3 : tn 0 sC.heap := T.keep _ _ _ st2 fun b _ o e => by rw [heap3]; exact Heap.get?_push_of_some _ e
  have J4 := block_start J3 ok nodupN roam3
  have tgt := targetA sC (upd HB D (.lst [])) sC.heap.objs.size (cellsFrom (sC.heap.objs.size + 1) scope.names (cloFrom X.env.cells scope.names [])) fp
  have tst := testsA sC (upd HB D (.lst [])) sC.heap.objs.size (cellsFrom (sC.heap.objs.size + 1) scope.names (cloFrom X.env.cells scope.names [])) fp
  have elm := elemA sC (upd HB D (.lst [])) sC.heap.objs.size (cellsFrom (sC.heap.objs.size + 1) scope.names (cloFrom X.env.cells scope.names [])) fp
  show codeAny _ _ (.compStart (.ListComp elt [⟨tg, iter, ifs, 0⟩] scope pos) 0 (.ref it) (.ref D) (compEnvC scope (cellsFrom (sC.heap.objs.size + 1) scope.names (cloFrom X.env.cells scope.names [])) sC.heap.objs.size X.env)) (compPost (model X.prog X.w) X.A X.xe use Qf (.ref D) sC.heap.objs.size) { sC with heap := pushCells (sC.heap.push { cls := .type "dict", data := .dict #[] }) scope.names }
  have untr : ∀ b ∈ fp, (upd HB D (.lst [])) b = none := fun b hb => (roam3 b hb).1.1
  generalize blkE : compEnvC scope (cellsFrom (sC.heap.objs.size + 1) scope.names (cloFrom X.env.cells scope.names [])) sC.heap.objs.size X.env = ce at J4 tgt tst elm ⊢
  have locE : ce.locals = sC.heap.objs.size := by subst blkE; rfl
  generalize heapE : upd HB D (.lst []) = HC at J3 J4 tgt tst elm inv0 untr roam3
  -- the error is handled in the block, too
  have hotB : HotW (X.blk sC HC scope ce fp) := by
    obtain ⟨p, ⟨hh, v1, eqB, c1⟩, hp⟩ := id mood
    have P1 := J3.pin p (List.mem_append_left _ hp)
    intro pinsB σB HB sB IB
    refine ⟨p.1, hh, p.2, v1, IB.base.keep p.1 p.2 P1.1 P1.2.1 (fun lessM => (List.mem_cons.mp (J3.stkSub p.1 lessM)).elim P1.2.2.1 P1.2.2.2.1) (fun lessM => ?_), eqB, c1⟩
    exact (roam3 p.1 lessM).1.2.2.2.2.2 p (List.mem_append_left _ hp) rfl
  have tgt := tgt hotB
  generalize laid4 : ({ sC with heap := pushCells (sC.heap.push { cls := .type "dict", data := .dict #[] }) scope.names } : Shared) = sD at J4 ⊢
  have turn4 : tn 0 sD.heap := T.keep _ _ _ turn3 fun b _ o e => by rw [← laid4]; exact pushCells_keeps _ _ _ _ (Heap.get?_push_of_some _ e)
  have stat : ∀ {σ' : L2.St} {H' : Hp} {s' : Shared}, Inv (X.blk sC HC scope ce fp) [] σ' H' s' → (∀ b ∈ fp, H' b = none) → ∀ b ∈ fp, FpOk (X.blk sC HC scope ce fp) [] H' b := fun {σ' H' s'} I' nsC b hb =>
    ⟨nsC b hb, (I'.ok.exf b hb).1, I'.ok.exfs b hb, .inl hb, fun x c e => (I'.ok.exf b hb).2 x c e, fun p hp => absurd (show p ∈ ([] : List (Addr × Obj)) ++ [] from hp) (by simp)⟩
  have outer0 : codeAny (model X.prog X.w) X.A (.compLoop (.ListComp elt [⟨tg, iter, ifs, 0⟩] scope pos) 0 (.ref it) (.ref D) ce) (compPost (model X.prog X.w) X.A X.xe use Qf (.ref D) sC.heap.objs.size) sD := by
    refine compLoop_any (fun n s' => ∃ i H', Inv (X.blk sC HC scope ce fp) [] (wipe σ (own.map (·.2))) H' s' ∧ tn i s'.heap ∧ (∀ b ∈ fp, H' b = none) ∧ W i n H') ?_ mes0 ⟨0, HC, J4, turn4, untr, inv0⟩
    rintro n sE ⟨i, HE, J5, turn5, un5, inv5⟩
    rcases walk0 i n HE inv5 with ⟨atEnd, done0⟩ | ⟨more, NxA, reach, step⟩
    · have ended := T.done (X.blk sC HC scope ce fp) rfl rfl rfl hotB i [] sE _ HE (fun _ _ => False) J5 (stat J5 un5) turn5 atEnd
      refine thnF ended fun r sF ⟨hr, J6⟩ => ?_
      subst hr
      -- back in the def's context
      have J7 : Inv X pins σ HE sF := J3.call' (ch := fp) J6.os J6.base J6.hok J6.bare fun b hb => ⟨(roam3 b hb).1.2.2.2.1, (roam3 b hb).1.2.1, (roam3 b hb).1.2.2.2.2.1, (roam3 b hb).1.2.2.2.2.2⟩
      have freeC : HE sC.heap.objs.size = none := by
        have z : HE ce.locals = none := J6.free
        rw [locE] at z
        exact z
      obtain ⟨m, nsC, _⟩ := J6.loc
      have nsC : sF.heap.Ns ce.locals m := nsC
      rw [locE] at nsC
      exact back D sC.heap.objs.size sF m HE J7 done0 nsC (J3.fpOk (Nat.le_refl _) freeC)
    · have given := T.item (X.blk sC HC scope ce fp) rfl rfl rfl hotB i [] sE _ HE (fun _ _ => False) J5 (stat J5 un5) turn5 more
      refine thnF given fun r sF ⟨u, hr, got6⟩ => ?_
      subst hr
      refine thnF got6 fun _ sG ⟨x, HG, J7, rel7, yld7, turn7, un7⟩ => ?_
      have J7p := J7.pinned (stat J7 un7) (T.obj _ _ turn7)
      refine thnF (tgt.run _ sG _ HG x u _ J7p rel7 (step x HG yld7)) fun _ sH ⟨τ, HH, J8, wip8, go8⟩ => ?_
      refine thnF (tst.run _ sH τ HH _ J8 go8) fun b sI ⟨HI, J9, go9⟩ => ?_
      -- the turn's end
      have close : ∀ {s' : Shared} {H' : Hp}, Inv (X.blk sC HC scope ce fp) ([] ++ pinsAt fp sG.heap) τ H' s' → NxA H' → ∃ m, m < n ∧ ∃ i H', Inv (X.blk sC HC scope ce fp) [] (wipe σ (own.map (·.2))) H' s' ∧ tn i s'.heap ∧ (∀ b ∈ fp, H' b = none) ∧ W i m H' := fun {s' H'} I' nextW => by
        obtain ⟨m', lessM, invM⟩ := reach H' nextW
        have kept : ∀ b ∈ fp, ∀ o, sG.heap.get? b = some o → s'.heap.get? b = some o ∧ H' b = none := fun b hb o e =>
          let z := I'.pin (b, o) (List.mem_append_right _ (List.mem_append_right _ (mem_pinsAt hb e)))
          ⟨z.1, z.2.1⟩
        have lenσ : (wipe σ (own.map (·.2))).length = τ.length := by rw [← wip8, wipe_length]
        refine ⟨m', lessM, i + 1, H', (I'.unpinned (pins := [])).weak lenσ (fun j v e => ?_), T.keep _ _ _ turn7 fun b hb o e => (kept b hb o e).1, fun b hb => ?_, invM⟩
        · rw [← wip8] at e
          exact (wipe_some e).1
        · obtain ⟨o, e, _⟩ := T.obj _ _ turn7 b hb
          exact (kept b hb o e).2
      cases b with
      | false =>
        simp only [Bool.false_eq_true, if_false] at go9 ⊢
        exact close J9 go9
      | true =>
        simp only [if_true] at go9 ⊢
        refine thnF (elm.run _ sI τ HI _ J9 go9) fun z sJ ⟨yv, HJ, J10, rel10, acc, acc10, room10, nextW⟩ => ?_
        exact app_ok (X := X.blk sC HC scope ce fp) J10 acc10 room10 rel10 fun sK J11 => close J11 nextW
  exact codeAny_compStart_list outer0 (T.self X.A 0 _ _ _ turn4 outer0)
/-- name = [..] on one line, the name a local, an error being handled -/
theorem hot_setLc {i : Nat} {y : Str} {py : Pos} {elt tg iter : Expr} {ifs : List Expr} {scope : Scope} {own : List (Str × Nat)} {pos spos : Pos} {wi : TI} {g : TG} {tt : TT} {te : TE} (mood : HotC X) (nodupN : X.N.Nodup) (hy : X.N[i]? = some y) (hyl : X.env.scope.names.lookup y = some .local)
    (hsw : swapsWith (.ListComp elt [⟨tg, iter, ifs, 0⟩] scope pos) (some (.Name y py)) spos.line X.env = pure true) (sourceA : PIW X tg iter wi) (ok : BlkOk X.N X.env.scope scope own)
    (targetA : ∀ (s : Shared) (H : Hp) (C : Addr) (cl : List (Str × Addr)) (fp : List Addr), HotW (X.blk s H scope (compEnvC scope cl C X.env) fp) → PG (X.blk s H scope (compEnvC scope cl C X.env) fp) tg g) (testsA : ∀ (s : Shared) (H : Hp) (C : Addr) (cl : List (Str × Addr)) (fp : List Addr), PTs (X.blk s H scope (compEnvC scope cl C X.env) fp) ifs tt)
    (elemA : ∀ (s : Shared) (H : Hp) (C : Addr) (cl : List (Str × Addr)) (fp : List Addr), PE (X.blk s H scope (compEnvC scope cl C X.env) fp) elt te) (plainA : ∀ x, foldedSetIterable iter X.env x = pure x := by intro _; rfl) :
    PS X (.Assign [.Name y py] (.ListComp elt [⟨tg, iter, ifs, 0⟩] scope pos) spos) (tAsg (tLc wi g tt te (own.map (·.2))) (gName i)) := by
  refine ⟨fun pins s σ H D I h => ?_⟩
  rw [exec_Assign_Name_used _ _ _ _ hsw]
  refine wpAny_bind (wpAny_standAt (wpAny_bind ?_))
  show wpAny _ X.A (do let _ ← comprehension (.ListComp elt [⟨tg, iter, ifs, 0⟩] scope pos) scope X.env (firstIterPos [⟨tg, iter, ifs, 0⟩] pos) (newList []) false (eval iter X.env) (some (assign (.Name y py) X.env))) _ _ s
  have h : tLc wi g tt te (own.map (·.2)) σ H (fun x H1 => gName i x σ H1 D.nx) := h
  refine wpAny_bind (thn (lc_coreH (Qf := fun _ s' => SP X pins D .next s') mood nodupN I sourceA ok targetA testsA elemA plainA h fun L C s' m H' I' q nsC f => ?_) fun _ s' hq => wpAny_pure (wpAny_pure hq))
  show wpAny _ _ (assign (.Name y py) X.env (.ref L)) _ _ _
  refine wpAny_assign_Name (store_ok2 (v := V.ref L) I' nodupN hy (.inl hyl) rfl (fun sB I2 ⟨a, sb, ha⟩ => ?_) (.inr hyl))
  obtain ⟨f0, f1, f2, roam3, f4, f5⟩ := f
  have haC : C ≠ a := by
    rcases ha with z | z
    · rw [z]; exact f1
    · exact fun e => f4 y a z e.symm
  refine ⟨m, nsC.sameBut sb haC, fun heap3 sb3 => ?_⟩
  exact ⟨_, H', I2.turned (t' := sB.toks) (fun b o hb e => (sb3.2 b hb).trans e) f0 f1 roam3 f4 f5, q⟩
end
end Sq

set_option Elab.async false
set_option linter.all false
set_option maxRecDepth 100000
set_option maxHeartbeats 4000000
/-! A def of the law called within an except suite with the caught error. -/
namespace Sq
open PySem PySem.Spec PyProof.Rows L2 HotX L2H
/-- what a def promises there: e the handled error, its class, its dict -/
abbrev SpZ := Addr → Value → Option Addr → Sp
structure FnHZ (P : Program) (w : World) (K : PySem.W.Frag) (mg : Str → Option Value) (base : Heap) (CX : CXT) (k : Nat) (f : Addr) (fd : FuncData) (ps : List Str) (sp : SpZ) : Prop where
  len : ∀ a c d vs H Q E, sp a c d vs H Q E → vs.length = ps.length
  run : ∀ (A : Around) (outer : List Env) (s : Shared) (H : Hp) (args : Args) (us : List Value) (vs : List V) (Q : VK) (E : XK) (p : Addr × Obj) (cls : Value) (d : Option Addr), RoomH k A → Hot1 A p → L2N.Zn cls d p.2 → PinOk outer H s p → Env0 P w K mg base A outer s H → BindsTo s fd args (ps.zip us) → Vals vs us → sp p.1 cls d vs H Q E →
    codeAny (model P w) A (.call (.ref f) args) (CR CX outer P w H s Q E) s
theorem fn_ofHZ {CX : CXT} {P : Program} {w : World} {K : PySem.W.Frag} {mg : Str → Option Value} {base : Heap} {k : Nat} {f : Addr} {x qual : Str} {st : Stmt} {fd : FuncData} {N ps : List Str} {sp : SpZ}
    (F : Fun K x qual st f fd) (S : FnScope N ps (defScope st)) (len : ∀ a c d vs H Q E, sp a c d vs H Q E → vs.length = ps.length)
    (hbody : ∀ (cdv : Value) (A : Around) (outer : List Env) (s : Shared) (H : Hp) (vs : List V) (Q : VK) (E : XK) (p : Addr × Obj) (cls : Value) (d : Option Addr), Hot1 A p → L2N.Zn cls d p.2 → RoomH k (A.deeper (envOfC qual (defScope st) s.heap.objs.size f cdv)) → sp p.1 cls d vs H Q E →
      ∃ t, PSs (cxH CX P w K mg base N qual (defScope st) f cdv A outer s H E p) (defBody st) t ∧ t { nx := fun _ H' => Q .non H', rt := Q } (L2.start N vs) H) :
    FnHZ P w K mg base CX (k + 1) f fd ps sp := by
  obtain ⟨oc, od, kV, doc, pm, an, cdv, ct, osl, rfl, lk, hcd⟩ := F.ex
  refine ⟨len, fun A outer s H args us vs Q E p cls d hr hot hz hpin e0 hb r hsp => ?_⟩
  have hl := len _ _ _ _ _ _ _ hsp
  have KX : K.In s.heap := e0.mod.kin.keeps fun b o e => (e0.bs b o e).1
  have lim : s.heap.NoLimit := e0.mod.nolimit.keeps fun b o e => (e0.bs b o e).1
  have hkind : ∀ y ∈ ps.zip us, (defScope st).names.lookup y.1 = some .local ∨ ((defScope st).names.lookup y.1 = some .cell ∧ ((cellsFrom (s.heap.objs.size + 1) (defScope st).names []).lookup y.1).isSome = true) := fun ⟨n, v⟩ hy => by
    rcases S.par n (List.of_mem_zip hy).1 with q | q
    · exact .inl q
    · exact .inr ⟨q, PySem.W.cellsFrom_some _ _ _ (.inl q)⟩
  refine codeAny_call_function hr.depth (KX _ _ lk) rfl S.co S.gen rfl (PySem.W.codeRec_of KX hcd) (hb _ _ _ _ ?_)
  refine wpAny_newFunctionEnv_cells S.kind hkind fun env he s1 x => ?_
  subst he
  refine ⟨lim.keeps x.toInCall.keep, codeAny_func ?_⟩
  obtain ⟨t, ht, hq⟩ := hbody cdv A outer s H vs Q E p cls d hot hz (hr.deeper _) hsp
  have I : Inv (cxH CX P w K mg base N qual (defScope st) f cdv A outer s H E p) [] (L2.start N vs) H s1 := inv_startH S hpin e0 hl r x
  refine wpAny_mono (ht.run [] s1 (L2.start N vs) H _ I hq) (fun fl s' hs => ?_) fun e s' hs => hs
  have fin : ∀ {σ' : L2.St} {H' : Hp} {v : V} {u : Value}, Inv (cxH CX P w K mg base N qual (defScope st) f cdv A outer s H E p) [] σ' H' s' → RelV v u → Q v H' → CE outer P w H s Q u s' :=
    fun {σ' H' v u} J rv q => ⟨v, H', J.os, J.bare, J.base, J.hok, rv, q⟩
  cases fl with
  | ret u =>
    obtain ⟨v, σ', H', J, rv, q⟩ := hs
    exact fin J rv q
  | next =>
    obtain ⟨σ', H', J, q⟩ := hs
    exact fin (v := V.non) (u := Value.none) J rfl q
  | brk =>
    obtain ⟨_, _, _, q⟩ := hs
    exact False.elim q
  | cont =>
    obtain ⟨_, _, _, q⟩ := hs
    exact False.elim q
/-- it stands at its name -/
structure Dz (P : Program) (w : World) (K : PySem.W.Frag) (mg : Str → Option Value) (base : Heap) (k : Nat) (x : Str) (ps : List Str) (sp : SpZ) : Prop where
  ex : ∃ f fd, FnHZ P w K mg base CX0 k f fd ps sp ∧ mg x = some (.ref f) ∧ PySem.W.keepIn K (.ref f) = true ∧ Binds K fd ps []
section
variable {X : Cx} {k : Nat} {ps : List Str} {sp : SpZ} {x : Str} {q pos : Pos} {e : Expr} {es : List Expr} {t : TA} {a : Addr} {oe : Obj} {cls : Value} {d : Option Addr} {pn : List (Addr × Obj)}
/-- the call, in the suite of the clause that caught the error at a -/
theorem pe_callHZ (D : Dz X.prog X.w X.K X.mg X.base k x ps sp) (hz : L2N.Zn cls d oe) (hf : ∃ vs, oe.data = .fields vs) (hr : Room k X.A) (hg : Gl X x) (ha : PA (X.suite a ((a, oe) :: pn)) (e :: es) t)
    (hdb : (x == ("__debug__" : Str)) = false := by decide) (he : starEach (e :: es) X.env = (false, eval e X.env) :: starEach es X.env := by rfl) (hpl : (backTo pos (starEach es X.env)).any (·.1) = false := by rfl) :
    PE (X.suite a ((a, oe) :: pn)) (.Call (.Name x q) (e :: es) [] pos) (tCallS (sp a cls d) (fun _ => E0) t) := by
  obtain ⟨f, fd, F, hm, hk, hb⟩ := D.ex
  obtain ⟨vs0, hd0⟩ := hf
  refine ⟨fun pins s σ H Q I h => ?_⟩
  refine wpAny_Call_Name_kw (ld_glob (X := X.suite a ((a, oe) :: pn)) I hg hm ?_ hdb)
  refine PySem.W.callWith_K (h₀ := X.base) I.ok.mod.kin hk (thn (ha.run pos pins s σ H _ I h) fun us s1 ⟨vs, H1, I1, r, q⟩ => ⟨I1.kIn, ?_⟩) he hpl
  have hl : us.length = ps.length := by rw [← r.length]; exact F.len _ _ _ _ _ _ _ q
  have b := hb s1 us I1.kIn (by rw [List.append_nil]; exact hl)
  rw [List.append_nil] at b
  have P1 := I1.pin (a, oe) (List.mem_append_left _ List.mem_cons_self)
  have hpin : PinOk X.stack H1 s1 (a, oe) := ⟨P1.1, P1.2.1, fun hm => (List.mem_cons.mp (I1.stkSub a hm)).elim P1.2.2.1 P1.2.2.2.1, P1.2.2.2.2⟩
  have hot : Hot1 (X.suite a ((a, oe) :: pn)).A (a, oe) := ⟨rfl, vs0, hd0, hz.2.2 vs0 hd0⟩
  have hrH : RoomH k (X.suite a ((a, oe) :: pn)).A := ⟨hr.dp, hr.un⟩
  refine wpAny_call (codeAny_mono (F.run (X.suite a ((a, oe) :: pn)).A X.stack s1 H1 ⟨us, []⟩ us vs Q (fun _ _ _ => False) (a, oe) cls d hrH hot hz hpin I1.env0 b r q) fun r s' hq => ?_)
  cases r with
  | error u => exact hq.elim
  | ok fl =>
    cases fl with
    | ret u => exact I1.after hq
    | next => exact False.elim hq
    | brk => exact False.elim hq
    | cont => exact False.elim hq
end
/-! ### what is asked of the handled error -/
section
variable {X : Cx} {p : Addr × Obj} {C d : Addr}
theorem pin_obj {pins : List (Addr × Obj)} {σ : L2.St} {H : Hp} {s : Shared} {v : V} (I : Inv X pins σ H s) (hp : p ∈ X.pn) (hz : L2N.Zn (.ref C) (some d) p.2) (hf : ∃ vs, p.2.data = .fields vs) (e : H d = some (exd d [(("value" : Str), v)])) :
    ∃ od u, PySem.W.InstAt s.heap p.1 p.2 C (some od) ∧ PySem.W.lookIn "value" od = some (some u) ∧ RelV v u := by
  obtain ⟨vs, hd⟩ := hf
  have ho := (I.pin p (List.mem_append_left _ hp)).1
  obtain ⟨mA, hns, hr⟩ := exd_at I.hok e
  obtain ⟨od, hod, hl⟩ := lookIn_ns hns
  have l : List.lookup ("value" : Str) [(("value" : Str), v)] = some v := by simp [List.lookup]
  obtain ⟨u, hu, ru⟩ := RelO.some_of (v := v) (o := mA "value") (by rw [← l]; exact hr "value")
  exact ⟨od, u, ⟨ho, hz.1, by unfold PySem.W.notCls; rw [hd] <;> rfl, by rw [hz.2.1]; exact hod⟩, by rw [hl, hu], ru⟩
def rIsiP (K : PySem.W.Frag) (a C d : Addr) : List V → Hp → VK → Prop := fun xs H Q => ∃ (v c : V) (u : Value) (b : Bool), xs = [.ref a, c] ∧ ClsV c u ∧ H d = some (exd d [(("value" : Str), v)]) ∧ ExcC K C ∧ PySem.W.kitOne K (.ref C) u = some b ∧ Q (.bl b) H
theorem call_isiP (hp : p ∈ X.pn) (hz : L2N.Zn (.ref C) (some d) p.2) (hf : ∃ vs, p.2.data = .fields vs) : CallR X (.builtin "isinstance") (rIsiP X.K p.1 C d) := by
  intro pins s σ H xs us Q I r h
  obtain ⟨v, c, u, b, rfl, k, at_, T, e, q⟩ := h
  obtain ⟨u1, u2, rfl, r1, r2⟩ := vals2 r
  obtain rfl := k.eq r2
  obtain rfl : u1 = Value.ref p.1 := r1
  obtain ⟨od, uv, J, _, _⟩ := pin_obj I hp hz hf at_
  exact PySem.W.kia_one (SqX.kit (ox := p.2) (od := some od) T) I.kIn J e (fun z => nomatch z) fun tk => ⟨.bl b, H, I.tok tk, rfl, q⟩
def tPv (K : PySem.W.Frag) (a C d : Addr) (te : TE) : TE := fun σ H Q => te σ H fun x H1 => ∃ (v : V), x = .ref a ∧ H1 d = some (exd d [(("value" : Str), v)]) ∧ XfC K C ∧ PySem.W.findIn K (.ref C) "value" = some none ∧ Q v H1
theorem pe_pv {e : Expr} {te : TE} {pos : Pos} (hp : p ∈ X.pn) (hz : L2N.Zn (.ref C) (some d) p.2) (hf : ∃ vs, p.2.data = .fields vs) (he : PE X e te) (hb : attributeBase e "value" X.env (eval e X.env) = eval e X.env := by rfl) : PE X (.Attribute e "value" pos) (tPv X.K p.1 C d te) := by
  refine ⟨fun pins s σ H Q I h => ?_⟩
  refine attr_of hb (thn (he.run pins s σ H _ I h) fun u s1 hh => ?_)
  obtain ⟨x, H1, I1, rx, v, ex, at_, T, hno, q⟩ := hh
  subst ex
  obtain rfl : u = Value.ref p.1 := rx
  obtain ⟨od, uv, J, l, ru⟩ := pin_obj I1 hp hz hf at_
  exact HandSPX.exc_get I1.kIn J T.ga T.gg T.exC (PySem.W.findObj_own T.hdC hno rfl l) (handed_of ru) ⟨v, H1, I1.tok _, ru, q⟩
end
end Sq

set_option Elab.async false
set_option linter.all false
set_option maxRecDepth 100000
set_option maxHeartbeats 4000000
/-! Calls that may raise, where the error's context is known to be None. -/
namespace Sq
open PySem PySem.Spec PyProof.Rows L2
theorem okN {P : Program} {w : World} {K : PySem.W.Frag} {mg : Str → Option Value} {base : Heap} {x qual : Str} {st : Stmt} {f : Addr} {fd : FuncData} {N ps : List Str} {k : Nat} {sp : Sp} (F : Fun K x qual st f fd) (S : FnScope N ps (defScope st)) (len : ∀ vs H Q E, sp vs H Q E → vs.length = ps.length)
    (walk : ∀ (cdv : Value) (A : Around) (outer : List Env) (s : Shared) (H : Hp) (vs : List V) (Q : VK) (E : XK), Room k (A.deeper (envOfC qual (defScope st) s.heap.objs.size f cdv)) → sp vs H Q E →
      ∃ t, PSs (cxOf (L2N.CX P w) P w K mg base N qual (defScope st) f cdv A outer s H E) (defBody st) t ∧ t { nx := fun _ H' => Q .non H', rt := Q } (L2.start N vs) H) : FnOk P w K mg base (L2N.CX P w) (k + 1) f fd ps sp := by
  obtain ⟨oc, od, kV, doc, pm, an, cdv, ct, osl, rfl, lk, hcd⟩ := F.ex
  exact fn_of lk hcd S len fun A outer s H vs Q E hr h => walk cdv A outer s H vs Q E hr h
/-- a def with defaults that may raise -/
theorem okDN {P : Program} {w : World} {K : PySem.W.Frag} {mg : Str → Option Value} {base : Heap} {x qual : Str} {prm : Arguments} {bd : List Stmt} {scp : Scope} {dvs : List V} {kws : List (Str × V)} {f : Addr} {fd : FuncData} {names ps : List Str} {k : Nat} {sp : Sp}
    (F : FunD K x qual prm bd scp dvs kws f fd) (sc : FnScope names ps scp) (count : ∀ vs H Q E, sp vs H Q E → vs.length = ps.length)
    (inner : ∀ (cdv : Value) (A : Around) (outer : List Env) (s : Shared) (H : Hp) (vs : List V) (Q : VK) (E : XK), Room k (A.deeper (envOfC qual scp s.heap.objs.size f cdv)) → sp vs H Q E →
      ∃ t, PSs (cxOf (L2N.CX P w) P w K mg base names qual scp f cdv A outer s H E) bd t ∧ t { nx := fun _ H' => Q .non H', rt := Q } (start names vs) H) : FnOk P w K mg base (L2N.CX P w) (k + 1) f fd ps sp :=
  F.ok sc count fun cdv A outer s H vs Q E hr h => inner cdv A outer s H vs Q E hr h
structure Dn (P : Program) (w : World) (K : PySem.W.Frag) (mg : Str → Option Value) (base : Heap) (k : Nat) (x : Str) (ps : List Str) (sp : Sp) : Prop where
  ex : ∃ f fd, FnOk P w K mg base (L2N.CX P w) k f fd ps sp ∧ mg x = some (.ref f) ∧ PySem.W.keepIn K (.ref f) = true ∧ Binds K fd ps []
theorem Dn.mk' {P : Program} {w : World} {K : PySem.W.Frag} {mg : Str → Option Value} {base : Heap} {k : Nat} {x : Str} {st : Stmt} {ps : List Str} {sp : Sp} {f : Addr} {fd : FuncData} (F : Fun K x x st f fd) (G : FnOk P w K mg base (L2N.CX P w) k f fd ps sp) (g : mg x = some (.ref f)) (b : Binds K fd ps []) : Dn P w K mg base k x ps sp :=
  ⟨⟨f, fd, G, g, F.kp, b⟩⟩
theorem Dz.mk' {P : Program} {w : World} {K : PySem.W.Frag} {mg : Str → Option Value} {base : Heap} {k : Nat} {x : Str} {st : Stmt} {ps : List Str} {sp : SpZ} {f : Addr} {fd : FuncData} (F : Fun K x x st f fd) (G : FnHZ P w K mg base CX0 k f fd ps sp) (g : mg x = some (.ref f)) (b : Binds K fd ps []) : Dz P w K mg base k x ps sp :=
  ⟨⟨f, fd, G, g, F.kp, b⟩⟩
section
variable {P : Program} {w : World} {K : PySem.W.Frag} {mg : Str → Option Value} {base : Heap} {N : List Str} {qual : Str} {scope : Scope} {f : Addr} {cd : Value} {A : Around} {outer : List Env} {s : Shared} {H : Hp} {E : XK}
theorem takesN : L2N.Takes (cxOf (L2N.CX P w) P w K mg base N qual scope f cd A outer s H E) (fun cls d _ H' => E cls d H') := L2N.takes_of rfl rfl rfl rfl
theorem ownsN : PassesOwn (model P w) (cxOf (L2N.CX P w) P w K mg base N qual scope f cd A outer s H E).A (cxOf (L2N.CX P w) P w K mg base N qual scope f cd A outer s H E).env (cxOf (L2N.CX P w) P w K mg base N qual scope f cd A outer s H E).xe := passes_of rfl
end
theorem takesN0 {X : Cx} : L2N.Takes X (fun _ _ _ _ => False) := fun _ _ x => by
  obtain ⟨_, _, _, _, _, _, _, _, _, _, _, _, _, _, _, _, z⟩ := x
  exact z.elim
section
variable {X : Cx} {k : Nat} {ps ks : List Str} {sp : Sp} {x : Str} {p pos : Pos} {e : Expr} {es : List Expr} {t tk : TA} {W : WX}
theorem pe_callN (D : Dn X.prog X.w X.K X.mg X.base k x ps sp) (takes : L2N.Takes X W) (hr : Room k X.A) (hg : Gl X x) (ha : PA X (e :: es) t) (hdb : (x == ("__debug__" : Str)) = false := by decide)
    (he : starEach (e :: es) X.env = (false, eval e X.env) :: starEach es X.env := by rfl) (hpl : (backTo pos (starEach es X.env)).any (·.1) = false := by rfl) :
    PE X (.Call (.Name x p) (e :: es) [] pos) (tCallS sp (WE W) t) := by
  obtain ⟨f, fd, F, g, kp, b⟩ := D.ex
  exact pe_callS F hr hg g kp b (L2N.passAt takes) ha hdb he hpl
/-- raise X(e): what is made, its context None -/
theorem pmk_erN {C fI : Addr} {q : Str} {te : TE} (T : SqX.Er X.K X.prog C fI q) (gC : X.mg x = some (.ref C)) (hr : Room k X.A) (hg : Gl X x) (he : PE X e te)
    (hs : starEach [e] X.env = (false, eval e X.env) :: starEach [] X.env := by rfl) (hdb : (x == ("__debug__" : Str)) = false := by decide) :
    L2N.PMk X (.Call (.Name x p) [e] [] pos) (fun σ H Q => te σ H fun v H1 => ∀ d, H1 d = none → Q (.ref C) (some d) (upd H1 d (exd d [(("value" : Str), v)]))) := by
  intro pins s σ H Q I h
  refine wpAny_Call_Name_kw (ld_glob I hg gC ?_ hdb)
  refine PySem.W.callWith_K (h₀ := X.base) I.ok.mod.kin T.kC ?_ hs (by rfl)
  rw [hs]
  show wpAny _ _ (spliced ((false, eval e X.env) :: backTo pos (starEach [] X.env))) _ _ s
  refine Calls.spliced_cons (thn (he.run pins s σ H _ I h) fun u s1 hh => ?_)
  obtain ⟨v, H1, I1, r1, q1⟩ := hh
  refine Calls.spliced_nil ⟨I1.kIn, ?_⟩
  show wpAny _ _ (call (.ref C) [u]) _ _ _
  obtain ⟨mb, hb, boot⟩ := I1.ok.mod.blt
  refine wpAny_call (SqX.made T I1.kIn (I1.ok.mod.glob.keeps I1.bk) I1.nolimit (hb.keeps I1.bk) boot (by have := hr.dp; omega) fun h' tk a d t1 M => ?_)
  have na : H1 a = none := I1.hok.fresh M.big
  have nd : H1 d = none := I1.hok.fresh M.dbig
  obtain ⟨G, g1, g2⟩ := restrict h' fun b => decide (b ≠ a)
  have gk : ∀ b, b ≠ a → G.get? b = h'.get? b := fun b hb => g1 b (decide_eq_true hb)
  have ga : G.get? a = none := g2 a (by simp)
  have old : ∀ b o, s1.heap.get? b = some o → G.get? b = some o := fun b o z => (gk b (Nat.ne_of_lt (Nat.lt_of_lt_of_le (Heap.lt_size z) M.big))).trans (M.keep b o z)
  have nsG : G.Ns1 d (fun y => if y = "value" then some u else none) := M.ns.at fun o z => (gk d M.dne).trans z
  have rel : ∀ f, RelO (List.lookup f [(("value" : Str), v)]) (if f = "value" then some u else none) := relO_put (fs := []) (mA := fun _ => none) r1 fun g => True.intro
  have J : Inv X pins σ (upd H1 d (exd d [(("value" : Str), v)])) { s1 with heap := G, toks := tk } := I1.laid (t' := tk) old M.dbig (exd_ok nsG rel)
  refine ⟨a, _, _, { s1 with heap := G, toks := tk }, _, .ref C, some d, rfl, J, fun b o z => ?_, ga, M.obj, ⟨rfl, rfl, fun vs e => by cases e; rfl⟩, rfl, rfl, by rw [upd_ne (Ne.symm M.dne)]; exact na, rfl, I1.bare, raises_own T.exC T.tyC, q1 d nd⟩
  by_cases hb : b = a
  · rw [hb, ga] at z
    cases z
  · rw [← gk b hb]
    exact z
end
end Sq

set_option Elab.async false
set_option linter.all false
set_option maxRecDepth 100000
set_option maxHeartbeats 2000000
/-! Data read off the layer's heap. -/
namespace Sq
open PySem PySem.Spec PyProof.Rows L2
theorem same_new {H : Hp} {p : Addr} {o : HO} (h : H p = none) : Same H (upd H p o) := fun b x e => by
  rw [upd_ne (ne_of_none e h)]
  exact e
theorem map_at {ks : List Int} {i : Nat} {x : V} (h : (ks.map V.int)[i]? = some x) : ∃ k, ks[i]? = some k ∧ V.int k = x := by
  rw [List.getElem?_map] at h
  exact Option.map_eq_some_iff.mp h
section
variable {K : PySem.W.Frag}
theorem dp_ints {H : Hp} : ∀ (ds : List Int), DpAll K H (ds.map V.int) (ds.map PyData.int)
  | [] => .nil
  | d :: ds => .cons (.int d) (dp_ints ds)
theorem lays_ints : ∀ (ds : List Int), PyData.canLayAll0 (ds.map PyData.int) = true
  | [] => rfl
  | d :: ds => by
    show (PyData.canLay0 (.int d) && PyData.canLayAll0 (ds.map PyData.int)) = true
    rw [lays_ints ds]
    rfl
theorem deep_ints : ∀ (ds : List Int), PyData.depthAll (ds.map PyData.int) ≤ 1
  | [] => Nat.zero_le _
  | _ :: ds => Nat.max_le.mpr ⟨Nat.zero_le _, deep_ints ds⟩
theorem shaped_ints (ds : List Int) : SeqAt.shaped (.list (ds.map PyData.int)) = true :=
  Bool.and_eq_true_iff.mpr ⟨lays_ints ds, decide_eq_true (Nat.le_trans (Nat.add_le_add_right (deep_ints ds) 1) (by decide))⟩
end
/-! ### data of ints and short lists -/
mutual
def il : PyData → Bool
  | .int _ => true
  | .list xs => decide (xs.length ≤ 1000) && ilAll xs
  | _ => false
def ilAll : List PyData → Bool
  | [] => true
  | x :: xs => il x && ilAll xs
end
theorem il_at : ∀ {ds : List PyData} {i : Nat} {d : PyData}, ilAll ds = true → ds[i]? = some d → il d = true
  | x :: xs, 0, d, h, e => by
    cases e
    exact (Bool.and_eq_true_iff.mp h).1
  | x :: xs, i + 1, d, h, e => il_at (Bool.and_eq_true_iff.mp h).2 e
theorem depth_at : ∀ {ds : List PyData} {i : Nat} {d : PyData}, ds[i]? = some d → d.depth ≤ PyData.depthAll ds
  | x :: xs, 0, d, e => by
    cases e
    exact Nat.le_max_left _ _
  | x :: xs, i + 1, d, e => Nat.le_trans (depth_at (ds := xs) e) (Nat.le_max_right _ _)
theorem dp_at {K : PySem.W.Frag} {H : Hp} : ∀ {xs : List V} {ds : List PyData} {i : Nat} {d : PyData}, DpAll K H xs ds → ds[i]? = some d → ∃ x, xs[i]? = some x ∧ Dp K H x d
  | _, _, 0, d, .cons h _, e => by
    cases e
    exact ⟨_, rfl, h⟩
  | _, _, i + 1, d, .cons _ t, e => dp_at (i := i) t e
theorem dp_len {K : PySem.W.Frag} {H : Hp} : ∀ {xs : List V} {ds : List PyData}, DpAll K H xs ds → xs.length = ds.length
  | _, _, .nil => rfl
  | _, _, .cons _ t => congrArg Nat.succ (dp_len t)
mutual
theorem Dp.same {K : PySem.W.Frag} {H H' : Hp} (s : Same H H') : ∀ {d : PyData} {x : V}, Dp K H x d → Dp K H' x d
  | .none, _, .non => .non
  | .bool b, _, .bl _ => .bl b
  | .int i, _, .int _ => .int i
  | .str x, _, .str _ => .str x
  | .list ds, _, .lst h a => .lst (s.seq h) (DpAll.same s a)
  | .tuple ds, _, .tup h a => .tup (by
      rcases h with (h | ⟨o, h⟩) | h
      · exact .inl (.inl (s _ _ h))
      · exact .inl (.inr ⟨o, s _ _ h⟩)
      · exact .inr h) (DpAll.same s a)
theorem DpAll.same {K : PySem.W.Frag} {H H' : Hp} (s : Same H H') : ∀ {ds : List PyData} {xs : List V}, DpAll K H xs ds → DpAll K H' xs ds
  | [], _, .nil => .nil
  | _ :: _, _, .cons h t => .cons (Dp.same s h) (DpAll.same s t)
end
theorem eqv_take : ∀ {ds es : List PyData} {i : Nat} {d e : PyData}, ds[i]? = some d → es[i]? = some e → PyData.eqvAll (ds.take (i + 1)) (es.take (i + 1)) = (PyData.eqvAll (ds.take i) (es.take i) && PyData.eqv d e)
  | x :: xs, y :: ys, 0, d, e, h1, h2 => by
    cases h1
    cases h2
    show (PyData.eqv x y && true) = (true && PyData.eqv x y)
    cases PyData.eqv x y <;> rfl
  | x :: xs, y :: ys, i + 1, d, e, h1, h2 => by
    show (PyData.eqv x y && PyData.eqvAll (xs.take (i + 1)) (ys.take (i + 1))) = ((PyData.eqv x y && PyData.eqvAll (xs.take i) (ys.take i)) && PyData.eqv d e)
    rw [eqv_take (ds := xs) (es := ys) (i := i) h1 h2, Bool.and_assoc]
theorem eqv_lens : ∀ {ds es : List PyData}, ds.length ≠ es.length → PyData.eqvAll ds es = false
  | [], [], h => absurd rfl h
  | [], _ :: _, _ => rfl
  | _ :: _, [], _ => rfl
  | x :: xs, y :: ys, h => by
    show (PyData.eqv x y && PyData.eqvAll xs ys) = false
    rw [eqv_lens (ds := xs) (es := ys) (fun z => h (congrArg Nat.succ z)), Bool.and_false]
theorem isi_of {K : PySem.W.Frag} {H : Hp} {x : V} {t n : String} {b : Bool} {Q : VK} (ty : TyX K H x (.type t)) (h : kitB t n = some b) (q : Q (.bl b) H) : rIsi K [x, .ty n] H Q :=
  ⟨x, .ty n, .type t, .type n, b, rfl, .ty n, ty, kit_ty h, q⟩
theorem ty_seq {K : PySem.W.Frag} {H : Hp} {a : Addr} {xs : List V} (h : SqL K H a xs) : TyX K H (.ref a) (.type "list") := by
  rcases h with (h | ⟨o, h⟩) | ⟨o, vs, m, h, hc, _⟩
  · exact .base (.lst h)
  · exact .base (.frz h)
  · exact .kList h hc
/-! ### the text of a list of ints -/
theorem heavy_ints : ∀ (ks : List Int), (∀ k ∈ ks, k.natAbs < 10 ^ 12) → PyData.weightAll (ks.map PyData.int) ≤ 64 * ks.length
  | [], _ => Nat.le_refl _
  | k :: ks, h => by
    have ih := heavy_ints ks fun x hx => h x (List.mem_cons_of_mem _ hx)
    have hk := h k (List.mem_cons_self ..)
    have w1 : PyData.weight (.int k) ≤ 41 := by
      show (if k == 0 then 0 else k.natAbs.log2 + 1) ≤ 41
      split
      · omega
      · have : k.natAbs.log2 < 40 := PySem.Flt.log2_lt_of (by decide) (Nat.lt_of_lt_of_le hk (by decide))
        omega
    show PyData.weight (.int k) + 1 + PyData.weightAll (ks.map PyData.int) ≤ 64 * (ks.length + 1)
    omega
theorem shows_ints : ∀ (ks : List Int), (∀ k ∈ ks, k.natAbs < 10 ^ 12) → PyData.showableAll (ks.map PyData.int) = true
  | [], _ => rfl
  | k :: ks, h => by
    have ih := shows_ints ks fun x hx => h x (List.mem_cons_of_mem _ hx)
    have hk := h k (List.mem_cons_self ..)
    have : k.natAbs.log2 < 40 := PySem.Flt.log2_lt_of (by decide) (Nat.lt_of_lt_of_le hk (by decide))
    show (decide (k.natAbs.log2 < 1920) && PyData.showableAll (ks.map PyData.int)) = true
    rw [ih, decide_eq_true (by omega)]
    rfl
theorem nodict_ints : ∀ (ks : List Int), PyData.hasDictAll (ks.map PyData.int) = false
  | [] => rfl
  | _ :: ks => nodict_ints ks
theorem short_ints {ks : List Int} (h : ∀ k ∈ ks, k.natAbs < 10 ^ 12) (hl : ks.length ≤ 1000) : (PyData.list (ks.map PyData.int)).shown.length ≤ sizeLine := by
  have w1 : PyData.weight (.list (ks.map PyData.int)) ≤ 64 * ks.length := heavy_ints ks h
  have lv := PyData.leavesShort_of_canLay0 13 (.list (ks.map PyData.int)) (lays_ints ks) (PyData.intsShortAll_ints ks h)
  refine PyData.shown_fits (B := 13) (by decide) (by decide) lv (Nat.le_trans w1 ?_)
  have e : (2 : Nat) ^ 20 = 1048576 := by decide
  omega
theorem dep40 (ks : List Int) : (PyData.list (ks.map PyData.int)).depth ≤ 40 := Nat.le_trans (Nat.add_le_add_right (deep_ints ks) 1) (by decide)
theorem shaped_il {d : PyData} (h : d.canLay0 = true) (h2 : d.depth ≤ 64) : SeqAt.shaped d = true := Bool.and_eq_true_iff.mpr ⟨h, decide_eq_true h2⟩
mutual
theorem il_lay : ∀ {d : PyData}, il d = true → d.canLay0 = true
  | .int _, _ => rfl
  | .list xs, h => ilAll_lay (Bool.and_eq_true_iff.mp h).2
  | .none, h => nomatch h
  | .bool _, h => nomatch h
  | .str _, h => nomatch h
  | .tuple _, h => nomatch h
  | .dict _, h => nomatch h
theorem ilAll_lay : ∀ {ds : List PyData}, ilAll ds = true → PyData.canLayAll0 ds = true
  | [], _ => rfl
  | _ :: _, h => Bool.and_eq_true_iff.mpr ⟨il_lay (Bool.and_eq_true_iff.mp h).1, ilAll_lay (Bool.and_eq_true_iff.mp h).2⟩
end
theorem KE_same {a b : List Int} (hp : a.Perm b) (ha : a.Pairwise (· ≤ ·)) (hb : b.Pairwise (· ≤ ·)) : a = b := hp.eq_of_pairwise (fun x y _ _ h1 h2 => Int.le_antisymm h1 h2) ha hb
theorem il_ints : ∀ (ks : List Int), ilAll (ks.map PyData.int) = true
  | [] => rfl
  | _ :: ks => il_ints ks
theorem eqv_refl' {d : PyData} (h : il d = true) : PyData.eqv d d = true := PySem.SeqAt.eqv_refl d (il_lay h)
end Sq
namespace Sq
open PySem PySem.Spec PyProof.Rows L2
/-! ### repr of any value whose data is known -/
structure Shown (K : PySem.W.Frag) (H : Hp) (x : V) (d : PyData) : Prop where
  dp : Dp K H x d
  sh : d.showable = true
  nd : d.hasDict = false
  dep : d.depth ≤ 40
  fit : d.shown.length ≤ sizeLine
theorem Shown.same {K : PySem.W.Frag} {H H' : Hp} {x : V} {d : PyData} (S : Shown K H x d) (s : Same H H') : Shown K H' x d := ⟨Dp.same s S.dp, S.sh, S.nd, S.dep, S.fit⟩
def rReprV (K : PySem.W.Frag) : List V → Hp → VK → Prop := fun xs H Q => ∃ x d, xs = [x] ∧ Shown K H x d ∧ Q (.str d.shown) H
theorem call_reprV {X : Cx} (hg : X.A.guards = some []) (hu : X.A.units + 64 < cLine) : CallR X (.builtin "repr") (rReprV X.K) := by
  intro pins s σ H xs us Q I r h
  obtain ⟨x, d, rfl, S, q⟩ := h
  obtain ⟨u, rfl, rv⟩ := vals1 r
  obtain ⟨dp, sh, nd, dep, fit⟩ := S
  cases dp with
  | non =>
    obtain rfl : u = Value.none := rv
    exact PySem.P.repr_of_none ⟨.str _, H, I.tok _, ⟨_, rfl⟩, q⟩
  | bl b =>
    obtain rfl : u = Value.bool b := rv
    exact PySem.P.repr_of_bool ⟨.str _, H, I.tok _, ⟨_, rfl⟩, q⟩
  | int i =>
    obtain ⟨t, rfl⟩ := rv
    exact PySem.P.repr_of_int (of_decide_eq_true sh) ⟨.str _, H, I.tok _, ⟨_, rfl⟩, q⟩
  | str y =>
    obtain ⟨t, rfl⟩ := rv
    exact PySem.P.repr_of_str ⟨.str _, H, I.tok _, ⟨_, rfl⟩, q⟩ fit
  | lst hs ha => exact call_reprD hg hu pins s σ H _ _ Q I r ⟨_, _, rfl, .lst hs ha, sh, nd, dep, fit, q⟩
  | tup hs ha => exact call_reprD hg hu pins s σ H _ _ Q I r ⟨_, _, rfl, .tup hs ha, sh, nd, dep, fit, q⟩
theorem fits40 {d : PyData} (h : d.leavesShort 40 = true) (hw : d.weight ≤ 100000) : d.shown.length ≤ sizeLine := by
  have e := PyData.shown_le 40 (by decide) d h
  rw [sizeLine_eq]
  omega
/-! ### powers of greater numbers -/
def CPowW (i j : Int) : Prop := 0 ≤ j ∧ (Builtin.Int.intBits i : Int) * j ≤ 2 ^ 27
theorem op_powW {X : Cx} : OpR X (binaryOp .Pow) (rI CPowW fun i j => .int (i ^ j.toNat)) := opI fun _ _ _ _ _ _ _ hc q => pow_int hc.1 hc.2 q
theorem powW_of {i j : Int} {m : Nat} (h0 : 0 ≤ j) (hi : i.natAbs < 2 ^ m) (hm : 0 < m) (hj : (m : Int) * j ≤ 2 ^ 27) : CPowW i j := by
  refine ⟨h0, Int.le_trans (Int.mul_le_mul_of_nonneg_right ?_ h0) hj⟩
  unfold Builtin.Int.intBits
  split
  · omega
  · have := PySem.Flt.log2_lt_of hm hi
    omega
end Sq
namespace Sq
open PySem PySem.Spec PyProof.Rows L2
def rMulS : R2 := fun x y H Q => ∃ a n, x = .str a ∧ y = .int n ∧ _root_.PySem.MulOk a n ∧ Q (.str (_root_.PySem.Txt.mul a n)) H
theorem op_mulS {X : Cx} : OpR X (binaryOp .Mult) rMulS := by
  intro pins s σ H x y v u Q I rx ry h
  obtain ⟨a, n, rfl, rfl, hok, q⟩ := h
  obtain ⟨t, rfl⟩ := rx
  obtain ⟨t', rfl⟩ := ry
  exact SB.mul hok fun t2 k => ⟨.str _, H, I.tok k, ⟨_, rfl⟩, q⟩
end Sq

set_option Elab.async false
set_option linter.all false
/-! Squeezing and reaches in plain Lean. -/
namespace Sq
def once (n k : Int) : Int := n / k + n % k
def sq (n : Int) (ks : List Int) : Int := ks.foldl once n
def rw1 (k R : Int) : Int := if k > R + 1 then R else (R + 3 - k) * k - 2
def rch (ks : List Int) (v : Int) : Int := ks.foldr rw1 v

theorem rw1_pos {k R : Int} (hk : 2 ≤ k) (hR : 1 ≤ R) : 1 ≤ rw1 k R := by
  unfold rw1
  split
  · exact hR
  · have h : 2 * 2 ≤ (R + 3 - k) * k := Int.mul_le_mul (by omega) hk (by omega) (by omega)
    omega

theorem once_small {k n : Int} (h0 : 0 ≤ n) (h : n < k) : once n k = n := by
  unfold once
  rw [Int.ediv_eq_zero_of_lt h0 h, Int.emod_eq_of_lt h0 h]
  omega

theorem once_nonneg {k n : Int} (hk : 2 ≤ k) (h0 : 0 ≤ n) : 0 ≤ once n k := by
  unfold once
  have h1 := Int.ediv_nonneg h0 (by omega : 0 ≤ k)
  have h2 := Int.emod_nonneg n (by omega : k ≠ 0)
  omega

theorem once_le {k R n : Int} (hk : 2 ≤ k) (hR : 1 ≤ R) (h0 : 0 ≤ n) (h : n ≤ rw1 k R) : once n k ≤ R := by
  unfold rw1 at h
  split at h
  · rename_i hg
    rw [once_small h0 (by omega)]
    exact h
  · rename_i hg
    unfold once
    have e := Int.mul_ediv_add_emod n k
    have r0 := Int.emod_nonneg n (by omega : k ≠ 0)
    have r1 := Int.emod_lt_of_pos n (by omega : 0 < k)
    generalize n / k = q at *
    generalize n % k = r at *
    by_cases c : q + r ≤ R
    · exact c
    · exfalso
      by_cases c2 : R + 3 - k ≤ q
      · have := Int.mul_le_mul_of_nonneg_left c2 (by omega : 0 ≤ k)
        rw [Int.mul_comm k (R + 3 - k)] at this
        omega
      · have c3 : q = R + 2 - k := by omega
        have c4 : r = k - 1 := by omega
        have e2 : k * (R + 2 - k) = (R + 3 - k) * k - k := by
          rw [show R + 2 - k = (R + 3 - k) - 1 by omega, Int.mul_sub, Int.mul_one, Int.mul_comm]
        rw [c3, e2] at e
        omega

theorem once_next {k R : Int} (hk : 2 ≤ k) (hR : 1 ≤ R) : once (rw1 k R + 1) k = R + 1 := by
  unfold rw1
  split
  · exact once_small (by omega) (by omega)
  · have e : (R + 3 - k) * k - 2 + 1 = (k - 1) + k * (R + 2 - k) := by
      rw [show R + 2 - k = (R + 3 - k) - 1 by omega, Int.mul_sub, Int.mul_one, Int.mul_comm k]
      omega
    unfold once
    rw [e, Int.add_mul_ediv_left _ _ (by omega : k ≠ 0), Int.add_mul_emod_self_left, Int.ediv_eq_zero_of_lt (by omega) (by omega), Int.emod_eq_of_lt (by omega) (by omega)]
    omega

theorem rch_pos : ∀ (ks : List Int) (v : Int), (∀ k ∈ ks, 2 ≤ k) → 1 ≤ v → 1 ≤ rch ks v
  | [], v, _, hv => hv
  | k :: ks, v, h, hv => rw1_pos (h k (List.mem_cons_self ..)) (rch_pos ks v (fun x hx => h x (List.mem_cons_of_mem _ hx)) hv)

theorem sq_le : ∀ (ks : List Int) (v n : Int), (∀ k ∈ ks, 2 ≤ k) → 1 ≤ v → 0 ≤ n → n ≤ rch ks v → sq n ks ≤ v
  | [], v, n, _, _, _, hn => hn
  | k :: ks, v, n, h, hv, h0, hn =>
    have hk := h k (List.mem_cons_self ..)
    have ht : ∀ x ∈ ks, 2 ≤ x := fun x hx => h x (List.mem_cons_of_mem _ hx)
    sq_le ks v (once n k) ht hv (once_nonneg hk h0) (once_le hk (rch_pos ks v ht hv) h0 hn)

theorem sq_next : ∀ (ks : List Int) (v : Int), (∀ k ∈ ks, 2 ≤ k) → 1 ≤ v → sq (rch ks v + 1) ks = v + 1
  | [], v, _, _ => rfl
  | k :: ks, v, h, hv => by
    have hk := h k (List.mem_cons_self ..)
    have ht : ∀ x ∈ ks, 2 ≤ x := fun x hx => h x (List.mem_cons_of_mem _ hx)
    show sq (once (rw1 k (rch ks v) + 1) k) ks = v + 1
    rw [once_next hk (rch_pos ks v ht hv)]
    exact sq_next ks v ht hv

theorem rch_mono {ks : List Int} {v u : Int} (h : ∀ k ∈ ks, 2 ≤ k) (hv : 1 ≤ v) (hu : v ≤ u) : rch ks v ≤ rch ks u := by
  by_cases c : rch ks v ≤ rch ks u
  · exact c
  · exfalso
    have p := rch_pos ks u h (by omega)
    have a := sq_le ks v (rch ks u + 1) h hv (by omega) (by omega)
    rw [sq_next ks u h (by omega)] at a
    omega

/-- the least run with more characters is found by trying -/
theorem sq_gt {ks : List Int} {v n : Int} (h : ∀ k ∈ ks, 2 ≤ k) (hv : 1 ≤ v) (h0 : 0 ≤ n) (h1 : n ≤ rch ks v + 1) (c : v < sq n ks) : n = rch ks v + 1 := by
  by_cases d : n ≤ rch ks v
  · have := sq_le ks v n h hv h0 d
    omega
  · omega
theorem sq_lt {ks : List Int} {v n : Int} (h : ∀ k ∈ ks, 2 ≤ k) (hv : 1 ≤ v) (h1 : n ≤ rch ks v + 1) (c : sq n ks ≤ v) : n ≤ rch ks v := by
  by_cases d : n ≤ rch ks v
  · exact d
  · have e : n = rch ks v + 1 := by omega
    rw [e, sq_next ks v h hv] at c
    omega
theorem sq_concat (n : Int) (ks : List Int) (k : Int) : sq n (ks ++ [k]) = once (sq n ks) k := by
  unfold sq
  rw [List.foldl_append]
  rfl
end Sq

set_option Elab.async false
set_option linter.all false
set_option maxRecDepth 100000
set_option maxHeartbeats 2000000
/-! What the laws share: the built-in names, the error classes, low numbers, data that can be shown, keeping heaps. -/
namespace Sq
open PySem PySem.Spec PyProof.Rows L2
structure Bi (mg : Str → Option Value) : Prop where
  n_len : mg "len" = none
  n_min : mg "min" = none
  n_max : mg "max" = none
  n_abs : mg "abs" = none
  n_range : mg "range" = none
  n_isinstance : mg "isinstance" = none
  n_repr : mg "repr" = none
  n_enumerate : mg "enumerate" = none
  n_reversed : mg "reversed" = none
  n_sorted : mg "sorted" = none
  n_bool : mg "bool" = none
  n_int : mg "int" = none
  n_str : mg "str" = none
  n_list : mg "list" = none
  n_tuple : mg "tuple" = none
  n_set : mg "set" = none
  n_sum : mg "sum" = none
  n_zip : mg "zip" = none
  n_all : mg "all" = none
  n_any : mg "any" = none
  n_ValueError : mg "ValueError" = none
  n_divmod : mg "divmod" = none
structure Errs (P : Program) (K : PySem.W.Frag) (mg : Str → Option Value) (c fI : Nat → Addr) (qn : Nat → Str) (cB : Addr) : Prop where
  er : ∀ n, n < 5 → True ∧ SqX.Er K P (c n) (fI n) (qn n)
  g0 : mg "InvalidList" = some (.ref (c 0))
  g1 : mg "InvalidNumber" = some (.ref (c 1))
  g2 : mg "InvalidCharacter" = some (.ref (c 2))
  g3 : mg "NothingToUndo" = some (.ref (c 3))
  g4 : mg "Unreadable" = some (.ref (c 4))
  g5 : mg "SqueezeError" = some (.ref cB)
  is : ∀ n m, n < 5 → m < 5 → PySem.W.kitOne K (.ref (c n)) (.ref (c m)) = some (decide (n = m))
  isB : ∀ n, n < 5 → PySem.W.kitOne K (.ref (c n)) (.ref cB) = some true
  isV : ∀ n, n < 5 → PySem.W.kitOne K (.ref (c n)) (.type "ValueError") = some true
  ex : ∀ n, n < 5 → ExcC K (c n)
  xf : ∀ n, n < 5 → XfC K (c n)
/-- what else is known of the error classes -/
structure Errs2 (K : PySem.W.Frag) (c : Nat → Addr) (cB : Addr) : Prop where
  ma : ∀ n, n < 5 → PySem.W.exmOne K (.ref (c n)) (.ref cB) = some true
  st : ∀ n, n < 5 → PySem.W.subIn K (.ref (c n)) (.type "StopIteration") = some false
  nv : ∀ n, n < 5 → PySem.W.findIn K (.ref (c n)) "value" = some none
def nmE (n : Nat) : Str := ["InvalidList", "InvalidNumber", "InvalidCharacter", "NothingToUndo", "Unreadable"].getD n "InvalidList"
/-- the first number less than 2 -/
def lowAt : List Int → Option Nat
  | [] => none
  | k :: ks => if k < 2 then some 0 else (lowAt ks).map (· + 1)
theorem lowAt_none : ∀ {ks : List Int}, lowAt ks = none → ∀ k ∈ ks, 2 ≤ k
  | k :: ks, h, x, hx => by
    unfold lowAt at h
    by_cases c : k < 2
    · rw [if_pos c] at h
      cases h
    · rw [if_neg c] at h
      rcases List.mem_cons.mp hx with e | e
      · omega
      · cases q : lowAt ks with
        | none => exact lowAt_none q x e
        | some j => rw [q] at h; cases h
theorem lowAt_take : ∀ (ks : List Int) (i : Nat), (∀ k ∈ ks.take i, 2 ≤ k) → (∀ k, ks[i]? = some k → k < 2 → lowAt ks = some i) ∧ (ks.length ≤ i → lowAt ks = none)
  | [], i, _ => ⟨fun k e => by simp at e, fun _ => rfl⟩
  | k :: ks, 0, _ => ⟨fun x e c => by
      cases e
      show (if k < 2 then some 0 else (lowAt ks).map (· + 1)) = some 0
      rw [if_pos c], fun z => by simp at z⟩
  | k :: ks, i + 1, h => by
    have hk := h k (by simp)
    obtain ⟨a, b⟩ := lowAt_take ks i fun x hx => h x (by simp [hx])
    refine ⟨fun x e c => ?_, fun z => ?_⟩
    · show (if k < 2 then some 0 else (lowAt ks).map (· + 1)) = some (i + 1)
      rw [if_neg (by omega), a x e c]
      rfl
    · show (if k < 2 then some 0 else (lowAt ks).map (· + 1)) = none
      rw [if_neg (by omega), b (by simpa using z)]
      rfl
/-! ### data that can be shown -/
structure Gd (n : Nat) (d : PyData) : Prop where
  sh : d.showable = true
  nd : d.hasDict = false
  dep : d.depth ≤ 4
  lf : d.leavesShort 40 = true
  wt : d.weight ≤ n
structure GdA (n : Nat) (ds : List PyData) : Prop where
  sh : PyData.showableAll ds = true
  nd : PyData.hasDictAll ds = false
  dep : PyData.depthAll ds ≤ 3
  lf : PyData.leavesShortAll 40 ds = true
  wt : PyData.weightAll ds ≤ n
theorem gd_int {i : Int} (h : i.natAbs < 10 ^ 31) : Gd 121 (.int i) := by
  have lg : i.natAbs.log2 < 120 := PySem.Flt.log2_lt_of (by decide) (Nat.lt_of_lt_of_le h (by decide))
  refine ⟨decide_eq_true (Nat.lt_trans lg (by decide)), rfl, Nat.zero_le _, ?_, ?_⟩
  · have e := int_text_length_le10 (k := 31) (by decide) h
    refine decide_eq_true ?_
    show (Str.ofString (toString i)).length ≤ 40
    rw [PySem.ofString_length]
    omega
  · show (if i == 0 then 0 else i.natAbs.log2 + 1) ≤ 121
    split <;> omega
theorem GdA.nil : GdA 0 [] := ⟨rfl, rfl, Nat.zero_le _, rfl, Nat.le_refl _⟩
theorem GdA.cons {n m : Nat} {d : PyData} {ds : List PyData} (h : Gd n d) (dp : d.depth ≤ 3) (t : GdA m ds) : GdA (n + 1 + m) (d :: ds) := by
  refine ⟨?_, ?_, Nat.max_le.mpr ⟨dp, t.dep⟩, ?_, ?_⟩
  · show (d.showable && PyData.showableAll ds) = true
    rw [h.sh, t.sh]; rfl
  · show (d.hasDict || PyData.hasDictAll ds) = false
    rw [h.nd, t.nd]; rfl
  · show (d.leavesShort 40 && PyData.leavesShortAll 40 ds) = true
    rw [h.lf, t.lf]; rfl
  · have a := h.wt
    have b := t.wt
    show d.weight + 1 + PyData.weightAll ds ≤ n + 1 + m
    omega
theorem GdA.list {n : Nat} {ds : List PyData} (t : GdA n ds) : Gd n (.list ds) := ⟨t.sh, t.nd, Nat.add_le_add_right t.dep 1, t.lf, t.wt⟩
theorem Gd.le {n m : Nat} {d : PyData} (h : Gd n d) (l : n ≤ m) : Gd m d := ⟨h.sh, h.nd, h.dep, h.lf, Nat.le_trans h.wt l⟩
theorem gda_ints : ∀ (ks : List Int), (∀ k ∈ ks, k.natAbs < 10 ^ 31) → GdA (122 * ks.length) (ks.map PyData.int) ∧ PyData.depthAll (ks.map PyData.int) ≤ 0
  | [], _ => ⟨GdA.nil, Nat.le_refl _⟩
  | k :: ks, h => by
    obtain ⟨a, b⟩ := gda_ints ks fun x hx => h x (List.mem_cons_of_mem _ hx)
    refine ⟨?_, Nat.max_le.mpr ⟨Nat.zero_le _, b⟩⟩
    have c := GdA.cons (gd_int (h k (List.mem_cons_self ..))) (Nat.zero_le _) a
    rw [List.length_cons, Nat.mul_add, Nat.mul_one, Nat.add_comm (122 * ks.length)]
    exact c
theorem Gd.shown {n : Nat} {K : PySem.W.Frag} {H : Hp} {x : V} {d : PyData} (h : Gd n d) (l : n ≤ 100000) (dp : Dp K H x d) : Shown K H x d :=
  ⟨dp, h.sh, h.nd, Nat.le_trans h.dep (by decide), fits40 h.lf (Nat.le_trans h.wt l)⟩
/-! ### the low numbers -/
theorem lowAt_some : ∀ {ks : List Int} {j : Nat}, lowAt ks = some j → j < ks.length ∧ ks.getD j 2 < 2 ∧ ∀ m, m < j → 2 ≤ ks.getD m 2
  | k :: ks, j, h => by
    have h' : (if k < 2 then some 0 else (lowAt ks).map (· + 1)) = some j := h
    by_cases c : k < 2
    · rw [if_pos c] at h'
      cases h'
      exact ⟨Nat.succ_pos _, c, fun m hm => absurd hm (Nat.not_lt_zero _)⟩
    · rw [if_neg c] at h'
      cases q : lowAt ks with
      | none => rw [q] at h'; cases h'
      | some i =>
        rw [q] at h'
        cases h'
        obtain ⟨a, b, d⟩ := lowAt_some q
        refine ⟨Nat.succ_lt_succ a, b, fun m hm => ?_⟩
        cases m with
        | zero => show 2 ≤ k; omega
        | succ m => exact d m (Nat.lt_of_succ_lt_succ hm)
def lowIx (ks : List Int) (i : Nat) : List Int := ((List.range i).filter fun j => decide (ks.getD j 2 < 2)).map fun j : Nat => (j : Int)
theorem lowIx_succ (ks : List Int) (i : Nat) : lowIx ks (i + 1) = if ks.getD i 2 < 2 then lowIx ks i ++ [(i : Int)] else lowIx ks i := by
  unfold lowIx
  rw [List.range_succ, List.filter_append, List.map_append]
  by_cases h : ks.getD i 2 < 2
  · have e : [i].filter (fun j => decide (ks.getD j 2 < 2)) = [i] := by
      rw [List.filter_cons, decide_eq_true h]
      rfl
    rw [if_pos h, e]
    rfl
  · have e : [i].filter (fun j => decide (ks.getD j 2 < 2)) = [] := by
      rw [List.filter_cons, decide_eq_false h]
      rfl
    rw [if_neg h, e]
    exact List.append_nil _
theorem lowIx_len (ks : List Int) (i : Nat) : (lowIx ks i).length ≤ i := by
  unfold lowIx
  rw [List.length_map]
  have := List.length_filter_le (fun j => decide (ks.getD j 2 < 2)) (List.range i)
  rwa [List.length_range] at this
theorem lowIx_none {ks : List Int} : ∀ {i : Nat}, (∀ m, m < i → 2 ≤ ks.getD m 2) → lowIx ks i = []
  | 0, _ => rfl
  | i + 1, h => by
    rw [lowIx_succ, if_neg (by have := h i (by omega); omega)]
    exact lowIx_none fun m hm => h m (by omega)
theorem lowIx_head {ks : List Int} {j : Nat} (a : ks.getD j 2 < 2) (b : ∀ m, m < j → 2 ≤ ks.getD m 2) : ∀ {i : Nat}, j < i → ∃ r, lowIx ks i = (j : Int) :: r
  | i + 1, h => by
    rw [lowIx_succ]
    by_cases e : j = i
    · subst e
      rw [if_pos a, lowIx_none b]
      exact ⟨[], rfl⟩
    · obtain ⟨r, hr⟩ := lowIx_head a b (i := i) (by omega)
      rw [hr]
      split
      · exact ⟨_, rfl⟩
      · exact ⟨_, rfl⟩
theorem low_none {ks : List Int} (h : lowAt ks = none) : lowIx ks ks.length = [] := lowIx_none fun m hm => by
  have : ∀ {ks : List Int} {m : Nat}, lowAt ks = none → 2 ≤ ks.getD m 2 := fun {ks} => by
    induction ks with
    | nil => intro m _; cases m <;> exact Int.le_refl _
    | cons k ks ih =>
      intro m h
      have h' : (if k < 2 then some 0 else (lowAt ks).map (· + 1)) = none := h
      by_cases c : k < 2
      · rw [if_pos c] at h'; cases h'
      · rw [if_neg c] at h'
        have h2 : lowAt ks = none := by
          cases q : lowAt ks with
          | none => rfl
          | some i => rw [q] at h'; cases h'
        cases m with
        | zero => show 2 ≤ k; omega
        | succ m => exact ih h2
  exact this h
theorem low_some {ks : List Int} {j : Nat} (h : lowAt ks = some j) : ∃ r, lowIx ks ks.length = (j : Int) :: r := by
  obtain ⟨a, b, c⟩ := lowAt_some h
  exact lowIx_head b c a
/-- the heap without one cell -/
def wo (H : Hp) (D : Addr) : Hp := fun b => if b = D then none else H b
theorem wo_upd {H : Hp} {D : Addr} {o : HO} : wo (upd H D o) D = wo H D := by
  funext b
  unfold wo
  by_cases h : b = D
  · rw [if_pos h, if_pos h]
  · rw [if_neg h, if_neg h, upd_ne h]
theorem wo_ne {H : Hp} {D b : Addr} (h : b ≠ D) : wo H D b = H b := by
  unfold wo
  rw [if_neg h]
theorem wo_same {H : Hp} {D : Addr} : Same (wo H D) H := fun b o e => by
  unfold wo at e
  by_cases h : b = D
  · rw [if_pos h] at e; cases e
  · rw [if_neg h] at e; exact e
theorem same_wo {G H : Hp} {D : Addr} (s : Same G H) (h : G D = none) : Same G (wo H D) := fun b o e => by
  rw [wo_ne (fun z => by subst z; rw [h] at e; cases e)]
  exact s b o e
theorem wo_self {H : Hp} {D : Addr} : wo H D D = none := by
  unfold wo
  rw [if_pos rfl]
theorem dp_snoc {K : PySem.W.Frag} {H : Hp} {v : V} {d : PyData} (h : Dp K H v d) : ∀ {xs : List V} {ds : List PyData}, DpAll K H xs ds → DpAll K H (xs ++ [v]) (ds ++ [d])
  | _, _, .nil => .cons h .nil
  | _, _, .cons a t => .cons a (dp_snoc h t)
end Sq

set_option Elab.async false
set_option linter.all false
set_option maxHeartbeats 1000000
/-! Small numbers as texts. -/
namespace Sq
open PySem PySem.Spec PyProof.Rows L2
theorem digN {i : Int} (a : 0 ≤ i) (b : i ≤ 200) : (Str.ofString (toString i)).length ≤ 40 := by
  have e := int_text_length_le10 (k := 31) (by decide) (show i.natAbs < 10 ^ 31 from Nat.lt_of_le_of_lt (m := 200) (by omega) (by decide))
  rw [PySem.ofString_length]
  omega
theorem catN (x y : Str) (n : Nat) (hx : x.length ≤ n) (hy : y.length ≤ 40) : (x ++ y).length ≤ n + 40 := by
  rw [strLen_append]
  omega
theorem fitN {x y : Str} (hx : x.length ≤ 400) (hy : y.length ≤ 400) : x.length + y.length ≤ sizeLine := by
  rw [sizeLine_eq]
  omega
theorem logN (i : Int) (a : 0 ≤ i) (b : i ≤ 200) : i.natAbs.log2 < 1920 := Nat.lt_trans (PySem.Flt.log2_lt_of (by decide) (show i.natAbs < 2 ^ 8 by omega)) (by decide)
theorem rep_one {α : Type} (x : α) : ∀ n : Nat, (List.replicate n [x]).flatten = List.replicate n x
  | 0 => rfl
  | n + 1 => by
    rw [List.replicate_succ, List.flatten_cons, rep_one x n, List.replicate_succ]
    rfl
end Sq

set_option Elab.async false
set_option linter.all false
set_option maxRecDepth 100000
set_option maxHeartbeats 1000000
/-! Texts of lists, read: in plain Lean, over the lists of signs. -/
namespace Sq
open PySem PySem.Spec PyProof.Rows L2 TL
open NumText (digitsVal AllDigits)
def digB (l : List Nat) : Bool := l.all fun c => decide (48 ≤ c) && decide (c ≤ 57)
def numOk (l : List Nat) : Bool := digB l && (!l.isEmpty && (decide (l.length ≤ 200) && (decide (l.head? ≠ some 48) && decide (l ≠ [49]))))
def rPart (l : List Nat) : Option (Nat × Nat) :=
  match par [94] [] l with
  | none => if numOk l = true then some (digitsVal l, 1) else none
  | some (a, b) => if (numOk a && numOk b) = true then some (digitsVal a, digitsVal b) else none
def rStep (F : List Int) (l : List Nat) : Option (List Int) :=
  match rPart l with
  | none => none
  | some (n, k) => if F.getLast? = some (n : Int) then none else some (F ++ List.replicate k (n : Int))
def rAll : List Int → List (List Nat) → Option (List Int)
  | F, [] => some F
  | F, l :: r => match rStep F l with
    | none => none
    | some F' => rAll F' r
def rText (l : List Nat) : Option (List Int) := if l = [110, 111, 110, 101] then some [] else rAll [] (spl [44, 32] 0 [] l)
/-- no part stands for more than a thousand numbers -/
def Small (l : List Nat) : Prop := ∀ p ∈ spl [44, 32] 0 [] l, ∀ n k, rPart p = some (n, k) → k ≤ 1000
theorem all_tl (x : Str) (f : Nat → Bool) : x.cps.all f = (tl x).all f := by
  show x.cps.all f = x.cps.toList.all f
  rw [Array.all_toList]
theorem dig_of : ∀ n : _root_.Fin 128, Unicode.isDigit n.val = (decide (48 ≤ n.val) && decide (n.val ≤ 57)) := by decide +kernel
theorem asc_dig (x : Str) : (Txt.isascii x && Txt.isdigit x) = (digB (tl x) && !(tl x).isEmpty) := by
  show (x.cps.all (· < 128) && (decide (x.length > 0) && x.cps.all Unicode.isDigit)) = _
  rw [all_tl, all_tl, len_tl]
  have key : ∀ l : List Nat, (l.all (· < 128) && l.all Unicode.isDigit) = digB l := fun l => by
    induction l with
    | nil => rfl
    | cons c l ih =>
      show ((decide (c < 128) && l.all (· < 128)) && (Unicode.isDigit c && l.all Unicode.isDigit)) = ((decide (48 ≤ c) && decide (c ≤ 57)) && digB l)
      rw [← ih]
      by_cases h : c < 128
      · rw [decide_eq_true h, dig_of ⟨c, h⟩]
        cases l.all (· < 128) <;> cases l.all Unicode.isDigit <;> simp
      · have h2 : ¬ c ≤ 57 := by omega
        rw [decide_eq_false h, decide_eq_false h2]
        simp
  rw [← key]
  cases tl x with
  | nil => rfl
  | cons c l =>
    cases ((c :: l).all (· < 128)) <;> cases ((c :: l).all Unicode.isDigit) <;> simp
theorem digB_all {l : List Nat} : digB l = true ↔ AllDigits l := by
  unfold digB AllDigits
  rw [List.all_eq_true]
  constructor
  · intro h c hc
    have := h c hc
    simp only [Bool.and_eq_true, decide_eq_true_eq] at this
    exact this
  · intro h c hc
    have := h c hc
    simp only [Bool.and_eq_true, decide_eq_true_eq]
    exact this
theorem numOk_iff {l : List Nat} : numOk l = true ↔ AllDigits l ∧ l ≠ [] ∧ l.length ≤ 200 ∧ l.head? ≠ some 48 ∧ l ≠ [49] := by
  unfold numOk
  simp only [Bool.and_eq_true, decide_eq_true_eq, digB_all, Bool.not_eq_true', List.isEmpty_eq_false_iff]
/-- int(..) of such signs -/
theorem int_ok {x : Str} (h : numOk (tl x) = true) : intText? x = some ((digitsVal (tl x) : Nat) : Int) ∧ x.length ≤ 640 := by
  obtain ⟨a, b, c, _⟩ := numOk_iff.mp h
  have l : x.length = (tl x).length := len_tl x
  exact ⟨intText_digits a b (by omega), by omega⟩
end Sq
namespace Sq
open PySem PySem.Spec PyProof.Rows L2 TL
open NumText (digitsVal AllDigits)
theorem signs_hat : tl ("^" : Str) = [94] := by decide +kernel
theorem signs_sep : tl (", " : Str) = [44, 32] := by decide +kernel
theorem split_sep (x : Str) : (Txt.split x ", ").map tl = spl [44, 32] 0 [] (tl x) := by
  have e := split_spl x ", " (by rw [signs_sep]; simp) (kind_ok (by decide +kernel))
  rw [signs_sep] at e
  exact e
/-- a readable part, cut at its first ^ -/
theorem part_cut {y : Str} {n k : Nat} (h : rPart (tl y) = some (n, k)) : ∃ D M N : Str, Txt.partition y "^" = (D, M, N) ∧ numOk (tl D) = true ∧ n = digitsVal (tl D) ∧
    ((M.length = 0 ∧ k = 1) ∨ (M.length = 1 ∧ numOk (tl N) = true ∧ k = digitsVal (tl N))) := by
  have e := partition_par y "^" (by rw [signs_hat]; simp)
  rw [signs_hat] at e
  unfold rPart at h
  cases hp : par [94] [] (tl y) with
  | none =>
    rw [hp] at h e
    have h' : (if numOk (tl y) = true then some (digitsVal (tl y), 1) else none) = some (n, k) := h
    by_cases c : numOk (tl y) = true
    · rw [if_pos c] at h'
      cases h'
      exact ⟨y, Str.empty, Str.empty, e, c, rfl, .inl ⟨rfl, rfl⟩⟩
    · rw [if_neg c] at h'
      cases h'
  | some ab =>
    obtain ⟨a, b⟩ := ab
    rw [hp] at h e
    have h' : (if (numOk a && numOk b) = true then some (digitsVal a, digitsVal b) else none) = some (n, k) := h
    by_cases c : (numOk a && numOk b) = true
    · rw [if_pos c] at h'
      cases h'
      rw [Bool.and_eq_true] at c
      exact ⟨⟨a.toArray⟩, "^", ⟨b.toArray⟩, e, c.1, rfl, .inr ⟨by decide +kernel, c.2, rfl⟩⟩
    · rw [if_neg c] at h'
      cases h'
theorem rStep_some {F F' : List Int} {l : List Nat} (h : rStep F l = some F') : ∃ n k, rPart l = some (n, k) ∧ F.getLast? ≠ some (n : Int) ∧ F' = F ++ List.replicate k (n : Int) := by
  unfold rStep at h
  cases hp : rPart l with
  | none => rw [hp] at h; cases h
  | some nk =>
    obtain ⟨n, k⟩ := nk
    rw [hp] at h
    have h' : (if F.getLast? = some (n : Int) then none else some (F ++ List.replicate k (n : Int))) = some F' := h
    by_cases c : F.getLast? = some (n : Int)
    · rw [if_pos c] at h'; cases h'
    · rw [if_neg c] at h'
      cases h'
      exact ⟨n, k, rfl, c, rfl⟩
theorem rAll_cons {F ks : List Int} {l : List Nat} {r : List (List Nat)} (h : rAll F (l :: r) = some ks) : ∃ F', rStep F l = some F' ∧ rAll F' r = some ks := by
  have h' : (match rStep F l with | none => none | some F' => rAll F' r) = some ks := h
  cases hp : rStep F l with
  | none => rw [hp] at h'; cases h'
  | some F' => rw [hp] at h'; exact ⟨F', rfl, h'⟩
theorem spl_len (S : List Nat) : ∀ (k : Nat) (acc l : List Nat), (spl S k acc l).length ≤ l.length + 1
  | k, acc, [] => by rw [spl_nil]; simp
  | 0, acc, c :: r => by
    show (if pre S (c :: r) = true then acc :: spl S (S.length - 1) [] r else spl S 0 (acc ++ [c]) r).length ≤ _
    split
    · have := spl_len S (S.length - 1) [] r
      simp only [List.length_cons]
      omega
    · have := spl_len S 0 (acc ++ [c]) r
      simp only [List.length_cons]
      omega
  | k + 1, acc, c :: r => by
    show (spl S k acc r).length ≤ _
    have := spl_len S k acc r
    simp only [List.length_cons]
    omega
theorem str_at {ys : List Str} {i : Nat} {v : V} (h : (ys.map V.str)[i]? = some v) : ∃ y, ys[i]? = some y ∧ v = .str y := by
  rw [List.getElem?_map] at h
  cases e : ys[i]? with
  | none => rw [e] at h; cases h
  | some y => rw [e] at h; exact ⟨y, rfl, (Option.some.inj h).symm⟩
theorem spl_mem (S : List Nat) : ∀ (k : Nat) (acc l : List Nat), ∀ q ∈ spl S k acc l, q.length ≤ acc.length + l.length
  | k, acc, [] => by
    rw [spl_nil]
    intro q hq
    rw [List.mem_singleton.mp hq]
    exact Nat.le_add_right _ _
  | 0, acc, c :: r => by
    show ∀ q ∈ (if pre S (c :: r) = true then acc :: spl S (S.length - 1) [] r else spl S 0 (acc ++ [c]) r), _
    split
    · intro q hq
      rcases List.mem_cons.mp hq with z | z
      · rw [z]
        exact Nat.le_add_right _ _
      · have := spl_mem S (S.length - 1) [] r q z
        simp only [List.length_nil, List.length_cons] at this ⊢
        omega
    · intro q hq
      have := spl_mem S 0 (acc ++ [c]) r q hq
      simp only [List.length_append, List.length_cons, List.length_nil] at this ⊢
      omega
  | k + 1, acc, c :: r => by
    intro q hq
    have := spl_mem S k acc r q hq
    simp only [List.length_cons]
    omega
theorem atI_lst {α : Type} (xs : List α) (v : α) (h : xs.getLast? = some v) : atI xs (-1) = some v := by
  rcases List.eq_nil_or_concat xs with e | ⟨ys, z, e⟩
  · rw [e] at h
    cases h
  · rw [e, List.concat_eq_append] at h ⊢
    rw [List.getLast?_concat] at h
    cases h
    exact L2.atI_last ys _
theorem z0L : 0 ≤ sizeLine := Nat.zero_le _
end Sq

set_option Elab.async false
set_option linter.all false
set_option maxRecDepth 100000
set_option maxHeartbeats 1000000
/-! What is written is read. -/
namespace Sq
open PySem PySem.Spec PyProof.Rows L2 TL
open NumText (digitsVal AllDigits)
theorem numL_head : ∀ n : Nat, 1 ≤ n → (numL n).head? ≠ some 48 := fun n => by
  induction n using Nat.strongRecOn with
  | _ n ih =>
    intro h
    by_cases c : n < 10
    · rw [numL_lt c]
      intro z
      have := Option.some.inj z
      omega
    · rw [numL_step (by omega)]
      have a := ih (n / 10) (by omega) (by omega)
      cases e : numL (n / 10) with
      | nil => exact absurd e (numL_ne _)
      | cons x r =>
        rw [e] at a
        exact a
theorem numOk_num {n : Nat} (h : 2 ≤ n) (l : (numL n).length ≤ 200) : numOk (numL n) = true :=
  numOk_iff.mpr ⟨numL_digits n, numL_ne n, l, numL_head n (by omega), fun z => by
    have e : numL n = numL 1 := by rw [z]; rfl
    have := numL_inj e
    omega⟩
def pL (n k : Nat) : List Nat := numL n ++ (if k = 1 then [] else 94 :: numL k)
structure PartOk (p : Nat × Nat) : Prop where
  two : 2 ≤ p.1
  one : 1 ≤ p.2
  len : (numL p.1).length ≤ 200
  few : p.2 ≤ 1000
theorem len_few {k : Nat} (h : k ≤ 1000) : (numL k).length ≤ 200 := by
  have := numL_len (n := k) (k := 4) (by decide) (by omega)
  omega
theorem rPart_pL {p : Nat × Nat} (h : PartOk p) : rPart (pL p.1 p.2) = some (p.1, p.2) := by
  unfold rPart pL
  have free : 94 ∉ numL p.1 := numL_free (.inr (by decide))
  by_cases c : p.2 = 1
  · rw [if_pos c, List.append_nil, par_none1 free]
    show (if numOk (numL p.1) = true then some (digitsVal (numL p.1), 1) else none) = _
    rw [if_pos (numOk_num h.two h.len), numL_val, c]
  · rw [if_neg c]
    have e := par_part1 (s := 94) (S := []) (p := numL p.1) (rest := numL p.2) (acc := []) free
    have e' : par [94] [] (numL p.1 ++ 94 :: numL p.2) = some ([] ++ numL p.1, numL p.2) := e
    rw [e']
    show (if (numOk (numL p.1) && numOk (numL p.2)) = true then some (digitsVal (numL p.1), digitsVal (numL p.2)) else none) = _
    have h1 := h.one
    rw [numOk_num h.two h.len, numOk_num (by omega) (len_few h.few), numL_val, numL_val]
    rfl
theorem pL_free (n k : Nat) : 44 ∉ pL n k := by
  unfold pL
  intro h
  rcases List.mem_append.mp h with z | z
  · exact numL_free (.inl (by decide)) z
  · split at z
    · cases z
    · rcases List.mem_cons.mp z with e | e
      · cases e
      · exact numL_free (.inl (by decide)) e
def shL (ps : List (Nat × Nat)) : List Nat := joinL [44, 32] (ps.map fun p => pL p.1 p.2)
def outL (ps : List (Nat × Nat)) : List Int := (ps.map fun p => List.replicate p.2 (p.1 : Int)).flatten
/-- neighbours differ -/
def Alt : Option Int → List (Nat × Nat) → Prop
  | _, [] => True
  | o, p :: r => o ≠ some (p.1 : Int) ∧ Alt (some (p.1 : Int)) r
theorem last_rep {F : List Int} {k : Nat} {x : Int} (h : 1 ≤ k) : (F ++ List.replicate k x).getLast? = some x := by
  obtain ⟨m, rfl⟩ : ∃ m, k = m + 1 := ⟨k - 1, by omega⟩
  rw [List.replicate_succ', ← List.append_assoc, List.getLast?_concat]
theorem rAll_out : ∀ (ps : List (Nat × Nat)) (F : List Int), (∀ p ∈ ps, PartOk p) → Alt F.getLast? ps → rAll F (ps.map fun p => pL p.1 p.2) = some (F ++ outL ps)
  | [], F, _, _ => by
    show some F = some (F ++ [])
    rw [List.append_nil]
  | p :: r, F, h, a => by
    have hp := h p List.mem_cons_self
    have st : rStep F (pL p.1 p.2) = some (F ++ List.replicate p.2 (p.1 : Int)) := by
      unfold rStep
      rw [rPart_pL hp]
      show (if F.getLast? = some (p.1 : Int) then none else some (F ++ List.replicate p.2 (p.1 : Int))) = _
      rw [if_neg a.1]
    show (match rStep F (pL p.1 p.2) with | none => none | some F' => rAll F' (r.map fun p : Nat × Nat => pL p.1 p.2)) = _
    rw [st]
    show rAll (F ++ List.replicate p.2 (p.1 : Int)) (r.map fun p : Nat × Nat => pL p.1 p.2) = _
    rw [rAll_out r _ (fun q hq => h q (List.mem_cons_of_mem _ hq)) (by rw [last_rep hp.one]; exact a.2), List.append_assoc]
    rfl
theorem spl_shL {ps : List (Nat × Nat)} (ne : ps ≠ []) : spl [44, 32] 0 [] (shL ps) = ps.map fun p => pL p.1 p.2 :=
  spl_join (fun z => ne (List.map_eq_nil_iff.mp z)) fun q hq => by
    obtain ⟨p, _, rfl⟩ := List.mem_map.mp hq
    exact pL_free _ _
theorem joinL_head {S p : List Nat} {r : List (List Nat)} (h : p ≠ []) : (joinL S (p :: r)).head? = p.head? := by
  cases p with
  | nil => exact absurd rfl h
  | cons c p =>
    cases r <;> rfl
theorem read_shown {ps : List (Nat × Nat)} (ne : ps ≠ []) (ok : ∀ p ∈ ps, PartOk p) (a : Alt none ps) : rText (shL ps) = some (outL ps) ∧ Small (shL ps) := by
  constructor
  · unfold rText
    rw [spl_shL ne, rAll_out ps [] ok a, List.nil_append]
    refine if_neg fun z => ?_
    cases ps with
    | nil => exact ne rfl
    | cons p r =>
      have hh : (shL (p :: r)).head? = (numL p.1).head? := by
        show (joinL [44, 32] (pL p.1 p.2 :: r.map fun p => pL p.1 p.2)).head? = _
        have n1 : pL p.1 p.2 ≠ [] := fun z => by
          unfold pL at z
          exact numL_ne _ (List.append_eq_nil_iff.mp z).1
        rw [joinL_head n1]
        unfold pL
        cases e : numL p.1 with
        | nil => exact absurd e (numL_ne _)
        | cons x q => rfl
      rw [z] at hh
      cases e : numL p.1 with
      | nil => exact numL_ne _ e
      | cons x q =>
        rw [e] at hh
        have hx : x = 110 := (Option.some.inj hh).symm
        have := numL_digits p.1 x (by rw [e]; exact List.mem_cons_self)
        omega
  · unfold Small
    rw [spl_shL ne]
    intro q hq n k e
    obtain ⟨p, hp, rfl⟩ := List.mem_map.mp hq
    have e' : rPart (pL p.1 p.2) = some (n, k) := e
    rw [rPart_pL (ok p hp)] at e'
    cases e'
    exact (ok p hp).few
theorem fnok_mono {P : Program} {w : World} {K : PySem.W.Frag} {mg : Str → Option Value} {base : Heap} {k : Nat} {f : Addr} {fd : FuncData} {ps : List Str} {sp sp' : Sp} (G : FnOk P w K mg base CX0 k f fd ps sp) (h : ∀ vs H Q E, sp' vs H Q E → sp vs H Q E) : FnOk P w K mg base CX0 k f fd ps sp' :=
  ⟨fun vs H Q E z => G.len _ _ _ _ (h _ _ _ _ z), fun A outer s H args us vs Q E hr e0 hb hv z => G.run A outer s H args us vs Q E hr e0 hb hv (h _ _ _ _ z)⟩
theorem num_few {n : Nat} (h : n ≤ 1000) : (numL n).length ≤ 4 := numL_len (by decide) (by omega)
theorem tl_int {a : Int} (h : 0 ≤ a) : tl (Str.ofString (toString a)) = numL a.toNat := by
  obtain ⟨n, rfl⟩ := Int.eq_ofNat_of_zero_le h
  exact tl_num n
end Sq

set_option Elab.async false
set_option linter.all false
set_option maxRecDepth 100000
set_option maxHeartbeats 1000000
/-! Texts of lists, written: the groups of equal neighbours, the digits of great numbers. -/
namespace Sq
open PySem PySem.Spec PyProof.Rows L2 TL
open NumText (digitsVal AllDigits)
/-- the number of the last group -/
def lastN (o : Option Int) (ps : List (Nat × Nat)) : Option Int := match ps.getLast? with
  | some p => some (p.1 : Int)
  | none => o
theorem lastN_nil (o : Option Int) : lastN o [] = o := rfl
theorem lastN_snoc (o : Option Int) (ps : List (Nat × Nat)) (p : Nat × Nat) : lastN o (ps ++ [p]) = some (p.1 : Int) := by
  unfold lastN
  rw [List.getLast?_concat]
theorem lastN_cons (o : Option Int) (p : Nat × Nat) (ps : List (Nat × Nat)) : lastN o (p :: ps) = lastN (some (p.1 : Int)) ps := by
  unfold lastN
  cases ps with
  | nil => rfl
  | cons q r => rw [List.getLast?_cons_cons]; cases h : (q :: r).getLast? with
    | some z => rfl
    | none => simp at h
theorem alt_snoc : ∀ (ps : List (Nat × Nat)) (o : Option Int) (p : Nat × Nat), Alt o (ps ++ [p]) ↔ Alt o ps ∧ lastN o ps ≠ some (p.1 : Int)
  | [], o, p => ⟨fun h => ⟨trivial, h.1⟩, fun h => ⟨h.2, trivial⟩⟩
  | q :: r, o, p => by
    rw [lastN_cons]
    show (o ≠ some (q.1 : Int) ∧ Alt (some (q.1 : Int)) (r ++ [p])) ↔ (o ≠ some (q.1 : Int) ∧ Alt (some (q.1 : Int)) r) ∧ _
    rw [alt_snoc r]
    exact ⟨fun h => ⟨⟨h.1, h.2.1⟩, h.2.2⟩, fun h => ⟨h.1.1, h.1.2, h.2⟩⟩
/-- ks by its groups of equal neighbours -/
structure Grp (ks : List Int) (ps : List (Nat × Nat)) : Prop where
  alt : Alt none ps
  one : ∀ p ∈ ps, 1 ≤ p.2
  out : outL ps = ks
theorem outL_nil : outL [] = [] := rfl
theorem outL_cons (p : Nat × Nat) (ps : List (Nat × Nat)) : outL (p :: ps) = List.replicate p.2 (p.1 : Int) ++ outL ps := rfl
theorem outL_snoc (ps : List (Nat × Nat)) (p : Nat × Nat) : outL (ps ++ [p]) = outL ps ++ List.replicate p.2 (p.1 : Int) := by
  unfold outL
  rw [List.map_append, List.flatten_append]
  simp
theorem Grp.nil : Grp [] [] := ⟨trivial, fun p h => (nomatch h), rfl⟩
/-- one more number, another one -/
theorem Grp.new {ks : List Int} {ps : List (Nat × Nat)} {k : Nat} (g : Grp ks ps) (h : lastN none ps ≠ some (k : Int)) : Grp (ks ++ [(k : Int)]) (ps ++ [(k, 1)]) := by
  refine ⟨(alt_snoc _ _ _).mpr ⟨g.alt, h⟩, fun p hp => ?_, ?_⟩
  · rcases List.mem_append.mp hp with z | z
    · exact g.one p z
    · rw [List.mem_singleton.mp z]
      exact Nat.le_refl _
  · rw [outL_snoc, g.out]
    rfl
/-- one more number, the same -/
theorem Grp.more {ks : List Int} {ps : List (Nat × Nat)} {k m : Nat} (g : Grp ks (ps ++ [(k, m)])) : Grp (ks ++ [(k : Int)]) (ps ++ [(k, m + 1)]) := by
  have a := (alt_snoc _ _ _).mp g.alt
  refine ⟨(alt_snoc _ _ _).mpr a, fun p hp => ?_, ?_⟩
  · rcases List.mem_append.mp hp with z | z
    · exact g.one p (List.mem_append_left _ z)
    · rw [List.mem_singleton.mp z]
      exact Nat.succ_le_succ (Nat.zero_le _)
  · have o := g.out
    rw [outL_snoc] at o ⊢
    show outL ps ++ List.replicate (m + 1) (k : Int) = _
    rw [List.replicate_succ', ← List.append_assoc]
    rw [show outL ps ++ List.replicate m (k : Int) = ks from o]
theorem outL_head {p : Nat × Nat} {ps : List (Nat × Nat)} (h : 1 ≤ p.2) : ∃ r, outL (p :: ps) = (p.1 : Int) :: r := by
  rw [outL_cons]
  obtain ⟨m, e⟩ : ∃ m, p.2 = m + 1 := ⟨p.2 - 1, by omega⟩
  rw [e, List.replicate_succ]
  exact ⟨_, rfl⟩
theorem outL_eq_nil {ps : List (Nat × Nat)} (h : ∀ p ∈ ps, 1 ≤ p.2) (e : outL ps = []) : ps = [] := by
  cases ps with
  | nil => rfl
  | cons p r =>
    obtain ⟨s, z⟩ := outL_head (ps := r) (h p List.mem_cons_self)
    rw [z] at e
    cases e
theorem rep_cut {x : Int} {A B : List Int} : ∀ (m n : Nat), m ≤ n → List.replicate m x ++ A = List.replicate n x ++ B → A = List.replicate (n - m) x ++ B
  | 0, n, _, h => h
  | m + 1, 0, l, _ => absurd l (by omega)
  | m + 1, n + 1, l, h => by
    rw [List.replicate_succ, List.replicate_succ, List.cons_append, List.cons_append] at h
    rw [rep_cut m n (by omega) (List.cons.inj h).2, Nat.add_sub_add_right]
theorem alt_ne_head {k : Nat} {ps : List (Nat × Nat)} {B : List Int} {d : Nat} (a : Alt (some (k : Int)) ps) (o : ∀ p ∈ ps, 1 ≤ p.2) (hd : 0 < d) : outL ps ≠ List.replicate d (k : Int) ++ B := fun e => by
  obtain ⟨m, rfl⟩ : ∃ m, d = m + 1 := ⟨d - 1, by omega⟩
  rw [List.replicate_succ] at e
  cases ps with
  | nil => cases e
  | cons p r =>
    obtain ⟨s, z⟩ := outL_head (ps := r) (o p List.mem_cons_self)
    rw [z] at e
    have h := (List.cons.inj e).1
    exact a.1 (by rw [h])
theorem grp_one : ∀ (ps qs : List (Nat × Nat)) (o o' : Option Int), Alt o ps → Alt o' qs → (∀ p ∈ ps, 1 ≤ p.2) → (∀ p ∈ qs, 1 ≤ p.2) → outL ps = outL qs → ps = qs
  | [], qs, _, _, _, _, _, h2, e => (outL_eq_nil h2 e.symm).symm
  | p :: r, [], _, _, _, _, h1, _, e => outL_eq_nil h1 e
  | (k, m) :: r, (l, n) :: s, o, o', a1, a2, h1, h2, e => by
    have m1 : 1 ≤ m := h1 (k, m) List.mem_cons_self
    have n1 : 1 ≤ n := h2 (l, n) List.mem_cons_self
    have kl : (k : Int) = (l : Int) := by
      obtain ⟨x, e1⟩ := outL_head (p := (k, m)) (ps := r) m1
      obtain ⟨y, e2⟩ := outL_head (p := (l, n)) (ps := s) n1
      rw [e1, e2] at e
      exact (List.cons.inj e).1
    have kl' : k = l := Int.ofNat.inj kl
    subst kl'
    have e' : List.replicate m (k : Int) ++ outL r = List.replicate n (k : Int) ++ outL s := e
    have mn : m = n := by
      by_cases c : m < n
      · exact absurd (rep_cut m n (by omega) e') (alt_ne_head a1.2 (fun p hp => h1 p (List.mem_cons_of_mem _ hp)) (by omega))
      · by_cases c2 : n < m
        · exact absurd (rep_cut n m (by omega) e'.symm) (alt_ne_head a2.2 (fun p hp => h2 p (List.mem_cons_of_mem _ hp)) (by omega))
        · omega
    subst mn
    have e3 := rep_cut m m (Nat.le_refl _) e'
    rw [Nat.sub_self] at e3
    rw [grp_one r s _ _ a1.2 a2.2 (fun p hp => h1 p (List.mem_cons_of_mem _ hp)) (fun p hp => h2 p (List.mem_cons_of_mem _ hp)) e3]
theorem Grp.uniq {ks : List Int} {ps qs : List (Nat × Nat)} (a : Grp ks ps) (b : Grp ks qs) : ps = qs := grp_one ps qs none none a.alt b.alt a.one b.one (a.out.trans b.out.symm)
theorem Grp.mem {ks : List Int} {ps : List (Nat × Nat)} (g : Grp ks ps) : ∀ p ∈ ps, (p.1 : Int) ∈ ks := fun p hp => by
  rw [← g.out]
  unfold outL
  have h1 := g.one p hp
  exact List.mem_flatten.mpr ⟨_, List.mem_map.mpr ⟨p, hp, rfl⟩, List.mem_replicate.mpr ⟨by omega, rfl⟩⟩
theorem outL_len : ∀ (ps : List (Nat × Nat)), (outL ps).length = (ps.map (·.2)).sum
  | [] => rfl
  | p :: r => by
    rw [outL_cons, List.length_append, List.length_replicate, outL_len r]
    rfl
theorem sum_ge {ps : List (Nat × Nat)} : (∀ p ∈ ps, 1 ≤ p.2) → ps.length ≤ (ps.map (·.2)).sum ∧ ∀ p ∈ ps, p.2 ≤ (ps.map (·.2)).sum := by
  induction ps with
  | nil => exact fun _ => ⟨Nat.le_refl _, fun p hp => (nomatch hp)⟩
  | cons q r ih =>
    intro h
    obtain ⟨a, b⟩ := ih fun p hp => h p (List.mem_cons_of_mem _ hp)
    have h1 := h q List.mem_cons_self
    refine ⟨?_, fun p hp => ?_⟩
    · simp only [List.length_cons, List.map_cons, List.sum_cons]
      omega
    · simp only [List.map_cons, List.sum_cons]
      rcases List.mem_cons.mp hp with z | z
      · rw [z]; omega
      · have := b p z; omega
theorem Grp.len {ks : List Int} {ps : List (Nat × Nat)} (g : Grp ks ps) : ps.length ≤ ks.length ∧ ∀ p ∈ ps, p.2 ≤ ks.length := by
  rw [← g.out, outL_len]
  exact sum_ge g.one
/-- the signs of a list's text -/
def txtL (ps : List (Nat × Nat)) : List Nat := if ps = [] then [110, 111, 110, 101] else shL ps
/-! ### great numbers, piece by piece -/
def dig : Nat → Nat → List Nat
  | 0, _ => []
  | k + 1, r => dig k (r / 10) ++ [48 + r % 10]
theorem dig_len : ∀ k r, (dig k r).length = k
  | 0, _ => rfl
  | k + 1, r => by
    show (dig k (r / 10) ++ [48 + r % 10]).length = _
    rw [List.length_append, dig_len k]
    rfl
theorem numL_app : ∀ (k q r : Nat), 1 ≤ q → r < 10 ^ k → numL (q * 10 ^ k + r) = numL q ++ dig k r
  | 0, q, r, _, h => by
    have : r = 0 := by simpa using h
    subst this
    show numL (q * 1 + 0) = numL q ++ []
    rw [List.append_nil, Nat.mul_one, Nat.add_zero]
  | k + 1, q, r, hq, h => by
    have p : 10 ^ (k + 1) = 10 ^ k * 10 := Nat.pow_succ 10 k
    have pp : 1 ≤ 10 ^ k := Nat.one_le_pow _ _ (by decide)
    have e0 : q * (10 ^ k * 10) = q * 10 ^ k * 10 := by rw [Nat.mul_assoc]
    have g : 1 ≤ q * 10 ^ k := Nat.le_trans pp (Nat.le_mul_of_pos_left _ hq)
    rw [p] at h
    rw [p, e0, numL_step (by omega)]
    have e1 : (q * 10 ^ k * 10 + r) / 10 = q * 10 ^ k + r / 10 := by omega
    have e2 : (q * 10 ^ k * 10 + r) % 10 = r % 10 := by omega
    rw [e1, e2, numL_app k q (r / 10) hq (by omega), List.append_assoc]
    rfl
theorem dig_pad : ∀ (k r : Nat), 1 ≤ k → r < 10 ^ k → dig k r = List.replicate (k - (numL r).length) 48 ++ numL r
  | 0, r, h, _ => absurd h (by decide)
  | k + 1, r, _, h => by
    show dig k (r / 10) ++ [48 + r % 10] = _
    by_cases c : r < 10
    · rw [numL_lt c]
      have e0 : r / 10 = 0 := by omega
      have e1 : r % 10 = r := by omega
      rw [e0, e1]
      show _ = List.replicate (k + 1 - 1) 48 ++ [48 + r]
      rw [Nat.add_sub_cancel]
      by_cases ck : k = 0
      · subst ck
        rfl
      · rw [dig_pad k 0 (by omega) (Nat.pow_pos (by decide)), numL_lt (by decide)]
        show List.replicate (k - 1) 48 ++ [48] ++ [48 + r] = _
        obtain ⟨j, rfl⟩ : ∃ j, k = j + 1 := ⟨k - 1, by omega⟩
        rw [List.replicate_succ', Nat.add_sub_cancel]
    · rw [numL_step (by omega), List.length_append]
      show _ = List.replicate (k + 1 - ((numL (r / 10)).length + 1)) 48 ++ (numL (r / 10) ++ [48 + r % 10])
      have ck : 1 ≤ k := by
        cases k with
        | zero => exact absurd h (by omega)
        | succ j => omega
      rw [Nat.pow_succ] at h
      rw [dig_pad k (r / 10) ck (by omega), Nat.add_sub_add_right, List.append_assoc]
end Sq
namespace Sq
open PySem PySem.Spec PyProof.Rows L2 TL
theorem zfill_dig {r : Nat} (h : r < 10 ^ 64) : tl (Txt.zfill (Str.ofString (toString (r : Int))) 64) = dig 64 r := by
  obtain ⟨x, ex⟩ : ∃ x, x = Str.ofString (toString (r : Int)) := ⟨_, rfl⟩
  have tx : tl x = numL r := by rw [ex]; exact tl_num r
  have lx : x.length = (numL r).length := by rw [len_tl, tx]
  have l64 : (numL r).length ≤ 64 := numL_len (by decide) h
  rw [← ex, dig_pad 64 r (by decide) h, ← lx]
  unfold Txt.zfill
  by_cases c : (64 : Int) ≤ x.length
  · rw [if_pos c, show 64 - x.length = 0 by omega, tx]
    rfl
  · rw [if_neg c]
    have plain : zfilled x ((64 : Int).toNat - x.length) = Builtin.Str.padded x ((64 : Int).toNat - x.length) 0 48 := by
      unfold zfilled
      have h0 : ∀ c, x.cps[0]? = some c → 48 ≤ c := fun c hc => by
        have m : c ∈ tl x := by
          have : (tl x)[0]? = some c := by
            show x.cps.toList[0]? = some c
            rw [Array.getElem?_toList]
            exact hc
          exact List.mem_of_getElem? this
        rw [tx] at m
        exact (numL_digits r c m).1
      split
      · rename_i e
        have := h0 _ e
        omega
      · rename_i e
        have := h0 _ e
        omega
      · rfl
    rw [plain]
    show tl (⟨Array.replicate ((64 : Int).toNat - x.length) 48 ++ x.cps ++ Array.replicate 0 48⟩ : Str) = _
    show (Array.replicate ((64 : Int).toNat - x.length) 48 ++ x.cps ++ Array.replicate 0 48).toList = _
    rw [Array.toList_append, Array.toList_append, Array.toList_replicate, Array.toList_replicate]
    show List.replicate (64 - x.length) 48 ++ tl x ++ [] = _
    rw [List.append_nil, tx]
end Sq
namespace Sq
open PySem PySem.Spec PyProof.Rows L2 TL
/-- o[i], by values, of a list (for o[i] += e) -/
theorem get_list {X : Cx} : PGet X (rIxL X.K) := by
  intro pins s σ H x y v u Q I rx ry h
  obtain ⟨p, xs, i, z, rfl, rfl, hq, he, q⟩ := h
  cases rx
  obtain ⟨t, rfl⟩ := ry
  obtain ⟨its, r, pl, hz⟩ := I.list hq
  obtain ⟨j, h1, h2, h3, h4, h5⟩ := atI_get he
  obtain ⟨w, ew, rw'⟩ := r.get h2
  have hl := r.length
  have hn := line63
  have fin : EP X pins σ Q w s := ⟨z, H, I, rw', q⟩
  by_cases h0 : 0 ≤ i
  · have hj : i.toNat = j := by
      rw [seqIndex_of h0 h5] at h1
      exact Option.some.inj h1
    exact wpAny_getItem_list pl.isList h0 (by omega) (by rw [hj]; simpa using ew) fin
  · have hj : (i + (its.toArray.size : Int)).toNat = j := by
      rw [seqIndex_neg (by omega) h4] at h1
      rw [List.size_toArray, ← hl]
      exact Option.some.inj h1
    exact wpAny_getItem_list_neg pl.isList (by omega) (by rw [List.size_toArray] <;> omega) (by omega) (by rw [hj]; simpa using ew) fin
def mkS (l : List Nat) : Str := ⟨l.toArray⟩
theorem tl_mkS (l : List Nat) : tl (mkS l) = l := rfl
theorem mkS_of {x : Str} {l : List Nat} (h : tl x = l) : x = mkS l := ext_tl h
theorem len_mkS (l : List Nat) : (mkS l).length = l.length := len_tl _
/-- where the groups stand -/
def RowsP (H : Hp) (as : List Addr) (ps : List (Nat × Nat)) : Prop := as.length = ps.length ∧ ∀ (i : Nat) (p : Nat × Nat), ps[i]? = some p → ∃ a, as[i]? = some a ∧ H a = some (.lst [.int (p.1 : Int), .int (p.2 : Int)])
theorem at_snoc {α : Type} {xs : List α} {x y : α} {i : Nat} (h : (xs ++ [x])[i]? = some y) : (i < xs.length ∧ xs[i]? = some y) ∨ (i = xs.length ∧ y = x) := by
  by_cases c : i < xs.length
  · rw [List.getElem?_append_left c] at h
    exact .inl ⟨c, h⟩
  · rw [List.getElem?_append_right (by omega)] at h
    by_cases e : i = xs.length
    · rw [e, Nat.sub_self] at h
      exact .inr ⟨e, (Option.some.inj h).symm⟩
    · rw [List.getElem?_eq_none (by simp; omega)] at h
      cases h
theorem at_snoc_last {α : Type} {xs : List α} {x : α} : (xs ++ [x])[xs.length]? = some x := by
  rw [List.getElem?_append_right (Nat.le_refl _), Nat.sub_self]
  rfl
theorem at_snoc_left {α : Type} {xs : List α} {x y : α} {i : Nat} (h : xs[i]? = some y) : (xs ++ [x])[i]? = some y := by
  have lt := (List.getElem?_eq_some_iff.mp h).1
  rw [List.getElem?_append_left lt]
  exact h
theorem join_len : ∀ (S : List Nat) (ps : List (List Nat)) (B : Nat), (∀ p ∈ ps, p.length ≤ B) → (joinL S ps).length ≤ ps.length * (B + S.length)
  | S, [], B, _ => Nat.zero_le _
  | S, [p], B, h => by
    show p.length ≤ 1 * (B + S.length)
    have := h p List.mem_cons_self
    omega
  | S, p :: q :: r, B, h => by
    have a := h p List.mem_cons_self
    have b := join_len S (q :: r) B fun z hz => h z (List.mem_cons_of_mem _ hz)
    show (p ++ (S ++ joinL S (q :: r))).length ≤ _
    rw [List.length_append, List.length_append, List.length_cons (a := p), Nat.add_mul, Nat.one_mul]
    omega
theorem lt_pow10 {n k : Nat} (h : n < 10 ^ k) : n.log2 < 4 * k + 1 := by
  have a : 10 ^ k ≤ 16 ^ k := Nat.pow_le_pow_left (by decide) k
  have b : (16 : Nat) ^ k = 2 ^ (4 * k) := by rw [Nat.pow_mul]
  have c : n < 2 ^ (4 * k) := by rw [← b]; exact Nat.lt_of_lt_of_le h a
  by_cases z : n = 0
  · rw [z]
    show Nat.log2 0 < _
    have : Nat.log2 0 = 0 := by decide
    omega
  · have := (Nat.log2_lt z).mpr c
    omega
end Sq
namespace Sq
open PySem PySem.Spec PyProof.Rows L2 TL
theorem numL_bound (n : Nat) : n < 10 ^ (numL n).length := by
  induction n using Nat.strongRecOn with
  | _ n ih =>
    by_cases h : n < 10
    · rw [numL_lt h]
      exact h
    · rw [numL_step (by omega), List.length_append]
      have := ih (n / 10) (by omega)
      show n < 10 ^ ((numL (n / 10)).length + 1)
      rw [Nat.pow_succ]
      omega
theorem pow10_le {n k m : Nat} (h : n < 10 ^ k) (l : k ≤ m) : n < 10 ^ m := Nat.lt_of_lt_of_le h (Nat.pow_le_pow_right (by decide) l)
theorem log_num {n k : Nat} (h : (numL n).length ≤ k) : (n : Int).natAbs.log2 < 4 * k + 1 := by
  show n.log2 < _
  exact lt_pow10 (pow10_le (numL_bound n) h)
theorem bits_num {n k : Nat} (h : (numL n).length ≤ k) : Builtin.Int.intBits (n : Int) ≤ 4 * k + 1 := by
  unfold Builtin.Int.intBits
  have := log_num h
  split <;> omega
theorem flat_len {ws : List (List Nat)} {c : Nat} (h : ∀ x ∈ ws, x.length = c) : ws.flatten.length = ws.length * c := by
  induction ws with
  | nil => simp
  | cons x r ih =>
    rw [List.flatten_cons, List.length_append, h x List.mem_cons_self, ih fun y hy => h y (List.mem_cons_of_mem _ hy), List.length_cons, Nat.add_mul, Nat.one_mul, Nat.add_comm]
theorem joinL_nil : ∀ ps : List (List Nat), joinL [] ps = ps.flatten
  | [] => rfl
  | [p] => by show p = [p].flatten; simp
  | p :: q :: r => by
    show p ++ ([] ++ joinL [] (q :: r)) = _
    rw [joinL_nil (q :: r), List.flatten_cons]
    rfl
end Sq
namespace Sq
open PySem PySem.Spec PyProof.Rows L2 TL
theorem joinL_snoc {S p : List Nat} : ∀ {ps : List (List Nat)}, ps ≠ [] → joinL S (ps ++ [p]) = joinL S ps ++ (S ++ p)
  | [], h => absurd rfl h
  | [q], _ => rfl
  | q :: r :: s, _ => by
    show q ++ (S ++ joinL S ((r :: s) ++ [p])) = (q ++ (S ++ joinL S (r :: s))) ++ (S ++ p)
    rw [joinL_snoc (ps := r :: s) (by simp)]
    simp [List.append_assoc]
theorem shL_snoc {ps : List (Nat × Nat)} {p : Nat × Nat} : shL (ps ++ [p]) = shL ps ++ ((if ps = [] then [] else [44, 32]) ++ pL p.1 p.2) := by
  unfold shL
  by_cases h : ps = []
  · subst h
    rw [if_pos rfl]
    rfl
  · rw [List.map_append, List.map_singleton, joinL_snoc (fun z => h (List.map_eq_nil_iff.mp z)), if_neg h]
theorem pL_ne (n k : Nat) : pL n k ≠ [] := fun z => by
  unfold pL at z
  exact numL_ne _ (List.append_eq_nil_iff.mp z).1
theorem shL_ne {ps : List (Nat × Nat)} (h : ps ≠ []) : shL ps ≠ [] := fun z => by
  cases ps with
  | nil => exact h rfl
  | cons p r =>
    have hh := joinL_head (S := [44, 32]) (r := r.map fun p => pL p.1 p.2) (pL_ne p.1 p.2)
    have z' : joinL [44, 32] (pL p.1 p.2 :: r.map fun p => pL p.1 p.2) = [] := z
    rw [z'] at hh
    cases e : pL p.1 p.2 with
    | nil => exact pL_ne _ _ e
    | cons a b => rw [e] at hh; cases hh
theorem cut_one {xs : List V} {i : Nat} : cutV xs (some ((i + 1 : Nat) : Int)) (some ((i + 2 : Nat) : Int)) = (xs[i + 1]?).toList := by
  unfold cutV
  rw [HT.sIx_nat, HT.sIx_nat]
  by_cases h : i + 1 < xs.length
  · rw [Nat.min_eq_left (by omega), Nat.min_eq_left (by omega), show i + 2 - (i + 1) = 1 by omega, List.drop_eq_getElem_cons h, List.getElem?_eq_getElem h]
    rfl
  · rw [List.getElem?_eq_none (by omega), List.drop_of_length_le (by omega)]
    simp
/-- one group's way of writing: the state of a writer that has closed the groups C and stands t signs in the next -/
structure OwnS (ks : List Int) (i : Nat) (C : List (Nat × Nat)) (t : Nat) : Prop where
  alt : Alt none C
  one : ∀ p ∈ C, 1 ≤ p.2
  nx : ∀ n, ks[i]? = some n → ks.take i = outL C ++ List.replicate t n ∧ lastN none C ≠ some n
  fin : ks[i]? = none → t = 0 ∧ outL C = ks
theorem OwnS.start (ks : List Int) : OwnS ks 0 [] 0 := ⟨trivial, fun p h => (nomatch h), fun n _ => ⟨rfl, fun z => (nomatch z)⟩, fun h => ⟨rfl, by
  cases ks with
  | nil => rfl
  | cons k r => cases h⟩⟩
theorem OwnS.same {ks : List Int} {i : Nat} {C : List (Nat × Nat)} {t : Nat} {n : Int} (h : OwnS ks i C t) (e : ks[i]? = some n) (e2 : ks[i + 1]? = some n) : OwnS ks (i + 1) C (t + 1) := by
  obtain ⟨a, b⟩ := h.nx n e
  refine ⟨h.alt, h.one, fun m hm => ?_, fun z => by rw [e2] at z; cases z⟩
  rw [e2] at hm
  cases hm
  refine ⟨?_, b⟩
  rw [List.take_add_one, e, a, List.replicate_succ', List.append_assoc]
  rfl
theorem OwnS.close {ks : List Int} {i : Nat} {C : List (Nat × Nat)} {t : Nat} {n : Int} (h : OwnS ks i C t) (e : ks[i]? = some n) (e2 : ks[i + 1]? ≠ some n) (h0 : 0 ≤ n) : OwnS ks (i + 1) (C ++ [(n.toNat, t + 1)]) 0 := by
  obtain ⟨a, b⟩ := h.nx n e
  have en : ((n.toNat : Nat) : Int) = n := Int.toNat_of_nonneg h0
  have tk : ks.take (i + 1) = outL (C ++ [(n.toNat, t + 1)]) := by
    rw [outL_snoc, List.take_add_one, e, a]
    show _ = outL C ++ List.replicate (t + 1) ((n.toNat : Nat) : Int)
    rw [en, List.replicate_succ', List.append_assoc]
    rfl
  refine ⟨(alt_snoc _ _ _).mpr ⟨h.alt, by rw [en]; exact b⟩, fun p hp => ?_, fun m hm => ⟨?_, ?_⟩, fun z => ⟨rfl, ?_⟩⟩
  · rcases List.mem_append.mp hp with z | z
    · exact h.one p z
    · rw [List.mem_singleton.mp z]
      exact Nat.succ_le_succ (Nat.zero_le _)
  · rw [tk]
    exact (List.append_nil _).symm
  · rw [lastN_snoc, en]
    exact fun z => e2 (by rw [hm, Option.some.inj z])
  · rw [← tk, List.take_of_length_le (List.getElem?_eq_none_iff.mp z)]
end Sq

set_option Elab.async false
set_option linter.all false
set_option maxRecDepth 100000
set_option maxHeartbeats 1000000
/-! What is read is written. -/
namespace Sq
open PySem PySem.Spec PyProof.Rows L2 TL
open NumText (digitsVal AllDigits)
theorem digitsVal_snoc (l : List Nat) (c : Nat) : digitsVal (l ++ [c]) = digitsVal l * 10 + (c - 48) := by
  unfold NumText.digitsVal
  rw [List.foldl_append]
  rfl
theorem numL_back : ∀ (n : Nat) (l : List Nat), l.length = n → AllDigits l → l ≠ [] → l.head? ≠ some 48 → numL (digitsVal l) = l ∧ 1 ≤ digitsVal l := fun n => by
  induction n with
  | zero => exact fun l e _ ne _ => absurd (List.length_eq_zero_iff.mp e) ne
  | succ n ih =>
    intro l e ad ne hd
    rcases List.eq_nil_or_concat l with z | ⟨r, c, z⟩
    · exact absurd z ne
    · rw [List.concat_eq_append] at z
      subst z
      have hc := ad c (List.mem_append_right _ (List.mem_singleton.mpr rfl))
      rw [digitsVal_snoc]
      by_cases er : r = []
      · subst er
        have h48 : c ≠ 48 := fun z => hd (by rw [z]; rfl)
        show numL (0 * 10 + (c - 48)) = [] ++ [c] ∧ _
        rw [Nat.zero_mul, Nat.zero_add, numL_lt (by omega)]
        refine ⟨?_, ?_⟩
        · show [48 + (c - 48)] = [c]
          rw [show 48 + (c - 48) = c by omega]
        · show 1 ≤ digitsVal [] * 10 + (c - 48)
          show 1 ≤ 0 * 10 + (c - 48)
          omega
      · have hr : r.head? ≠ some 48 := by
          cases r with
          | nil => exact absurd rfl er
          | cons a b => exact hd
        obtain ⟨i1, i2⟩ := ih r (by rw [List.length_append] at e; simpa using e) (fun x hx => ad x (List.mem_append_left _ hx)) er hr
        refine ⟨?_, by omega⟩
        rw [numL_step (by omega)]
        have e1 : (digitsVal r * 10 + (c - 48)) / 10 = digitsVal r := by omega
        have e2 : (digitsVal r * 10 + (c - 48)) % 10 = c - 48 := by omega
        rw [e1, e2, i1, show 48 + (c - 48) = c by omega]
theorem numOk_back {l : List Nat} (h : numOk l = true) : numL (digitsVal l) = l ∧ 2 ≤ digitsVal l := by
  obtain ⟨a, b, _, d, e⟩ := numOk_iff.mp h
  obtain ⟨h1, h2⟩ := numL_back _ l rfl a b d
  refine ⟨h1, ?_⟩
  by_cases c : digitsVal l = 1
  · rw [c] at h1
    exact absurd (h1.symm.trans (show numL 1 = [49] by rfl)) e
  · omega
theorem par_some : ∀ (l acc a b : List Nat), par [94] acc l = some (a, b) → acc ++ l = a ++ 94 :: b
  | [], acc, a, b, h => by cases h
  | c :: r, acc, a, b, h => by
    by_cases z : pre [94] (c :: r) = true
    · rw [par_hit z] at h
      have e : c = 94 := by
        by_cases q : c = 94
        · exact q
        · rw [pre_of_head [] r q] at z
          cases z
      subst e
      obtain ⟨rfl, rfl⟩ := Prod.mk.inj (Option.some.inj h)
      rfl
    · rw [par_miss (by simpa using z)] at h
      have e := par_some r (acc ++ [c]) a b h
      rw [← e]
      simp
structure PartR (p : Nat × Nat) : Prop where
  two : 2 ≤ p.1
  one : 1 ≤ p.2
  len : (numL p.1).length ≤ 200
theorem rPart_inv {q : List Nat} {n k : Nat} (h : rPart q = some (n, k)) : q = pL n k ∧ PartR (n, k) := by
  unfold rPart at h
  cases hp : par [94] [] q with
  | none =>
    rw [hp] at h
    have h' : (if numOk q = true then some (digitsVal q, 1) else none) = some (n, k) := h
    by_cases c : numOk q = true
    · rw [if_pos c] at h'
      cases h'
      obtain ⟨h1, h2⟩ := numOk_back c
      refine ⟨?_, h2, Nat.le_refl _, ?_⟩
      · unfold pL
        rw [if_pos rfl, List.append_nil, h1]
      · show (numL (digitsVal q)).length ≤ 200
        rw [h1]
        exact (numOk_iff.mp c).2.2.1
    · rw [if_neg c] at h'
      cases h'
  | some ab =>
    obtain ⟨a, b⟩ := ab
    rw [hp] at h
    have h' : (if (numOk a && numOk b) = true then some (digitsVal a, digitsVal b) else none) = some (n, k) := h
    by_cases c : (numOk a && numOk b) = true
    · rw [if_pos c] at h'
      cases h'
      rw [Bool.and_eq_true] at c
      obtain ⟨h1, h2⟩ := numOk_back c.1
      obtain ⟨h3, h4⟩ := numOk_back c.2
      have e := par_some q [] a b hp
      refine ⟨?_, h2, by show 1 ≤ digitsVal b; omega, ?_⟩
      · unfold pL
        rw [if_neg (by omega), h1, h3]
        exact e
      · show (numL (digitsVal a)).length ≤ 200
        rw [h1]
        exact (numOk_iff.mp c.1).2.2.1
    · rw [if_neg c] at h'
      cases h'
theorem last_of {F : List Int} {ps : List (Nat × Nat)} (g : Grp F ps) : F.getLast? = lastN none ps := by
  rcases List.eq_nil_or_concat ps with e | ⟨qs, p, e⟩
  · have := g.out
    rw [e] at this ⊢
    rw [← this]
    rfl
  · rw [List.concat_eq_append] at e
    have o := g.out
    have h1 := g.one p (by rw [e]; exact List.mem_append_right _ (List.mem_singleton.mpr rfl))
    rw [e] at o ⊢
    rw [lastN_snoc, ← o, outL_snoc, last_rep h1]
theorem Grp.block {F : List Int} {ps : List (Nat × Nat)} {n k : Nat} (g : Grp F ps) (h : F.getLast? ≠ some (n : Int)) (hk : 1 ≤ k) : Grp (F ++ List.replicate k (n : Int)) (ps ++ [(n, k)]) := by
  rw [last_of g] at h
  refine ⟨(alt_snoc _ _ _).mpr ⟨g.alt, h⟩, fun p hp => ?_, ?_⟩
  · rcases List.mem_append.mp hp with z | z
    · exact g.one p z
    · rw [List.mem_singleton.mp z]
      exact hk
  · rw [outL_snoc, g.out]
theorem rAll_inv : ∀ (parts : List (List Nat)) (F ks : List Int) (p0 : List (Nat × Nat)), rAll F parts = some ks → Grp F p0 → ∃ ps, Grp ks (p0 ++ ps) ∧ ps.map (fun p : Nat × Nat => pL p.1 p.2) = parts ∧ (∀ p ∈ ps, PartR p) ∧ ∀ p ∈ ps, rPart (pL p.1 p.2) = some (p.1, p.2)
  | [], F, ks, p0, h, g => by
    have e : F = ks := Option.some.inj h
    subst e
    exact ⟨[], by rw [List.append_nil]; exact g, rfl, fun p hp => (nomatch hp), fun p hp => (nomatch hp)⟩
  | q :: r, F, ks, p0, h, g => by
    obtain ⟨F', st, h2⟩ := rAll_cons h
    obtain ⟨n, k, rp, last, rfl⟩ := rStep_some st
    obtain ⟨eq, pr⟩ := rPart_inv rp
    obtain ⟨ps, g2, e2, ok, rp2⟩ := rAll_inv r _ ks (p0 ++ [(n, k)]) h2 (g.block last pr.one)
    refine ⟨(n, k) :: ps, by rw [List.append_assoc] at g2; exact g2, ?_, fun p hp => ?_, fun p hp => ?_⟩
    · rw [List.map_cons, e2, ← eq]
    · rcases List.mem_cons.mp hp with z | z
      · rw [z]; exact pr
      · exact ok p z
    · rcases List.mem_cons.mp hp with z | z
      · rw [z, ← eq]; exact rp
      · exact rp2 p z
theorem spl_ne (S : List Nat) : ∀ (k : Nat) (acc l : List Nat), spl S k acc l ≠ []
  | k, acc, [] => by rw [spl_nil]; simp
  | 0, acc, c :: r => by
    show (if pre S (c :: r) = true then acc :: spl S (S.length - 1) [] r else spl S 0 (acc ++ [c]) r) ≠ []
    split
    · simp
    · exact spl_ne S 0 _ r
  | k + 1, acc, c :: r => spl_ne S k acc r
theorem joinL_cons2 {S p : List Nat} {qs : List (List Nat)} (h : qs ≠ []) : joinL S (p :: qs) = p ++ (S ++ joinL S qs) := by
  cases qs with
  | nil => exact absurd rfl h
  | cons q r => rfl
theorem pre_split {s : Nat} {S r : List Nat} {c : Nat} (h : pre (s :: S) (c :: r) = true) : c :: r = (s :: S) ++ r.drop S.length := by
  have e : (c :: r).take (s :: S).length = s :: S := eq_of_beq h
  rw [List.length_cons, List.take_succ_cons] at e
  injection e with e1 e2
  rw [e1]
  show s :: r = s :: (S ++ r.drop S.length)
  rw [← e2]
  have : (r.take S.length).length = S.length := by rw [e2]
  rw [this, List.take_append_drop]
theorem spl_glue {s : Nat} {S : List Nat} : ∀ (n : Nat) (acc l : List Nat), l.length = n → joinL (s :: S) (spl (s :: S) 0 acc l) = acc ++ l := fun n => by
  induction n using Nat.strongRecOn with
  | _ n ih =>
    intro acc l e
    cases l with
    | nil =>
      rw [spl_nil, List.append_nil]
      rfl
    | cons c r =>
      by_cases h : pre (s :: S) (c :: r) = true
      · rw [spl_hit h, joinL_cons2 (spl_ne _ _ _ _), spl_pass, ih (r.drop ((s :: S).length - 1)).length (by rw [List.length_drop]; rw [List.length_cons] at e; omega) [] _ rfl]
        have e2 := pre_split h
        rw [e2, List.nil_append]
        rfl
      · rw [spl_miss (by simpa using h), ih r.length (by rw [← e, List.length_cons]; omega) _ r rfl, List.append_assoc]
        rfl
theorem read_back {l : List Nat} {ks : List Int} (h : rText l = some ks) : ∃ ps, Grp ks ps ∧ txtL ps = l ∧ (∀ p ∈ ps, PartR p) ∧ ps.length ≤ l.length + 1 ∧ (Small l → ∀ p ∈ ps, p.2 ≤ 1000) := by
  unfold rText at h
  by_cases c : l = [110, 111, 110, 101]
  · rw [if_pos c] at h
    cases h
    exact ⟨[], Grp.nil, c.symm, fun p hp => (nomatch hp), Nat.zero_le _, fun _ p hp => (nomatch hp)⟩
  · rw [if_neg c] at h
    obtain ⟨ps, g, e, ok, rp⟩ := rAll_inv _ [] ks [] h Grp.nil
    rw [List.nil_append] at g
    refine ⟨ps, g, ?_, ok, ?_, fun sm p hp => ?_⟩
    have ne : ps ≠ [] := fun z => by
      rw [z] at e
      exact spl_ne _ _ _ _ e.symm
    unfold txtL
    rw [if_neg ne]
    unfold shL
    rw [e, spl_glue l.length [] l rfl]
    rfl
    · have a := spl_len [44, 32] 0 [] l
      rw [← e, List.length_map] at a
      exact a
    · have m : pL p.1 p.2 ∈ spl [44, 32] 0 [] l := by
        rw [← e]
        exact List.mem_map.mpr ⟨p, hp, rfl⟩
      by_cases k1 : p.2 = 1
      · omega
      · by_cases z : p.2 ≤ 1000
        · exact z
        · refine sm _ m p.1 p.2 ?_
          exact rp p hp
theorem read_txt {ks : List Int} {ps : List (Nat × Nat)} (g : Grp ks ps) (ok : ∀ p ∈ ps, PartOk p) : rText (txtL ps) = some ks ∧ Small (txtL ps) := by
  unfold txtL
  by_cases h : ps = []
  · rw [if_pos h]
    have e := g.out
    rw [h] at e
    refine ⟨?_, ?_⟩
    · rw [← e]
      rfl
    · unfold Small
      have e2 : spl [44, 32] 0 [] [110, 111, 110, 101] = [[110, 111, 110, 101]] := by decide +kernel
      rw [e2]
      intro p hp n k hk
      rw [List.mem_singleton.mp hp] at hk
      have : rPart [110, 111, 110, 101] = none := by decide +kernel
      rw [this] at hk
      cases hk
  · rw [if_neg h]
    obtain ⟨a, b⟩ := read_shown h ok g.alt
    rw [g.out] at a
    exact ⟨a, b⟩
/-! ### few digits behind each ^ -/
def isDg (c : Nat) : Bool := decide (48 ≤ c) && decide (c ≤ 57)
/-- at most two digits in a row stand behind a ^ -/
def Few2 (l : List Nat) : Prop := ∀ i, l[i]? = some 94 → ∀ a b c, l[i + 1]? = some a → l[i + 2]? = some b → l[i + 3]? = some c → ¬ (isDg a = true ∧ isDg b = true ∧ isDg c = true)
theorem mem_infix_spl {S : List Nat} : ∀ (l acc : List Nat) (k : Nat), (k = 0 ∨ acc = []) → ∀ q ∈ spl S k acc l, ∃ A B, acc ++ l = A ++ q ++ B
  | [], acc, k, _, q, hq => by
    rw [spl_nil] at hq
    rw [List.mem_singleton.mp hq]
    exact ⟨[], [], by simp⟩
  | c :: r, acc, 0, _, q, hq => by
    have hq' : q ∈ (if pre S (c :: r) = true then acc :: spl S (S.length - 1) [] r else spl S 0 (acc ++ [c]) r) := hq
    split at hq'
    · rcases List.mem_cons.mp hq' with z | z
      · rw [z]
        exact ⟨[], c :: r, by simp⟩
      · obtain ⟨A, B, e⟩ := mem_infix_spl r [] (S.length - 1) (.inr rfl) q z
        refine ⟨acc ++ c :: A, B, ?_⟩
        have e' : r = A ++ q ++ B := e
        rw [e']
        simp
    · obtain ⟨A, B, e⟩ := mem_infix_spl r (acc ++ [c]) 0 (.inl rfl) q hq'
      refine ⟨A, B, ?_⟩
      rw [← e]
      simp
  | c :: r, acc, k + 1, h, q, hq => by
    have ea : acc = [] := by
      rcases h with z | z
      · cases z
      · exact z
    subst ea
    have hq' : q ∈ spl S k [] r := hq
    obtain ⟨A, B, e⟩ := mem_infix_spl r [] k (.inr rfl) q hq'
    have e' : r = A ++ q ++ B := e
    exact ⟨c :: A, B, by rw [e']; rfl⟩
theorem digitsVal_small {b : List Nat} (h : AllDigits b) : digitsVal b < 10 ^ b.length := by
  have key : ∀ n (l : List Nat), l.length = n → AllDigits l → digitsVal l < 10 ^ n := fun n => by
    induction n with
    | zero => exact fun l e _ => by rw [List.length_eq_zero_iff.mp e]; decide
    | succ n ih =>
      intro l e ad
      rcases List.eq_nil_or_concat l with z | ⟨r, c, z⟩
      · rw [z] at e; cases e
      · rw [List.concat_eq_append] at z
        subst z
        have hc := ad c (List.mem_append_right _ (List.mem_singleton.mpr rfl))
        have := ih r (by rw [List.length_append] at e; simpa using e) fun x hx => ad x (List.mem_append_left _ hx)
        rw [digitsVal_snoc, Nat.pow_succ]
        omega
  exact key _ b rfl h
theorem small_of_few {l : List Nat} (h : Few2 l) : Small l := by
  intro q hq n k hk
  unfold rPart at hk
  cases hp : par [94] [] q with
  | none =>
    rw [hp] at hk
    have hk' : (if numOk q = true then some (digitsVal q, 1) else none) = some (n, k) := hk
    by_cases c : numOk q = true
    · rw [if_pos c] at hk'
      cases hk'
      decide
    · rw [if_neg c] at hk'; cases hk'
  | some ab =>
    obtain ⟨a, b⟩ := ab
    rw [hp] at hk
    have hk' : (if (numOk a && numOk b) = true then some (digitsVal a, digitsVal b) else none) = some (n, k) := hk
    by_cases c : (numOk a && numOk b) = true
    · rw [if_pos c] at hk'
      cases hk'
      rw [Bool.and_eq_true] at c
      obtain ⟨ad, _⟩ := numOk_iff.mp c.2
      have e := par_some q [] a b hp
      obtain ⟨A, B, e2⟩ := mem_infix_spl l [] 0 (.inl rfl) q hq
      have el : l = (A ++ a) ++ 94 :: (b ++ B) := by
        have e3 : q = a ++ 94 :: b := e
        have e4 : l = A ++ q ++ B := e2
        rw [e4, e3]
        simp
      have lb : b.length ≤ 2 := by
        by_cases z : b.length ≤ 2
        · exact z
        · obtain ⟨x, y, w, r, eb⟩ : ∃ x y w r, b = x :: y :: w :: r := by
            match b, z with
            | x :: y :: w :: r, _ => exact ⟨x, y, w, r, rfl⟩
            | [], z => exact absurd (by simp) z
            | [_], z => exact absurd (by simp) z
            | [_, _], z => exact absurd (by simp) z
          have dgt : ∀ c ∈ b, isDg c = true := fun c hc => by
            have := ad c hc
            unfold isDg
            simp only [Bool.and_eq_true, decide_eq_true_eq]
            exact this
          have at_ : ∀ j, l[(A ++ a).length + j]? = (94 :: (b ++ B))[j]? := fun j => by
            rw [el, List.getElem?_append_right (Nat.le_add_right _ _), Nat.add_sub_cancel_left]
          refine absurd ⟨dgt x (by rw [eb]; simp), dgt y (by rw [eb]; simp), dgt w (by rw [eb]; simp)⟩ (h (A ++ a).length ?_ x y w ?_ ?_ ?_)
          · have := at_ 0
            rw [Nat.add_zero] at this
            rw [this]
            rfl
          · rw [at_ 1, eb]; rfl
          · rw [at_ 2, eb]; rfl
          · rw [at_ 3, eb]; rfl
      have := digitsVal_small ad
      have p2 : 10 ^ b.length ≤ 10 ^ 2 := Nat.pow_le_pow_right (by decide) lb
      show digitsVal b ≤ 1000
      omega
    · rw [if_neg c] at hk'; cases hk'
/-- of the two signs that stand second and third behind a ^ none is a digit -/
def Gap (l : List Nat) : Prop := ∀ i, l[i]? = some 94 → (∀ b, l[i + 2]? = some b → isDg b = false) ∧ (∀ c, l[i + 3]? = some c → isDg c = false)
theorem few_bent {W sg : List Nat} {cut d : Nat} (g : Gap W) (hs : sg.length ≤ 1) (h94 : 94 ∉ sg) (hd : d ≤ 1) (hc : cut ≤ W.length) : Few2 (W.take cut ++ sg ++ W.drop (cut + d)) := by
  intro i e0 a b c e1 e2 e3 ⟨da, db, dc⟩
  have lt : (W.take cut).length = cut := by rw [List.length_take]; omega
  have left : ∀ j, j < cut → (W.take cut ++ sg ++ W.drop (cut + d))[j]? = W[j]? := fun j hj => by
    rw [List.append_assoc, List.getElem?_append_left (by rw [lt]; exact hj), List.getElem?_take_of_lt hj]
  have right : ∀ j, cut + sg.length ≤ j → (W.take cut ++ sg ++ W.drop (cut + d))[j]? = W[j - sg.length + d]? := fun j hj => by
    rw [List.getElem?_append_right (by rw [List.length_append, lt]; exact hj), List.length_append, lt, List.getElem?_drop]
    congr 1
    omega
  have mid : ∀ j, cut ≤ j → j < cut + sg.length → (W.take cut ++ sg ++ W.drop (cut + d))[j]? = sg[j - cut]? := fun j h1 h2 => by
    rw [List.getElem?_append_left (by rw [List.length_append, lt]; exact h2), List.getElem?_append_right (by rw [lt]; exact h1), lt]
  have no : ∀ {x y : Bool}, x = true → x = false → False := fun p q => by rw [p] at q; cases q
  by_cases h1 : i < cut
  · rw [left i h1] at e0
    obtain ⟨g2, g3⟩ := g i e0
    by_cases h2 : i + 2 < cut
    · rw [left _ h2] at e2
      exact no (y := true) db (g2 b e2)
    · by_cases h3 : cut = i + 2
      · by_cases hsz : sg.length = 0
        · rw [right _ (by omega)] at e2
          rcases Nat.lt_or_ge d 1 with hd0 | hd1
          · rw [show i + 2 - sg.length + d = i + 2 by omega] at e2
            exact no (y := true) db (g2 b e2)
          · rw [show i + 2 - sg.length + d = i + 3 by omega] at e2
            exact no (y := true) db (g3 b e2)
        · rw [right _ (by omega)] at e3
          rcases Nat.lt_or_ge d 1 with hd0 | hd1
          · rw [show i + 3 - sg.length + d = i + 2 by omega] at e3
            exact no (y := true) dc (g2 c e3)
          · rw [show i + 3 - sg.length + d = i + 3 by omega] at e3
            exact no (y := true) dc (g3 c e3)
      · have h4 : cut = i + 1 := by omega
        by_cases hsz : sg.length = 0
        · rw [right _ (by omega)] at e2
          rcases Nat.lt_or_ge d 1 with hd0 | hd1
          · rw [show i + 2 - sg.length + d = i + 2 by omega] at e2
            exact no (y := true) db (g2 b e2)
          · rw [show i + 2 - sg.length + d = i + 3 by omega] at e2
            exact no (y := true) db (g3 b e2)
        · rw [right _ (by omega)] at e3
          rcases Nat.lt_or_ge d 1 with hd0 | hd1
          · rw [show i + 3 - sg.length + d = i + 2 by omega] at e3
            exact no (y := true) dc (g2 c e3)
          · rw [show i + 3 - sg.length + d = i + 3 by omega] at e3
            exact no (y := true) dc (g3 c e3)
  · by_cases h2 : i < cut + sg.length
    · rw [mid i (by omega) h2] at e0
      exact h94 (List.mem_of_getElem? e0)
    · rw [right i (by omega)] at e0
      rw [right (i + 2) (by omega), show i + 2 - sg.length + d = i - sg.length + d + 2 by omega] at e2
      exact no (y := true) db ((g _ e0).1 b e2)
theorem Gap.cons {c : Nat} {l : List Nat} (h : Gap l) (hc : c ≠ 94) : Gap (c :: l) := fun i e => by
  cases i with
  | zero => exact absurd (Option.some.inj e) hc
  | succ i => exact h i e
theorem Gap.app : ∀ {p l : List Nat}, Gap l → 94 ∉ p → Gap (p ++ l)
  | [], l, h, _ => h
  | c :: p, l, h, hp => by
    show Gap (c :: (p ++ l))
    exact Gap.cons (Gap.app h fun z => hp (List.mem_cons_of_mem _ z)) fun z => hp (by rw [z]; exact List.mem_cons_self)
theorem Gap.nil : Gap [] := fun i e => (nomatch e)
theorem gap_shL : ∀ (ps : List (Nat × Nat)), (∀ p ∈ ps, 1 ≤ p.2 ∧ p.2 ≤ 9) → Gap (shL ps)
  | [], _ => Gap.nil
  | p :: r, h => by
    obtain ⟨h1, h9⟩ := h p List.mem_cons_self
    have ih := gap_shL r fun q hq => h q (List.mem_cons_of_mem _ hq)
    -- what follows the part
    obtain ⟨T, eT, gT, tail⟩ : ∃ T, shL (p :: r) = pL p.1 p.2 ++ T ∧ Gap T ∧ (T = [] ∨ ∃ T', T = 44 :: 32 :: T') := by
      cases r with
      | nil => exact ⟨[], by show pL p.1 p.2 = _; rw [List.append_nil], Gap.nil, .inl rfl⟩
      | cons q s => exact ⟨[44, 32] ++ shL (q :: s), rfl, Gap.app ih (by decide), .inr ⟨_, rfl⟩⟩
    rw [eT]
    unfold pL
    have free : 94 ∉ numL p.1 := numL_free (.inr (by decide))
    by_cases c : p.2 = 1
    · rw [if_pos c, List.append_nil]
      exact Gap.app gT free
    · rw [if_neg c, numL_lt (show p.2 < 10 by omega), List.append_assoc]
      refine Gap.app ?_ free
      show Gap (94 :: (48 + p.2) :: T)
      intro i e
      cases i with
      | zero =>
        rcases tail with z | ⟨T', z⟩
        · rw [z]
          exact ⟨fun b hb => (nomatch hb), fun b hb => (nomatch hb)⟩
        · rw [z]
          exact ⟨fun b hb => by rw [← Option.some.inj hb]; decide, fun b hb => by rw [← Option.some.inj hb]; decide⟩
      | succ i => exact (Gap.cons gT (by omega)) i e
end Sq
namespace Sq
open PySem PySem.Spec PyProof.Rows L2 TL
open NumText (digitsVal AllDigits)
/-- any part, cut at its first ^ -/
theorem part_any (y : Str) : ∃ D M N : Str, Txt.partition y "^" = (D, M, N) ∧ D.length ≤ y.length ∧ N.length ≤ y.length ∧
    ((M.length = 0 ∧ rPart (tl y) = if numOk (tl D) = true then some (digitsVal (tl D), 1) else none) ∨ (M.length = 1 ∧ rPart (tl y) = if (numOk (tl D) && numOk (tl N)) = true then some (digitsVal (tl D), digitsVal (tl N)) else none)) := by
  have e := partition_par y "^" (by rw [signs_hat]; simp)
  rw [signs_hat] at e
  cases hp : par [94] [] (tl y) with
  | none =>
    rw [hp] at e
    refine ⟨y, Str.empty, Str.empty, e, Nat.le_refl _, Nat.zero_le _, .inl ⟨rfl, ?_⟩⟩
    unfold rPart
    rw [hp]
  | some ab =>
    obtain ⟨a, b⟩ := ab
    rw [hp] at e
    have es := par_some _ _ _ _ hp
    have el := congrArg List.length es
    rw [List.nil_append, List.length_append, List.length_cons] at el
    refine ⟨⟨a.toArray⟩, "^", ⟨b.toArray⟩, e, ?_, ?_, .inr ⟨by decide +kernel, ?_⟩⟩
    · rw [len_tl, len_tl, tl_mk]
      omega
    · rw [len_tl, len_tl, tl_mk]
      omega
    · unfold rPart
      rw [hp]
end Sq

set_option Elab.async false
set_option linter.all false
set_option maxHeartbeats 1000000
/-! Two lists part at the run between their greatest origins of 1. -/
namespace Sq
theorem sq_cons (n k : Int) (ks : List Int) : sq n (k :: ks) = sq (once n k) ks := rfl
def pro (ks : List Int) : Int := ks.foldl (· * ·) 1
theorem pro_from : ∀ (ks : List Int) (n : Int), ks.foldl (· * ·) n = n * pro ks
  | [], n => (Int.mul_one n).symm
  | k :: ks, n => by
    show ks.foldl (· * ·) (n * k) = n * (ks.foldl (· * ·) (1 * k))
    rw [pro_from ks (n * k), pro_from ks (1 * k), Int.one_mul, Int.mul_assoc]
theorem pro_cons (k : Int) (ks : List Int) : pro (k :: ks) = k * pro ks := by
  show ks.foldl (· * ·) (1 * k) = _
  rw [pro_from, Int.one_mul]
theorem pro_pos : ∀ {ks : List Int}, (∀ k ∈ ks, 2 ≤ k) → 1 ≤ pro ks
  | [], _ => by decide
  | k :: ks, h => by
    rw [pro_cons]
    have a := h k (List.mem_cons_self ..)
    have b := pro_pos (ks := ks) fun x hx => h x (List.mem_cons_of_mem _ hx)
    have := Int.mul_le_mul a b (by decide) (by omega)
    omega
theorem once_mul {k m : Int} (h : 2 ≤ k) : once (k * m) k = m := by
  unfold once
  rw [Int.mul_ediv_cancel_left m (by omega), Int.mul_emod_right, Int.add_zero]
/-- a multiple of the product -/
theorem sq_mul : ∀ (ks : List Int) (m : Int), (∀ k ∈ ks, 2 ≤ k) → sq (pro ks * m) ks = m
  | [], m, _ => Int.one_mul m
  | k :: ks, m, h => by
    rw [sq_cons, pro_cons, Int.mul_assoc, once_mul (h k (List.mem_cons_self ..))]
    exact sq_mul ks m fun x hx => h x (List.mem_cons_of_mem _ hx)
theorem once_grow {n k : Int} (hk : 2 ≤ k) (h0 : 0 ≤ n) : n ≤ k * once n k := by
  unfold once
  have e := Int.mul_ediv_add_emod n k
  have m0 := Int.emod_nonneg n (by omega : k ≠ 0)
  have : n % k ≤ k * (n % k) := by
    have := Int.mul_le_mul_of_nonneg_right (show 1 ≤ k by omega) m0
    rwa [Int.one_mul] at this
  rw [Int.mul_add]
  omega
/-- what is longer than the product isn't single -/
theorem sq_grow : ∀ (ks : List Int) (n : Int), (∀ k ∈ ks, 2 ≤ k) → 0 ≤ n → n ≤ pro ks * sq n ks
  | [], n, _, _ => Int.le_of_eq (Int.one_mul n).symm
  | k :: ks, n, h, h0 => by
    have k2 := h k (List.mem_cons_self ..)
    have hs : ∀ x ∈ ks, 2 ≤ x := fun x hx => h x (List.mem_cons_of_mem _ hx)
    have a := once_grow k2 h0
    have b := sq_grow ks (once n k) hs (once_nonneg k2 h0)
    rw [sq_cons, pro_cons, Int.mul_assoc]
    exact Int.le_trans a (Int.mul_le_mul_of_nonneg_left b (by omega))
theorem sq_two {ks : List Int} {n : Int} (h : ∀ k ∈ ks, 2 ≤ k) (h0 : pro ks < n) : 2 ≤ sq n ks := by
  have p := pro_pos h
  have g := sq_grow ks n h (by omega)
  by_cases c : sq n ks ≤ 1
  · have := Int.mul_le_mul_of_nonneg_left c (show 0 ≤ pro ks by omega)
    omega
  · omega
/-- the first place where they part -/
def parts : Int → Int → List Int → List Int → Option Int
  | p, b, k :: ks, l :: ls => if k ≠ l then some (p - b * (min k l - 1)) else parts p (b * k) ks ls
  | _, _, _, _ => none
theorem less_single {k : Int} {ks : List Int} (hk : 2 ≤ k) (h : ∀ x ∈ ks, 2 ≤ x) : sq (pro (k :: ks) - (k - 1)) (k :: ks) = 1 := by
  rw [sq_cons, pro_cons]
  have e : k * pro ks - (k - 1) = 1 + k * (pro ks - 1) := by
    rw [Int.mul_sub, Int.mul_one]
    omega
  have o : once (k * pro ks - (k - 1)) k = pro ks * 1 := by
    unfold once
    rw [e, Int.add_mul_ediv_left _ _ (by omega : k ≠ 0), Int.add_mul_emod_self_left, Int.ediv_eq_zero_of_lt (by decide) (by omega), Int.emod_eq_of_lt (by decide) (by omega)]
    omega
  rw [o, sq_mul ks 1 h]
theorem more_not {k l : Int} {ls : List Int} (hk : 2 ≤ k) (kl : k < l) (h : ∀ x ∈ ls, 2 ≤ x) : 2 ≤ sq (pro (l :: ls) - (k - 1)) (l :: ls) := by
  rw [sq_cons, pro_cons]
  have e : l * pro ls - (k - 1) = (l - k + 1) + l * (pro ls - 1) := by
    rw [Int.mul_sub, Int.mul_one]
    omega
  have o : once (l * pro ls - (k - 1)) l = pro ls + (l - k) := by
    unfold once
    rw [e, Int.add_mul_ediv_left _ _ (by omega : l ≠ 0), Int.add_mul_emod_self_left, Int.ediv_eq_zero_of_lt (by omega) (by omega), Int.emod_eq_of_lt (by omega) (by omega)]
    omega
  rw [o]
  exact sq_two h (by omega)
/-- lists with one product: they part exactly if they are different -/
theorem parts_ok : ∀ (ks ls : List Int) (b : Int), (∀ k ∈ ks, 2 ≤ k) → (∀ k ∈ ls, 2 ≤ k) → pro ks = pro ls → 1 ≤ b →
    (parts (b * pro ks) b ks ls = none ↔ ks = ls) ∧ ∀ r, parts (b * pro ks) b ks ls = some r → ∃ m, r = b * m ∧ 1 ≤ m ∧ sq m ks ≠ sq m ls
  | [], [], _, _, _, _, _ => ⟨⟨fun _ => rfl, fun _ => rfl⟩, fun _ h => nomatch h⟩
  | [], l :: ls, _, _, h2, e, _ => by
    exfalso
    rw [pro_cons] at e
    have a := h2 l (List.mem_cons_self ..)
    have p := pro_pos fun x hx => h2 x (List.mem_cons_of_mem _ hx)
    have := Int.mul_le_mul a p (by decide) (by omega)
    rw [← e] at this
    exact absurd this (by decide)
  | k :: ks, [], _, h1, _, e, _ => by
    exfalso
    rw [pro_cons] at e
    have a := h1 k (List.mem_cons_self ..)
    have p := pro_pos fun x hx => h1 x (List.mem_cons_of_mem _ hx)
    have := Int.mul_le_mul a p (by decide) (by omega)
    rw [e] at this
    exact absurd this (by decide)
  | k :: ks, l :: ls, b, h1, h2, e, hb => by
    have k2 := h1 k (List.mem_cons_self ..)
    have l2 := h2 l (List.mem_cons_self ..)
    have hk : ∀ x ∈ ks, 2 ≤ x := fun x hx => h1 x (List.mem_cons_of_mem _ hx)
    have hl : ∀ x ∈ ls, 2 ≤ x := fun x hx => h2 x (List.mem_cons_of_mem _ hx)
    unfold parts
    by_cases c : k = l
    · subst c
      rw [if_neg (fun z => z rfl)]
      have e2 : pro ks = pro ls := by
        rw [pro_cons, pro_cons] at e
        exact Int.eq_of_mul_eq_mul_left (by omega) e
      have bk : 1 ≤ b * k := by
        have := Int.mul_le_mul hb (show 1 ≤ k by omega) (by decide) (by omega)
        omega
      have ih := parts_ok ks ls (b * k) hk hl e2 bk
      rw [pro_cons, ← Int.mul_assoc]
      refine ⟨⟨fun z => by rw [ih.1.mp z], fun z => ih.1.mpr (List.cons.inj z).2⟩, fun r hr => ?_⟩
      obtain ⟨m, em, m1, d⟩ := ih.2 r hr
      refine ⟨k * m, by rw [em, Int.mul_assoc], ?_, ?_⟩
      · have := Int.mul_le_mul (show 1 ≤ k by omega) m1 (by decide) (by omega)
        omega
      · rw [sq_cons, sq_cons, once_mul k2]
        exact d
    · rw [if_pos c]
      refine ⟨⟨fun z => (nomatch z), fun z => absurd (List.cons.inj z).1 c⟩, fun r hr => ?_⟩
      have er : r = b * (pro (k :: ks) - (min k l - 1)) := by
        rw [Int.mul_sub]
        exact (Option.some.inj hr).symm
      have pk := pro_pos hk
      have grow : k - 1 < pro (k :: ks) := by
        rw [pro_cons]
        have := Int.mul_le_mul_of_nonneg_left pk (show 0 ≤ k by omega)
        omega
      refine ⟨_, er, ?_, ?_⟩
      · omega
      · rcases Int.lt_or_gt_of_ne c with d | d
        · rw [show min k l = k by omega, less_single k2 hk, e]
          have := more_not k2 d hl
          omega
        · rw [show min k l = l by omega]
          have a := more_not l2 d hk
          have b := less_single l2 hl
          rw [← e] at b
          omega
end Sq

set_option Elab.async false
set_option linter.all false
set_option maxHeartbeats 1000000
/-! What parting_run returns. -/
namespace Sq
open PySem PySem.Spec PyProof.Rows L2
def prodF (n : Int) (ks : List Int) : Int := ks.foldl (· * ·) n
def part (L b : Int) : List Int → List Int → V
  | x :: xs, y :: ys => if x = y then part L (b * x) xs ys else .int (L - b * ((if y < x then y else x) - 1))
  | _, _ => .non
def prun (ks ls : List Int) : V := if prodF 1 ks = prodF 1 ls then part (prodF 1 ks) 1 ks ls else .int (if prodF 1 ls > prodF 1 ks then prodF 1 ls else prodF 1 ks)
theorem part_parts (L : Int) : ∀ (b : Int) (ks ls : List Int), part L b ks ls = match parts L b ks ls with | none => .non | some r => .int r
  | _, [], _ => rfl
  | _, _ :: _, [] => rfl
  | b, x :: xs, y :: ys => by
    unfold part parts
    by_cases c : x = y
    · rw [if_pos c, if_neg (fun z => z c)]
      exact part_parts L (b * x) xs ys
    · rw [if_neg c, if_pos c]
      show V.int _ = V.int _
      congr 3
      by_cases d : y < x
      · rw [if_pos d]
        omega
      · rw [if_neg d]
        omega
theorem prun_ok {ks ls : List Int} (h1 : ∀ k ∈ ks, 2 ≤ k) (h2 : ∀ k ∈ ls, 2 ≤ k) : (prun ks ls = .non ∧ ks = ls) ∨ (∃ r, prun ks ls = .int r ∧ ks ≠ ls ∧ 1 ≤ r ∧ sq r ks ≠ sq r ls) := by
  have p1 := pro_pos h1
  have p2 := pro_pos h2
  have s1 := sq_mul ks 1 h1
  have s2 := sq_mul ls 1 h2
  rw [Int.mul_one] at s1 s2
  unfold prun
  show ((if pro ks = pro ls then part (pro ks) 1 ks ls else .int (if pro ls > pro ks then pro ls else pro ks)) = V.non ∧ _) ∨ _
  by_cases e : pro ks = pro ls
  · have ok := parts_ok ks ls 1 h1 h2 e (by decide)
    rw [Int.one_mul] at ok
    rw [if_pos e]
    cases q : parts (pro ks) 1 ks ls with
    | none => exact .inl ⟨by rw [part_parts, q], ok.1.mp q⟩
    | some r =>
      obtain ⟨m, em, m1, d⟩ := ok.2 r q
      rw [Int.one_mul] at em
      refine .inr ⟨r, ?_, fun z => ?_, by omega, by rw [em]; exact d⟩
      · show (if pro ks = pro ls then part (pro ks) 1 ks ls else _) = _
        rw [if_pos e, part_parts, q]
      · rw [ok.1.mpr z] at q
        cases q
  · refine .inr ⟨if pro ls > pro ks then pro ls else pro ks, ?_, fun z => e (by rw [z]), ?_, ?_⟩
    · show (if pro ks = pro ls then _ else V.int (if pro ls > pro ks then pro ls else pro ks)) = _
      rw [if_neg e]
    · split <;> omega
    · split
      · rw [s2]
        have := sq_two h1 (show pro ks < pro ls by omega)
        omega
      · rw [s1]
        have := sq_two h2 (show pro ls < pro ks by omega)
        omega
end Sq

set_option Elab.async false
set_option linter.all false
set_option maxHeartbeats 1000000
/-! A hidden list, found by questions. -/
namespace Sq
theorem once_up {n k : Int} (hk : 2 ≤ k) (h0 : 0 ≤ n) : k * once n k ≤ n + (k - 1) * (k - 1) := by
  unfold once
  have e := Int.mul_ediv_add_emod n k
  have m0 := Int.emod_nonneg n (by omega : k ≠ 0)
  have m1 := Int.emod_lt_of_pos n (by omega : 0 < k)
  have b : (k - 1) * (n % k) ≤ (k - 1) * (k - 1) := Int.mul_le_mul_of_nonneg_left (by omega) (by omega)
  have b' : (k - 1) * (n % k) = k * (n % k) - n % k := by rw [Int.sub_mul, Int.one_mul]
  rw [Int.mul_add]
  omega
theorem sq_nn' : ∀ {ks : List Int}, (∀ k ∈ ks, 2 ≤ k) → ∀ {n : Int}, 0 ≤ n → 0 ≤ sq n ks
  | [], _, _, h0 => h0
  | k :: r, h, _, h0 => sq_nn' (fun x hx => h x (List.mem_cons_of_mem _ hx)) (once_nonneg (h k List.mem_cons_self) h0)
theorem sq_up {m : Int} : ∀ (ks : List Int) (n : Int), (∀ k ∈ ks, 2 ≤ k ∧ k ≤ m) → 0 ≤ n → pro ks * sq n ks ≤ n + m * (pro ks - 1)
  | [], n, _, _ => by
    show (1 : Int) * n ≤ n + m * (1 - 1)
    rw [Int.one_mul, show (1 : Int) - 1 = 0 by omega, Int.mul_zero]
    omega
  | k :: ks, n, h, h0 => by
    have k2 := h k List.mem_cons_self
    have hs : ∀ x ∈ ks, 2 ≤ x ∧ x ≤ m := fun x hx => h x (List.mem_cons_of_mem _ hx)
    have a := once_up k2.1 h0
    have b := sq_up ks (once n k) hs (once_nonneg k2.1 h0)
    rw [sq_cons, pro_cons, Int.mul_assoc]
    have c := Int.mul_le_mul_of_nonneg_left b (show 0 ≤ k by omega)
    refine Int.le_trans c ?_
    rw [Int.mul_add]
    have d : (k - 1) * (k - 1) ≤ (k - 1) * m := Int.mul_le_mul_of_nonneg_left (by omega) (by omega)
    have d' : (k - 1) * m = m * k - m := by rw [Int.sub_mul, Int.one_mul, Int.mul_comm k m]
    have e : k * (m * (pro ks - 1)) = m * (k * pro ks) - m * k := by
      rw [← Int.mul_assoc, Int.mul_comm k m, Int.mul_assoc, Int.mul_sub, Int.mul_one, Int.mul_sub]
    have e2 : m * (k * pro ks - 1) = m * (k * pro ks) - m := by rw [Int.mul_sub, Int.mul_one]
    rw [e, e2]
    omega
theorem div_is {x A P : Int} (hA : 0 < A) (h1 : P * A ≤ x) (h2 : x < P * A + A) : x / A = P := by
  have a : P ≤ x / A := Int.le_ediv_of_mul_le hA h1
  have b : x / A < P + 1 := Int.ediv_lt_of_lt_mul hA (by rw [Int.add_mul, Int.one_mul]; exact h2)
  omega
/-- what one question tells of the product -/
theorem ask_prod {m M : Int} {ks : List Int} (h : ∀ k ∈ ks, 2 ≤ k ∧ k ≤ m) (hm : 2 ≤ m) (hM : m * (pro ks * pro ks) ≤ M) : 1 ≤ sq (2 * M) ks ∧ (2 * M + sq (2 * M) ks - 1) / sq (2 * M) ks = pro ks := by
  have h2 : ∀ k ∈ ks, 2 ≤ k := fun k hk => (h k hk).1
  have p1 := pro_pos h2
  have pp : 1 ≤ pro ks * pro ks := by
    have := Int.mul_le_mul p1 p1 (by decide) (by omega)
    omega
  have mp : 0 ≤ m * (pro ks * pro ks) := Int.mul_nonneg (by omega) (by omega)
  have lo := sq_grow ks (2 * M) h2 (by omega)
  have up := sq_up ks (2 * M) h (by omega)
  obtain ⟨A, eA⟩ : ∃ A, A = sq (2 * M) ks := ⟨_, rfl⟩
  obtain ⟨P, eP⟩ : ∃ P, P = pro ks := ⟨_, rfl⟩
  rw [← eA, ← eP] at lo up
  rw [← eP] at p1 hM mp
  rw [← eA, ← eP]
  -- A is great
  have big : 2 * (m * P) ≤ A := by
    by_cases c : 2 * (m * P) ≤ A
    · exact c
    · have a1 : A ≤ 2 * (m * P) - 1 := by omega
      have a2 := Int.mul_le_mul_of_nonneg_left a1 (show 0 ≤ P by omega)
      have a3 : P * (2 * (m * P) - 1) = 2 * (m * (P * P)) - P := by
        rw [Int.mul_sub, Int.mul_one]
        have : P * (2 * (m * P)) = 2 * (m * (P * P)) := by
          rw [← Int.mul_assoc, Int.mul_comm P 2, Int.mul_assoc, ← Int.mul_assoc P m P, Int.mul_comm P m, Int.mul_assoc]
        rw [this]
      rw [a3] at a2
      omega
  have mP : m ≤ m * P := by
    have := Int.mul_le_mul_of_nonneg_left p1 (show 0 ≤ m by omega)
    rwa [Int.mul_one] at this
  have e1 : m * (P - 1) = m * P - m := by rw [Int.mul_sub, Int.mul_one]
  rw [e1] at up
  refine ⟨by omega, div_is (by omega) ?_ ?_⟩
  · omega
  · omega
theorem pro_le {m : Int} : ∀ {ks : List Int}, (∀ k ∈ ks, 2 ≤ k ∧ k ≤ m) → pro ks ≤ m ^ ks.length
  | [], _ => by rw [List.length_nil, Int.pow_zero]; decide
  | k :: r, h => by
    have hk := h k List.mem_cons_self
    have hr : ∀ x ∈ r, 2 ≤ x ∧ x ≤ m := fun x hx => h x (List.mem_cons_of_mem _ hx)
    have ih := pro_le hr
    have pp := pro_pos (ks := r) fun x hx => (hr x hx).1
    rw [pro_cons, List.length_cons, Int.pow_succ, Int.mul_comm (m ^ r.length) m]
    exact Int.mul_le_mul hk.2 ih (by omega) (by omega)
theorem pow_mono {m : Int} (hm : 1 ≤ m) {a b : Nat} (h : a ≤ b) : m ^ a ≤ m ^ b := by
  obtain ⟨c, rfl⟩ : ∃ c, b = a + c := ⟨b - a, by omega⟩
  have p : ∀ c : Nat, 1 ≤ m ^ c := fun c => by
    induction c with
    | zero => rw [Int.pow_zero]; decide
    | succ c ih =>
      rw [Int.pow_succ]
      have := Int.mul_le_mul ih hm (by decide) (by omega)
      omega
  rw [Int.pow_add]
  have := Int.mul_le_mul_of_nonneg_left (p c) (show 0 ≤ m ^ a by have := p a; omega)
  rwa [Int.mul_one] at this
theorem pro_rep (m : Int) : ∀ j : Nat, pro (List.replicate j m) = m ^ j
  | 0 => by rw [Int.pow_zero]; rfl
  | j + 1 => by rw [List.replicate_succ, pro_cons, pro_rep m j, Int.pow_succ, Int.mul_comm]
theorem square_le {m : Int} {ks : List Int} {s : Nat} (h : ∀ k ∈ ks, 2 ≤ k ∧ k ≤ m) (hm : 2 ≤ m) (hl : ks.length ≤ s) : m * (pro ks * pro ks) ≤ m * m ^ (2 * s) := by
  have a := pro_le h
  have b := Int.le_trans a (pow_mono (by omega) hl)
  have pp := pro_pos (ks := ks) fun x hx => (h x hx).1
  have c := Int.mul_le_mul b b (by omega) (show 0 ≤ m ^ s by omega)
  rw [← Int.pow_add, show s + s = 2 * s by omega] at c
  exact Int.mul_le_mul_of_nonneg_left c (by omega)
theorem pro_app (ks ls : List Int) : pro (ks ++ ls) = pro ks * pro ls := by
  unfold pro
  rw [List.foldl_append]
  exact pro_from ls _
theorem sq_app' (n : Int) (ks ls : List Int) : sq n (ks ++ ls) = sq (sq n ks) ls := List.foldl_append
theorem pro_small {ks : List Int} {m : Int} (h : ∀ k ∈ ks, 2 ≤ k ∧ k ≤ m) (hm : 1 ≤ m) {n : Nat} (hl : ks.length ≤ n) : pro ks ≤ m ^ n := Int.le_trans (pro_le h) (pow_mono hm hl)
end Sq
namespace Sq
theorem int_pow_le {a b : Int} (h0 : 0 ≤ a) (h : a ≤ b) : ∀ n : Nat, a ^ n ≤ b ^ n
  | 0 => by rw [Int.pow_zero, Int.pow_zero]; exact Int.le_refl _
  | n + 1 => by
    rw [Int.pow_succ, Int.pow_succ]
    exact Int.mul_le_mul (int_pow_le h0 h n) h h0 (Int.pow_nonneg (by omega))
theorem rep_one' {α : Type} (x : α) : ∀ n : Nat, (List.replicate n [x]).flatten = List.replicate n x
  | 0 => rfl
  | n + 1 => by
    rw [List.replicate_succ, List.flatten_cons, rep_one' x n, List.replicate_succ]
    rfl
end Sq

set_option Elab.async false
set_option linter.all false
set_option maxRecDepth 100000
set_option maxHeartbeats 1000000
/-! What is asked of the handled error in its suite, whatever its class. -/
namespace Sq
open PySem PySem.Spec PyProof.Rows L2
section
variable {X : Cx} {p : Addr × Obj} {cls : Value} {d : Option Addr}
def rIsiG (K : PySem.W.Frag) (a : Addr) (cls : Value) (d : Option Addr) : List V → Hp → VK → Prop := fun xs H Q => ∃ (C dd : Addr) (v c : V) (u : Value) (b : Bool), cls = .ref C ∧ d = some dd ∧ xs = [.ref a, c] ∧ ClsV c u ∧ H dd = some (exd dd [(("value" : Str), v)]) ∧ ExcC K C ∧ PySem.W.kitOne K (.ref C) u = some b ∧ Q (.bl b) H
theorem call_isiG (hp : p ∈ X.pn) (hz : L2N.Zn cls d p.2) (hf : ∃ vs, p.2.data = .fields vs) : CallR X (.builtin "isinstance") (rIsiG X.K p.1 cls d) := by
  intro pins s σ H xs us Q I r h
  obtain ⟨C, dd, v, c, u, b, rfl, rfl, e1, e2, e3, e4, e5, q⟩ := h
  exact call_isiP (C := C) (d := dd) hp hz hf pins s σ H xs us Q I r ⟨v, c, u, b, e1, e2, e3, e4, e5, q⟩
def rIsiGT (K : PySem.W.Frag) (a : Addr) (cls : Value) (d : Option Addr) : List V → Hp → VK → Prop := fun xs H Q => ∃ (C dd tp : Addr) (v : V) (cs : List V) (us : List Value) (b : Bool), cls = .ref C ∧ d = some dd ∧ xs = [.ref a, .ref tp] ∧ H tp = some (.tup cs) ∧ Paired ClsV cs us ∧ H dd = some (exd dd [(("value" : Str), v)]) ∧ ExcC K C ∧ PySem.W.kitAny K (.ref C) us = some b ∧ Q (.bl b) H
theorem call_isiGT (hp : p ∈ X.pn) (hz : L2N.Zn cls d p.2) (hf : ∃ vs, p.2.data = .fields vs) : CallR X (.builtin "isinstance") (rIsiGT X.K p.1 cls d) := by
  intro pins s σ H xs vs Q I r h
  obtain ⟨C, dd, tp, v, cs, us, b, rfl, rfl, rfl, ht, pc, at_, T, e, q⟩ := h
  obtain ⟨u1, u2, rfl, r1, r2⟩ := vals2 r
  obtain rfl : u1 = Value.ref p.1 := r1
  obtain rfl : u2 = Value.ref tp := r2
  obtain ⟨od, uv, J, _, _⟩ := pin_obj I hp hz hf at_
  obtain ⟨few, its, rv, ob, there, isT, n, data⟩ := (show ObjOk X.prog X.w H s.heap tp (.tup cs) from I.hok tp _ ht)
  have same := ClsV.all pc rv
  subst same
  obtain ⟨oc, dct, dt, sl⟩ := ob
  simp only at isT data
  subst isT data
  exact PySem.W.kia_tup (SqX.kit (ox := p.2) (od := some od) T) I.kIn J there e (fun z => nomatch z) fun tk => ⟨.bl b, H, I.tok tk, rfl, q⟩
def tGv (K : PySem.W.Frag) (a : Addr) (cls : Value) (d : Option Addr) (te : TE) : TE := fun σ H Q => te σ H fun x H1 => ∃ (C dd : Addr) (v : V), cls = .ref C ∧ d = some dd ∧ x = .ref a ∧ H1 dd = some (exd dd [(("value" : Str), v)]) ∧ XfC K C ∧ PySem.W.findIn K (.ref C) "value" = some none ∧ Q v H1
theorem pe_gv {e : Expr} {te : TE} {pos : Pos} (hp : p ∈ X.pn) (hz : L2N.Zn cls d p.2) (hf : ∃ vs, p.2.data = .fields vs) (he : PE X e te) (hb : attributeBase e "value" X.env (eval e X.env) = eval e X.env := by rfl) : PE X (.Attribute e "value" pos) (tGv X.K p.1 cls d te) := by
  refine ⟨fun pins s σ H Q I h => ?_⟩
  refine attr_of hb (thn (he.run pins s σ H _ I h) fun u s1 hh => ?_)
  obtain ⟨x, H1, I1, rx, C, dd, v, rfl, rfl, ex, at_, T, hno, q⟩ := hh
  subst ex
  obtain rfl : u = Value.ref p.1 := rx
  obtain ⟨od, uv, J, l, ru⟩ := pin_obj I1 hp hz hf at_
  exact HandSPX.exc_get I1.kIn J T.ga T.gg T.exC (PySem.W.findObj_own T.hdC hno rfl l) (handed_of ru) ⟨v, H1, I1.tok _, ru, q⟩
end
section
variable {X : Cx} {a : Addr} {oe : Obj} {cls : Value} {d : Option Addr} {pn : List (Addr × Obj)}
theorem call_isiS (hz : L2N.Zn cls d oe) (hf : ∃ vs, oe.data = .fields vs) : CallR (X.suite a ((a, oe) :: pn)) (.builtin "isinstance") (rIsiG X.K a cls d) := call_isiG (X := X.suite a ((a, oe) :: pn)) (p := (a, oe)) List.mem_cons_self hz hf
theorem call_isiST (hz : L2N.Zn cls d oe) (hf : ∃ vs, oe.data = .fields vs) : CallR (X.suite a ((a, oe) :: pn)) (.builtin "isinstance") (rIsiGT X.K a cls d) := call_isiGT (X := X.suite a ((a, oe) :: pn)) (p := (a, oe)) List.mem_cons_self hz hf
theorem pe_sv {e : Expr} {te : TE} {pos : Pos} (hz : L2N.Zn cls d oe) (hf : ∃ vs, oe.data = .fields vs) (he : PE (X.suite a ((a, oe) :: pn)) e te) (hb : attributeBase e "value" X.env (eval e X.env) = eval e X.env := by rfl) :
    PE (X.suite a ((a, oe) :: pn)) (.Attribute e "value" pos) (tGv X.K a cls d te) := pe_gv (X := X.suite a ((a, oe) :: pn)) (p := (a, oe)) List.mem_cons_self hz hf he hb
end
end Sq

set_option Elab.async false
set_option linter.all false
set_option maxRecDepth 100000
set_option maxHeartbeats 1000000
/-! A def that may raise, called where it doesn't; keywords of such a def. -/
namespace Sq
open PySem PySem.Spec PyProof.Rows L2
/-- as a def that lets nothing out -/
theorem calmly {P : Program} {w : World} {K : PySem.W.Frag} {mg : Str → Option Value} {base : Heap} {k : Nat} {f : Addr} {fd : FuncData} {ps : List Str} {sp : Sp} (G : FnOk P w K mg base (L2N.CX P w) k f fd ps sp) :
    FnOk P w K mg base CX0 k f fd ps (fun vs H Q _ => sp vs H Q fun _ _ _ => False) := by
  refine ⟨fun vs H Q E h => G.len _ _ _ _ h, fun A outer s H args us vs Q E hr e0 hb hv h => ?_⟩
  refine codeAny_mono (G.run A outer s H args us vs Q (fun _ _ _ => False) hr e0 hb hv h) fun r s' hq => ?_
  cases r with
  | error u =>
    obtain ⟨_, _, _, _, _, _, _, _, _, _, _, _, z⟩ := (show L2N.CX P w outer H s (fun _ _ _ => False) u s' from hq)
    exact z.elim
  | ok fl =>
    cases fl with
    | ret u => exact hq
    | next => exact hq
    | brk => exact hq
    | cont => exact hq
structure Dnk (P : Program) (w : World) (K : PySem.W.Frag) (mg : Str → Option Value) (base : Heap) (k : Nat) (x : Str) (ps ks : List Str) (g : List Value → List Value → List Value) (gV : List V → List V → List V) (sp : Sp) : Prop where
  ex : ∃ f fd, FnOk P w K mg base (L2N.CX P w) k f fd ps sp ∧ mg x = some (.ref f) ∧ PySem.W.keepIn K (.ref f) = true ∧ KBn K fd ps 0 ks g gV
theorem kbn_mk {K : PySem.W.Frag} {x qual : Str} {st : Stmt} {f : Addr} {fd : FuncData} {ps : List Str} (F : Fun K x qual st f fd) (ks : List Str) (g : List Value → List Value → List Value) (gV : List V → List V → List V)
    (rel : ∀ {vs : List V} {us : List Value} {zs : List V} {ws : List Value}, Vals vs us → Vals zs ws → Vals (gV vs zs) (g us ws))
    (h : ∀ (kV doc pm : Value) (an : Option Addr) (cdv ct : Value) (ws : List Value), ws.length = ks.length → bindArgs (PySem.W.fnOf x qual (defArgs st) (defBody st) (defScope st) .none kV doc pm an cdv ct) ⟨[], ks.zip ws⟩ = pure (ps.zip (g [] ws))) : KBn K fd ps 0 ks g gV := by
  obtain ⟨oc, od, kV, doc, pm, an, cdv, ct, osl, rfl, lk, hcd⟩ := F.ex
  refine ⟨fun s us ws X l1 l2 => ?_, rel⟩
  obtain rfl : us = [] := List.length_eq_zero_iff.mp l1
  exact .of_eq (h kV doc pm an cdv ct ws l2)
/-- three values in another order -/
def perm3 {α : Type} (i j k : Nat) : List α → List α → List α := fun _ zs => match zs with
  | [x, y, z] => [[x, y, z].getD i x, [x, y, z].getD j x, [x, y, z].getD k x]
  | _ => []
def perm4 {α : Type} (i j k l : Nat) : List α → List α → List α := fun _ zs => match zs with
  | [x, y, z, u] => [[x, y, z, u].getD i x, [x, y, z, u].getD j x, [x, y, z, u].getD k x, [x, y, z, u].getD l x]
  | _ => []
end Sq

set_option Elab.async false
set_option linter.all false
/-! A statement told apart from what follows. -/
namespace Sq
open PySem PySem.Spec PyProof.Rows L2
theorem seqNx {t u : TS} {D : Ends} {r : VK} {b c : L2.St → Hp → Prop} {σ : L2.St} {H : Hp} (h : tSeq t u D σ H) : Ends.nx { nx := tSeq t u D, rt := r, bk := b, ct := c } σ H := h
theorem tellSeq {t u : TS} {D : Ends} {σ : L2.St} {H : Hp} (T : L2.St → Hp → Prop) (h : ∀ N : L2.St → Hp → Prop, (∀ σ2 H2, T σ2 H2 → N σ2 H2) → t { D with nx := N } σ H) (hT : ∀ σ2 H2, T σ2 H2 → u D σ2 H2) : tSeq t u D σ H := h (u D) hT
theorem tellNx {t u : TS} {D : Ends} {r : VK} {b c : L2.St → Hp → Prop} {σ : L2.St} {H : Hp} (T : L2.St → Hp → Prop) (h : ∀ N : L2.St → Hp → Prop, (∀ σ2 H2, T σ2 H2 → N σ2 H2) → t { D with nx := N } σ H) (hT : ∀ σ2 H2, T σ2 H2 → u D σ2 H2) : Ends.nx { nx := tSeq t u D, rt := r, bk := b, ct := c } σ H := h (u D) hT
end Sq
namespace Sq
open PySem PySem.Spec PyProof.Rows L2
/-- for .. in range(a if c else b) -/
theorem seq_for_if {c : TT} {a b : Int} {g : TG} {tb u : TS} {D : Ends} {σ : L2.St} {H : Hp} (k : Bool) (h : ∀ Q' : Bool → Hp → Prop, Q' k H → c σ H Q') (ba : -(2 ^ 62) ≤ a ∧ a < 2 ^ 62) (bb : -(2 ^ 62) ≤ b ∧ b < 2 ^ 62)
    (q : tFor (fun _ H R => R (Itr 0 (if k = true then a else b).toNat) H) g tb { D with nx := u D } σ H) : tSeq (tFor (iRng1 (tCons (tIf c (tC (.int a)) (tC (.int b))) tNil)) g tb) u D σ H := by
  cases k with
  | true => exact h _ ⟨a, rfl, ba.1, ba.2, q⟩
  | false => exact h _ ⟨b, rfl, bb.1, bb.2, q⟩
theorem atI_last2 {α : Type} (xs : List α) (v w : α) : atI (xs ++ [v, w]) (-2) = some v := by
  have hl : (xs ++ [v, w]).length = xs.length + 2 := by simp
  have e : ixN (xs ++ [v, w]).length (-2) = some xs.length := by
    unfold ixN
    rw [hl, if_neg (by decide), if_pos (by omega)]
    congr 1
    omega
  unfold atI
  rw [e]
  show (xs ++ [v, w])[xs.length]? = some v
  simp
theorem cut_take (xs : List V) (n : Nat) (h : n ≤ xs.length) : cutV xs none (some (n : Int)) = xs.take n := by
  unfold cutV
  rw [HT.sIx_nat, HT.sIx_none, List.drop_zero, Nat.min_eq_left h, Nat.sub_zero]
end Sq

set_option Elab.async false
set_option linter.all false
set_option maxHeartbeats 1000000
/-! Lists of replacements in the heap; slices of them. -/
namespace Sq
open PySem PySem.Spec PyProof.Rows L2
/-- replacements, not too great -/
def Rpl (ks : List Int) : Prop := ∀ k ∈ ks, 2 ≤ k ∧ k < 1073741824
theorem Rpl.low {ks : List Int} (h : Rpl ks) : lowAt ks = none := (lowAt_take ks ks.length (by rw [List.take_length]; exact fun k hk => (h k hk).1)).2 (Nat.le_refl _)
theorem Rpl.two {ks : List Int} (h : Rpl ks) : ∀ k ∈ ks, 2 ≤ k := fun k hk => (h k hk).1
theorem Rpl.app {ks ls : List Int} (h : Rpl ks) (g : Rpl ls) : Rpl (ks ++ ls) := fun k hk => by
  rcases List.mem_append.mp hk with z | z
  · exact h k z
  · exact g k z
/-- a list of at most n replacements -/
def RL (H : Hp) (p : Addr) (n : Nat) : Prop := ∃ ks : List Int, H p = some (.lst (ks.map V.int)) ∧ ks.length ≤ n ∧ Rpl ks
theorem RL.same {H H' : Hp} {p : Addr} {n : Nat} (h : RL H p n) (s : Same H H') : RL H' p n := by
  obtain ⟨ks, g, l, r⟩ := h
  exact ⟨ks, s _ _ g, l, r⟩
theorem RL.le {H : Hp} {p : Addr} {n m : Nat} (h : RL H p n) (l : n ≤ m) : RL H p m := by
  obtain ⟨ks, g, l', r⟩ := h
  exact ⟨ks, g, Nat.le_trans l' l, r⟩
theorem cut_part (ks : List Int) (lo hi : Option Int) : ∃ ls : List Int, cutV (ks.map V.int) lo hi = ls.map V.int ∧ ls.length ≤ ks.length ∧ ∀ x ∈ ls, x ∈ ks := by
  refine ⟨(ks.drop (HT.sIx (ks.map V.int).length 0 lo)).take (HT.sIx (ks.map V.int).length (ks.map V.int).length hi - HT.sIx (ks.map V.int).length 0 lo), ?_, ?_, fun x hx => List.mem_of_mem_drop (List.mem_of_mem_take hx)⟩
  · unfold cutV
    rw [List.map_take, List.map_drop]
  · rw [List.length_take, List.length_drop]
    omega
theorem cut_first (ks : List Int) (n : Nat) (h : n ≤ 1000) : ∃ ls : List Int, cutV (ks.map V.int) none (some (n : Int)) = ls.map V.int ∧ ls.length ≤ n ∧ ∀ x ∈ ls, x ∈ ks := by
  by_cases c : n ≤ (ks.map V.int).length
  · refine ⟨ks.take n, ?_, ?_, fun x hx => List.mem_of_mem_take hx⟩
    · rw [cut_take _ n c, List.map_take]
    · rw [List.length_take]
      omega
  · obtain ⟨ls, a, b, d⟩ := cut_part ks none (some (n : Int))
    rw [List.length_map] at c
    exact ⟨ls, a, by omega, d⟩
/-- a slice, and a sum of two, as such lists -/
theorem rl_cut {H : Hp} {ks : List Int} {lo hi : Option Int} {p : Addr} {n : Nat} (l : ks.length ≤ n) (r : Rpl ks) : RL (upd H p (.lst (cutV (ks.map V.int) lo hi))) p n := by
  obtain ⟨ls, a, b, d⟩ := cut_part ks lo hi
  exact ⟨ls, by rw [a]; exact upd_same, Nat.le_trans b l, fun k hk => r k (d k hk)⟩
theorem cat_rl {H : Hp} {p q : Addr} {n m : Nat} {Q : VK} (hp : RL H p n) (hq : RL H q m) (hn : n + m ≤ 1000) (k : ∀ r H', H r = none → Same H H' → RL H' r (n + m) → Q (.ref r) H') : rCat (.ref p) (.ref q) H Q := by
  obtain ⟨ks, g1, l1, r1⟩ := hp
  obtain ⟨ls, g2, l2, r2⟩ := hq
  refine ⟨p, q, _, _, rfl, rfl, g1, g2, Nat.le_of_lt (small1000 (by rw [List.length_map, List.length_map]; omega)), fun r hr => k r _ hr (same_new hr) ⟨ks ++ ls, ?_, by rw [List.length_append]; omega, r1.app r2⟩⟩
  rw [upd_same, List.map_append]
theorem slice_rl {K : PySem.W.Frag} {H : Hp} {a : Addr} {n : Nat} {lo hi : Option Int} {Q : VK} (ha : RL H a n) (k : ∀ r H', H r = none → Same H H' → RL H' r n → Q (.ref r) H') : rSlL K (.ref a) lo hi H Q := by
  obtain ⟨ks, g, l, r⟩ := ha
  exact ⟨a, _, rfl, SqL.of g, fun p hp => k p _ hp (same_new hp) (rl_cut l r)⟩
theorem slice12_rl {K : PySem.W.Frag} {H : Hp} {a : Addr} {n : Nat} {Q : VK} (m : Nat) (hm : m ≤ 1000) (ha : RL H a n) (k : ∀ r H', H r = none → Same H H' → RL H' r m → Q (.ref r) H') : rSlL K (.ref a) none (some (m : Int)) H Q := by
  obtain ⟨ks, g, l, r⟩ := ha
  obtain ⟨ls, a', b, d⟩ := cut_first ks m hm
  exact ⟨a, _, rfl, SqL.of g, fun p hp => k p _ hp (same_new hp) ⟨ls, by rw [a']; exact upd_same, b, fun x hx => r x (d x hx)⟩⟩
theorem one_rl {H : Hp} {t : Addr} {k : Int} (h1 : 2 ≤ k) (h2 : k < 1073741824) : RL (upd H t (.lst [.int k])) t 1 := ⟨[k], upd_same, Nat.le_refl _, fun x hx => by rw [List.mem_singleton.mp hx]; exact ⟨h1, h2⟩⟩
theorem rev_rl {H : Hp} {p : Addr} {ms : List Int} {n : Nat} (l : ms.length ≤ n) (r : Rpl ms) : RL (upd H p (.lst (ms.map V.int).reverse)) p n :=
  ⟨ms.reverse, by rw [upd_same, List.map_reverse], by rw [List.length_reverse]; exact l, fun x hx => r x (List.mem_reverse.mp hx)⟩
theorem noPart {σ : L2.St} {H : Hp} {Q : Option Int → Hp → Prop} (h : Q none H) : tNoPart σ H Q := h
theorem wo_mon {G H : Hp} {D : Addr} (s : Same G H) : Same (wo G D) (wo H D) := fun b o e => by
  by_cases h : b = D
  · rw [h, wo_self] at e
    cases e
  · rw [wo_ne h] at e ⊢
    exact s b o e
end Sq

set_option Elab.async false
set_option linter.all false
set_option maxRecDepth 100000
set_option maxHeartbeats 2000000
/-! A def of the law that asks for a repr: run where no repr is under way. -/
namespace Sq
open PySem PySem.Spec PyProof.Rows L2
structure FnG (P : Program) (w : World) (K : PySem.W.Frag) (mg : Str → Option Value) (base : Heap) (k : Nat) (f : Addr) (fd : FuncData) (ps : List Str) (sp : Sp) : Prop where
  count : ∀ vs H Q E, sp vs H Q E → vs.length = ps.length
  go : ∀ (A : Around) (outer : List Env) (s : Shared) (H : Hp) (ag : Args) (us : List Value) (vs : List V) (Q : VK) (E : XK), Room k A → A.guards = some [] → Env0 P w K mg base A outer s H →
    BindsTo s fd ag (ps.zip us) → Vals vs us → sp vs H Q E → codeAny (model P w) A (.call (.ref f) ag) (CR CX0 outer P w H s Q E) s
theorem okG {P : Program} {w : World} {K : PySem.W.Frag} {mg : Str → Option Value} {base : Heap} {x qual : Str} {st : Stmt} {f : Addr} {fd : FuncData} {N ps : List Str} {k : Nat} {sp : Sp}
    (F : Fun K x qual st f fd) (S : FnScope N ps (defScope st)) (count : ∀ vs H Q E, sp vs H Q E → vs.length = ps.length)
    (inner : ∀ (cdv : Value) (A : Around) (outer : List Env) (s : Shared) (H : Hp) (vs : List V) (Q : VK) (E : XK), Room k (A.deeper (envOfC qual (defScope st) s.heap.objs.size f cdv)) → A.guards = some [] → sp vs H Q E →
      ∃ t, PSs (cxOf CX0 P w K mg base N qual (defScope st) f cdv A outer s H E).nox (defBody st) t ∧ t { nx := fun _ H' => Q .non H', rt := Q } (start N vs) H) : FnG P w K mg base (k + 1) f fd ps sp := by
  refine ⟨count, fun A outer s H ag us vs Q E room quiet entry bound rel wish => ?_⟩
  obtain ⟨oc, od, kV, doc, pm, an, cdv, ct, osl, rfl, lk, hcd⟩ := F.ex
  refine fnAt lk hcd S count (fun outer' s' H' vs' Q' E' room' wish' => ?_) room entry bound rel wish
  obtain ⟨t, h, q⟩ := inner cdv A outer' s' H' vs' Q' E' room' quiet wish'
  exact ⟨t, h.nox, q⟩
structure Dgr (P : Program) (w : World) (K : PySem.W.Frag) (mg : Str → Option Value) (base : Heap) (k : Nat) (x : Str) (ps : List Str) (sp : Sp) : Prop where
  ex : ∃ f fd, FnG P w K mg base k f fd ps sp ∧ mg x = some (.ref f) ∧ PySem.W.keepIn K (.ref f) = true ∧ Binds K fd ps []
theorem Dgr.mk' {P : Program} {w : World} {K : PySem.W.Frag} {mg : Str → Option Value} {base : Heap} {k : Nat} {x : Str} {st : Stmt} {ps : List Str} {sp : Sp} {f : Addr} {fd : FuncData} (F : Fun K x x st f fd) (G : FnG P w K mg base k f fd ps sp) (g : mg x = some (.ref f)) (b : Binds K fd ps []) : Dgr P w K mg base k x ps sp :=
  ⟨⟨f, fd, G, g, F.kp, b⟩⟩
section
variable {X : Cx} {k : Nat} {ps : List Str} {sp : Sp} {x : Str} {p pos : Pos} {e : Expr} {es : List Expr} {t : TA}
theorem pe_callG (D : Dgr X.prog X.w X.K X.mg X.base k x ps sp) (room : Room k X.A) (quiet : X.A.guards = some []) (hg : Gl X x) (ha : PA X (e :: es) t) (hdb : (x == ("__debug__" : Str)) = false := by decide)
    (first : starEach (e :: es) X.env = (false, eval e X.env) :: starEach es X.env := by rfl)
    (nostar : (backTo pos (starEach es X.env)).any (·.1) = false := by rfl) :
    PE X (.Call (.Name x p) (e :: es) [] pos) (tCall sp [] E0 t) := by
  obtain ⟨f, fd, G, g, kp, b⟩ := D.ex
  constructor
  intro pins s σ H Q I h
  apply wpAny_Call_Name_kw
  apply ld_glob I hg g _ hdb
  apply PySem.W.callWith_K (h₀ := X.base) I.ok.mod.kin kp _ first nostar
  refine thn (ha.run pos pins s σ H _ I h) fun us s1 got => ?_
  obtain ⟨vs, H1, I1, r, q⟩ := got
  refine ⟨I1.kIn, ?_⟩
  rw [List.append_nil] at q
  have hl : (us ++ []).length = ps.length := by
    rw [List.append_nil, ← r.length]
    exact G.count _ _ _ _ q
  have bb := b s1 us I1.kIn hl
  rw [List.append_nil] at bb
  apply wpAny_call
  refine codeAny_mono (G.go X.A X.stack s1 H1 ⟨us, []⟩ us vs Q E0 room quiet I1.env0 bb r q) fun out s' hq => ?_
  cases out with
  | ok fl =>
    cases fl with
    | ret u => exact I1.after hq
    | next => exact hq.elim
    | brk => exact hq.elim
    | cont => exact hq.elim
  | error u => exact pass0 pins σ H1 s1 u s' I1 hq
end
end Sq

set_option Elab.async false
set_option linter.all false
/-! The best replacements, in plain Lean. -/
namespace Sq
def low (R : Int) : Int := (R + 3) / 2
def high (R : Int) : Int := (R + 4) / 2
def bests (R : Int) : List Int := if low R = high R then [low R] else [low R, high R]
def grow (R : Int) : Int := rw1 (low R) R
def up : Nat → Int → Int
  | 0, v => v
  | n + 1, v => grow (up n v)

theorem low_ge {R : Int} (h : 1 ≤ R) : 2 ≤ low R := by unfold low; omega
theorem low_le {R : Int} (h : 1 ≤ R) : low R ≤ R + 1 := by unfold low; omega
theorem high_le {R : Int} (h : 1 ≤ R) : high R ≤ R + 2 := by unfold high; omega

theorem rw1_low {k R : Int} (hk : k ≤ R + 2) : rw1 k R = (R + 3 - k) * k - 2 := by
  unfold rw1
  split
  · have e : k = R + 2 := by omega
    subst e
    rw [show R + 3 - (R + 2) = 1 by omega, Int.one_mul]
    omega
  · rfl

/-- how far a replacement stands from the middle decides -/
theorem sq_gap (R k : Int) : 4 * ((R + 3 - k) * k) = (R + 3) * (R + 3) - (2 * k - (R + 3)) * (2 * k - (R + 3)) := by
  simp only [Int.sub_mul, Int.mul_sub, Int.add_mul, Int.mul_add]
  have h1 := Int.mul_comm k R
  have h2 : 2 * k * (2 * k) = 4 * (k * k) := by
    rw [Int.mul_assoc, ← Int.mul_assoc k 2 k, Int.mul_comm k 2, Int.mul_assoc 2 k k]
    omega
  have h3 : 2 * k * R = 2 * (k * R) := Int.mul_assoc ..
  have h4 : R * (2 * k) = 2 * (k * R) := by rw [Int.mul_comm R, Int.mul_assoc]
  rw [h2, h3, h4, h1]
  omega

theorem one_sq {d : Int} (h : d = 0 ∨ d = 1 ∨ d = -1) : d * d ≤ 1 := by rcases h with h | h | h <;> subst h <;> decide
theorem two_sq {d : Int} (h : 2 ≤ d ∨ d ≤ -2) : 4 ≤ d * d := by
  rcases h with h | h
  · exact Int.mul_le_mul h h (by omega) (by omega)
  · have := Int.mul_le_mul (a := 2) (b := 2) (c := -d) (d := -d) (by omega) (by omega) (by omega) (by omega)
    rw [Int.neg_mul_neg] at this
    exact this

theorem rw1_le_grow {k R : Int} (hk : 2 ≤ k) (hR : 1 ≤ R) : rw1 k R ≤ grow R ∧ (rw1 k R = grow R ↔ k ∈ bests R) := by
  have l1 := low_ge hR
  have l2 := low_le hR
  have g : grow R = (R + 3 - low R) * low R - 2 := rw1_low (by omega)
  have e1 := sq_gap R (low R)
  by_cases c : k ≤ R + 2
  · have e := sq_gap R k
    rw [g, rw1_low c]
    by_cases ev : R % 2 = 0
    · -- the middle lies between two
      have d1 : 2 * low R - (R + 3) = -1 := by unfold low; omega
      have ne : low R ≠ high R := by unfold low high; omega
      have mem : k ∈ bests R ↔ (k = low R ∨ k = high R) := by
        unfold bests
        rw [if_neg ne]
        simp
      rw [d1] at e1
      by_cases m : k = low R ∨ k = high R
      · have d2 : 2 * k - (R + 3) = -1 ∨ 2 * k - (R + 3) = 1 := by unfold low high at m; omega
        have e2 : (2 * k - (R + 3)) * (2 * k - (R + 3)) = 1 := by rcases d2 with d2 | d2 <;> rw [d2] <;> rfl
        rw [e2] at e
        exact ⟨by omega, fun _ => mem.mpr m, fun _ => by omega⟩
      · have d2 : 2 ≤ 2 * k - (R + 3) ∨ 2 * k - (R + 3) ≤ -2 := by unfold low high at m; omega
        have e2 := two_sq d2
        exact ⟨by omega, fun z => by omega, fun z => absurd (mem.mp z) m⟩
    · have d1 : 2 * low R - (R + 3) = 0 := by unfold low; omega
      have eq : low R = high R := by unfold low high; omega
      have mem : k ∈ bests R ↔ k = low R := by
        unfold bests
        rw [if_pos eq]
        simp
      rw [d1] at e1
      by_cases m : k = low R
      · subst m
        exact ⟨by omega, fun _ => mem.mpr rfl, fun _ => by omega⟩
      · have d2 : 2 ≤ 2 * k - (R + 3) ∨ 2 * k - (R + 3) ≤ -2 := by unfold low at m; omega
        have e2 := two_sq d2
        exact ⟨by omega, fun z => by omega, fun z => absurd (mem.mp z) m⟩
  · have e2 : rw1 k R = R := by
      unfold rw1
      rw [if_pos (by omega)]
    have e3 : R < grow R := by
      rw [g]
      have e4 : (R + 3 - 2) * 2 ≤ (R + 3 - low R) * low R := by
        have a := sq_gap R 2
        have b : (2 * low R - (R + 3)) * (2 * low R - (R + 3)) ≤ 1 := one_sq (by unfold low; omega)
        by_cases h1 : R = 1
        · subst h1
          decide
        · by_cases h2 : R = 2
          · subst h2; decide
          · have c2 : 1 ≤ (2 * 2 - (R + 3)) * (2 * 2 - (R + 3)) := by
              have := two_sq (d := 2 * 2 - (R + 3)) (by omega)
              omega
            omega
      omega
    refine ⟨by omega, fun z => by omega, fun z => ?_⟩
    exfalso
    have := high_le hR
    unfold bests at z
    split at z
    · have := List.mem_singleton.mp z
      omega
    · simp at z
      omega

theorem grow_gt {R : Int} (hR : 1 ≤ R) : R < grow R := by
  have a := (rw1_le_grow (k := 2) (R := R) (by omega) hR).1
  rw [rw1_low (by omega)] at a
  by_cases h : R = 1
  · subst h; decide
  · omega
theorem grow_pos {R : Int} (hR : 1 ≤ R) : 1 ≤ grow R := by have := grow_gt hR; omega
theorem rw1_lt {k R S : Int} (hk : 2 ≤ k) (hR : 1 ≤ R) (h : R < S) : rw1 k R < grow S := by
  have hS : 1 ≤ S := by omega
  by_cases c : k ≤ R + 1
  · have a := (rw1_le_grow (k := k) hk hS).1
    rw [rw1_low (by omega)] at a
    rw [rw1_low (by omega)]
    have : (R + 3 - k) * k < (S + 3 - k) * k := Int.mul_lt_mul_of_pos_right (by omega) (by omega)
    omega
  · have e2 : rw1 k R = R := by
      unfold rw1
      rw [if_pos (by omega)]
    have := grow_gt hS
    omega
theorem grow_lt {R S : Int} (hR : 1 ≤ R) (h : R < S) : grow R < grow S := rw1_lt (low_ge hR) hR h
theorem up_pos {v : Int} (hv : 1 ≤ v) : ∀ n, 1 ≤ up n v
  | 0 => hv
  | n + 1 => grow_pos (up_pos hv n)
theorem up_lt {v : Int} (hv : 1 ≤ v) (n : Nat) : up n v < up (n + 1) v := grow_gt (up_pos hv n)
theorem up_mono {v : Int} (hv : 1 ≤ v) {i : Nat} : ∀ {j : Nat}, i ≤ j → up i v ≤ up j v
  | 0, h => by
    have e : i = 0 := by omega
    subst e
    exact Int.le_refl _
  | j + 1, h => by
    by_cases c : i = j + 1
    · subst c; exact Int.le_refl _
    · have := up_mono hv (i := i) (j := j) (by omega)
      have := up_lt hv j
      omega

/-- the choices of each place -/
def chs : Nat → Int → List (List Int)
  | 0, _ => []
  | n + 1, v => bests (up n v) :: chs n v
/-- one of each -/
def Each : List Int → List (List Int) → Prop
  | [], [] => True
  | k :: ks, c :: cs => k ∈ c ∧ Each ks cs
  | _, _ => False
theorem rch_best : ∀ (ks : List Int) (v : Int), (∀ k ∈ ks, 2 ≤ k) → 1 ≤ v → rch ks v ≤ up ks.length v ∧ (rch ks v = up ks.length v ↔ Each ks (chs ks.length v))
  | [], v, _, _ => ⟨Int.le_refl _, fun _ => trivial, fun _ => rfl⟩
  | k :: ks, v, h, hv => by
    have hk := h k (List.mem_cons_self ..)
    have ht : ∀ x ∈ ks, 2 ≤ x := fun x hx => h x (List.mem_cons_of_mem _ hx)
    obtain ⟨a1, a2⟩ := rch_best ks v ht hv
    have p := rch_pos ks v ht hv
    show rw1 k (rch ks v) ≤ grow (up ks.length v) ∧ (rw1 k (rch ks v) = grow (up ks.length v) ↔ k ∈ bests (up ks.length v) ∧ Each ks (chs ks.length v))
    by_cases e : rch ks v = up ks.length v
    · rw [e]
      obtain ⟨b1, b2⟩ := rw1_le_grow (k := k) (R := up ks.length v) hk (up_pos hv _)
      exact ⟨b1, fun z => ⟨b2.mp z, a2.mp e⟩, fun z => b2.mpr z.1⟩
    · have l := rw1_lt (k := k) hk p (show rch ks v < up ks.length v by omega)
      exact ⟨by omega, fun z => by omega, fun z => absurd (a2.mpr z.2) e⟩
end Sq

set_option Elab.async false
set_option linter.all false
/-! One of each choice, by its place. -/
namespace Sq
def lens : List (List Int) → Int
  | [] => 1
  | c :: cs => (c.length : Int) * lens cs
def pick : List (List Int) → Int → List Int
  | [], _ => []
  | c :: cs, p => c.getD ((p / lens cs) % (c.length : Int)).toNat 0 :: pick cs p
def Full (cs : List (List Int)) : Prop := ∀ c ∈ cs, 0 < c.length
theorem Full.tl {c : List Int} {cs : List (List Int)} (h : Full (c :: cs)) : Full cs := fun x hx => h x (List.mem_cons_of_mem _ hx)
theorem Full.hd {c : List Int} {cs : List (List Int)} (h : Full (c :: cs)) : 0 < c.length := h c (List.mem_cons_self ..)
theorem lens_pos : ∀ {cs : List (List Int)}, Full cs → 0 < lens cs
  | [], _ => by decide
  | c :: cs, h => Int.mul_pos (by have := h.hd; omega) (lens_pos h.tl)
theorem pick_len : ∀ (cs : List (List Int)) (p : Int), (pick cs p).length = cs.length
  | [], _ => rfl
  | _ :: cs, p => congrArg Nat.succ (pick_len cs p)
theorem pick_add : ∀ {cs : List (List Int)} (p t : Int), Full cs → pick cs (p + t * lens cs) = pick cs p
  | [], _, _, _ => rfl
  | c :: cs, p, t, h => by
    have m := lens_pos h.tl
    have e : p + t * ((c.length : Int) * lens cs) = p + (t * (c.length : Int)) * lens cs := by rw [Int.mul_assoc]
    show c.getD (((p + t * ((c.length : Int) * lens cs)) / lens cs) % (c.length : Int)).toNat 0 :: pick cs (p + t * ((c.length : Int) * lens cs)) = c.getD ((p / lens cs) % (c.length : Int)).toNat 0 :: pick cs p
    rw [e, pick_add p _ h.tl, Int.add_mul_ediv_right _ _ (by omega : lens cs ≠ 0), Int.add_mul_emod_self_right]
theorem pick_mod {cs : List (List Int)} (p : Int) (h : Full cs) : pick cs (p % lens cs) = pick cs p := by
  have a := pick_add (p % lens cs) (p / lens cs) h
  have e : p % lens cs + p / lens cs * lens cs = p := by rw [Int.mul_comm]; exact Int.emod_add_mul_ediv p (lens cs)
  rw [e] at a
  exact a.symm
theorem at_mem {c : List Int} (h : 0 < c.length) (z : Int) : c.getD (z % (c.length : Int)).toNat 0 ∈ c := by
  have a := Int.emod_nonneg z (by omega : (c.length : Int) ≠ 0)
  have b := Int.emod_lt_of_pos z (by omega : 0 < (c.length : Int))
  have lt : (z % (c.length : Int)).toNat < c.length := by omega
  rw [List.getD_eq_getElem?_getD, List.getElem?_eq_getElem lt]
  exact List.getElem_mem lt
theorem pick_each : ∀ {cs : List (List Int)} (p : Int), Full cs → Each (pick cs p) cs
  | [], _, _ => trivial
  | c :: cs, p, h => ⟨at_mem h.hd _, pick_each p h.tl⟩
theorem div_lt {p a M : Int} (h0 : 0 ≤ p) (hM : 0 < M) (h : p < a * M) : 0 ≤ p / M ∧ p / M < a := ⟨Int.ediv_nonneg h0 (by omega), Int.ediv_lt_of_lt_mul hM h⟩
theorem pick_all : ∀ {cs : List (List Int)} {ks : List Int}, Full cs → Each ks cs → ∃ p : Int, 0 ≤ p ∧ p < lens cs ∧ pick cs p = ks
  | [], [], _, _ => ⟨0, by decide, by decide, rfl⟩
  | c :: cs, k :: ks, h, e => by
    obtain ⟨p, p0, p1, pe⟩ := pick_all (cs := cs) (ks := ks) h.tl e.2
    obtain ⟨i, hi, ek⟩ := List.mem_iff_getElem.mp e.1
    have m := lens_pos h.tl
    refine ⟨p + i * lens cs, ?_, ?_, ?_⟩
    · have := Int.mul_nonneg (by omega : (0 : Int) ≤ i) (by omega : 0 ≤ lens cs)
      omega
    · have : ((i : Int) + 1) * lens cs ≤ (c.length : Int) * lens cs := Int.mul_le_mul_of_nonneg_right (by omega) (by omega)
      rw [Int.add_mul] at this
      show p + i * lens cs < (c.length : Int) * lens cs
      omega
    · show c.getD (((p + i * lens cs) / lens cs) % (c.length : Int)).toNat 0 :: pick cs (p + i * lens cs) = k :: ks
      rw [pick_add p _ h.tl, pe, Int.add_mul_ediv_right _ _ (by omega : lens cs ≠ 0), Int.ediv_eq_zero_of_lt p0 p1, Int.zero_add, Int.emod_eq_of_lt (by omega) (by omega)]
      have : ((i : Int)).toNat = i := by omega
      rw [this, List.getD_eq_getElem?_getD, List.getElem?_eq_getElem hi]
      exact congrArg (· :: ks) ek
  | [], _ :: _, _, e => e.elim
  | _ :: _, [], _, e => e.elim
/-- the first that differs is less -/
def Lx : List Int → List Int → Prop
  | x :: xs, y :: ys => x < y ∨ (x = y ∧ Lx xs ys)
  | _, _ => False
def Asc (c : List Int) : Prop := ∀ i j : Nat, i < j → j < c.length → c.getD i 0 < c.getD j 0
theorem pick_lx : ∀ {cs : List (List Int)} {p q : Int}, Full cs → (∀ c ∈ cs, Asc c) → 0 ≤ p → p < q → q < lens cs → Lx (pick cs p) (pick cs q)
  | [], p, q, _, _, h0, h1, h2 => by
    have : q < 1 := h2
    omega
  | c :: cs, p, q, h, ha, h0, h1, h2 => by
    have m := lens_pos h.tl
    have h2' : q < (c.length : Int) * lens cs := h2
    obtain ⟨a1, a2⟩ := div_lt h0 m (by omega : p < (c.length : Int) * lens cs)
    obtain ⟨b1, b2⟩ := div_lt (by omega : 0 ≤ q) m h2'
    have le : p / lens cs ≤ q / lens cs := Int.ediv_le_ediv m (by omega)
    show _ < _ ∨ (_ = _ ∧ Lx (pick cs p) (pick cs q))
    rw [Int.emod_eq_of_lt a1 a2, Int.emod_eq_of_lt b1 b2]
    by_cases e : p / lens cs = q / lens cs
    · right
      refine ⟨by rw [e], ?_⟩
      rw [← pick_mod p h.tl, ← pick_mod q h.tl]
      have x := Int.emod_add_mul_ediv p (lens cs)
      have y := Int.emod_add_mul_ediv q (lens cs)
      rw [e] at x
      exact pick_lx h.tl (fun z hz => ha z (List.mem_cons_of_mem _ hz)) (Int.emod_nonneg _ (by omega)) (by omega) (Int.emod_lt_of_pos _ m)
    · left
      exact ha c (List.mem_cons_self ..) _ _ (by omega) (by omega)
theorem bests_len (R : Int) : (bests R).length = if R % 2 = 0 then 2 else 1 := by
  unfold bests
  by_cases h : R % 2 = 0
  · rw [if_pos h, if_neg (show ¬ low R = high R by unfold low high; omega)]
    rfl
  · rw [if_neg h, if_pos (show low R = high R by unfold low high; omega)]
    rfl
theorem bests_asc (R : Int) : Asc (bests R) := by
  intro i j h1 h2
  rw [bests_len] at h2
  split at h2
  · have e1 : i = 0 := by omega
    have e2 : j = 1 := by omega
    subst e1 e2
    unfold bests
    rw [if_neg (show ¬ low R = high R by unfold low high; omega)]
    show low R < high R
    unfold low high
    omega
  · omega
theorem chs_len : ∀ (n : Nat) (v : Int), (chs n v).length = n
  | 0, _ => rfl
  | n + 1, v => congrArg Nat.succ (chs_len n v)
theorem chs_mem : ∀ {n : Nat} {v : Int} {c : List Int}, c ∈ chs n v → ∃ i, i < n ∧ c = bests (up i v)
  | n + 1, v, c, h => by
    rcases List.mem_cons.mp h with e | h
    · exact ⟨n, by omega, e⟩
    · obtain ⟨i, hi, e⟩ := chs_mem h
      exact ⟨i, by omega, e⟩
theorem chs_full (n : Nat) (v : Int) : Full (chs n v) := fun c h => by
  obtain ⟨i, _, rfl⟩ := chs_mem h
  rw [bests_len]
  split <;> omega
theorem chs_asc (n : Nat) (v : Int) : ∀ c ∈ chs n v, Asc c := fun c h => by
  obtain ⟨i, _, rfl⟩ := chs_mem h
  exact bests_asc _
/-- the even reaches -/
def evens (n : Nat) (v : Int) : Nat := match n with
  | 0 => 0
  | n + 1 => evens n v + if up n v % 2 = 0 then 1 else 0
theorem lens_chs : ∀ (n : Nat) (v : Int), lens (chs n v) = (2 : Int) ^ evens n v
  | 0, _ => rfl
  | n + 1, v => by
    show ((bests (up n v)).length : Int) * lens (chs n v) = (2 : Int) ^ (evens n v + if up n v % 2 = 0 then 1 else 0)
    rw [lens_chs n v, bests_len]
    by_cases h : up n v % 2 = 0
    · rw [if_pos h, if_pos h, Int.pow_succ]
      omega
    · rw [if_neg h, if_neg h]
      show (1 : Int) * _ = _
      rw [Int.one_mul]
      rfl
theorem evens_le (n : Nat) (v : Int) : evens n v ≤ n := by
  induction n with
  | zero => exact Nat.le_refl _
  | succ n ih =>
    show evens n v + (if up n v % 2 = 0 then 1 else 0) ≤ n + 1
    split <;> omega
theorem lens_le {n : Nat} (h : n ≤ 8) (v : Int) : lens (chs n v) ≤ 256 := by
  rw [lens_chs]
  have : (2 : Nat) ^ evens n v ≤ 2 ^ 8 := Nat.pow_le_pow_right (by decide) (Nat.le_trans (evens_le n v) h)
  have e : ((2 ^ evens n v : Nat) : Int) = (2 : Int) ^ evens n v := by push_cast; rfl
  omega
theorem each_ge : ∀ {n : Nat} {v : Int} {ks : List Int}, 1 ≤ v → Each ks (chs n v) → ∀ k ∈ ks, 2 ≤ k ∧ k ≤ up n v + 2
  | 0, v, [], _, _ => fun k h => by cases h
  | n + 1, v, k :: ks, hv, e => fun x hx => by
    have l := up_lt hv n
    rcases List.mem_cons.mp hx with z | z
    · subst z
      have p := up_pos hv n
      have e1 : x ∈ bests (up n v) := e.1
      have a := low_ge p
      have b := low_le p
      have c := high_le p
      have d : low (up n v) ≤ high (up n v) := by unfold low high; omega
      unfold bests at e1
      split at e1
      · have := List.mem_singleton.mp e1
        omega
      · simp at e1
        omega
    · have := each_ge hv e.2 x z
      omega
  | n + 1, v, [], _, e => e.elim
  | 0, v, _ :: _, _, e => e.elim
theorem each_len : ∀ {ks : List Int} {cs : List (List Int)}, Each ks cs → ks.length = cs.length
  | [], [], _ => rfl
  | _ :: _, _ :: _, e => congrArg Nat.succ (each_len e.2)
  | [], _ :: _, e => e.elim
  | _ :: _, [], e => e.elim
end Sq

set_option Elab.async false
set_option linter.all false
set_option maxRecDepth 100000
set_option maxHeartbeats 1000000
/-! `for` in a generator's body, with yields in its suite. -/
namespace PySem
open Sem (wp)
section
variable {M : Model} {A : Around} {R : GenEnd} {Y : Protocol} {n : Nat} {s₀ : Shared} {c : Code} {fs : List Frame} {s : Shared} {env : Env}
  {K : Flow → Sem Fin} {H : Value → Sem Fin} {gd : Bool → Bool} {lv : List Value → List Value}
theorem segFor {target iter : Expr} {body orelse : List Stmt} {pos : Pos}
    (h : wpAny M (A.over c fs) (eval iter env) (fun x s₁ => wpAny M (A.over c fs) (pyIter x) (fun it s₂ =>
        ∀ p, Seg M A R Y n s₀ (.forLoop target it body orelse env) (M.den (.forLoop target it body orelse env))
      (.ret (fun r => ((match r with | .ok f => (.pure f : Sem Flow) | .error e => .raise e).onRaise fun (x : Value) => do
        if (← field x 1) == Value.none then unsupported "frame.own-activation:exception-without-traceback"
        setFlight x env.frame).wrap K H gd lv) none (gd false) (lv []) c p [] :: fs) s₂) (fun x s' => Seg M A R Y n s₀ c (H x) fs s') s₁)
      (fun x s' => Seg M A R Y n s₀ c (H x) fs s') s)
    (hs : ∀ x, foldedSetIterable iter env x = pure x := by intro _; rfl) :
    Seg M A R Y n s₀ c ((exec (.For target iter body orelse pos) env).wrap K H gd lv) fs s := by
  rw [exec_For]
  refine seg_bind_wrap (wpAny_standAt ?_)
  refine seg_bind_wrap (wpAny_mono h (fun x s₁ h₁ => ?_) fun _ _ h' => h')
  refine seg_bind_wrap (wpAny_of_eq (hs x) ?_)
  refine seg_bind_wrap (wpAny_standAt ?_)
  refine seg_bind_wrap (wpAny_holding (wpAny_mono h₁ (fun it s₂ h₂ => ?_) fun _ _ h' => h'))
  exact seg_call h₂
end
section
variable {prog : Program} {w : World} {A : Around} {R : GenEnd} {Y : Protocol} {n : Nat} {s₀ : Shared} {fs : List Frame} {s : Shared} {env : Env}
theorem segForLoop {target : Expr} {it : Value} {body orelse : List Stmt}
    (h : wpAny (model prog w) (A.over (.forLoop target it body orelse env) fs) (pyNext it) (fun r s₁ => match r with
        | none => Seg (model prog w) A R Y n s₀ (.forLoop target it body orelse env) (.pure (.again (.block orelse env))) fs s₁
        | some v => wpAny (model prog w) (A.over (.forLoop target it body orelse env) fs) (letOwnedTupleGo target it v) (fun _ s₂ =>
            wpAny (model prog w) (A.over (.forLoop target it body orelse env) fs) (assign target env v) (fun _ s₃ =>
              Seg (model prog w) A R Y n s₀ (.forLoop target it body orelse env) ((execs body env).wrap (fun f => match f with
            | .next | .cont => .pure (.again (.forLoop target it body orelse env))
            | .brk => .pure (.done .next)
            | .ret v => .pure (.done (.ret v))) (fun e => (do noteFrame e env; theTreesLotGoes e : Sem Unit).wrap (fun _ => .raise e) .raise id id) id id) fs s₃)
              (fun x s' => Seg (model prog w) A R Y n s₀ (.forLoop target it body orelse env) ((do noteFrame x env; theTreesLotGoes x : Sem Unit).wrap (fun _ => .raise x) .raise id id) fs s') s₂)
            (fun x s' => Seg (model prog w) A R Y n s₀ (.forLoop target it body orelse env) ((do noteFrame x env; theTreesLotGoes x : Sem Unit).wrap (fun _ => .raise x) .raise id id) fs s') s₁)
      (fun x s' => Seg (model prog w) A R Y n s₀ (.forLoop target it body orelse env) ((do noteFrame x env; theTreesLotGoes x : Sem Unit).wrap (fun _ => .raise x) .raise id id) fs s') s) :
    Seg (model prog w) A R Y n s₀ (.forLoop target it body orelse env) ((model prog w).den (.forLoop target it body orelse env)) fs s := by
  show Seg _ A R Y n s₀ _ ((forTurn target it body orelse env).onRaise (fun x => do noteFrame x env; theTreesLotGoes x)) fs s
  unfold forTurn
  rw [Sem.onRaise_eq_wrap]
  have he : ∀ (x : Value) (s' : Shared), Seg (model prog w) A R Y n s₀ (.forLoop target it body orelse env) ((do noteFrame x env; theTreesLotGoes x : Sem Unit).wrap (fun _ => .raise x) .raise id id) fs s' →
      Seg (model prog w) A R Y n s₀ (.forLoop target it body orelse env) ((do noteFrame x env; theTreesLotGoes x : Sem Unit).bind fun _ => .raise x) fs s' := fun x s' hx => by
    rw [Sem.bind_eq_wrap]; exact hx
  refine seg_bind_wrap (wpAny_standAt ?_)
  refine seg_bind_wrap (wpAny_onRaise (wpAny_mono h (fun r s₁ h₁ => ?_) fun x s' hx => wpAny_standAt (he x s' hx)))
  cases r with
  | none => exact h₁
  | some v =>
    refine seg_bind_wrap (wpAny_mono h₁ (fun _ s₂ h₂ => ?_) fun x s' hx => he x s' hx)
    refine seg_bind_wrap (wpAny_mono h₂ (fun _ s₃ h₃ => ?_) fun x s' hx => he x s' hx)
    rw [Sem.bind_eq_wrap', Sem.wrap_wrap]
    rw [Sem.wrap_congr (execs body env) _ _ (K' := fun f => match f with
            | .next | .cont => .pure (.again (.forLoop target it body orelse env))
            | .brk => .pure (.done .next)
            | .ret v => .pure (.done (.ret v))) (H' := (fun e => (do noteFrame e env; theTreesLotGoes e : Sem Unit).wrap (fun _ => .raise e) .raise id id))
        (fun f => by cases f <;> rfl)
        (fun e => by first | exact Sem.bind_eq_wrap _ _ | (show (do noteFrame e env; theTreesLotGoes e : Sem Unit).bind (fun _ => .raise e) = _; rw [Sem.bind_eq_wrap]))]
    exact h₃
theorem segBlockNil (h : Seg (model prog w) A R Y n s₀ (.block [] env) (.pure (.done .next)) fs s) :
    Seg (model prog w) A R Y n s₀ (.block [] env) ((model prog w).den (.block [] env)) fs s := h
end
end PySem

namespace L2
open PySem PySem.Spec PyProof.Rows GenW
section
variable {X : Cx} {tg : Expr}
theorem gc_more {S : Addr} {ip ip' : List (Addr × Obj)} {A : Around} {c : Code} {fs : List Frame} {gd : Bool → Bool} (g : GC X S ip A c fs gd) (h : ∀ p ∈ ip', p.1 ≠ S) : GC X S (ip ++ ip') A c fs gd where
  pn := g.pn
  ip := fun p hp => (List.mem_append.mp hp).elim (g.ip p) (h p)
  apart := g.apart
  over := g.over
  split := g.split
  guard := g.guard
  gd := g.gd
theorem GI.less {S : Addr} {ip ip' : List (Addr × Obj)} {ys : List V} {σ : St} {H : Hp} {s : Shared} (h : GI X S (ip ++ ip') ys σ H s) : GI X S ip ys σ H s := by
  obtain ⟨acc, c, r, I⟩ := h
  exact ⟨acc, c, r, I.pins_of fun p hp => I.pin p (List.mem_append_right _ ((List.mem_cons.mp hp).elim (fun e => e ▸ List.mem_cons_self) fun z => List.mem_cons_of_mem _ (List.mem_append_left _ z)))⟩
/-- as tFor, with what is out -/
def tGFor (wi : TI) (g : TG) (tb : TGn) : TGn := fun D ys σ H => wi σ H fun J H1 => ∃ W : Nat → Nat → List V → St → Hp → Prop, (∃ m, W 0 m ys σ H1) ∧ ∀ i m ys σ H, W i m ys σ H →
  (J.stop i H ∧ D.nx ys σ H) ∨ (J.go i H ∧ ∃ N : List V → St → Hp → Prop, (∀ ys' σ' H', N ys' σ' H' → ∃ m', m' < m ∧ W (i + 1) m' ys' σ' H') ∧ ∀ x H', J.yld i H x H' → g x σ H' fun σ2 H2 => tb { D with nx := N, ct := N, bk := D.nx } ys σ2 H2)
theorem gs_for {iter : Expr} {body : List Stmt} {wi : TI} {g : TG} {tb : TGn} {pos : Pos} (hp : PassesOwn (model X.prog X.w) X.A X.env X.xe) (hcalm : X.calm = true) (hi : PI X tg iter wi) (hg : PG X tg g) (hb : GSs X body tb)
    (hs : ∀ x, foldedSetIterable iter X.env x = pure x := by intro _; rfl) : GS X (.For tg iter body [] pos) (tGFor wi g tb) := by
  refine ⟨fun A S ip R n ys s₀ c fs K J gd lv s σ H D gc hn k hI ht => ?_⟩
  obtain ⟨acc, cc, r, I⟩ := hI
  refine segFor ?_ hs
  rw [gc.over]
  refine wpAny_mono (hi.run _ s σ H _ I ht) (fun v s1 h1 => ?_) fun x s' hx => k.exc n s₀ x s' hx
  refine wpAny_mono h1 (fun itv s2 h2 => ?_) fun x s' hx => k.exc n s₀ x s' hx
  obtain ⟨it, fp, tn, J', H2, e, I2, T, st2, f2, W, ⟨m0, w0⟩, turn⟩ := h2
  subst e
  intro p
  have gl := fun (kk : Result → Sem PySem.Fin) => gc_loop (k := kk) (c' := .forLoop tg (.ref it) body [] X.env) (l := lv []) (kp := []) (p := p) gc rfl rfl
  have fpS : ∀ b ∈ fp, b ≠ S := fun b hb e => by
    obtain ⟨_, q1, q2, q3, q4, q5⟩ := f2 b hb
    exact q5 (S, lstObj acc cc) (List.mem_append_right _ List.mem_cons_self) e.symm
  have stat : ∀ {H' : Hp}, (∀ b ∈ fp, H' b = none) → ∀ {acc : Array Value} {c : Nat}, ∀ b ∈ fp, FpOk X ((S, lstObj acc c) :: ip) H' b := fun {H'} hn {acc c} b hb => by
    obtain ⟨_, q1, q2, q3, q4, q5⟩ := f2 b hb
    refine ⟨hn b hb, q1, q2, q3, q4, fun p hp => ?_⟩
    rcases List.mem_append.mp hp with z | z
    · exact q5 p (List.mem_append_left _ z)
    · rcases List.mem_cons.mp z with z | z
      · rw [z]
        exact fun e => fpS b hb e.symm
      · exact q5 p (List.mem_append_right _ (List.mem_cons_of_mem _ z))
  have loop : ∀ (m i n : Nat) (ys : List V) (s₀ s : Shared) (σ : St) (H : Hp), n + ys.length = sizeLine → W i m ys σ H → tn i s.heap → (∀ b ∈ fp, H b = none) → GI X S ip ys σ H s →
      Seg (model X.prog X.w) A R (GY X S) n s₀ (.forLoop tg (.ref it) body [] X.env) ((model X.prog X.w).den (.forLoop tg (.ref it) body [] X.env))
        (.ret (fun r => ((match r with | .ok f => (.pure f : Sem Flow) | .error e => .raise e).onRaise (cameBack X.env)).wrap K J gd lv) none (gd false) (lv []) c p [] :: fs) s := by
    intro m
    induction m using Nat.strongRecOn with
    | ind m ih =>
      intro i n ys s₀ s σ H hn w st fr hI
      have ee : ∀ (n : Nat) (s₀ : Shared) (x : Value) (s' : Shared), X.xe x s' → Seg (model X.prog X.w) A R (GY X S) n s₀ (.forLoop tg (.ref it) body [] X.env)
          ((do noteFrame x X.env; theTreesLotGoes x : Sem Unit).wrap (fun _ => .raise x) .raise id id)
          (.ret (fun r => ((match r with | .ok f => (.pure f : Sem Flow) | .error e => .raise e).onRaise (cameBack X.env)).wrap K J gd lv) none (gd false) (lv []) c p [] :: fs) s' := fun n s₀ x s' hx => by
        refine seg_wrap ?_
        rw [(gl _).over]
        refine wpAny_bind (wpAny_mono (hp x s' hx) (fun _ s'' hcb => wpAny_theTreesLotGoes ?_) fun y s'' hcb => ?_)
        · exact seg_leaf (.error x) (seg_cameBack gc k hcb)
        · exact seg_leaf (.error y) (seg_cameBack gc k hcb)
      refine segForLoop ?_
      rw [(gl _).over]
      obtain ⟨acc, cc, r, I⟩ := hI
      rcases turn i m ys σ H w with ⟨stop, qn⟩ | ⟨go, N, hN, step⟩
      · refine wpAny_mono (T.done X rfl rfl rfl hcalm i _ s σ H X.xe I (stat fr) st stop) (fun rr s4 hh => ?_) fun x s' hx => ee n s₀ x s' hx
        obtain ⟨hr, I4⟩ := hh
        subst hr
        refine seg_again rfl (segBlockNil ?_)
        exact seg_leaf (.ok .next) (k.ok n ys s₀ s4 .next hn ⟨σ, H, ⟨acc, cc, r, I4⟩, qn⟩)
      · refine wpAny_mono (T.item X rfl rfl rfl hcalm i _ s σ H X.xe I (stat fr) st go) (fun rr s4 hh => ?_) fun x s' hx => ee n s₀ x s' hx
        obtain ⟨u, hr, h4⟩ := hh
        subst hr
        refine wpAny_mono h4 (fun _ s5 hh => ?_) fun x s' hx => ee n s₀ x s' hx
        obtain ⟨x, H5, I5, r5, y5, st5, fr5⟩ := hh
        have I5' := I5.pinned (stat fr5) (T.obj _ _ st5)
        refine wpAny_mono (hg.run _ s5 σ H5 x u _ I5' r5 (step x H5 y5)) (fun _ s6 hh => ?_) fun x s' hx => ee n s₀ x s' hx
        obtain ⟨σ6, H6, I6, q6⟩ := hh
        have gm : GC X S (ip ++ pinsAt fp s5.heap) A (.forLoop tg (.ref it) body [] X.env) (.ret (fun r => ((match r with | .ok f => (.pure f : Sem Flow) | .error e => .raise e).onRaise (cameBack X.env)).wrap K J gd lv) none (gd false) (lv []) c p [] :: fs) id :=
          gc_more (gl _) fun q hq => fpS q.1 (of_pinsAt hq).1
        have again : ∀ {n' : Nat} {ys' : List V} {s₀' s7 : Shared} {σ7 : St} {H7 : Hp}, n' + ys'.length = sizeLine → GI X S (ip ++ pinsAt fp s5.heap) ys' σ7 H7 s7 → N ys' σ7 H7 →
            Seg (model X.prog X.w) A R (GY X S) n' s₀' (.forLoop tg (.ref it) body [] X.env) (.pure (.again (.forLoop tg (.ref it) body [] X.env)))
              (.ret (fun r => ((match r with | .ok f => (.pure f : Sem Flow) | .error e => .raise e).onRaise (cameBack X.env)).wrap K J gd lv) none (gd false) (lv []) c p [] :: fs) s7 := fun {n' ys' s₀' s7 σ7 H7} hn' I7 n7 => by
          obtain ⟨m', hm, w7⟩ := hN ys' σ7 H7 n7
          have pz : ∀ b ∈ fp, ∀ o, s5.heap.get? b = some o → s7.heap.get? b = some o ∧ H7 b = none := fun b hb o e => by
            obtain ⟨acc7, c7, _, I7'⟩ := I7
            have z := I7'.pin (b, o) (List.mem_append_right _ (List.mem_cons_of_mem _ (List.mem_append_right _ (mem_pinsAt hb e))))
            exact ⟨z.1, z.2.1⟩
          refine seg_again rfl (ih m' hm (i + 1) n' ys' s₀' s7 σ7 H7 hn' w7 (T.keep _ _ _ st5 fun b hb o e => (pz b hb o e).1) (fun b hb => ?_) I7.less)
          obtain ⟨o, e, d⟩ := T.obj _ _ st5 b hb
          exact (pz b hb o e).2
        refine hb.run A S (ip ++ pinsAt fp s5.heap) R n ys s₀ _ _ _ _ id id s6 σ6 H6 { D with nx := N, ct := N, bk := D.nx } gm hn ⟨fun n' ys' s₀' s3 f hn' hs => ?_, fun n' s₀' x s3 hx => ee n' s₀' x s3 hx⟩ ⟨acc, cc, r, I6⟩ q6
        cases f with
        | next =>
          obtain ⟨σ3, H3, I3, n3⟩ := hs
          exact again hn' I3 n3
        | cont =>
          obtain ⟨σ3, H3, I3, n3⟩ := hs
          exact again hn' I3 n3
        | brk =>
          obtain ⟨σ3, H3, I3, n3⟩ := hs
          exact seg_leaf (.ok .next) (k.ok n' ys' s₀' s3 .next hn' ⟨σ3, H3, I3.less, n3⟩)
        | ret v =>
          obtain ⟨x3, σ3, H3, I3, r3, n3⟩ := hs
          exact seg_leaf (.ok (.ret v)) (k.ok n' ys' s₀' s3 (.ret v) hn' ⟨x3, σ3, H3, I3.less, r3, n3⟩)
  exact loop m0 0 n ys s₀ s2 σ H2 hn w0 st2 (fun b hb => (f2 b hb).1) ⟨acc, cc, r, I2⟩
end
end L2

set_option Elab.async false
set_option linter.all false
set_option maxRecDepth 100000
set_option maxHeartbeats 2000000
/-! Lists of lists of ints; a walk in a generator. -/
namespace Sq
open PySem PySem.Spec PyProof.Rows L2
theorem gfor_it {J : It} {n : Nat} {G : Hp → Prop} {Y : Nat → Hp → V → Hp → Prop} (w : Walk J n G Y) {g : TG} {tb : TGn} {D : GEnds} {ys : List V} {σ : L2.St} {H : Hp} (Pv : Nat → List V → L2.St → Hp → Prop) (h0 : Pv 0 ys σ H) (hG : ∀ i ys σ H, i ≤ n → Pv i ys σ H → G H)
    (hs : ∀ i x ys σ H H', i < n → Pv i ys σ H → Y i H x H' → g x σ H' fun σ2 H2 => tb { D with nx := Pv (i + 1), ct := Pv (i + 1), bk := D.nx } ys σ2 H2) (hd : ∀ ys σ H, Pv n ys σ H → D.nx ys σ H) :
    ∃ W : Nat → Nat → List V → L2.St → Hp → Prop, (∃ m, W 0 m ys σ H) ∧ ∀ i m ys σ H, W i m ys σ H →
      (J.stop i H ∧ D.nx ys σ H) ∨ (J.go i H ∧ ∃ N : List V → L2.St → Hp → Prop, (∀ ys' σ' H', N ys' σ' H' → ∃ m', m' < m ∧ W (i + 1) m' ys' σ' H') ∧ ∀ x H', J.yld i H x H' → g x σ H' fun σ2 H2 => tb { D with nx := N, ct := N, bk := D.nx } ys σ2 H2) := by
  refine ⟨fun i m ys σ H => m = n - i ∧ i ≤ n ∧ Pv i ys σ H, ⟨n, by simp, Nat.zero_le _, h0⟩, ?_⟩
  rintro i m ys σ H ⟨rfl, hi, p⟩
  have q := hG i ys σ H hi p
  by_cases hlt : i < n
  · exact .inr ⟨w.goes i H hlt q, Pv (i + 1), fun ys' σ' H' p' => ⟨n - (i + 1), by omega, rfl, hlt, p'⟩, fun x H' y => hs i x ys σ H H' hlt p (w.yields i H x H' hlt q y)⟩
  · have e : i = n := by omega
    subst e
    exact .inl ⟨w.stops H q, hd ys σ H p⟩
/-- at each of them stands its list of ints -/
def RowsAt (H : Hp) : List Addr → List (List Int) → Prop
  | [], [] => True
  | a :: as, c :: cs => H a = some (.lst (c.map V.int)) ∧ RowsAt H as cs
  | _, _ => False
theorem RowsAt.same {H H' : Hp} (s : Same H H') : ∀ {as : List Addr} {cs : List (List Int)}, RowsAt H as cs → RowsAt H' as cs
  | [], [], _ => trivial
  | _ :: _, _ :: _, h => ⟨s _ _ h.1, RowsAt.same s h.2⟩
  | [], _ :: _, h => h.elim
  | _ :: _, [], h => h.elim
theorem RowsAt.len {H : Hp} : ∀ {as : List Addr} {cs : List (List Int)}, RowsAt H as cs → as.length = cs.length
  | [], [], _ => rfl
  | _ :: _, _ :: _, h => congrArg Nat.succ (RowsAt.len h.2)
  | [], _ :: _, h => h.elim
  | _ :: _, [], h => h.elim
theorem RowsAt.app {H : Hp} : ∀ {as : List Addr} {cs : List (List Int)} {bs : List Addr} {ds : List (List Int)}, RowsAt H as cs → RowsAt H bs ds → RowsAt H (as ++ bs) (cs ++ ds)
  | [], [], _, _, _, h2 => h2
  | _ :: _, _ :: _, _, _, h, h2 => ⟨h.1, RowsAt.app h.2 h2⟩
  | [], _ :: _, _, _, h, _ => h.elim
  | _ :: _, [], _, _, h, _ => h.elim
theorem RowsAt.rev {H : Hp} : ∀ {as : List Addr} {cs : List (List Int)}, RowsAt H as cs → RowsAt H as.reverse cs.reverse
  | [], [], _ => trivial
  | _ :: _, _ :: _, h => by
    rw [List.reverse_cons, List.reverse_cons]
    exact (RowsAt.rev h.2).app ⟨h.1, trivial⟩
  | [], _ :: _, h => h.elim
  | _ :: _, [], h => h.elim
theorem RowsAt.get {H : Hp} : ∀ {as : List Addr} {cs : List (List Int)} {i : Nat} {c : List Int}, RowsAt H as cs → cs[i]? = some c → ∃ a, as[i]? = some a ∧ H a = some (.lst (c.map V.int))
  | _ :: _, _ :: _, 0, _, h, e => by
    cases e
    exact ⟨_, rfl, h.1⟩
  | _ :: _, _ :: _, i + 1, _, h, e => RowsAt.get (i := i) h.2 e
  | [], _ :: _, _, _, h, _ => h.elim
  | _, [], _, _, _, e => by simp at e
theorem RowsAt.upd {H : Hp} {p : Addr} {o : HO} : ∀ {as : List Addr} {cs : List (List Int)}, RowsAt H as cs → p ∉ as → RowsAt (upd H p o) as cs
  | [], [], _, _ => trivial
  | a :: _, _ :: _, h, n => ⟨by rw [upd_ne (fun z => n (by rw [z]; exact List.mem_cons_self ..))]; exact h.1, RowsAt.upd h.2 (fun z => n (List.mem_cons_of_mem _ z))⟩
  | [], _ :: _, h, _ => h.elim
  | _ :: _, [], h, _ => h.elim
theorem RowsAt.off {H : Hp} {p : Addr} : ∀ {as : List Addr} {cs : List (List Int)}, RowsAt H as cs → H p = none → p ∉ as
  | [], [], _, _, z => nomatch z
  | a :: _, _ :: _, h, e, z => by
    rcases List.mem_cons.mp z with z | z
    · have := h.1
      rw [← z, e] at this
      cases this
    · exact RowsAt.off h.2 e z
  | [], _ :: _, h, _, _ => h.elim
  | _ :: _, [], h, _, _ => h.elim
theorem map_ref {as : List Addr} {i : Nat} {x : V} (h : (as.map V.ref)[i]? = some x) : ∃ a, as[i]? = some a ∧ V.ref a = x := by
  rw [List.getElem?_map] at h
  exact Option.map_eq_some_iff.mp h
/-- what they hold, as data -/
def dRows (cs : List (List Int)) : List PyData := cs.map fun c => PyData.list (c.map PyData.int)
theorem dp_rows {K : PySem.W.Frag} {H : Hp} : ∀ {as : List Addr} {cs : List (List Int)}, RowsAt H as cs → DpAll K H (as.map V.ref) (dRows cs)
  | [], [], _ => .nil
  | _ :: _, c :: _, h => .cons (.lst (SqL.of h.1) (dp_ints c)) (dp_rows h.2)
  | [], _ :: _, h => h.elim
  | _ :: _, [], h => h.elim
end Sq

set_option Elab.async false
set_option linter.all false
set_option maxRecDepth 100000
set_option maxHeartbeats 1000000
/-! Lists of lists of ints as data. -/
namespace Sq
open PySem PySem.Spec PyProof.Rows L2
theorem eqvAll_ints : ∀ xs ys : List Int, PyData.eqvAll (xs.map PyData.int) (ys.map PyData.int) = decide (xs = ys)
  | [], [] => rfl
  | [], _ :: _ => rfl
  | _ :: _, [] => rfl
  | x :: xs, y :: ys => by
    show (PyData.eqv (.int x) (.int y) && PyData.eqvAll (xs.map PyData.int) (ys.map PyData.int)) = decide (x :: xs = y :: ys)
    rw [eqvAll_ints xs ys]
    have e : PyData.eqv (.int x) (.int y) = decide (x = y) := by
      show (x == y) = decide (x = y)
      by_cases h : x = y
      · rw [decide_eq_true h]; exact beq_iff_eq.mpr h
      · rw [decide_eq_false h]; exact beq_eq_false_iff_ne.mpr h
    rw [e]
    by_cases h1 : x = y
    · by_cases h2 : xs = ys
      · subst h1 h2
        simp
      · simp [h1, h2]
    · simp [h1]
theorem eqv_ints (xs ys : List Int) : PyData.eqv (.list (xs.map PyData.int)) (.list (ys.map PyData.int)) = decide (xs = ys) := eqvAll_ints xs ys
theorem any_rows (r : List Int) : ∀ cs : List (List Int), ((dRows cs).any fun z => PyData.eqv z (.list (r.map PyData.int))) = decide (r ∈ cs)
  | [] => by simp [dRows]
  | c :: cs => by
    show (PyData.eqv (.list (c.map PyData.int)) (.list (r.map PyData.int)) || (dRows cs).any fun z => PyData.eqv z (.list (r.map PyData.int))) = _
    rw [any_rows r cs, eqv_ints]
    by_cases h1 : c = r
    · subst h1
      simp
    · by_cases h2 : r ∈ cs
      · simp [h2]
      · have : ¬ r = c := fun z => h1 z.symm
        simp [h1, h2, this]
theorem lay_rows : ∀ cs : List (List Int), PyData.canLayAll0 (dRows cs) = true
  | [] => rfl
  | c :: cs => by
    show (PyData.canLayAll0 (c.map PyData.int) && PyData.canLayAll0 (dRows cs)) = true
    rw [lay_rows cs, lays_ints c]
    rfl
theorem deep_rows : ∀ cs : List (List Int), PyData.depthAll (dRows cs) ≤ 2
  | [] => Nat.zero_le _
  | c :: cs => Nat.max_le.mpr ⟨Nat.add_le_add_right (deep_ints c) 1, deep_rows cs⟩
theorem shaped_rows (cs : List (List Int)) : SeqAt.shaped (.list (dRows cs)) = true := shaped_il (lay_rows cs) (Nat.le_trans (Nat.add_le_add_right (deep_rows cs) 1) (by decide))
theorem room65 {k : Nat} {A : Around} (r : Room k A) : A.units + 65 < cLine := by have := r.un; omega
def rLenK (K : PySem.W.Frag) : List V → Hp → VK → Prop := fun xs H Q => ∃ p ys, xs = [V.ref p] ∧ (SqL K H p ys ∨ SqT K H p ys) ∧ Q (V.int (ys.length : Nat)) H
theorem call_lenK {X : Cx} : CallR X (.builtin "len") (rLenK X.K) := call_len_seq
def rListK (K : PySem.W.Frag) : List V → Hp → VK → Prop := fun xs H Q => ∃ p ys, xs = [V.ref p] ∧ (SqL K H p ys ∨ SqT K H p ys) ∧ ∀ l, H l = none → Q (.ref l) (upd H l (.lst ys))
theorem call_listK {X : Cx} : CallR X (.type "list") (rListK X.K) := call_list_of
/-- kept by what turns the source alone -/
theorem RowsAt.keep {H H' : Hp} {l d : Addr} (k : ∀ b o, H b = some o → b ≠ l → b ≠ d → H' b = some o) : ∀ {as : List Addr} {cs : List (List Int)}, RowsAt H as cs → l ∉ as → d ∉ as → RowsAt H' as cs
  | [], [], _, _, _ => trivial
  | a :: _, _ :: _, h, n1, n2 => ⟨k _ _ h.1 (fun z => n1 (by rw [z]; exact List.mem_cons_self ..)) (fun z => n2 (by rw [z]; exact List.mem_cons_self ..)), RowsAt.keep k h.2 (fun z => n1 (List.mem_cons_of_mem _ z)) (fun z => n2 (List.mem_cons_of_mem _ z))⟩
  | [], _ :: _, h, _, _ => h.elim
  | _ :: _, [], h, _, _ => h.elim
end Sq

set_option Elab.async false
set_option linter.all false
set_option maxRecDepth 100000
set_option maxHeartbeats 4000000
/-! {e for a in xs for b in ys}, e an int: over the library's rules of the same with a list. -/
namespace Sq
open PySem PySem.Spec PyProof.Rows L2
theorem turnS_out (elt t0 i0 t1 i1 : Expr) (ifs0 ifsB : List Expr) (scope : Scope) (pos : Pos) (it acc : Value) (env : Env) :
    compTurn (.SetComp elt [⟨t0, i0, ifs0, 0⟩, ⟨t1, i1, ifsB, 0⟩] scope pos) 0 it acc env = (do
      standAt i0.pos
      match ← pyNext it with
      | none => pure (.done .next)
      | some v =>
        letOwnedTupleGo t0 it v
        assign t0 env v
        let mut ok := true
        for c in ifs0 do
          if ok then ok ← isTrue c env (eval c env)
        if ok then
          let x ← eval i1 env
          standAt i1.pos
          let x ← foldedSetIterable i1 env x
          let _ ← runOwn (.compStart (.SetComp elt [⟨t0, i0, ifs0, 0⟩, ⟨t1, i1, ifsB, 0⟩] scope pos) 1 (← holding [x] (pyIter x)) acc env) env
        again (.compLoop (.SetComp elt [⟨t0, i0, ifs0, 0⟩, ⟨t1, i1, ifsB, 0⟩] scope pos) 0 it acc env)) := by rfl
theorem turnS_in (elt t0 i0 t1 i1 : Expr) (ifs0 ifsB : List Expr) (scope : Scope) (pos : Pos) (it acc : Value) (env : Env) :
    compTurn (.SetComp elt [⟨t0, i0, ifs0, 0⟩, ⟨t1, i1, ifsB, 0⟩] scope pos) 1 it acc env = (do
      standAt i1.pos
      match ← pyNext it with
      | none => pure (.done .next)
      | some v =>
        letOwnedTupleGo t1 it v
        assign t1 env v
        let mut ok := true
        for c in ifsB do
          if ok then ok ← isTrue c env (eval c env)
        if ok then
          (do let v ← eval elt env; standAt elt.pos; let _ ← call (.builtin "set.add") [acc, v])
        again (.compLoop (.SetComp elt [⟨t0, i0, ifs0, 0⟩, ⟨t1, i1, ifsB, 0⟩] scope pos) 1 it acc env)) := by rfl

section
variable {prog : Program} {w : World} {A : Around} {R : Result → Shared → Prop} {s : Shared} {elt t0 i0 t1 i1 : Expr} {ifs0 ifsB : List Expr} {scope : Scope} {pos : Pos} {it acc : Value} {env : Env}
/-- the outer0 of the first clause -/
theorem loopS_out (plainA : ∀ x, foldedSetIterable i1 env x = pure x) (I : Nat → Shared → Prop)
    (walk0 : ∀ n s, I n s → wpAny (model prog w) A (pyNext it) (fun r s₁ => match r with
      | none => R (.ok .next) s₁
      | some v => wpAny (model prog w) A (letOwnedTupleGo t0 it v) (fun _ s₁' => wpAny (model prog w) A (assign t0 env v) (fun _ s₂ =>
          wpAny (model prog w) A (forIn ifs0 true fun c r => if r = true then do let ok ← isTrue c env (eval c env); pure (ForInStep.yield ok) else pure (ForInStep.yield r)) (fun ok s₃ =>
            if ok = true then wpAny (model prog w) A (eval i1 env) (fun x s₄ => wpAny (model prog w) A (pyIter x) (fun itB s₅ =>
              codeAny (model prog w) A (.compStart (.SetComp elt [⟨t0, i0, ifs0, 0⟩, ⟨t1, i1, ifsB, 0⟩] scope pos) 1 itB acc env) (fun r s' => match r with
                | .ok _ => ∃ m, m < n ∧ I m s'
                | .error _ => False) s₅) (notedBy (model prog w) A env fun e s' => R (.error e) s') s₄) (notedBy (model prog w) A env fun e s' => R (.error e) s') s₃
            else ∃ m, m < n ∧ I m s₃) (notedBy (model prog w) A env fun e s' => R (.error e) s') s₂) (notedBy (model prog w) A env fun e s' => R (.error e) s') s₁') (notedBy (model prog w) A env fun e s' => R (.error e) s') s₁) (notedBy (model prog w) A env fun e s' => R (.error e) s') s)
    (n : Nat) (h : I n s) :
    codeAny (model prog w) A (.compLoop (.SetComp elt [⟨t0, i0, ifs0, 0⟩, ⟨t1, i1, ifsB, 0⟩] scope pos) 0 it acc env) R s := by
  refine codeAny_loop rfl I (fun n s hI => ?_) n h
  show wpAny _ A ((compTurn (.SetComp elt [⟨t0, i0, ifs0, 0⟩, ⟨t1, i1, ifsB, 0⟩] scope pos) 0 it acc env).onRaise (fun x => do noteFrame x env; theTreesLotGoes x)) _ _ s
  refine wpAny_noted ?_
  rw [turnS_out]
  refine wpAny_bind (wpAny_standAt (wpAny_bind (wpAny_mono (walk0 n s hI) (fun r s₁ h₁ => ?_) fun _ _ h' => h')))
  cases r with
  | none => exact wpAny_pure h₁
  | some v =>
    refine wpAny_bind (wpAny_mono h₁ (fun _ s₁' h₁' => ?_) fun _ _ h' => h')
    refine wpAny_bind (wpAny_mono h₁' (fun _ s₂ h₂ => wpAny_bind (wpAny_mono h₂ (fun ok s₃ h₃ => ?_) fun _ _ h' => h')) fun _ _ h' => h')
    cases ok with
    | false => exact wpAny_pure ⟨rfl, h₃⟩
    | true =>
      refine wpAny_bind (wpAny_mono h₃ (fun x s₄ h₄ => ?_) fun _ _ h' => h')
      refine wpAny_bind (wpAny_standAt (wpAny_bind (wpAny_of_eq (plainA x) (wpAny_bind (wpAny_holding (wpAny_mono h₄ (fun itB s₅ h₅ => ?_) fun _ _ h' => h'))))))
      refine wpAny_bind (wpAny_runOwn ?_)
      rw [Around.mark_none]
      refine codeAny_mono h₅ fun r s' hr => ?_
      cases r with
      | ok f =>
        first
          | exact wpAny_pure ⟨rfl, hr⟩
          | exact wpAny_bind (wpAny_pure (wpAny_pure ⟨rfl, hr⟩))
      | error e => exact hr.elim
/-- the outer0 of the second -/
theorem loopS_in (I : Nat → Shared → Prop)
    (walk0 : ∀ n s, I n s → wpAny (model prog w) A (pyNext it) (fun r s₁ => match r with
      | none => R (.ok .next) s₁
      | some v => wpAny (model prog w) A (letOwnedTupleGo t1 it v) (fun _ s₁' => wpAny (model prog w) A (assign t1 env v) (fun _ s₂ =>
          wpAny (model prog w) A (forIn ifsB true fun c r => if r = true then do let ok ← isTrue c env (eval c env); pure (ForInStep.yield ok) else pure (ForInStep.yield r)) (fun ok s₃ =>
            if ok = true then wpAny (model prog w) A (eval elt env) (fun x s₄ =>
              wpAny (model prog w) A (call (.builtin "set.add") [acc, x]) (fun _ s₅ => ∃ m, m < n ∧ I m s₅) (notedBy (model prog w) A env fun e s' => R (.error e) s') s₄) (notedBy (model prog w) A env fun e s' => R (.error e) s') s₃
            else ∃ m, m < n ∧ I m s₃) (notedBy (model prog w) A env fun e s' => R (.error e) s') s₂) (notedBy (model prog w) A env fun e s' => R (.error e) s') s₁') (notedBy (model prog w) A env fun e s' => R (.error e) s') s₁) (notedBy (model prog w) A env fun e s' => R (.error e) s') s)
    (n : Nat) (h : I n s) :
    codeAny (model prog w) A (.compLoop (.SetComp elt [⟨t0, i0, ifs0, 0⟩, ⟨t1, i1, ifsB, 0⟩] scope pos) 1 it acc env) R s := by
  refine codeAny_loop rfl I (fun n s hI => ?_) n h
  show wpAny _ A ((compTurn (.SetComp elt [⟨t0, i0, ifs0, 0⟩, ⟨t1, i1, ifsB, 0⟩] scope pos) 1 it acc env).onRaise (fun x => do noteFrame x env; theTreesLotGoes x)) _ _ s
  refine wpAny_noted ?_
  rw [turnS_in]
  refine wpAny_bind (wpAny_standAt (wpAny_bind (wpAny_mono (walk0 n s hI) (fun r s₁ h₁ => ?_) fun _ _ h' => h')))
  cases r with
  | none => exact wpAny_pure h₁
  | some v =>
    refine wpAny_bind (wpAny_mono h₁ (fun _ s₁' h₁' => ?_) fun _ _ h' => h')
    refine wpAny_bind (wpAny_mono h₁' (fun _ s₂ h₂ => wpAny_bind (wpAny_mono h₂ (fun ok s₃ h₃ => ?_) fun _ _ h' => h')) fun _ _ h' => h')
    cases ok with
    | false => exact wpAny_pure ⟨rfl, h₃⟩
    | true =>
      exact wpAny_bind (wpAny_bind (wpAny_mono h₃ (fun x s₄ h₄ => wpAny_bind (wpAny_standAt (wpAny_bind (wpAny_mono h₄ (fun _ s₅ h₅ => wpAny_pure (wpAny_pure ⟨rfl, h₅⟩)) fun _ _ h' => h')))) fun _ _ h' => h'))
/-- the second clause's start -/
theorem startS_in (h0 : codeAny (model prog w) A (.compLoop (.SetComp elt [⟨t0, i0, ifs0, 0⟩, ⟨t1, i1, ifsB, 0⟩] scope pos) 1 it acc env) R s)
    (h : wpAny (model prog w) A (pyIter it) (fun it' s' => codeAny (model prog w) A (.compLoop (.SetComp elt [⟨t0, i0, ifs0, 0⟩, ⟨t1, i1, ifsB, 0⟩] scope pos) 1 it' acc env) R s')
      (notedBy (model prog w) A env fun x s' => R (.error x) s') s) :
    codeAny (model prog w) A (.compStart (.SetComp elt [⟨t0, i0, ifs0, 0⟩, ⟨t1, i1, ifsB, 0⟩] scope pos) 1 it acc env) R s := by
  refine codeAny_of_tree ?_
  show wpAny _ _ ((compStart (.SetComp elt [⟨t0, i0, ifs0, 0⟩, ⟨t1, i1, ifsB, 0⟩] scope pos) 1 it acc env).onRaise (fun x => do noteFrame x env; standAt theWindowsPlace)) _ _ s
  refine wpAny_notedAt ?_
  unfold compStart
  show wpAny _ _ (ask >>= _) _ _ s
  refine wpAny_bind (wpAny_askSetting (wpAny_ite ?_))
  split
  · first
      | exact wpAny_bind (wpAny_pure (wpAny_pure (And.intro rfl h0)))
      | exact wpAny_pure (And.intro rfl h0)
  · first
      | exact wpAny_bind (wpAny_rule (wpAny_bind (wpAny_standAt (wpAny_bind (wpAny_mono h (fun it' s' h' => wpAny_pure (And.intro rfl h')) fun _ _ x => x)))))
      | (refine wpAny_bind (wpAny_rule ?_); show wpAny _ _ (standAt i1.pos >>= _) _ _ s; exact wpAny_bind (wpAny_standAt (wpAny_bind (wpAny_mono h (fun it' s' h' => wpAny_pure (And.intro rfl h')) fun _ _ x => x))))
end

section
variable {X : Cx}
theorem addI_ok {pins : List (Addr × Obj)} {σ : L2.St} {H : Hp} {s : Shared} {E : Value → Shared → Prop} {D : Addr} {S : Int → Bool} {n : Nat} {y : Int} {ty : Tok} {Q : Value → Shared → Prop} (I : Inv X pins σ H s) (at_ : H D = some (SetO X.w D S n)) (room : n + 1 < scanBound)
    (h : ∀ s', Inv X pins σ (upd H D (SetO X.w D (fun j => S j || decide (j = y)) (if S y = true then n else n + 1))) s' → Q .none s') : wpAny (model X.prog X.w) X.A (call (.builtin "set.add") [.ref D, .int y ty]) Q E s := by
  refine setR_add (setO_get I at_) room fun h' same made => ?_
  have there : ∃ u, h'.get? D = some u := by
    have ⟨o, _, _, _, ho, _⟩ := made
    exact ⟨o, ho⟩
  exact h _ (I.write (e := D) (t' := s.toks + 1) (by rw [at_]; trivial) (.inl rfl) (fun b u hb hu => (same.2 b hb).trans hu) there (setO_new made))
/-- [elt for tg in iter if .. for tgB in iterB if ..]: behind the first clause's store and tests the second source's own outer0, from which NxA is reached. vs: the block's names; vsB: those of the second target -/
def tSc2 (w : World) (wi : TI) (g : TG) (tt : TT) (wiB : TI) (gB : TG) (ttB : TT) (te : TE) (vs vsB : List Nat) : TE := fun σ H Q => wi σ H fun J H1 => ∀ D, H1 D = none → ∃ W : Nat → Nat → Hp → Prop, (∃ m, W 0 m (upd H1 D (SetO w D (fun _ => false) 0))) ∧ ∀ i m H, W i m H →
  (J.stop i H ∧ Q (.ref D) H) ∨ (J.go i H ∧ ∃ NxA : Hp → Prop, (∀ H', NxA H' → ∃ m', m' < m ∧ W (i + 1) m' H') ∧ ∀ x H', J.yld i H x H' → g x (wipe σ vs) H' fun σa HB => wipe σa vs = wipe σ vs ∧ tt σa HB fun b HC =>
    if b = true then wiB σa HC fun JB HD => ∃ WB : Nat → Nat → Hp → Prop, (∃ m, WB 0 m HD) ∧ ∀ j k H, WB j k H →
      (JB.stop j H ∧ NxA H) ∨ (JB.go j H ∧ ∃ NxB : Hp → Prop, (∀ H', NxB H' → ∃ k', k' < k ∧ WB (j + 1) k' H') ∧ ∀ x H', JB.yld j H x H' → gB x (wipe σa vsB) H' fun σb HE => wipe σb vsB = wipe σa vsB ∧ ttB σb HE fun b HF =>
        if b = true then te σb HF fun y HG => ∃ (c : Int) (S : Int → Bool) (n : Nat), y = .int c ∧ HG D = some (SetO w D S n) ∧ n + 1 < scanBound ∧ NxB (upd HG D (SetO w D (fun j => S j || decide (j = c)) (if S c = true then n else n + 1))) else NxB HF)
    else NxA HC)
theorem sc2_core {pins : List (Addr × Obj)} {s : Shared} {σ : L2.St} {H : Hp} {Q : VK} {elt tg iter tgB iterB : Expr} {ifs ifsB : List Expr} {scope : Scope} {own : List (Str × Nat)} {vsB : List Nat} {pos pos' : Pos} {wi wiB : TI} {g gB : TG} {tt ttB : TT} {te : TE} {use : Option (Value → Sem Unit)} {Qf : Value → Shared → Prop}
    (mood : X.calm = true) (nodupN : X.N.Nodup) (I : Inv X pins σ H s) (sourceA : PI X tg iter wi) (ok : BlkOk X.N X.env.scope scope own) (subB : ∀ i ∈ vsB, i ∈ own.map (·.2))
    (targetA : ∀ (s : Shared) (H : Hp) (C : Addr) (cl : List (Str × Addr)) (fp : List Addr), PG (X.blk s H scope (compEnvC scope cl C X.env) fp) tg g) (testsA : ∀ (s : Shared) (H : Hp) (C : Addr) (cl : List (Str × Addr)) (fp : List Addr), PTs (X.blk s H scope (compEnvC scope cl C X.env) fp) ifs tt)
    (elemA : ∀ (s : Shared) (H : Hp) (C : Addr) (cl : List (Str × Addr)) (fp : List Addr), PE (X.blk s H scope (compEnvC scope cl C X.env) fp) elt te) (plainA : ∀ x, foldedSetIterable iter X.env x = pure x)
    (sourceB : ∀ (s : Shared) (H : Hp) (C : Addr) (cl : List (Str × Addr)) (fp : List Addr), PI (X.blk s H scope (compEnvC scope cl C X.env) fp) tgB iterB wiB)
    (targetB : ∀ (s : Shared) (H : Hp) (C : Addr) (cl : List (Str × Addr)) (fp : List Addr), PG (X.blk s H scope (compEnvC scope cl C X.env) fp) tgB gB)
    (testsB : ∀ (s : Shared) (H : Hp) (C : Addr) (cl : List (Str × Addr)) (fp : List Addr), PTs (X.blk s H scope (compEnvC scope cl C X.env) fp) ifsB ttB)
    (plainB : ∀ env x, foldedSetIterable iterB env x = pure x)
    (h : tSc2 X.w wi g tt wiB gB ttB te (own.map (·.2)) vsB σ H Q)
    (back : ∀ D C s' m H', Inv X pins σ H' s' → Q (.ref D) H' → s'.heap.Ns C m → FpOk X pins H' C → compPost (model X.prog X.w) X.A X.xe use Qf (.ref D) C (.ok .next) s') :
    wpAny (model X.prog X.w) X.A (comprehension (.SetComp elt [⟨tg, iter, ifs, 0⟩, ⟨tgB, iterB, ifsB, 0⟩] scope pos) scope X.env pos' (newSet (.type "set")) false (eval iter X.env) use) Qf X.xe s := by
  have captured : ∀ y ∈ scope.names, y.2 = .free → ∃ c, X.env.cells.lookup y.1 = some c := fun y hy e => by
    rcases ok.free y hy e with k | k
    · exact I.ok.has _ (.inl k)
    · exact I.ok.has _ (.inr k)
  refine wpAny_comprehension_free (use := use) rfl plainA (closure_ok captured) ok.kind (fun y hy e => by rw [ok.uniq y hy, e])
    (thn (sourceA.run pins s σ H _ I h) fun srcV sA gotX => thn gotX fun itV sB h2 => ?_)
  obtain ⟨it, fp, tn, J, HB, e, I2, T, st2, f2, q⟩ := h2
  subst e
  refine PpSet.newSet_ok (newEnv_comp ?_)
  generalize atD : sB.heap.objs.size = D
  have freshD : HB D = none := I2.hok.fresh (Nat.le_of_eq atD)
  obtain ⟨W, ⟨mes0, inv0⟩, walk0⟩ := q D freshD
  -- the new list
  generalize laid3 : ({ sB with heap := sB.heap.push { cls := .type "set", dict := none, data := .set #[] 0 (.fresh 0 0 (!X.w.params.followText "set-order")) } } : Shared) = sC
  have J3 : Inv X pins σ (upd HB D (SetO X.w D (fun _ => false) 0)) sC := by
    rw [← laid3]
    refine I2.laid (t' := sB.toks) (fun b o e => Heap.get?_push_of_some _ e) (Nat.le_of_eq atD) ?_
    rw [← atD]
    exact setO_new (setR_fresh X.w)
  have heap3 : sC.heap = sB.heap.push { cls := .type "set", dict := none, data := .set #[] 0 (.fresh 0 0 (!X.w.params.followText "set-order")) } := by rw [← laid3]
  have below : ∀ b ∈ fp, b < sB.heap.objs.size := fun b hb => by
    obtain ⟨o, e, _⟩ := T.obj _ _ st2 b hb
    exact Heap.lt_size e
  have roam3 : ∀ b ∈ fp, FpOk X pins (upd HB D (SetO X.w D (fun _ => false) 0)) b ∧ b < sC.heap.objs.size := fun b hb => by
    have hlt := below b hb
    refine ⟨⟨?_, (f2 b hb).2⟩, by rw [heap3, Heap.size_push]; exact Nat.lt_succ_of_lt hlt⟩
    rw [upd_ne (by rw [← atD]; exact Nat.ne_of_lt hlt)]
    exact (f2 b hb).1
  have turn3 : tn 0 sC.heap := T.keep _ _ _ st2 fun b _ o e => by rw [heap3]; exact Heap.get?_push_of_some _ e
  have J4 := block_start J3 ok nodupN roam3
  have tgt := targetA sC (upd HB D (SetO X.w D (fun _ => false) 0)) sC.heap.objs.size (cellsFrom (sC.heap.objs.size + 1) scope.names (cloFrom X.env.cells scope.names [])) fp
  have tst := testsA sC (upd HB D (SetO X.w D (fun _ => false) 0)) sC.heap.objs.size (cellsFrom (sC.heap.objs.size + 1) scope.names (cloFrom X.env.cells scope.names [])) fp
  have elm := elemA sC (upd HB D (SetO X.w D (fun _ => false) 0)) sC.heap.objs.size (cellsFrom (sC.heap.objs.size + 1) scope.names (cloFrom X.env.cells scope.names [])) fp
  have src1 := sourceB sC (upd HB D (SetO X.w D (fun _ => false) 0)) sC.heap.objs.size (cellsFrom (sC.heap.objs.size + 1) scope.names (cloFrom X.env.cells scope.names [])) fp
  have tgt1 := targetB sC (upd HB D (SetO X.w D (fun _ => false) 0)) sC.heap.objs.size (cellsFrom (sC.heap.objs.size + 1) scope.names (cloFrom X.env.cells scope.names [])) fp
  have tst1 := testsB sC (upd HB D (SetO X.w D (fun _ => false) 0)) sC.heap.objs.size (cellsFrom (sC.heap.objs.size + 1) scope.names (cloFrom X.env.cells scope.names [])) fp
  show codeAny _ _ (.compStart (.SetComp elt [⟨tg, iter, ifs, 0⟩, ⟨tgB, iterB, ifsB, 0⟩] scope pos) 0 (.ref it) (.ref D) (compEnvC scope (cellsFrom (sC.heap.objs.size + 1) scope.names (cloFrom X.env.cells scope.names [])) sC.heap.objs.size X.env)) (compPost (model X.prog X.w) X.A X.xe use Qf (.ref D) sC.heap.objs.size) { sC with heap := pushCells (sC.heap.push { cls := .type "dict", data := .dict #[] }) scope.names }
  have untr : ∀ b ∈ fp, (upd HB D (SetO X.w D (fun _ => false) 0)) b = none := fun b hb => (roam3 b hb).1.1
  generalize blkE : compEnvC scope (cellsFrom (sC.heap.objs.size + 1) scope.names (cloFrom X.env.cells scope.names [])) sC.heap.objs.size X.env = ce at J4 tgt tst elm src1 tgt1 tst1 ⊢
  have locE : ce.locals = sC.heap.objs.size := by subst blkE; rfl
  generalize heapE : upd HB D (SetO X.w D (fun _ => false) 0) = HC at J3 J4 tgt tst elm src1 tgt1 tst1 inv0 untr roam3
  generalize laid4 : ({ sC with heap := pushCells (sC.heap.push { cls := .type "dict", data := .dict #[] }) scope.names } : Shared) = sD at J4 ⊢
  have turn4 : tn 0 sD.heap := T.keep _ _ _ turn3 fun b _ o e => by rw [← laid4]; exact pushCells_keeps _ _ _ _ (Heap.get?_push_of_some _ e)
  have roams : ∀ {σ' : L2.St} {H' : Hp} {s' : Shared}, Inv (X.blk sC HC scope ce fp) [] σ' H' s' → (∀ b ∈ fp, H' b = none) → ∀ b ∈ fp, FpOk (X.blk sC HC scope ce fp) [] H' b := fun {σ' H' s'} I' nsC b hb =>
    ⟨nsC b hb, (I'.ok.exf b hb).1, I'.ok.exfs b hb, .inl hb, fun x c e => (I'.ok.exf b hb).2 x c e, fun p hp => absurd (show p ∈ ([] : List (Addr × Obj)) ++ [] from hp) (by simp)⟩
  have outer0 : codeAny (model X.prog X.w) X.A (.compLoop (.SetComp elt [⟨tg, iter, ifs, 0⟩, ⟨tgB, iterB, ifsB, 0⟩] scope pos) 0 (.ref it) (.ref D) ce) (compPost (model X.prog X.w) X.A X.xe use Qf (.ref D) sC.heap.objs.size) sD := by
    refine loopS_out (plainB ce) (fun n s' => ∃ i H', Inv (X.blk sC HC scope ce fp) [] (wipe σ (own.map (·.2))) H' s' ∧ tn i s'.heap ∧ (∀ b ∈ fp, H' b = none) ∧ W i n H') ?_ mes0 ⟨0, HC, J4, turn4, untr, inv0⟩
    rintro n sE ⟨i, HE, J5, turn5, un5, inv5⟩
    rcases walk0 i n HE inv5 with ⟨atEnd, done0⟩ | ⟨more, NxA, reach, body0⟩
    · have ended := T.done (X.blk sC HC scope ce fp) rfl rfl rfl mood i [] sE _ HE (fun _ _ => False) J5 (roams J5 un5) turn5 atEnd
      refine thnF ended fun r sF ⟨hr, J6⟩ => ?_
      subst hr
      -- back in the def's context
      have J7 : Inv X pins σ HE sF := J3.call' (ch := fp) J6.os J6.base J6.hok J6.bare fun b hb => ⟨(roam3 b hb).1.2.2.2.1, (roam3 b hb).1.2.1, (roam3 b hb).1.2.2.2.2.1, (roam3 b hb).1.2.2.2.2.2⟩
      have freeC : HE sC.heap.objs.size = none := by
        have z : HE ce.locals = none := J6.free
        rw [locE] at z
        exact z
      obtain ⟨m, nsC, _⟩ := J6.loc
      have nsC : sF.heap.Ns ce.locals m := nsC
      rw [locE] at nsC
      exact back D sC.heap.objs.size sF m HE J7 done0 nsC (J3.fpOk (Nat.le_refl _) freeC)
    · have given := T.item (X.blk sC HC scope ce fp) rfl rfl rfl mood i [] sE _ HE (fun _ _ => False) J5 (roams J5 un5) turn5 more
      refine thnF given fun r sF ⟨u, hr, got6⟩ => ?_
      subst hr
      refine thnF got6 fun _ sG ⟨x, HG, J7, rel7, yld7, turn7, un7⟩ => ?_
      have J7p := J7.pinned (roams J7 un7) (T.obj _ _ turn7)
      refine thnF (tgt.run _ sG _ HG x u _ J7p rel7 (body0 x HG yld7)) fun _ sH ⟨τ, HH, J8, wip8, go8⟩ => ?_
      refine thnF (tst.run _ sH τ HH _ J8 go8) fun b sI ⟨HI, J9, go9⟩ => ?_
      -- the turn's end, from any slots that know what the block knew at its start
      have close : ∀ {ρ : L2.St} {s' : Shared} {H' : Hp}, Inv (X.blk sC HC scope ce fp) ([] ++ pinsAt fp sG.heap) ρ H' s' → (wipe σ (own.map (·.2))).length = ρ.length → (∀ (j : Nat) v, (wipe σ (own.map (·.2)))[j]? = some (some v) → ρ[j]? = some (some v)) → NxA H' →
          ∃ m, m < n ∧ ∃ i H', Inv (X.blk sC HC scope ce fp) [] (wipe σ (own.map (·.2))) H' s' ∧ tn i s'.heap ∧ (∀ b ∈ fp, H' b = none) ∧ W i m H' := fun {ρ s' H'} I' lenσ hk nextW => by
        obtain ⟨m', lessM, invM⟩ := reach H' nextW
        have kept : ∀ b ∈ fp, ∀ o, sG.heap.get? b = some o → s'.heap.get? b = some o ∧ H' b = none := fun b hb o e =>
          let z := I'.pin (b, o) (List.mem_append_right _ (List.mem_append_right _ (mem_pinsAt hb e)))
          ⟨z.1, z.2.1⟩
        refine ⟨m', lessM, i + 1, H', (I'.unpinned (pins := [])).weak lenσ hk, T.keep _ _ _ turn7 fun b hb o e => (kept b hb o e).1, fun b hb => ?_, invM⟩
        obtain ⟨o, e, _⟩ := T.obj _ _ turn7 b hb
        exact (kept b hb o e).2
      have len8 : (wipe σ (own.map (·.2))).length = τ.length := by rw [← wip8, wipe_length]
      have know8 : ∀ (j : Nat) v, (wipe σ (own.map (·.2)))[j]? = some (some v) → τ[j]? = some (some v) := fun j v e => by
        rw [← wip8] at e
        exact (wipe_some e).1
      have know9 : ∀ (j : Nat) v, (wipe σ (own.map (·.2)))[j]? = some (some v) → (wipe τ vsB)[j]? = some (some v) := fun j v e => by
        rw [← wip8] at e
        obtain ⟨eqB, e2⟩ := wipe_some e
        rw [wipe_out fun z => e2 (subB j z)]
        exact eqB
      cases b with
      | false =>
        simp only [Bool.false_eq_true, if_false] at go9 ⊢
        exact close J9 len8 know8 go9
      | true =>
        simp only [if_true] at go9 ⊢
        refine thnF (src1.run _ sI τ HI _ J9 go9) fun srcV sJ gotX => thnF gotX fun itV sK got11 => ?_
        obtain ⟨itB, fpB, tnB, JB, HK, eqB, J11, T1, turn11, roam11, WB, ⟨mes1, inv1⟩, step_in⟩ := got11
        subst eqB
        -- the inner outer0
        have roams1 : ∀ {H' : Hp}, (∀ b ∈ fpB, H' b = none) → ∀ b ∈ fpB, FpOk (X.blk sC HC scope ce fp) ([] ++ pinsAt fp sG.heap) H' b := fun nsC b hb => ⟨nsC b hb, (roam11 b hb).2⟩
        have inner0 : codeAny (model X.prog X.w) X.A (.compLoop (.SetComp elt [⟨tg, iter, ifs, 0⟩, ⟨tgB, iterB, ifsB, 0⟩] scope pos) 1 (.ref itB) (.ref D) ce)
            (fun r s' => match r with
              | .ok _ => ∃ m, m < n ∧ ∃ i H', Inv (X.blk sC HC scope ce fp) [] (wipe σ (own.map (·.2))) H' s' ∧ tn i s'.heap ∧ (∀ b ∈ fp, H' b = none) ∧ W i m H'
              | .error _ => False) sK := by
          refine loopS_in (fun k s' => ∃ j H', Inv (X.blk sC HC scope ce fp) ([] ++ pinsAt fp sG.heap) (wipe τ vsB) H' s' ∧ tnB j s'.heap ∧ (∀ b ∈ fpB, H' b = none) ∧ WB j k H') ?_ mes1 ⟨0, HK, J11.weak (wipe_length _ _) (fun j v e => (wipe_some e).1), turn11, fun b hb => (roam11 b hb).1, inv1⟩
          rintro k sL ⟨j, HL, J12, turn12, un12, inv12⟩
          rcases step_in j k HL inv12 with ⟨atEnd1, nextI⟩ | ⟨more1, NxB, reach1, body1⟩
          · refine thnF (T1.done (X.blk sC HC scope ce fp) rfl rfl rfl mood j _ sL (wipe τ vsB) HL (fun _ _ => False) J12 (roams1 un12) turn12 atEnd1) fun r sM ⟨hr, J13⟩ => ?_
            subst hr
            exact close J13 (len8.trans (wipe_length τ vsB).symm) know9 nextI
          · refine thnF (T1.item (X.blk sC HC scope ce fp) rfl rfl rfl mood j _ sL (wipe τ vsB) HL (fun _ _ => False) J12 (roams1 un12) turn12 more1) fun r sM ⟨u1, hr, got13⟩ => ?_
            subst hr
            refine thnF got13 fun _ sN ⟨x1, HN, J14, rel14, yld14, turn14, un14⟩ => ?_
            have J14p := J14.pinned (roams1 un14) (T1.obj _ _ turn14)
            refine thnF (tgt1.run _ sN (wipe τ vsB) HN x1 u1 _ J14p rel14 (body1 x1 HN yld14)) fun _ sO ⟨υ, HO, J15, wip15, go15⟩ => ?_
            refine thnF (tst1.run _ sO υ HO _ J15 go15) fun b1 sP ⟨HP, J16, go16⟩ => ?_
            have close1 : ∀ {s' : Shared} {H' : Hp}, Inv (X.blk sC HC scope ce fp) (([] ++ pinsAt fp sG.heap) ++ pinsAt fpB sN.heap) υ H' s' → NxB H' → ∃ m, m < k ∧ ∃ j H', Inv (X.blk sC HC scope ce fp) ([] ++ pinsAt fp sG.heap) (wipe τ vsB) H' s' ∧ tnB j s'.heap ∧ (∀ b ∈ fpB, H' b = none) ∧ WB j m H' := fun {s' H'} I' nextW => by
              obtain ⟨m', lessM, invM⟩ := reach1 H' nextW
              have kept : ∀ b ∈ fpB, ∀ o, sN.heap.get? b = some o → s'.heap.get? b = some o ∧ H' b = none := fun b hb o e =>
                let z := I'.pin (b, o) (List.mem_append_right _ (List.mem_append_right _ (mem_pinsAt hb e)))
                ⟨z.1, z.2.1⟩
              refine ⟨m', lessM, j + 1, H', I'.unpinned.weak (by rw [← wip15, wipe_length]) (fun j v e => by rw [← wip15] at e; exact (wipe_some e).1), T1.keep _ _ _ turn14 fun b hb o e => (kept b hb o e).1, fun b hb => ?_, invM⟩
              obtain ⟨o, e, _⟩ := T1.obj _ _ turn14 b hb
              exact (kept b hb o e).2
            cases b1 with
            | false =>
              simp only [Bool.false_eq_true, if_false] at go16 ⊢
              exact close1 J16 go16
            | true =>
              simp only [if_true] at go16 ⊢
              refine thnF (elm.run _ sP υ HP _ J16 go16) fun z sQ ⟨yv, HQ, J17, rel17, cb, S0, n0, ey, acc17, room17, nextW⟩ => ?_
              subst ey
              obtain ⟨tz, rfl⟩ := (show ∃ t, z = Value.int cb t from rel17)
              exact addI_ok (X := X.blk sC HC scope ce fp) J17 acc17 room17 fun sR J18 => close1 J18 nextW
        exact startS_in inner0 (T1.self X.A 0 _ _ _ turn11 inner0)
  exact PpSet.codeAny_compStart_set outer0 (T.self X.A 0 _ _ _ turn4 outer0)
/-- as a value -/
theorem pe_sc2 {elt tg iter tgB iterB : Expr} {ifs ifsB : List Expr} {scope : Scope} {own : List (Str × Nat)} {vsB : List Nat} {pos : Pos} {wi wiB : TI} {g gB : TG} {tt ttB : TT} {te : TE} (mood : X.calm = true) (nodupN : X.N.Nodup) (sourceA : PI X tg iter wi) (ok : BlkOk X.N X.env.scope scope own) (subB : ∀ i ∈ vsB, i ∈ own.map (·.2))
    (targetA : ∀ (s : Shared) (H : Hp) (C : Addr) (cl : List (Str × Addr)) (fp : List Addr), PG (X.blk s H scope (compEnvC scope cl C X.env) fp) tg g) (testsA : ∀ (s : Shared) (H : Hp) (C : Addr) (cl : List (Str × Addr)) (fp : List Addr), PTs (X.blk s H scope (compEnvC scope cl C X.env) fp) ifs tt)
    (sourceB : ∀ (s : Shared) (H : Hp) (C : Addr) (cl : List (Str × Addr)) (fp : List Addr), PI (X.blk s H scope (compEnvC scope cl C X.env) fp) tgB iterB wiB)
    (targetB : ∀ (s : Shared) (H : Hp) (C : Addr) (cl : List (Str × Addr)) (fp : List Addr), PG (X.blk s H scope (compEnvC scope cl C X.env) fp) tgB gB) (testsB : ∀ (s : Shared) (H : Hp) (C : Addr) (cl : List (Str × Addr)) (fp : List Addr), PTs (X.blk s H scope (compEnvC scope cl C X.env) fp) ifsB ttB)
    (elemA : ∀ (s : Shared) (H : Hp) (C : Addr) (cl : List (Str × Addr)) (fp : List Addr), PE (X.blk s H scope (compEnvC scope cl C X.env) fp) elt te) (plainA : ∀ x, foldedSetIterable iter X.env x = pure x := by intro _; rfl) (plainB : ∀ env x, foldedSetIterable iterB env x = pure x := by intro _ _; rfl) :
    PE X (.SetComp elt [⟨tg, iter, ifs, 0⟩, ⟨tgB, iterB, ifsB, 0⟩] scope pos) (tSc2 X.w wi g tt wiB gB ttB te (own.map (·.2)) vsB) := by
  refine ⟨fun pins s σ H Q I h => ?_⟩
  rw [PpSet.eval_SetComp]
  refine sc2_core mood nodupN I sourceA ok subB targetA testsA elemA plainA sourceB targetB testsB plainB h fun D C s' m H' I' q nsC f => ⟨m, nsC, fun h'' sb => ?_⟩
  obtain ⟨f0, f1, f2, roam3, f4, f5⟩ := f
  exact ⟨.ref D, H', I'.turned (t' := s'.toks) (fun b o hb e => (sb.2 b hb).trans e) f0 f1 roam3 f4 f5, rfl, q⟩
end
end Sq

set_option Elab.async false
set_option linter.all false
set_option maxHeartbeats 1000000
/-! Choices counted: the longest run after a replacement, and how many choices are good. -/
namespace Sq
def la (L k : Int) : Int := if k > L then L else (L + 1) / k + k - 2
/-- 2, 3, .., g -/
def cand (g : Int) : List Int := (List.range (g - 1).toNat).map fun i : Nat => 2 + (i : Int)
theorem mem_cand {g k : Int} : k ∈ cand g ↔ 2 ≤ k ∧ k ≤ g := by
  unfold cand
  rw [List.mem_map]
  constructor
  · rintro ⟨i, hi, rfl⟩
    have := List.mem_range.mp hi
    omega
  · intro h
    exact ⟨(k - 2).toNat, List.mem_range.mpr (by omega), by omega⟩
def cnt (g : Int) : Nat → Int → Nat
  | 0, L => if L ≤ 1 then 1 else 0
  | n + 1, L => ((cand g).map fun k => cnt g n (la L k)).sum
theorem la_le {L k : Int} (hk : 2 ≤ k) (h0 : 0 ≤ L) : 0 ≤ la L k ∧ la L k ≤ L := by
  unfold la
  split
  · omega
  · rename_i h
    have hk' : k ≤ L := by omega
    have q1 : 1 ≤ (L + 1) / k := Int.le_ediv_of_mul_le (by omega) (by omega)
    refine ⟨by omega, ?_⟩
    by_cases c : (L + 1) / k + k - 2 ≤ L
    · exact c
    · exfalso
      have e := Int.mul_ediv_add_emod (L + 1) k
      have r0 := Int.emod_nonneg (L + 1) (by omega : k ≠ 0)
      generalize (L + 1) / k = q at *
      have m : (k - 1) * (q - 1) ≥ 0 := Int.mul_nonneg (by omega) (by omega)
      have e2 : (k - 1) * (q - 1) = k * q - k - q + 1 := by
        rw [Int.sub_mul, Int.mul_sub, Int.mul_one, Int.one_mul]
        omega
      omega
/-- what a reach says of the longest run -/
theorem la_reach {L k R : Int} (hk : 2 ≤ k) (hR : 1 ≤ R) (h0 : 0 ≤ L) (h : la L k ≤ R) : L ≤ grow R := by
  have g := (rw1_le_grow (k := k) hk hR).1
  unfold la at h
  split at h
  · have := grow_gt hR
    omega
  · rename_i hl
    by_cases c : k ≤ R + 2
    · rw [rw1_low c] at g
      have lt : L + 1 < (R + 3 - k) * k := by
        have : (L + 1) / k < R + 3 - k := by omega
        exact (Int.ediv_lt_iff_lt_mul (by omega)).mp this
      omega
    · exfalso
      have : 0 ≤ (L + 1) / k := Int.ediv_nonneg (by omega) (by omega)
      omega
theorem cnt_zero {g : Int} : ∀ {n : Nat} {L : Int}, 0 ≤ L → up n 1 < L → cnt g n L = 0
  | 0, L, _, h => if_neg (by show ¬ L ≤ 1; have : (1 : Int) < L := h; omega)
  | n + 1, L, h0, h => by
    show ((cand g).map fun k => cnt g n (la L k)).sum = 0
    have all : ∀ x ∈ (cand g).map (fun k => cnt g n (la L k)), x = 0 := fun x hx => by
      obtain ⟨k, hk, rfl⟩ := List.mem_map.mp hx
      have k2 := (mem_cand.mp hk).1
      refine cnt_zero (la_le k2 h0).1 ?_
      by_cases c : la L k ≤ up n 1
      · have := la_reach k2 (up_pos (by decide) n) h0 c
        have e : up (n + 1) 1 = grow (up n 1) := rfl
        omega
      · omega
    generalize (cand g).map (fun k => cnt g n (la L k)) = xs at all
    induction xs with
    | nil => rfl
    | cons x xs ih => rw [List.sum_cons, all x (List.mem_cons_self ..), ih fun y hy => all y (List.mem_cons_of_mem _ hy)]
theorem cand_len (g : Int) : (cand g).length = (g - 1).toNat := by
  unfold cand
  rw [List.length_map, List.length_range]
theorem cnt_le {g : Int} : ∀ (n : Nat) (L : Int), cnt g n L ≤ (g - 1).toNat ^ n
  | 0, L => by show (if L ≤ 1 then 1 else 0) ≤ 1; split <;> omega
  | n + 1, L => by
    show ((cand g).map fun k => cnt g n (la L k)).sum ≤ (g - 1).toNat ^ (n + 1)
    have b : ∀ (xs : List Int), (xs.map fun k => cnt g n (la L k)).sum ≤ xs.length * (g - 1).toNat ^ n := fun xs => by
      induction xs with
      | nil => exact Nat.zero_le _
      | cons x xs ih =>
        rw [List.map_cons, List.sum_cons, List.length_cons, Nat.add_mul, Nat.one_mul]
        have := cnt_le (g := g) n (la L x)
        omega
    have := b (cand g)
    rw [cand_len] at this
    rw [Nat.pow_succ, Nat.mul_comm]
    exact this
/-- how far n steps reach decides how many are needed -/
theorem up_up {n m : Nat} {v : Int} (hv : 1 ≤ v) (h : n ≤ m) : up n v ≤ up m v := up_mono hv h
/-- distinct ints between 0 and L -/
theorem few_ints : ∀ {ds : List Int} {L : Int}, ds.Nodup → (∀ x ∈ ds, 0 ≤ x ∧ x ≤ L) → 0 ≤ L → ds.length ≤ L.toNat + 1 := fun {ds L} nd h h0 => by
  have sub : (ds.map Int.toNat).Nodup := by
    induction ds with
    | nil => exact List.nodup_nil
    | cons x xs ih =>
      rw [List.map_cons, List.nodup_cons]
      rw [List.nodup_cons] at nd
      refine ⟨fun z => ?_, ih nd.2 fun y hy => h y (List.mem_cons_of_mem _ hy)⟩
      obtain ⟨y, hy, e⟩ := List.mem_map.mp z
      have hx := h x (List.mem_cons_self ..)
      have hy' := h y (List.mem_cons_of_mem _ hy)
      have : y = x := by omega
      exact nd.1 (this ▸ hy)
  have sub2 : (ds.map Int.toNat) ⊆ List.range (L.toNat + 1) := fun x hx => by
    obtain ⟨y, hy, e⟩ := List.mem_map.mp hx
    have := h y hy
    exact List.mem_range.mpr (by omega)
  have := List.Nodup.length_le_of_subset sub sub2
  rw [List.length_map, List.length_range] at this
  exact this
end Sq

set_option Elab.async false
set_option linter.all false
set_option maxRecDepth 100000
set_option maxHeartbeats 1000000
/-! Walks with an open step; members without doubles; the lengths by place. -/
namespace Sq
open PySem PySem.Spec PyProof.Rows L2
theorem walkL {K : PySem.W.Frag} {a : Addr} {xs : List V} {Qd : Hp → Prop} {St : V → Hp → (Hp → Prop) → Prop} {H0 : Hp} (Pv : Nat → Hp → Prop) (h0 : Pv 0 H0) (hl : ∀ i H, i ≤ xs.length → Pv i H → SqL K H a xs)
    (hs : ∀ i x H, xs[i]? = some x → Pv i H → St x H (Pv (i + 1))) (hd : ∀ H, Pv xs.length H → Qd H) :
    ∃ W : Nat → Nat → Hp → Prop, (∃ m, W 0 m H0) ∧ ∀ i m H, W i m H → ((Itl K a).stop i H ∧ Qd H) ∨ ((Itl K a).go i H ∧ ∃ Nx : Hp → Prop, (∀ H', Nx H' → ∃ m', m' < m ∧ W (i + 1) m' H') ∧ ∀ x H', (Itl K a).yld i H x H' → St x H' Nx) := by
  refine ⟨fun i m H => m = xs.length - i ∧ i ≤ xs.length ∧ Pv i H, ⟨_, rfl, Nat.zero_le _, h0⟩, ?_⟩
  rintro i m H ⟨rfl, le, p⟩
  have there := hl i H le p
  by_cases lt : i < xs.length
  · exact .inr ⟨⟨xs, xs[i], there, List.getElem?_eq_getElem lt⟩, Pv (i + 1), fun H' p' => ⟨xs.length - (i + 1), by omega, rfl, lt, p'⟩, fun x H' y => by
      obtain ⟨rfl, e⟩ := y
      exact hs i x _ (e xs there) p⟩
  · obtain rfl : i = xs.length := by omega
    exact .inl ⟨⟨xs, there, Nat.le_refl _⟩, hd H p⟩
theorem walkR {lo : Int} {n : Nat} {Qd : Hp → Prop} {St : V → Hp → (Hp → Prop) → Prop} {H0 : Hp} (Pv : Nat → Hp → Prop) (h0 : Pv 0 H0)
    (hs : ∀ i H, i < n → Pv i H → St (.int (lo + i)) H (Pv (i + 1))) (hd : ∀ H, Pv n H → Qd H) :
    ∃ W : Nat → Nat → Hp → Prop, (∃ m, W 0 m H0) ∧ ∀ i m H, W i m H → ((Itr lo n).stop i H ∧ Qd H) ∨ ((Itr lo n).go i H ∧ ∃ Nx : Hp → Prop, (∀ H', Nx H' → ∃ m', m' < m ∧ W (i + 1) m' H') ∧ ∀ x H', (Itr lo n).yld i H x H' → St x H' Nx) := by
  refine ⟨fun i m H => m = n - i ∧ i ≤ n ∧ Pv i H, ⟨_, rfl, Nat.zero_le _, h0⟩, ?_⟩
  rintro i m H ⟨rfl, le, p⟩
  by_cases lt : i < n
  · exact .inr ⟨lt, Pv (i + 1), fun H' p' => ⟨n - (i + 1), by omega, rfl, lt, p'⟩, fun x H' y => by
      obtain ⟨rfl, rfl⟩ := y
      exact hs i _ lt p⟩
  · obtain rfl : i = n := by omega
    exact .inl ⟨Nat.le_refl _, hd H p⟩
/-! ### without doubles -/
def dd (vs : List Int) : List Int := vs.foldl (fun ds x => if x ∈ ds then ds else ds ++ [x]) []
theorem dd_snoc (vs : List Int) (y : Int) : dd (vs ++ [y]) = if y ∈ dd vs then dd vs else dd vs ++ [y] := by
  unfold dd
  rw [List.foldl_append]
  rfl
theorem dd_mem (vs : List Int) (x : Int) : x ∈ dd vs ↔ x ∈ vs := by
  suffices h : ∀ (n : Nat) (vs : List Int), vs.length = n → (x ∈ dd vs ↔ x ∈ vs) from h _ vs rfl
  intro n
  induction n with
  | zero =>
    intro vs h
    rw [List.length_eq_zero_iff.mp h]
    exact Iff.rfl
  | succ n ih =>
    intro vs h
    obtain ⟨ws, y, rfl⟩ : ∃ ws y, vs = ws ++ [y] := ⟨vs.dropLast, vs.getLast (by intro z; rw [z] at h; cases h), (List.dropLast_concat_getLast _).symm⟩
    have hw : ws.length = n := by simpa using h
    have e := ih ws hw
    rw [dd_snoc, List.mem_append, List.mem_singleton]
    by_cases c : y ∈ dd ws
    · rw [if_pos c, e]
      constructor
      · exact .inl
      · rintro (z | z)
        · exact z
        · exact e.mp (z ▸ c)
    · rw [if_neg c, List.mem_append, List.mem_singleton, e]
theorem dd_nodup (vs : List Int) : (dd vs).Nodup ∧ (dd vs).length ≤ vs.length := by
  suffices h : ∀ (n : Nat) (vs : List Int), vs.length = n → (dd vs).Nodup ∧ (dd vs).length ≤ vs.length from h _ vs rfl
  intro n
  induction n with
  | zero =>
    intro vs h
    rw [List.length_eq_zero_iff.mp h]
    exact ⟨List.nodup_nil, Nat.le_refl _⟩
  | succ n ih =>
    intro vs h
    obtain ⟨ws, y, rfl⟩ : ∃ ws y, vs = ws ++ [y] := ⟨vs.dropLast, vs.getLast (by intro z; rw [z] at h; cases h), (List.dropLast_concat_getLast _).symm⟩
    have hw : ws.length = n := by simpa using h
    obtain ⟨a, b⟩ := ih ws hw
    rw [dd_snoc, List.length_append]
    by_cases c : y ∈ dd ws
    · rw [if_pos c]
      exact ⟨a, by omega⟩
    · rw [if_neg c, List.length_append]
      refine ⟨List.nodup_append.mpr ⟨a, by simp, ?_⟩, Nat.add_le_add_right b 1⟩
      intro x hx y' hy z
      rw [List.mem_singleton] at hy
      exact c (by rw [← hy, ← z]; exact hx)
theorem dd_set (vs : List Int) (y : Int) : (fun j => decide (j ∈ dd vs) || decide (j = y)) = (fun j => decide (j ∈ dd (vs ++ [y]))) ∧ (if decide (y ∈ dd vs) = true then (dd vs).length else (dd vs).length + 1) = (dd (vs ++ [y])).length := by
  constructor
  · funext j
    rw [Bool.eq_iff_iff]
    simp only [Bool.or_eq_true, decide_eq_true_eq, dd_mem, List.mem_append, List.mem_singleton]
  · rw [dd_snoc]
    by_cases c : y ∈ dd vs
    · rw [if_pos (decide_eq_true c), if_pos c]
    · rw [if_neg (by simpa using c), if_neg c, List.length_append]
      rfl
/-! ### the lengths by place -/
structure Lens (n : Nat) (g L : Int) (i : Nat) (rows : List (List Int)) : Prop where
  len : rows.length = i + 1
  zero : rows[0]? = some [L]
  asc : ∀ (p : Nat) (r : List Int), rows[p]? = some r → r.Pairwise (· < ·)
  mem : ∀ (p : Nat) (r : List Int), rows[p]? = some r → ∀ x ∈ r, 0 ≤ x ∧ x ≤ L
  next : ∀ (p : Nat) (r r' : List Int), rows[p]? = some r → rows[p + 1]? = some r' → ∀ x, x ∈ r' ↔ (∃ l ∈ r, ∃ k, 2 ≤ k ∧ k ≤ g ∧ x = la l k) ∧ x ≤ up (n - (p + 1)) 1
  short : L < 63 ∨ ∀ (p : Nat) (r : List Int), rows[p]? = some r → r.length ≤ 6
theorem Lens.start {n : Nat} {g L : Int} (h0 : 0 ≤ L) : Lens n g L 0 [[L]] where
  len := rfl
  zero := rfl
  asc := fun p r e => by
    match p, e with
    | 0, e => cases e; exact List.pairwise_singleton _ _
  mem := fun p r e x hx => by
    match p, e with
    | 0, e =>
      cases e
      rw [List.mem_singleton.mp hx]
      exact ⟨h0, Int.le_refl _⟩
  next := fun p r r' e e' => by
    match p, e' with
    | 0, e' => cases e'
    | p + 1, e' => cases e'
  short := .inr fun p r e => by
    match p, e with
    | 0, e => cases e; exact (show 1 ≤ 6 by decide)
theorem asc_nodup {ns : List Int} (h : ns.Pairwise (· < ·)) : ns.Nodup := List.Pairwise.imp (fun {a b} z e => by omega) h
/-- one place more -/
theorem Lens.more {n : Nat} {g L : Int} {i : Nat} {rows : List (List Int)} {r : List Int} {ns : List Int} (S : Lens n g L i rows) (hr : rows[i]? = some r) (h0 : 0 ≤ L) (hi : i < n) (lim : L < 63 ∨ (n ≤ 4 ∧ g ≤ 7))
    (asc : ns.Pairwise (· < ·)) (mem : ∀ x, x ∈ ns ↔ ∃ l ∈ r, ∃ k, 2 ≤ k ∧ k ≤ g ∧ x = la l k) (few : ns.length ≤ r.length * (g - 1).toNat) :
    Lens n g L (i + 1) (rows ++ [ns.filter fun x => decide (x ≤ up (n - (i + 1)) 1)]) := by
  have len := S.len
  have last : ∀ p q, (rows ++ [ns.filter fun x => decide (x ≤ up (n - (i + 1)) 1)])[p]? = some q → rows[p]? = some q ∨ (p = i + 1 ∧ q = ns.filter fun x => decide (x ≤ up (n - (i + 1)) 1)) := fun p q e => by
    by_cases c : p < rows.length
    · rw [List.getElem?_append_left c] at e
      exact .inl e
    · rw [List.getElem?_append_right (by omega)] at e
      have hp : p = rows.length := by
        have := (List.getElem?_eq_some_iff.mp e).1
        simp at this
        omega
      rw [hp, Nat.sub_self] at e
      cases e
      exact .inr ⟨by omega, rfl⟩
  have bnd : ∀ x ∈ ns, 0 ≤ x ∧ x ≤ L := fun x hx => by
    obtain ⟨l, hl, k, k1, k2, rfl⟩ := (mem x).mp hx
    have a := S.mem i r hr l hl
    have b := la_le k1 a.1
    omega
  have sub : ∀ x ∈ ns.filter (fun x => decide (x ≤ up (n - (i + 1)) 1)), x ∈ ns ∧ x ≤ up (n - (i + 1)) 1 := fun x hx => by
    obtain ⟨a, b⟩ := List.mem_filter.mp hx
    exact ⟨a, of_decide_eq_true b⟩
  refine ⟨by rw [List.length_append, len]; rfl, ?_, fun p q e => ?_, fun p q e x hx => ?_, fun p q q' e e' x => ?_, ?_⟩
  · rw [List.getElem?_append_left (by omega)]
    exact S.zero
  · rcases last p q e with e | ⟨_, rfl⟩
    · exact S.asc p q e
    · exact asc.filter _
  · rcases last p q e with e | ⟨_, rfl⟩
    · exact S.mem p q e x hx
    · exact bnd x (sub x hx).1
  · rcases last (p + 1) q' e' with e' | ⟨hp, rfl⟩
    · have lt := (List.getElem?_eq_some_iff.mp e').1
      rcases last p q e with e | ⟨hp, _⟩
      · exact S.next p q q' e e' x
      · omega
    · have hp' : p = i := by omega
      subst hp'
      rcases last p q e with e | ⟨hp, _⟩
      · rw [hr] at e
        cases e
        rw [List.mem_filter, mem x, decide_eq_true_eq]
      · omega
  · rcases lim with l | ⟨n4, g7⟩
    · exact .inl l
    · rcases S.short with l | sh
      · exact .inl l
      · refine .inr fun p q e => ?_
        rcases last p q e with e | ⟨hp, rfl⟩
        · exact sh p q e
        · by_cases z : i = 0
          · subst z
            have e0 := S.zero
            rw [hr] at e0
            cases e0
            have := List.length_filter_le (fun x => decide (x ≤ up (n - (0 + 1)) 1)) ns
            have h1 : [L].length = 1 := rfl
            rw [h1] at few
            omega
          · have nd := (asc_nodup asc).filter (fun x => decide (x ≤ up (n - (i + 1)) 1))
            have := few_ints (L := 4) nd (fun x hx => ⟨(bnd x (sub x hx).1).1, Int.le_trans (sub x hx).2 (up_mono (v := 1) (by decide) (j := 2) (by omega))⟩) (by decide)
            omega
end Sq

set_option Elab.async false
set_option linter.all false
set_option maxRecDepth 100000
set_option maxHeartbeats 2000000
/-! Generators that live beside their consumer: what stands, seen from either side. -/
namespace Sq
open PySem PySem.Spec PyProof.Rows L2 GenW
/-! ### the heap up to an address -/
def cutH (h : Heap) (n : Nat) : Heap := { h with objs := (h.objs.toList.take n).toArray }
theorem cutH_at (h : Heap) (n b : Nat) : (cutH h n).objs[b]? = if b < n then h.objs[b]? else none := by
  unfold cutH
  rw [List.getElem?_toArray, List.getElem?_take, Array.getElem?_toList]
theorem cutH_get {h : Heap} {n b : Nat} {o : Obj} : (cutH h n).get? b = some o ↔ b < n ∧ h.get? b = some o := by
  unfold Heap.get?
  rw [cutH_at]
  by_cases c : b < n
  · rw [if_pos c]
    exact ⟨fun q => ⟨c, q⟩, fun q => q.2⟩
  · rw [if_neg c]
    exact ⟨fun q => (nomatch q), fun q => absurd q.1 c⟩
theorem cutH_size {h : Heap} {n : Nat} : (cutH h n).objs.size = min n h.objs.size := by
  unfold cutH
  simp
def cutSh (s : Shared) (n : Nat) : Shared := { s with heap := cutH s.heap n }
theorem cutS_all {s : Shared} {n : Nat} (h : s.heap.objs.size ≤ n) : cutSh s n = s := by
  unfold cutSh cutH
  rw [List.take_of_length_le (by simpa using h)]
theorem frames_cut {h base : Heap} {n : Nat} : ∀ {l : List Env}, h.FunFrames base l → (∀ b ∈ frs l, b < n) → (cutH h n).FunFrames base l
  | [], _, _ => trivial
  | env :: l, q, low => by
    obtain ⟨hk, ⟨L, o, hf, hn, ho, hd⟩, hr⟩ := q
    have eL : frs (env :: l) = L :: frs l := by
      unfold frs
      rw [List.filterMap_cons, hf]
    rw [eL] at low
    exact ⟨hk, ⟨L, o, hf, hn, cutH_get.mpr ⟨low L List.mem_cons_self, ho⟩, hd⟩, frames_cut hr fun b hb => low b (List.mem_cons_of_mem _ hb)⟩
/-! ### what is kept out of sight -/
def HidO (b : Addr) (o : Obj) : HO := .ext fun h => h.get? b = some o
def hidP (prv : List Addr) (h : Heap) (H : Hp) : Hp := fun b => if b ∈ prv then (h.get? b).map (HidO b) else H b
def unh (prv : List Addr) (H : Hp) : Hp := fun b => if b ∈ prv then none else H b
theorem hidP_in {prv : List Addr} {h : Heap} {H : Hp} {b : Addr} {o : Obj} (m : b ∈ prv) (e : h.get? b = some o) : hidP prv h H b = some (HidO b o) := by
  unfold hidP
  rw [if_pos m, e]
  rfl
theorem hidP_out {prv : List Addr} {h : Heap} {H : Hp} {b : Addr} (m : b ∉ prv) : hidP prv h H b = H b := by
  unfold hidP
  rw [if_neg m]
theorem unh_in {prv : List Addr} {H : Hp} {b : Addr} (m : b ∈ prv) : unh prv H b = none := by
  unfold unh
  rw [if_pos m]
theorem unh_out {prv : List Addr} {H : Hp} {b : Addr} (m : b ∉ prv) : unh prv H b = H b := by
  unfold unh
  rw [if_neg m]
theorem hidP_same {prv : List Addr} {h : Heap} {H : Hp} (free : ∀ b ∈ prv, H b = none) : Same H (hidP prv h H) := fun b o e => by
  rw [hidP_out fun m => by rw [free b m] at e; cases e]
  exact e
theorem hid_ok {P : Program} {w : World} {prv : List Addr} {h : Heap} {H : Hp} (ok : HOk P w H h) (free : ∀ b ∈ prv, H b = none) : HOk P w (hidP prv h H) h := fun b u e => by
  have sm := hidP_same (h := h) free
  by_cases m : b ∈ prv
  · cases q : h.get? b with
    | none =>
      unfold hidP at e
      rw [if_pos m, q] at e
      cases e
    | some o =>
      rw [hidP_in m q] at e
      cases e
      exact ⟨q, ⟨o, q⟩, fun h1 h2 a k => k o a⟩
  · rw [hidP_out m] at e
    exact (ok b u e).stay (fun _ _ _ q => q) (fun c q => sm _ _ q) fun c xs q => sm _ _ q
theorem unh_ok {P : Program} {w : World} {prv : List Addr} {h : Heap} {H : Hp} (ok : HOk P w H h) (hid : ∀ b ∈ prv, ∃ φ, H b = some (.ext φ)) : HOk P w (unh prv H) h := fun b u e => by
  by_cases m : b ∈ prv
  · rw [unh_in m] at e
    cases e
  · rw [unh_out m] at e
    refine (ok b u e).stay (fun _ _ _ q => q) (fun c q => ?_) fun c xs q => ?_
    · rw [unh_out fun n => by obtain ⟨φ, z⟩ := hid c n; rw [q] at z; cases z]
      exact q
    · rw [unh_out fun n => by obtain ⟨φ, z⟩ := hid c n; rw [q] at z; cases z]
      exact q
section
variable {X : Cx} {pins : List (Addr × Obj)} {σ : L2.St} {H : Hp} {s : Shared}
theorem inv_unhid {prv : List Addr} (I : Inv X pins σ H s) (hid : ∀ b ∈ prv, ∃ φ, H b = some (.ext φ)) : Inv X pins σ (unh prv H) s := by
  have out : ∀ {b : Addr}, H b = none → unh prv H b = none := fun {b} e => by
    by_cases m : b ∈ prv
    · exact unh_in m
    · rw [unh_out m]
      exact e
  have keep : ∀ {b : Addr} {o : HO}, H b = some o → (∀ φ, o ≠ .ext φ) → unh prv H b = some o := fun {b o} e ne => by
    rw [unh_out fun m => by obtain ⟨φ, z⟩ := hid b m; rw [e] at z; exact ne φ (Option.some.inj z)]
    exact e
  refine ⟨I.ok, I.os, I.bare, ⟨fun b o e n => I.base.keep b o e n, fun b o e n => I.base.slot b o e n, fun b o e n hx => out (I.base.free b o e n hx), I.base.there, fun b xs q => keep (I.base.tups b xs q) (fun φ z => by cases z), fun b o u q => keep (I.base.frzs b o u q) (fun φ z => by cases z), fun b ps q => ?_⟩, I.loc, I.cell, out I.free, fun x c e => out (I.freeC x c e), fun p hp => ?_, unh_ok I.hok hid, I.len⟩
  · obtain ⟨more, e⟩ := I.base.tbls b ps q
    exact ⟨more, keep e (fun φ z => by cases z)⟩
  · obtain ⟨a, b, c, d, e⟩ := I.pin p hp
    exact ⟨a, out b, c, d, e⟩
/-- the generators' table may change -/
theorem inv_gens (I : Inv X pins σ H s) {s' : Shared} (hh : s'.heap = s.heap) (ho : s'.os = s.os) (hg : AllBare s'.gens) : Inv X pins σ H s' :=
  I.call' (ch := []) ho (by rw [hh]; exact Un.refl) (by rw [hh]; exact I.hok) hg fun b z => by simp at z
end
/-! ### an error leaves the generator -/
/-- what a frame's ground has of what stood before -/
theorem ground_ub {X : Cx} {pins : List (Addr × Obj)} {σ : L2.St} {H : Hp} {sI s' : Shared} {B : Heap} (I : Inv X pins σ H sI) (hex : X.ex = []) (nb : ∀ b o, sI.heap.get? b = some o → b ∉ frs X.stack → B.get? b = some o) (up : sI.heap.UpToSlots s'.heap) :
    (∀ h', s'.heap.UpToSlots h' → UB X.fs X.H_0 H X.s_0.heap B h') ∧ ∀ p ∈ X.pn, B.get? p.1 = some p.2 := by
  have none' : ∀ b, b ∉ X.ex := fun b z => by rw [hex] at z; cases z
  have old : ∀ b o, X.s_0.heap.get? b = some o → b ∉ X.fs → b ∉ frs X.stack := fun b o e nf m => by
    rcases List.mem_cons.mp (I.stkSub b m) with z | z
    · exact absurd (z ▸ Heap.lt_size e) (Nat.not_lt_of_le I.ok.above)
    · exact nf z
  refine ⟨fun h' up' => ⟨fun b o e n nf => nb b o (I.base.keep b o e n nf (none' b)) (old b o e nf), fun b o e hb => ?_, fun b o e n => I.base.free b o e n (none' b), fun b o e nf => ?_, I.base.tups, I.base.frzs, I.base.tbls⟩, fun p hp => ?_⟩
  · obtain ⟨_, o₀, e₀, plain⟩ := I.ok.funs.mem hb
    obtain rfl := Option.some.inj (e.symm.trans e₀)
    obtain ⟨_, e1⟩ := I.base.slot b o e (I.ok.frf b hb) hb (none' b)
    obtain ⟨_, e2⟩ := up b _ e1 plain
    exact (up' b _ e2 plain).imp fun _ e3 => e3
  · exact (I.base.there b o e (none' b)).imp fun o' e1 => nb b o' e1 (old b o e nf)
  · obtain ⟨e, _, nl, nf, _⟩ := I.pin p (List.mem_append_left _ hp)
    exact nb _ _ e fun m => (List.mem_cons.mp (I.stkSub p.1 m)).elim nl nf
theorem air_leaves {X : Cx} {W : WX} {E : XK} {s' : Shared} {E₁ : Value → Shared → Prop} {u : Value} (hs : X.stack = X.env :: X.outer) (hf : X.env.frame = some X.env.locals) (hex : X.ex = []) (hW : ∀ cls d σ H, W cls d σ H → E cls d H) (x : L2N.XE X W u s') :
    wpAny (model X.prog X.w) X.A (leaving X.env u) (fun _ s'' => L2N.CX X.prog X.w X.outer X.H_0 X.s_0 E u s'' ∧ ∀ p ∈ X.pn, s''.heap.get? p.1 = some p.2) E₁ s' := by
  obtain ⟨a, B, sI, pins, σ, H, cls, d, rfl, I, nb, up, sky, na, os, ag, w⟩ := x
  obtain ⟨ub, pinB⟩ := ground_ub I hex nb up
  have fin : ∀ h', HandSPX.FlyingZ B X.outer a (L2N.Zn cls d) h' → s'.heap.UpToSlots h' → L2N.CX X.prog X.w X.outer X.H_0 X.s_0 E (.ref a) { s' with heap := h' } ∧ ∀ p ∈ X.pn, h'.get? p.1 = some p.2 := fun h' fl up' =>
    ⟨⟨a, B, H, cls, d, rfl, fl, I.inGround nb, ub h' up', na, os.trans I.os, ag, hW _ _ _ _ w⟩, fun p hp => fl.1 _ _ (pinB p hp)⟩
  have fr : X.A.frames = some (X.env :: X.outer) := I.ok.frames.trans (congrArg some hs)
  rw [hs] at sky
  rcases sky with ⟨hB, hn, hl, oe, vs, he, hz, hd, h1⟩ | fl | held
  · exact PXN.leaving_firstZ L2N.Zn.steady fr hl hf he hB hn hd h1 hz fin
  · exact PXN.leaves_onZ L2N.Zn.steady fr hf fl fin
  · exact HandSPX.leaves_heldZ hf held fin
/-! ### the generator's context -/
def lcx (P : Program) (w : World) (K : PySem.W.Frag) (mg : Str → Option Value) (base : Heap) (N : List Str) (qual : Str) (scope : Scope) (f : Addr) (cd : Value) (A : Around) (outer : List Env) (n0 : Addr) (s0 : Shared) (H0 : Hp) (E : XK) (pn : List (Addr × Obj)) : Cx where
  prog := P
  w := w
  K := K
  mg := mg
  base := base
  A := A.deeper (envOfC qual scope n0 f cd)
  N := N
  s_0 := s0
  H_0 := H0
  env := envOfC qual scope n0 f cd
  outer := outer
  stack := envOfC qual scope n0 f cd :: outer
  ex := []
  calm := true
  fn := fun _ => true
  pn := pn
  xe := fun e s' => wpAny (model P w) (A.deeper (envOfC qual scope n0 f cd)) (leaving (envOfC qual scope n0 f cd) e) (fun _ s'' => L2N.CX P w outer H0 s0 E e s'' ∧ ∀ p ∈ pn, s''.heap.get? p.1 = some p.2) (fun _ _ => False) s'
theorem inv_lcx {P : Program} {w : World} {K : PySem.W.Frag} {mg : Str → Option Value} {base : Heap} {N : List Str} {qual : Str} {scope : Scope} {f : Addr} {cd : Value} {A : Around} {outer : List Env} {s s1 : Shared} {H H1 : Hp} {E : XK} {p : Addr × Obj} {σ : L2.St}
    (I : Inv (gcxOf P w K mg base N qual scope f cd A outer s H E [p]) [] σ H1 s1) : Inv (lcx P w K mg base N qual scope f cd A outer s.heap.objs.size s H E [p]) [] σ H1 s1 := I.toTry _
section
variable {P : Program} {w : World} {K : PySem.W.Frag} {mg : Str → Option Value} {base : Heap} {N : List Str} {qual : Str} {scope : Scope} {f : Addr} {cd : Value} {A : Around} {outer : List Env} {n0 : Addr} {s0 sb s1 s2 : Shared} {Hb H1 H2 : Hp} {E E' : XK} {pn ip : List (Addr × Obj)} {σ : L2.St}
theorem takes_lcx : L2N.Takes (lcx P w K mg base N qual scope f cd A outer n0 s0 Hb E pn) (fun cls d _ H' => E cls d H') := fun u s' x =>
  air_leaves (W := fun cls d _ H' => E cls d H') (E := E) rfl rfl rfl (fun _ _ _ _ h => h) x
theorem owns_lcx : PassesOwn (model P w) (lcx P w K mg base N qual scope f cd A outer n0 s0 Hb E pn).A (lcx P w K mg base N qual scope f cd A outer n0 s0 Hb E pn).env (lcx P w K mg base N qual scope f cd A outer n0 s0 Hb E pn).xe :=
  passes_of (X := lcx P w K mg base N qual scope f cd A outer n0 s0 Hb E pn) (K := fun e s'' => L2N.CX P w outer Hb s0 E e s'' ∧ ∀ p ∈ pn, s''.heap.get? p.1 = some p.2) (E₁ := fun _ _ => False) rfl
/-- what is the generator's alone: its frame, its cells, its own object, its iterators -/
def cellA (l : List (Str × Addr)) : List Addr := (l.map (·.1)).filterMap fun x => l.lookup x
theorem cellA_mem {l : List (Str × Addr)} {c : Addr} : c ∈ cellA l ↔ ∃ x, l.lookup x = some c := by
  unfold cellA
  rw [List.mem_filterMap]
  constructor
  · rintro ⟨x, _, e⟩
    exact ⟨x, e⟩
  · rintro ⟨x, e⟩
    exact ⟨x, List.mem_map.mpr ⟨(x, c), PySem.mem_of_lookup e, rfl⟩, e⟩
def prvOf (scope : Scope) (n0 : Addr) (pn ip : List (Addr × Obj)) : List Addr := n0 :: (cellA (cellsFrom (n0 + 1) scope.names []) ++ (pn ++ ip).map (·.1))
end
end Sq

set_option Elab.async false
set_option linter.all false
set_option maxRecDepth 100000
set_option maxHeartbeats 2000000
namespace Sq
open PySem PySem.Spec PyProof.Rows L2 GenW
section
variable {Xc : Cx} {N : List Str} {qual : Str} {scope : Scope} {f : Addr} {cd : Value} {A : Around} {n0 : Addr} {sb s1 s2 : Shared} {Hb H1 H2 : Hp} {E E' : XK} {pn ip pinsC : List (Addr × Obj)} {σ c c2 : L2.St}
abbrev gcx (Xc : Cx) (N : List Str) (qual : Str) (scope : Scope) (f : Addr) (cd : Value) (A : Around) (n0 : Addr) (s0 : Shared) (H0 : Hp) (E : XK) (pn : List (Addr × Obj)) : Cx := lcx Xc.prog Xc.w Xc.K Xc.mg Xc.base N qual scope f cd A Xc.stack n0 s0 H0 E pn
/-- what lies at n0 or above is none of the consumer's -/
structure Above (Xc : Cx) (pinsC : List (Addr × Obj)) (n0 : Addr) : Prop where
  young : Xc.s_0.heap.objs.size ≤ n0
  loc : Xc.env.locals < n0
  cell : ∀ x k, Xc.env.cells.lookup x = some k → k < n0
  pin : ∀ p ∈ Xc.pn ++ pinsC, p.1 < n0
  fr : ∀ b ∈ frs Xc.stack, b < n0
  base : Xc.base.objs.size ≤ n0
theorem above_of (I : Inv Xc pinsC c Hb sb) (h : sb.heap.objs.size ≤ n0) : Above Xc pinsC n0 := by
  have lo : ∀ {b : Addr} {o : Obj}, sb.heap.get? b = some o → b < n0 := fun e => Nat.lt_of_lt_of_le (Heap.lt_size e) h
  refine ⟨Nat.le_trans I.sz h, Nat.lt_of_lt_of_le I.lt h, fun x k e => ?_, fun p hp => lo (I.pin p hp).1, fun b hb => ?_, Nat.le_trans (Nat.le_trans I.ok.bsz I.sz) h⟩
  · obtain ⟨v, o, ho, _⟩ := I.cell x k e
    exact lo ho
  · obtain ⟨_, o, ho, _⟩ := I.stack.mem hb
    exact lo ho
theorem prv_there (I : Inv (gcx Xc N qual scope f cd A n0 (cutSh sb n0) Hb E' pn) ip σ H1 s1) : ∀ b ∈ prvOf scope n0 pn ip, H1 b = none ∧ ∃ o, s1.heap.get? b = some o := fun b hb => by
  rcases List.mem_cons.mp hb with e | hb
  · subst e
    obtain ⟨m, ⟨o, es, ep, ho, _⟩, _⟩ := I.loc
    exact ⟨I.free, o, ho⟩
  · rcases List.mem_append.mp hb with hb | hb
    · obtain ⟨y, hy⟩ := cellA_mem.mp hb
      obtain ⟨v, o, ho, _⟩ := I.cell y b hy
      exact ⟨I.freeC y b hy, o, ho⟩
    · obtain ⟨p, hp, rfl⟩ := List.mem_map.mp hb
      obtain ⟨h1, h2, _⟩ := I.pin p hp
      exact ⟨h2, _, h1⟩
/-- the consumer, where the generator hands out -/
theorem live_out {prv : List Addr} (Ic : Inv Xc pinsC c Hb sb) (ab : Above Xc pinsC n0) (Ig : Inv (gcx Xc N qual scope f cd A n0 (cutSh sb n0) Hb E' pn) ip σ H1 s1) (free : ∀ b ∈ prv, H1 b = none ∧ n0 ≤ b) : Inv Xc pinsC c (hidP prv s1.heap H1) s1 := by
  have sm : Same H1 (hidP prv s1.heap H1) := hidP_same fun b hb => (free b hb).1
  have low : ∀ {b : Addr} {o : Obj}, sb.heap.get? b = some o → b ∉ (List.range sb.heap.objs.size).filter (fun b => decide (n0 ≤ b)) → b < n0 := fun {b o} e nm => by
    by_cases lt : b < n0
    · exact lt
    · exact absurd (List.mem_filter.mpr ⟨List.mem_range.mpr (Heap.lt_size e), decide_eq_true (Nat.le_of_not_lt lt)⟩) nm
  have cut : ∀ {b : Addr} {o : Obj}, sb.heap.get? b = some o → b < n0 → (cutSh sb n0).heap.get? b = some o := fun e lt => cutH_get.mpr ⟨lt, e⟩
  refine Ic.call' (ch := (List.range sb.heap.objs.size).filter fun b => decide (n0 ≤ b)) Ig.os ⟨fun b o e n nf hx => ?_, fun b o e n hf hx => ?_, fun b o e n hx => ?_, fun b o e hx => ?_, fun b xs e => ?_, fun b o u e => ?_, fun b ps e => ?_⟩ (hid_ok Ig.hok fun b hb => (free b hb).1) Ig.bare fun b hb => ?_
  · exact Ig.base.keep b o (cut e (low e hx)) n nf (List.not_mem_nil)
  · exact Ig.base.slot b o (cut e (low e hx)) n hf (List.not_mem_nil)
  · rw [hidP_out fun m => absurd (low e hx) (Nat.not_lt_of_le (free b m).2)]
    exact Ig.base.free b o (cut e (low e hx)) n (List.not_mem_nil)
  · exact Ig.base.there b o (cut e (low e hx)) (List.not_mem_nil)
  · exact sm _ _ (Ig.base.tups b xs e)
  · exact sm _ _ (Ig.base.frzs b o u e)
  · obtain ⟨more, q⟩ := Ig.base.tbls b ps e
    exact ⟨more, sm _ _ q⟩
  · have le : n0 ≤ b := of_decide_eq_true (List.mem_filter.mp hb).2
    refine ⟨.inr (Nat.le_trans ab.young le), Nat.ne_of_gt (Nat.lt_of_lt_of_le ab.loc le), fun x k e z => ?_, fun p hp z => ?_⟩
    · exact absurd z (Nat.ne_of_lt (Nat.lt_of_lt_of_le (ab.cell x k e) le))
    · exact absurd z (Nat.ne_of_lt (Nat.lt_of_lt_of_le (ab.pin p hp) le))
/-- the generator, where it is woken again -/
theorem live_in (Ic : Inv Xc pinsC c2 H2 s2) (ab : Above Xc pinsC n0) (le : n0 ≤ sb.heap.objs.size) (Ig : Inv (gcx Xc N qual scope f cd A n0 (cutSh sb n0) Hb E' pn) ip σ H1 s1) (hid : ∀ b ∈ prvOf scope n0 pn ip, H2 b = hidP (prvOf scope n0 pn ip) s1.heap H1 b) :
    (∀ b ∈ prvOf scope n0 pn ip, ∃ φ, H2 b = some (.ext φ)) ∧ Inv (gcx Xc N qual scope f cd A n0 (cutSh s2 n0) (unh (prvOf scope n0 pn ip) H2) E pn) ip σ (unh (prvOf scope n0 pn ip) H2) s2 := by
  have there := prv_there Ig
  have obj : ∀ b ∈ prvOf scope n0 pn ip, ∃ o, s1.heap.get? b = some o ∧ H2 b = some (HidO b o) := fun b hb => by
    obtain ⟨_, o, ho⟩ := there b hb
    exact ⟨o, ho, by rw [hid b hb, hidP_in hb ho]⟩
  have ext : ∀ b ∈ prvOf scope n0 pn ip, ∃ φ, H2 b = some (.ext φ) := fun b hb => by
    obtain ⟨o, _, e⟩ := obj b hb
    exact ⟨_, e⟩
  have keep : ∀ b ∈ prvOf scope n0 pn ip, ∀ o, s1.heap.get? b = some o → s2.heap.get? b = some o := fun b hb o e => by
    obtain ⟨o', e', q⟩ := obj b hb
    rw [e] at e'
    cases e'
    exact (Ic.hok b _ q).1
  have mL : n0 ∈ prvOf scope n0 pn ip := List.mem_cons_self
  have mC : ∀ x k, (cellsFrom (n0 + 1) scope.names []).lookup x = some k → k ∈ prvOf scope n0 pn ip := fun x k e => List.mem_cons_of_mem _ (List.mem_append_left _ (cellA_mem.mpr ⟨x, e⟩))
  have mP : ∀ p ∈ pn ++ ip, p.1 ∈ prvOf scope n0 pn ip := fun p hp => List.mem_cons_of_mem _ (List.mem_append_right _ (List.mem_map.mpr ⟨p, hp, rfl⟩))
  have out : ∀ {b : Addr}, H2 b = none → unh (prvOf scope n0 pn ip) H2 b = none := fun {b} e => by
    by_cases m : b ∈ prvOf scope n0 pn ip
    · exact unh_in m
    · rw [unh_out m]
      exact e
  refine ⟨ext, ⟨⟨Ig.ok.mod, Ig.ok.kind, Ig.ok.glob, Ig.ok.blt, ?_, Ig.ok.inj, Ig.ok.has, fun x k h e => ?_, Ig.ok.hd, Ig.ok.frames, Ig.ok.stk, fun b z => absurd z List.not_mem_nil, fun b o e => ?_, ?_, fun b o e => List.not_mem_nil, fun b z => absurd z List.not_mem_nil, frames_cut Ic.stack ab.fr, fun b hb => out (Ic.stkFree b hb)⟩,
    rfl, Ic.bare, Un.kept fun b u q => (cutH_get.mp q).2, ?_, fun x k e => ?_, unh_in mL, fun x k e => unh_in (mC x k e), fun p hp => ?_, unh_ok Ic.hok ext, Ig.len⟩⟩
  · show (cutH s2.heap n0).objs.size ≤ n0
    rw [cutH_size]
    exact Nat.min_le_left _ _
  · have q := Ig.ok.cab x k h e
    have q : (cutH sb.heap n0).objs.size ≤ k := q
    rw [cutH_size] at q
    rw [Nat.min_eq_left le] at q
    show (cutH s2.heap n0).objs.size ≤ k
    rw [cutH_size]
    exact Nat.le_trans (Nat.min_le_left _ _) q
  · obtain ⟨h1, h2⟩ := Ic.bs b o e
    exact ⟨cutH_get.mpr ⟨Nat.lt_of_lt_of_le (Heap.lt_size e) ab.base, h1⟩, out h2⟩
  · show Xc.base.objs.size ≤ (cutH s2.heap n0).objs.size
    rw [cutH_size]
    exact Nat.le_min.mpr ⟨ab.base, Nat.le_trans Ic.ok.bsz Ic.sz⟩
  · obtain ⟨m, ⟨o, es, ep, ho, r⟩, hl⟩ := Ig.loc
    refine ⟨m, ⟨o, es, ep, keep _ mL _ ho, r⟩, fun i x v h1 h2 h3 => ?_⟩
    obtain ⟨u, rv, lk⟩ := hl i x v h1 h2 h3
    refine ⟨u, rv, ?_⟩
    rcases lk with z | ⟨kd, k, e, o', ho', hd'⟩
    · exact .inl z
    · exact .inr ⟨kd, k, e, o', keep k (mC x k e) _ ho', hd'⟩
  · obtain ⟨v, o, ho, hd⟩ := Ig.cell x k e
    exact ⟨v, o, keep k (mC x k e) _ ho, hd⟩
  · obtain ⟨h1, _, h3, h4, h5⟩ := Ig.pin p hp
    exact ⟨keep _ (mP p hp) _ h1, unh_in (mP p hp), h3, h4, h5⟩
end
end Sq

set_option Elab.async false
set_option linter.all false
set_option maxRecDepth 100000
set_option maxHeartbeats 1000000
/-! Counting: how many lengths up to a limit become one that is told. -/
namespace Sq
open PySem PySem.Spec PyProof.Rows L2
def onceN (n k : Nat) : Nat := n / k + n % k
def cntN (f : Nat → Bool) : Nat → Nat
  | 0 => 0
  | n + 1 => cntN f n + (if f n = true then 1 else 0)
def sumR (g : Nat → Int) : Nat → Int
  | 0 => 0
  | n + 1 => sumR g n + g n
theorem sumR_congr {g h : Nat → Int} : ∀ {n : Nat}, (∀ j, j < n → g j = h j) → sumR g n = sumR h n
  | 0, _ => rfl
  | n + 1, e => by
    show sumR g n + g n = sumR h n + h n
    rw [sumR_congr fun j hj => e j (Nat.lt_succ_of_lt hj), e n (Nat.lt_succ_self n)]
theorem sumR_one {g h : Nat → Int} {i : Nat} : ∀ {n : Nat}, i < n → (∀ j, j < n → j ≠ i → g j = h j) → sumR g n = sumR h n + (g i - h i)
  | 0, hi, _ => absurd hi (Nat.not_lt_zero _)
  | n + 1, hi, e => by
    show sumR g n + g n = sumR h n + h n + (g i - h i)
    by_cases c : i = n
    · subst c
      rw [sumR_congr fun j hj => e j (Nat.lt_succ_of_lt hj) (Nat.ne_of_lt hj)]
      omega
    · rw [sumR_one (i := i) (by omega) fun j hj ne => e j (Nat.lt_succ_of_lt hj) ne, e n (Nat.lt_succ_self n) (fun z => c z.symm)]
      omega
theorem cntN_succ (f : Nat → Bool) (n : Nat) : cntN f (n + 1) = cntN f n + (if f n = true then 1 else 0) := rfl
/-- the lengths up to a limit, by what is left over of them -/
theorem cnt_once (f : Nat → Bool) {k : Nat} (hk : 2 ≤ k) : ∀ lim : Nat, ((cntN (fun x => f (onceN x k)) (lim + 1) : Nat) : Int) = sumR (fun left => ((cntN f ((lim - left) / k + left + 1) : Nat) : Int) - ((cntN f left : Nat) : Int)) (min k (lim + 1))
  | 0 => by
    rw [Nat.min_eq_right (by omega)]
    show (((0 : Nat) + (if f (onceN 0 k) = true then 1 else 0) : Nat) : Int) = 0 + (((cntN f ((0 - 0) / k + 0 + 1) : Nat) : Int) - ((0 : Nat) : Int))
    have e : onceN 0 k = 0 := by unfold onceN; simp
    have e2 : (0 - 0) / k + 0 + 1 = 1 := by simp
    rw [e, e2]
    show (((0 : Nat) + (if f 0 = true then 1 else 0) : Nat) : Int) = 0 + ((((0 : Nat) + (if f 0 = true then 1 else 0) : Nat) : Int) - ((0 : Nat) : Int))
    omega
  | lim + 1 => by
    have ih := cnt_once f hk lim
    rw [cntN_succ (fun x => f (onceN x k)) (lim + 1)]
    rw [Int.natCast_add, ih]
    by_cases c : lim + 1 < k
    · rw [Nat.min_eq_right (by omega), Nat.min_eq_right (by omega)]
      show _ = sumR _ (lim + 1) + (((cntN f ((lim + 1 - (lim + 1)) / k + (lim + 1) + 1) : Nat) : Int) - ((cntN f (lim + 1) : Nat) : Int))
      have e : onceN (lim + 1) k = lim + 1 := by
        unfold onceN
        rw [Nat.div_eq_of_lt c, Nat.mod_eq_of_lt c, Nat.zero_add]
      have e2 : (lim + 1 - (lim + 1)) / k + (lim + 1) + 1 = (lim + 1) + 1 := by
        rw [Nat.sub_self, Nat.zero_div, Nat.zero_add]
      rw [e, e2, cntN_succ f (lim + 1)]
      have same : sumR (fun left => ((cntN f ((lim - left) / k + left + 1) : Nat) : Int) - ((cntN f left : Nat) : Int)) (lim + 1) = sumR (fun left => ((cntN f ((lim + 1 - left) / k + left + 1) : Nat) : Int) - ((cntN f left : Nat) : Int)) (lim + 1) :=
        sumR_congr fun j hj => by
          rw [Nat.div_eq_of_lt (show lim - j < k by omega), Nat.div_eq_of_lt (show lim + 1 - j < k by omega)]
      rw [same]
      omega
    · rw [Nat.min_eq_left (by omega), Nat.min_eq_left (by omega)]
      have hlt : (lim + 1) % k < k := Nat.mod_lt _ (by omega)
      obtain ⟨l0, el0⟩ : ∃ l0, l0 = (lim + 1) % k := ⟨_, rfl⟩
      obtain ⟨q, eq⟩ : ∃ q, q = (lim + 1) / k := ⟨_, rfl⟩
      have de : lim + 1 = k * q + l0 := by rw [el0, eq]; exact (Nat.div_add_mod _ _).symm
      have q1 : 1 ≤ q := by rw [eq]; exact (Nat.le_div_iff_mul_le (by omega)).mpr (by omega)
      obtain ⟨q', rfl⟩ : ∃ q', q = q' + 1 := ⟨q - 1, by omega⟩
      have l0k : l0 < k := by rw [el0]; exact hlt
      have kq : k * (q' + 1) = k * q' + k := Nat.mul_succ k q'
      have d1 : (lim + 1 - l0) / k = q' + 1 := by
        rw [show lim + 1 - l0 = k * (q' + 1) by omega]
        exact Nat.mul_div_cancel_left _ (by omega)
      have d0 : (lim - l0) / k = q' := by
        rw [show lim - l0 = (k - 1) + k * q' by omega, Nat.add_mul_div_left _ _ (by omega), Nat.div_eq_of_lt (by omega), Nat.zero_add]
      have diff := sumR_one (g := fun left => ((cntN f ((lim + 1 - left) / k + left + 1) : Nat) : Int) - ((cntN f left : Nat) : Int)) (h := fun left => ((cntN f ((lim - left) / k + left + 1) : Nat) : Int) - ((cntN f left : Nat) : Int)) (i := l0) (n := k) l0k (fun j hj ne => by
        have e : (lim + 1 - j) / k = (lim - j) / k := by
          have hjl : j ≤ lim := by omega
          -- k doesn't divide lim + 1 - j
          have nd : (lim + 1 - j) % k ≠ 0 := fun z => by
            apply ne
            have m := Nat.div_add_mod (lim + 1 - j) k
            rw [z, Nat.add_zero] at m
            have e2 : lim + 1 = j + k * ((lim + 1 - j) / k) := by omega
            have : (lim + 1) % k = j := by rw [e2, Nat.add_mul_mod_self_left, Nat.mod_eq_of_lt hj]
            rw [el0, this]
          rw [show lim + 1 - j = (lim - j) + 1 by omega] at nd ⊢
          rw [Nat.succ_div]
          rw [if_neg (fun z => nd (Nat.mod_eq_zero_of_dvd z)), Nat.add_zero]
        show ((cntN f ((lim + 1 - j) / k + j + 1) : Nat) : Int) - _ = _
        rw [e])
      rw [diff]
      show _ = _ + ((((cntN f ((lim + 1 - l0) / k + l0 + 1) : Nat) : Int) - ((cntN f l0 : Nat) : Int)) - (((cntN f ((lim - l0) / k + l0 + 1) : Nat) : Int) - ((cntN f l0 : Nat) : Int)))
      rw [d1, d0]
      have eo : onceN (lim + 1) k = q' + 1 + l0 := by
        unfold onceN
        rw [← eq, ← el0]
      rw [eo, show q' + 1 + l0 + 1 = (q' + 1 + l0) + 1 from rfl, cntN_succ f (q' + 1 + l0), show q' + l0 + 1 = q' + 1 + l0 by omega]
      omega
end Sq

set_option Elab.async false
set_option linter.all false
set_option maxRecDepth 100000
set_option maxHeartbeats 1000000
/-! A dict of limits, each with how often it counts: what it says of a length. -/
namespace Sq
open PySem PySem.Spec PyProof.Rows L2
/-! ### dicts from ints to ints -/
def kvZ (kz : List (Int × Int)) : List (Key × V) := kz.map fun p => (.inl p.1, .int p.2)
def getZ (kz : List (Int × Int)) (k : Int) : Int := ((kz.find? fun p => decide (p.1 = k)).map (·.2)).getD 0
def putZ (kz : List (Int × Int)) (k v : Int) : List (Int × Int) := if (kz.any fun p => decide (p.1 = k)) = true then kz.map (fun p => if p.1 = k then (p.1, v) else p) else kz ++ [(k, v)]
def addZ (kz : List (Int × Int)) (k d : Int) : List (Int × Int) := putZ kz k (getZ kz k + d)
def keysZ (kz : List (Int × Int)) : List Int := kz.map (·.1)
def one (b : Bool) : Int := if b = true then 1 else 0
def mZ (kz : List (Int × Int)) (L : Int) : Int := (kz.map fun p => p.2 * one (decide (L ≤ p.1))).sum
theorem valV_kvZ (k : Int) : ∀ kz : List (Int × Int), valV (kvZ kz) (.inl k) = (kz.find? fun p => decide (p.1 = k)).map fun p => V.int p.2
  | [] => rfl
  | p :: kz => by
    show valV ((.inl p.1, .int p.2) :: kvZ kz) (.inl k) = _
    by_cases c : p.1 = k
    · rw [valV_pos (by rw [c]), List.find?_cons_of_pos (by exact decide_eq_true c)]
      rfl
    · rw [valV_neg (by intro z; exact c (Sum.inl.inj z)), valV_kvZ k kz, List.find?_cons_of_neg (by intro z; exact c (of_decide_eq_true z))]
theorem get_kvZ (kz : List (Int × Int)) (k : Int) : (valV (kvZ kz) (.inl k)).getD (.int 0) = .int (getZ kz k) := by
  rw [valV_kvZ]
  unfold getZ
  cases kz.find? fun p => decide (p.1 = k) with
  | none => rfl
  | some p => rfl
theorem put_kvZ (kz : List (Int × Int)) (k v : Int) : putK (kvZ kz) (.inl k) (.int v) = kvZ (putZ kz k v) := by
  unfold putK putZ
  have e : (kvZ kz).any (fun kv => decide (kv.1 = (.inl k : Key))) = kz.any fun p => decide (p.1 = k) := by
    unfold kvZ
    rw [List.any_map]
    congr 1
    funext p
    show decide ((.inl p.1 : Key) = .inl k) = decide (p.1 = k)
    rw [decide_eq_decide]
    exact ⟨fun z => Sum.inl.inj z, fun z => by rw [z]⟩
  rw [e]
  by_cases c : (kz.any fun p => decide (p.1 = k)) = true
  · rw [if_pos c, if_pos c]
    unfold kvZ
    rw [List.map_map, List.map_map]
    apply List.map_congr_left
    intro p _
    show (if (.inl p.1 : Key) = .inl k then ((.inl p.1 : Key), V.int v) else (.inl p.1, .int p.2)) = ((.inl (if p.1 = k then (p.1, v) else p).1 : Key), V.int (if p.1 = k then (p.1, v) else p).2)
    by_cases e : p.1 = k
    · rw [if_pos (by rw [e]), if_pos e]
    · rw [if_neg (fun z => e (Sum.inl.inj z)), if_neg e]
  · rw [if_neg c, if_neg c]
    unfold kvZ
    rw [List.map_append]
    rfl
theorem keys_put (kz : List (Int × Int)) (k v : Int) : keysZ (putZ kz k v) = if k ∈ keysZ kz then keysZ kz else keysZ kz ++ [k] := by
  unfold putZ
  have e : (kz.any fun p => decide (p.1 = k)) = true ↔ k ∈ keysZ kz := by
    unfold keysZ
    rw [List.any_eq_true]
    constructor
    · rintro ⟨p, hp, h⟩
      exact List.mem_map.mpr ⟨p, hp, of_decide_eq_true h⟩
    · intro h
      obtain ⟨p, hp, e⟩ := List.mem_map.mp h
      exact ⟨p, hp, decide_eq_true e⟩
  by_cases c : (kz.any fun p => decide (p.1 = k)) = true
  · rw [if_pos c, if_pos (e.mp c)]
    unfold keysZ
    rw [List.map_map]
    apply List.map_congr_left
    intro p _
    show (if p.1 = k then (p.1, v) else p).1 = p.1
    split <;> rfl
  · rw [if_neg c, if_neg (fun z => c (e.mpr z))]
    unfold keysZ
    rw [List.map_append]
    rfl
theorem nodup_put {kz : List (Int × Int)} {k v : Int} (h : (keysZ kz).Nodup) : (keysZ (putZ kz k v)).Nodup := by
  rw [keys_put]
  split
  · exact h
  · rename_i n
    rw [List.nodup_append]
    refine ⟨h, by simp, fun a ha b hb => ?_⟩
    rw [List.mem_singleton.mp hb]
    intro z
    exact n (by rw [← z]; exact ha)
theorem mem_put {kz : List (Int × Int)} {k v x : Int} (h : x ∈ keysZ (putZ kz k v)) : x ∈ keysZ kz ∨ x = k := by
  rw [keys_put] at h
  split at h
  · exact .inl h
  · rcases List.mem_append.mp h with h | h
    · exact .inl h
    · exact .inr (List.mem_singleton.mp h)
theorem mZ_cons (p : Int × Int) (kz : List (Int × Int)) (L : Int) : mZ (p :: kz) L = p.2 * one (decide (L ≤ p.1)) + mZ kz L := by
  unfold mZ
  rw [List.map_cons, List.sum_cons]
theorem mZ_app (a b : List (Int × Int)) (L : Int) : mZ (a ++ b) L = mZ a L + mZ b L := by
  unfold mZ
  rw [List.map_append, List.sum_append]
/-- a key is told more or less often -/
theorem mZ_add : ∀ {kz : List (Int × Int)} (k d L : Int), (keysZ kz).Nodup → mZ (addZ kz k d) L = mZ kz L + d * one (decide (L ≤ k))
  | [], k, d, L, _ => by
    show mZ [(k, 0 + d)] L = mZ [] L + _
    rw [mZ_cons, Int.zero_add]
    show d * one (decide (L ≤ k)) + mZ [] L = _
    omega
  | p :: kz, k, d, L, h => by
    have hn : p.1 ∉ keysZ kz ∧ (keysZ kz).Nodup := List.nodup_cons.mp h
    unfold addZ
    by_cases c : p.1 = k
    · have eg : getZ (p :: kz) k = p.2 := by
        unfold getZ
        rw [List.find?_cons_of_pos (by exact decide_eq_true c)]
        rfl
      have ep : putZ (p :: kz) k (p.2 + d) = (p.1, p.2 + d) :: kz := by
        unfold putZ
        rw [if_pos (by rw [List.any_cons, decide_eq_true c]; rfl), List.map_cons, if_pos c]
        congr 1
        rw [List.map_congr_left (g := id)]
        · exact List.map_id _
        · intro q hq
          rw [if_neg]
          · rfl
          · intro z
            exact hn.1 (by rw [c, ← z]; exact List.mem_map.mpr ⟨q, hq, rfl⟩)
      rw [eg, ep, mZ_cons, mZ_cons]
      show (p.2 + d) * one (decide (L ≤ p.1)) + mZ kz L = _
      rw [Int.add_mul, c]
      omega
    · have eg : getZ (p :: kz) k = getZ kz k := by
        unfold getZ
        rw [List.find?_cons_of_neg (by intro z; exact c (of_decide_eq_true z))]
      have ep : putZ (p :: kz) k (getZ kz k + d) = p :: putZ kz k (getZ kz k + d) := by
        unfold putZ
        rw [List.any_cons, decide_eq_false c, Bool.false_or]
        split
        · rw [List.map_cons, if_neg c]
        · rfl
      have ih := mZ_add (kz := kz) k d L hn.2
      unfold addZ at ih
      rw [eg, ep, mZ_cons, ih, mZ_cons]
      omega
theorem mZ_filter : ∀ (kz : List (Int × Int)) (L : Int), mZ (kz.filter fun p => !decide (p.2 = 0)) L = mZ kz L
  | [], _ => rfl
  | p :: kz, L => by
    rw [mZ_cons]
    by_cases c : p.2 = 0
    · rw [List.filter_cons_of_neg (by rw [c]; decide), mZ_filter kz L, c, Int.zero_mul, Int.zero_add]
    · rw [List.filter_cons_of_pos (by simp [c]), mZ_cons, mZ_filter kz L]
/-! ### counts -/
theorem cnt_eq (L : Nat) : ∀ n : Nat, ((cntN (fun y => decide (y = L)) n : Nat) : Int) = one (decide (L < n))
  | 0 => rfl
  | n + 1 => by
    rw [cntN_succ, Int.natCast_add, cnt_eq L n]
    unfold one
    by_cases c : n = L
    · subst c
      simp
    · by_cases d : L < n
      · simp [c, d, Nat.lt_succ_of_lt d]
      · have : ¬ L < n + 1 := by omega
        simp [c, d, this]
theorem sumR_point (g : Nat → Bool) (v : Nat) : ∀ n : Nat, sumR (fun y => one (decide (v = y)) * one (g y)) n = if v < n then one (g v) else 0
  | 0 => rfl
  | n + 1 => by
    show sumR _ n + one (decide (v = n)) * one (g n) = _
    rw [sumR_point g v n]
    by_cases c : v = n
    · subst c
      rw [if_neg (Nat.lt_irrefl _), if_pos (Nat.lt_succ_self _), decide_eq_true rfl]
      show 0 + 1 * one (g v) = _
      omega
    · rw [decide_eq_false c]
      show _ + 0 * one (g n) = _
      rw [Int.zero_mul, Int.add_zero]
      by_cases d : v < n
      · rw [if_pos d, if_pos (Nat.lt_succ_of_lt d)]
      · rw [if_neg d, if_neg (by omega)]
theorem sumR_add {g h : Nat → Int} : ∀ n : Nat, sumR (fun y => g y + h y) n = sumR g n + sumR h n
  | 0 => rfl
  | n + 1 => by
    show sumR _ n + (g n + h n) = (sumR g n + g n) + (sumR h n + h n)
    rw [sumR_add n]
    omega
theorem sumR_mul {g : Nat → Int} (m : Int) : ∀ n : Nat, sumR (fun y => m * g y) n = m * sumR g n
  | 0 => by
    show (0 : Int) = m * 0
    rw [Int.mul_zero]
  | n + 1 => by
    show sumR _ n + m * g n = m * (sumR g n + g n)
    rw [sumR_mul m n, Int.mul_add]
/-- counted by what they become -/
theorem cnt_by (s : Nat → Nat) (g : Nat → Bool) (B : Nat) : ∀ n : Nat, (∀ x, x < n → s x < B) → ((cntN (fun x => g (s x)) n : Nat) : Int) = sumR (fun y => ((cntN (fun x => decide (s x = y)) n : Nat) : Int) * one (g y)) B
  | 0, _ => by
    have : ∀ B, sumR (fun y => (((0 : Nat)) : Int) * one (g y)) B = 0 := fun B => by
      induction B with
      | zero => rfl
      | succ B ih =>
        show sumR _ B + _ = 0
        rw [ih]
        show 0 + 0 * one (g B) = 0
        omega
    exact (this B).symm
  | n + 1, h => by
    rw [cntN_succ, Int.natCast_add, cnt_by s g B n fun x hx => h x (Nat.lt_succ_of_lt hx)]
    have e : sumR (fun y => ((cntN (fun x => decide (s x = y)) (n + 1) : Nat) : Int) * one (g y)) B = sumR (fun y => ((cntN (fun x => decide (s x = y)) n : Nat) : Int) * one (g y) + one (decide (s n = y)) * one (g y)) B :=
      sumR_congr fun y _ => by
        rw [cntN_succ, Int.natCast_add, Int.add_mul]
        congr 1
        by_cases c : s n = y
        · rw [decide_eq_true c]; rfl
        · rw [decide_eq_false c]; rfl
    rw [e, sumR_add, sumR_point, if_pos (h n (Nat.lt_succ_self n))]
    congr 1
    unfold one
    split <;> rfl
/-- up to a limit -/
theorem sumR_lim (g : Nat → Bool) (lim : Int) (h0 : -1 ≤ lim) : ∀ B : Nat, sumR (fun y => one (decide ((y : Int) ≤ lim)) * one (g y)) B = ((cntN g (min B (lim + 1).toNat) : Nat) : Int)
  | 0 => by
    rw [Nat.zero_min]
    rfl
  | B + 1 => by
    show sumR _ B + one (decide ((B : Int) ≤ lim)) * one (g B) = _
    rw [sumR_lim g lim h0 B]
    by_cases c : (B : Int) ≤ lim
    · rw [decide_eq_true c, Nat.min_eq_left (by omega), Nat.min_eq_left (by omega), cntN_succ, Int.natCast_add]
      congr 1
      show 1 * one (g B) = _
      rw [Int.one_mul]
      unfold one
      split <;> rfl
    · rw [decide_eq_false c, Nat.min_eq_right (by omega), Nat.min_eq_right (by omega)]
      show _ + 0 * one (g B) = _
      omega
/-- what the dict says of the lengths, summed -/
theorem mZ_sum (g : Nat → Bool) (B : Nat) : ∀ (kz : List (Int × Int)), (∀ p ∈ kz, -1 ≤ p.1 ∧ p.1 < (B : Int)) → sumR (fun y => mZ kz (y : Int) * one (g y)) B = (kz.map fun p => p.2 * ((cntN g (p.1 + 1).toNat : Nat) : Int)).sum
  | [], _ => by
    have : ∀ B, sumR (fun y : Nat => mZ [] (y : Int) * one (g y)) B = 0 := fun B => by
      induction B with
      | zero => rfl
      | succ B ih =>
        show sumR _ B + _ = 0
        rw [ih]
        show 0 + 0 * one (g B) = 0
        omega
    exact this B
  | p :: kz, h => by
    have hp := h p List.mem_cons_self
    rw [List.map_cons, List.sum_cons, ← mZ_sum g B kz fun q hq => h q (List.mem_cons_of_mem _ hq)]
    have e : sumR (fun y : Nat => mZ (p :: kz) (y : Int) * one (g y)) B = sumR (fun y : Nat => p.2 * (one (decide ((y : Int) ≤ p.1)) * one (g y)) + mZ kz (y : Int) * one (g y)) B :=
      sumR_congr fun y _ => by
        rw [mZ_cons, Int.add_mul, Int.mul_assoc]
    rw [e, sumR_add, sumR_mul, sumR_lim g p.1 hp.1, Nat.min_eq_right (by omega)]
end Sq

set_option Elab.async false
set_option linter.all false
set_option maxRecDepth 100000
set_option maxHeartbeats 1000000
/-! One replacement more: the next dict of limits. -/
namespace Sq
open PySem PySem.Spec PyProof.Rows L2
def sN (x : Nat) (ks : List Int) : Nat := ks.foldl (fun n k => onceN n k.toNat) x
theorem once_nat (n : Nat) {k : Int} (hk : 0 ≤ k) : once (n : Int) k = ((onceN n k.toNat : Nat) : Int) := by
  obtain ⟨m, rfl⟩ : ∃ m : Nat, k = (m : Int) := ⟨k.toNat, by omega⟩
  unfold once onceN
  rw [Int.toNat_natCast, Int.natCast_add, Int.natCast_ediv, Int.natCast_emod]
theorem sq_nat : ∀ (ks : List Int) (x : Nat), (∀ k ∈ ks, 2 ≤ k) → sq (x : Int) ks = ((sN x ks : Nat) : Int)
  | [], x, _ => rfl
  | k :: ks, x, h => by
    have hk := h k List.mem_cons_self
    show sq (once (x : Int) k) ks = ((sN (onceN x k.toNat) ks : Nat) : Int)
    rw [once_nat x (by omega)]
    exact sq_nat ks _ fun q hq => h q (List.mem_cons_of_mem _ hq)
theorem sN_app (x : Nat) (ks : List Int) (k : Int) : sN x (ks ++ [k]) = onceN (sN x ks) k.toNat := by
  unfold sN
  rw [List.foldl_append]
  rfl
theorem onceN_le (n : Nat) {k : Nat} (hk : 2 ≤ k) : onceN n k ≤ n := by
  unfold onceN
  have e := Nat.div_add_mod n k
  have : n / k ≤ k * (n / k) := Nat.le_mul_of_pos_left _ (by omega)
  omega
theorem sN_le : ∀ (ks : List Int) (x : Nat), (∀ k ∈ ks, 2 ≤ k) → sN x ks ≤ x
  | [], x, _ => Nat.le_refl _
  | k :: ks, x, h => by
    have hk := h k List.mem_cons_self
    have a := onceN_le x (k := k.toNat) (by omega)
    have b := sN_le ks (onceN x k.toNat) fun q hq => h q (List.mem_cons_of_mem _ hq)
    exact Nat.le_trans b a
/-! ### the steps -/
def lng (lim k : Int) (j : Nat) : Int := (lim - (j : Int)) / k + (j : Int)
def inn (kz : List (Int × Int)) (lim m k : Int) : Nat → List (Int × Int)
  | 0 => kz
  | j + 1 => addZ (addZ (inn kz lim m k j) (lng lim k j) m) ((j : Int) - 1) (-m)
def rng1 (lim k : Int) : Nat := (min k (lim + 1)).toNat
def outF (k : Int) (ls : List (Int × Int)) : List (Int × Int) := ls.foldl (fun acc p => inn acc p.1 p.2 k (rng1 p.1 k)) []
def nextZ (k : Int) (ls : List (Int × Int)) : List (Int × Int) := (outF k ls).filter fun p => !decide (p.2 = 0)
theorem inn_nd {kz : List (Int × Int)} {lim m k : Int} (h : (keysZ kz).Nodup) : ∀ j, (keysZ (inn kz lim m k j)).Nodup
  | 0 => h
  | j + 1 => nodup_put (nodup_put (inn_nd h j))
theorem inn_mem {kz : List (Int × Int)} {lim m k x : Int} : ∀ j, x ∈ keysZ (inn kz lim m k j) → x ∈ keysZ kz ∨ ∃ i, i < j ∧ (x = lng lim k i ∨ x = (i : Int) - 1)
  | 0, h => .inl h
  | j + 1, h => by
    rcases mem_put h with h | h
    · rcases mem_put h with h | h
      · rcases inn_mem j h with h | ⟨i, hi, h⟩
        · exact .inl h
        · exact .inr ⟨i, Nat.lt_succ_of_lt hi, h⟩
      · exact .inr ⟨j, Nat.lt_succ_self j, .inl h⟩
    · exact .inr ⟨j, Nat.lt_succ_self j, .inr h⟩
theorem inn_M {kz : List (Int × Int)} {lim m k : Int} (h : (keysZ kz).Nodup) (L : Int) : ∀ j, mZ (inn kz lim m k j) L = mZ kz L + m * sumR (fun i => one (decide (L ≤ lng lim k i)) - one (decide (L ≤ (i : Int) - 1))) j
  | 0 => by
    show mZ kz L = mZ kz L + m * 0
    omega
  | j + 1 => by
    have ih := inn_M (kz := kz) (lim := lim) (m := m) (k := k) h L j
    show mZ (addZ (addZ (inn kz lim m k j) (lng lim k j) m) ((j : Int) - 1) (-m)) L = _
    rw [mZ_add _ _ _ (show (keysZ (addZ (inn kz lim m k j) (lng lim k j) m)).Nodup from nodup_put (inn_nd h j)), mZ_add _ _ _ (inn_nd h j), ih]
    show _ = mZ kz L + m * (sumR _ j + (one (decide (L ≤ lng lim k j)) - one (decide (L ≤ (j : Int) - 1))))
    rw [Int.mul_add, Int.mul_sub, Int.neg_mul]
    omega
theorem out_nd (k : Int) : ∀ (ls acc : List (Int × Int)), (keysZ acc).Nodup → (keysZ (ls.foldl (fun acc p => inn acc p.1 p.2 k (rng1 p.1 k)) acc)).Nodup
  | [], acc, h => h
  | p :: ls, acc, h => out_nd k ls _ (inn_nd h _)
def tT (lim k L : Int) : Int := sumR (fun i => one (decide (L ≤ lng lim k i)) - one (decide (L ≤ (i : Int) - 1))) (rng1 lim k)
theorem out_M (k L : Int) : ∀ (ls acc : List (Int × Int)), (keysZ acc).Nodup → mZ (ls.foldl (fun acc p => inn acc p.1 p.2 k (rng1 p.1 k)) acc) L = mZ acc L + (ls.map fun p => p.2 * tT p.1 k L).sum
  | [], acc, h => by
    show mZ acc L = mZ acc L + 0
    omega
  | p :: ls, acc, h => by
    show mZ (ls.foldl _ (inn acc p.1 p.2 k (rng1 p.1 k))) L = _
    rw [out_M k L ls _ (inn_nd h _), inn_M h, List.map_cons, List.sum_cons]
    show _ + p.2 * tT p.1 k L + _ = _
    omega
theorem tT_cnt {lim k : Int} (hk : 2 ≤ k) (h0 : -1 ≤ lim) (L : Nat) : tT lim k (L : Int) = ((cntN (fun y => decide (onceN y k.toNat = L)) (lim + 1).toNat : Nat) : Int) := by
  obtain ⟨kn, rfl⟩ : ∃ kn : Nat, k = (kn : Int) := ⟨k.toNat, by omega⟩
  rw [Int.toNat_natCast]
  by_cases c : lim = -1
  · subst c
    unfold tT rng1
    have e : (min (kn : Int) (-1 + 1)).toNat = 0 := by omega
    rw [e]
    rfl
  · obtain ⟨ln, rfl⟩ : ∃ ln : Nat, lim = (ln : Int) := ⟨lim.toNat, by omega⟩
    rw [show ((ln : Int) + 1).toNat = ln + 1 by omega, cnt_once (fun y => decide (y = L)) (by omega) ln]
    unfold tT rng1
    rw [show (min (kn : Int) ((ln : Int) + 1)).toNat = min kn (ln + 1) by omega]
    refine sumR_congr fun j hj => ?_
    have hj1 : j ≤ ln := by
      have := Nat.lt_of_lt_of_le hj (Nat.min_le_right _ _)
      omega
    rw [cnt_eq, cnt_eq]
    have e1 : lng (ln : Int) (kn : Int) j = (((ln - j) / kn + j : Nat) : Int) := by
      unfold lng
      rw [Int.natCast_add, Int.natCast_ediv, Int.ofNat_sub hj1]
    rw [e1]
    have a : decide ((L : Int) ≤ (((ln - j) / kn + j : Nat) : Int)) = decide (L < (ln - j) / kn + j + 1) := decide_eq_decide.mpr (by omega)
    have b : decide ((L : Int) ≤ (j : Int) - 1) = decide (L < j) := decide_eq_decide.mpr (by omega)
    rw [a, b]
/-! ### where the limits stand -/
def Win (A x : Int) : Prop := (-1 ≤ x ∧ x ≤ 60) ∨ (A ≤ x ∧ x ≤ A + 62)
theorem win_len {A : Int} {xs : List Int} (nd : xs.Nodup) (h : ∀ x ∈ xs, Win A x) : xs.length ≤ 200 := by
  have sub : xs ⊆ ((List.range 62).map fun i : Nat => (i : Int) - 1) ++ ((List.range 63).map fun i : Nat => A + (i : Int)) := fun x hx => by
    rcases h x hx with ⟨a, b⟩ | ⟨a, b⟩
    · exact List.mem_append_left _ (List.mem_map.mpr ⟨(x + 1).toNat, List.mem_range.mpr (by omega), by omega⟩)
    · exact List.mem_append_right _ (List.mem_map.mpr ⟨(x - A).toNat, List.mem_range.mpr (by omega), by omega⟩)
  have := List.Nodup.length_le_of_subset nd sub
  rw [List.length_append, List.length_map, List.length_map, List.length_range, List.length_range] at this
  omega
theorem win_next {A lim k : Int} (hA : 0 ≤ A) (hk : 2 ≤ k) (h30 : k ≤ 30) (h : Win A lim) {i : Nat} (hi : i < rng1 lim k) : Win (A / k) (lng lim k i) ∧ Win (A / k) ((i : Int) - 1) := by
  unfold rng1 at hi
  have i1 : (i : Int) < k := by omega
  have i2 : (i : Int) ≤ lim := by omega
  refine ⟨?_, .inl ⟨by omega, by omega⟩⟩
  unfold lng
  have q0 : 0 ≤ (lim - (i : Int)) / k := Int.ediv_nonneg (by omega) (by omega)
  have em := Int.mul_ediv_add_emod (lim - (i : Int)) k
  have m0 := Int.emod_nonneg (lim - (i : Int)) (show k ≠ 0 by omega)
  have m1 := Int.emod_lt_of_pos (lim - (i : Int)) (show 0 < k by omega)
  obtain ⟨q, eq⟩ : ∃ q, q = (lim - (i : Int)) / k := ⟨_, rfl⟩
  rw [← eq] at q0 em ⊢
  have q2 : 2 * q ≤ k * q := Int.mul_le_mul_of_nonneg_right hk q0
  rcases h with ⟨a, b⟩ | ⟨a, b⟩
  · exact .inl ⟨by omega, by omega⟩
  · -- beside A / k
    have ea := Int.mul_ediv_add_emod A k
    have n0 := Int.emod_nonneg A (show k ≠ 0 by omega)
    have n1 := Int.emod_lt_of_pos A (show 0 < k by omega)
    have p0 : 0 ≤ A / k := Int.ediv_nonneg hA (by omega)
    obtain ⟨p, ep⟩ : ∃ p, p = A / k := ⟨_, rfl⟩
    rw [← ep] at ea p0 ⊢
    refine .inr ⟨?_, ?_⟩
    · -- p ≤ q + i
      have : k * p ≤ k * (q + (i : Int)) + (k - 1) := by
        have : (i : Int) ≤ k * (i : Int) := by
          have := Int.mul_le_mul_of_nonneg_right (show 1 ≤ k by omega) (show 0 ≤ (i : Int) by omega)
          omega
        rw [Int.mul_add]
        omega
      have lt : k * p < k * (q + (i : Int) + 1) := by
        rw [Int.mul_add, Int.mul_one]
        omega
      have := Int.lt_of_mul_lt_mul_left lt (by omega)
      omega
    · -- q + i ≤ p + 62
      have h1 : k * (q - p) ≤ 62 + k := by
        rw [Int.mul_sub]
        omega
      by_cases c : q - p ≤ 32
      · omega
      · have : 2 * (q - p) ≤ k * (q - p) := Int.mul_le_mul_of_nonneg_right hk (by omega)
        have : k * 33 ≤ k * (q - p) := Int.mul_le_mul_of_nonneg_left (by omega) (by omega)
        omega
/-- the dict of limits says of every length how many runs up to the last one have it after these replacements -/
structure LimOk (ks : List Int) (last : Nat) (kz : List (Int × Int)) : Prop where
  nd : (keysZ kz).Nodup
  win : ∃ A : Int, 0 ≤ A ∧ A ≤ (last : Int) ∧ ∀ x ∈ keysZ kz, Win A x
  tells : ∀ y : Nat, mZ kz (y : Int) = ((cntN (fun x => decide (sN x ks = y)) (last + 1) : Nat) : Int)
theorem lim_start (last : Nat) : LimOk [] last [((last : Int), 1)] := by
  refine ⟨by simp [keysZ], ⟨(last : Int), by omega, Int.le_refl _, fun x hx => ?_⟩, fun y => ?_⟩
  · have : x = (last : Int) := List.mem_singleton.mp hx
    rw [this]
    exact .inr ⟨Int.le_refl _, by omega⟩
  · rw [mZ_cons]
    show 1 * one (decide ((y : Int) ≤ (last : Int))) + 0 = _
    have e : (fun x => decide (sN x [] = y)) = fun x => decide (x = y) := rfl
    rw [e, cnt_eq, Int.one_mul, Int.add_zero]
    congr 1
    exact decide_eq_decide.mpr (by omega)
theorem outF_win {A k : Int} (hA : 0 ≤ A) (hk : 2 ≤ k) (h30 : k ≤ 30) : ∀ (ls acc : List (Int × Int)), (∀ x ∈ keysZ ls, Win A x) → (∀ x ∈ keysZ acc, Win (A / k) x) → ∀ x ∈ keysZ (ls.foldl (fun acc p => inn acc p.1 p.2 k (rng1 p.1 k)) acc), Win (A / k) x
  | [], acc, _, h => h
  | p :: ls, acc, hl, h => outF_win hA hk h30 ls _ (fun x hx => hl x (List.mem_cons_of_mem _ hx)) fun x hx => by
    rcases inn_mem _ hx with z | ⟨i, hi, z⟩
    · exact h x z
    · have w := win_next hA hk h30 (hl p.1 List.mem_cons_self) hi
      rcases z with z | z
      · rw [z]; exact w.1
      · rw [z]; exact w.2
theorem keys_filter {f : Int × Int → Bool} {kz : List (Int × Int)} {x : Int} (h : x ∈ keysZ (kz.filter f)) : x ∈ keysZ kz := by
  obtain ⟨p, hp, e⟩ := List.mem_map.mp h
  exact List.mem_map.mpr ⟨p, (List.mem_filter.mp hp).1, e⟩
theorem lim_next {ks : List Int} {last : Nat} {kz : List (Int × Int)} {k : Int} (S : LimOk ks last kz) (hks : ∀ x ∈ ks, 2 ≤ x) (hk : 2 ≤ k) (h30 : k ≤ 30) : LimOk (ks ++ [k]) last (nextZ k kz) := by
  obtain ⟨A, hA, hAl, win⟩ := S.win
  have nd0 : (keysZ []).Nodup := List.nodup_nil
  have w := outF_win hA hk h30 kz [] win (fun x hx => nomatch hx)
  refine ⟨?_, ⟨A / k, Int.ediv_nonneg hA (by omega), ?_, fun x hx => w x (keys_filter hx)⟩, fun L => ?_⟩
  · have n := out_nd k kz [] nd0
    unfold nextZ keysZ
    exact List.Nodup.sublist (List.Sublist.map _ List.filter_sublist) n
  · have := Int.ediv_le_self k hA
    omega
  · unfold nextZ
    rw [mZ_filter]
    show mZ (kz.foldl _ []) (L : Int) = _
    rw [out_M k (L : Int) kz [] nd0]
    show 0 + _ = _
    rw [Int.zero_add]
    have b : ∀ p ∈ kz, -1 ≤ p.1 ∧ p.1 < ((last + 100 : Nat) : Int) := fun p hp => by
      rcases win p.1 (List.mem_map.mpr ⟨p, hp, rfl⟩) with z | z <;> omega
    have e1 : (kz.map fun p => p.2 * tT p.1 k (L : Int)) = kz.map fun p => p.2 * ((cntN (fun y => decide (onceN y k.toNat = L)) (p.1 + 1).toNat : Nat) : Int) :=
      List.map_congr_left fun p hp => by rw [tT_cnt hk (b p hp).1]
    rw [e1, ← mZ_sum _ (last + 100) kz b]
    have e2 : (fun x => decide (sN x (ks ++ [k]) = L)) = fun x => (fun y => decide (onceN y k.toNat = L)) (sN x ks) := by
      funext x
      rw [sN_app]
    rw [e2, cnt_by (fun x => sN x ks) (fun y => decide (onceN y k.toNat = L)) (last + 100) (last + 1) fun x hx => by
      have := sN_le ks x hks
      omega]
    exact sumR_congr fun y _ => by rw [S.tells y]
/-- how many runs up to the last one have a length -/
def cntO (L : Nat) (ks : List Int) (last : Nat) : Nat := cntN (fun x => decide (sN x ks = L)) (last + 1)
end Sq

set_option Elab.async false
set_option linter.all false
set_option maxRecDepth 100000
set_option maxHeartbeats 2000000
/-! Objects of an own class: made, their methods called, their properties read, where these may raise too. -/
namespace Sq
open PySem PySem.Spec PyProof.Rows L2
section
variable {X : Cx} {CX : CXT} {k n : Nat} {f C : Addr} {fd : FuncData} {ps ks : List Str} {sp : Sp} {E : XK} {g : List Value → List Value → List Value} {gV : List V → List V → List V}
theorem run_fnKS {pins : List (Addr × Obj)} {σ : L2.St} {H : Hp} {s : Shared} {Q : VK} {us ws : List Value} {vs zs : List V} (F : FnOk X.prog X.w X.K X.mg X.base CX k f fd ps sp) (hr : Room k X.A) (hb : KBn X.K fd ps n ks g gV) (hx : PassesAt CX X σ E)
    (I : Inv X pins σ H s) (r : Vals vs us) (rz : Vals zs ws) (l1 : vs.length = n) (l2 : zs.length = ks.length) (h : sp (gV vs zs) H Q E) : wpAny (model X.prog X.w) X.A (call (.ref f) us (ks.zip ws)) (EP X pins σ Q) X.xe s := by
  have r2 := hb.rel r rz
  refine wpAny_call (codeAny_mono (F.run X.A X.stack s H ⟨us, ks.zip ws⟩ (g us ws) (gV vs zs) Q E hr I.env0 (hb.to s us ws I.kIn (r.length.symm.trans l1) (rz.length.symm.trans l2)) r2 h) fun r s' hq => ?_)
  cases r with
  | error e => exact hx pins H s e s' I hq
  | ok fl =>
    cases fl with
    | ret u => exact I.after hq
    | next => exact False.elim hq
    | brk => exact False.elim hq
    | cont => exact False.elim hq
theorem run_makeS {pins : List (Addr × Obj)} {σ : L2.St} {H : Hp} {s : Shared} {Q : VK} {us : List Value} {vs : List V} (M : Mk X.K C f) (F : FnOk X.prog X.w X.K X.mg X.base CX k f fd ps sp) (hr : Room (k + 1) X.A) (hb : Binds X.K fd ps [])
    (hx : PassesAt CX X σ E) (I : Inv X pins σ H s) (r : Vals vs us)
    (h : ∀ x dx, H x = none → H dx = none → dx ≠ x → sp (.ref x :: vs) (upd (upd H dx (.own x)) x (.ins C dx [])) (fun v H2 => v = .non ∧ Q (.ref x) H2) E) :
    wpAny (model X.prog X.w) X.A (call (.ref C) us) (EP X pins σ Q) X.xe s := by
  have hq := h (s.heap.objs.size + 1) s.heap.objs.size (I.hok.fresh (Nat.le_succ _)) (I.hok.fresh (Nat.le_refl _)) (Nat.ne_of_lt (Nat.lt_succ_self _))
  have I2 := Inv.made (C := C) I
  have r2 : Vals (V.ref (s.heap.objs.size + 1) :: vs) (Value.ref (s.heap.objs.size + 1) :: us) := .cons rfl r
  have hl : (Value.ref (s.heap.objs.size + 1) :: us ++ []).length = ps.length := by
    have e := r2.length
    rw [F.len _ _ _ _ hq] at e
    rw [List.append_nil]
    exact e.symm
  have b := hb _ (Value.ref (s.heap.objs.size + 1) :: us) I2.kIn hl
  rw [List.append_nil] at b
  refine wpAny_call (make_map (f := f) I.kIn M.makes M.init (beq_iff_eq.mp M.fn) (codeAny_mono (F.run _ X.stack _ _ ⟨Value.ref (s.heap.objs.size + 1) :: us, []⟩ (Value.ref (s.heap.objs.size + 1) :: us) _ _ E (hr.make C us [])
    (I2.env0.make C us []) b r2 hq) fun r s' hq' => ?_))
  cases r with
  | error e => exact hx pins _ _ e s' I2 hq'
  | ok fl =>
    cases fl with
    | ret u =>
      obtain ⟨v, H', I3, rv, ev, q3⟩ := I2.after hq'
      subst ev
      exact ⟨rv, ⟨V.ref (s.heap.objs.size + 1), H', I3, rfl, q3⟩⟩
    | next => exact False.elim hq'
    | brk => exact False.elim hq'
    | cont => exact False.elim hq'
theorem run_makeKS {pins : List (Addr × Obj)} {σ : L2.St} {H : Hp} {s : Shared} {Q : VK} {ws : List Value} {zs : List V} (M : Mk X.K C f) (F : FnOk X.prog X.w X.K X.mg X.base CX k f fd ps sp) (hr : Room (k + 1) X.A) (hb : KBn X.K fd ps 1 ks g gV)
    (hx : PassesAt CX X σ E) (I : Inv X pins σ H s) (rz : Vals zs ws) (l2 : zs.length = ks.length)
    (h : ∀ x dx, H x = none → H dx = none → dx ≠ x → sp (gV [.ref x] zs) (upd (upd H dx (.own x)) x (.ins C dx [])) (fun v H2 => v = .non ∧ Q (.ref x) H2) E) :
    wpAny (model X.prog X.w) X.A (call (.ref C) [] (ks.zip ws)) (EP X pins σ Q) X.xe s := by
  have hq := h (s.heap.objs.size + 1) s.heap.objs.size (I.hok.fresh (Nat.le_succ _)) (I.hok.fresh (Nat.le_refl _)) (Nat.ne_of_lt (Nat.lt_succ_self _))
  have I2 := Inv.made (C := C) I
  have r1 : Vals [V.ref (s.heap.objs.size + 1)] [Value.ref (s.heap.objs.size + 1)] := .cons rfl .nil
  have r2 := hb.rel r1 rz
  have e2 : ws.length = ks.length := rz.length.symm.trans l2
  refine wpAny_call (make_map (f := f) I.kIn M.makes M.init (beq_iff_eq.mp M.fn) (codeAny_mono (F.run _ X.stack _ _ ⟨[Value.ref (s.heap.objs.size + 1)], ks.zip ws⟩ (g [Value.ref (s.heap.objs.size + 1)] ws) _ _ E (hr.make C [] (ks.zip ws))
    (I2.env0.make C [] (ks.zip ws)) (hb.to _ [Value.ref (s.heap.objs.size + 1)] ws I2.kIn rfl e2) r2 hq) fun r s' hq' => ?_))
  cases r with
  | error e => exact hx pins _ _ e s' I2 hq'
  | ok fl =>
    cases fl with
    | ret u =>
      obtain ⟨v, H', I3, rv, ev, q3⟩ := I2.after hq'
      subst ev
      exact ⟨rv, ⟨V.ref (s.heap.objs.size + 1), H', I3, rfl, q3⟩⟩
    | next => exact False.elim hq'
    | brk => exact False.elim hq'
    | cont => exact False.elim hq'
end
/-- a method of the class at C -/
structure Mt (CXf : CXT) (P : Program) (w : World) (K : PySem.W.Frag) (mg : Str → Option Value) (base : Heap) (k : Nat) (C : Addr) (m : Str) (ps : List Str) (sp : Sp) : Prop where
  ex : ∃ f fd, FnOk P w K mg base CXf k f fd ps sp ∧ Meth K C m f ∧ Binds K fd ps []
  cl : Cls K C
/-- .. called by keywords alone -/
structure MtK (CXf : CXT) (P : Program) (w : World) (K : PySem.W.Frag) (mg : Str → Option Value) (base : Heap) (k : Nat) (C : Addr) (m : Str) (ps ks : List Str) (gV : List V → List V → List V) (sp : Sp) : Prop where
  ex : ∃ f fd g, FnOk P w K mg base CXf k f fd ps sp ∧ Meth K C m f ∧ KBn K fd ps 1 ks g gV
  cl : Cls K C
/-- the making of an object -/
structure Mx (CXf : CXT) (P : Program) (w : World) (K : PySem.W.Frag) (mg : Str → Option Value) (base : Heap) (k : Nat) (x : Str) (C : Addr) (ps : List Str) (sp : Sp) : Prop where
  ex : ∃ f fd, Mk K C f ∧ FnOk P w K mg base CXf k f fd ps sp ∧ Binds K fd ps []
  at_ : mg x = some (.ref C)
structure MxK (CXf : CXT) (P : Program) (w : World) (K : PySem.W.Frag) (mg : Str → Option Value) (base : Heap) (k : Nat) (x : Str) (C : Addr) (ps ks : List Str) (gV : List V → List V → List V) (sp : Sp) : Prop where
  ex : ∃ f fd g, Mk K C f ∧ FnOk P w K mg base CXf k f fd ps sp ∧ KBn K fd ps 1 ks g gV
  at_ : mg x = some (.ref C)
/-- a property -/
structure Pr (P : Program) (w : World) (K : PySem.W.Frag) (mg : Str → Option Value) (base : Heap) (k : Nat) (C : Addr) (m : Str) (sp : Sp) : Prop where
  ex : ∃ p g fd, PropOf K C m p g ∧ FnOk P w K mg base CX0 k g fd ["self"] sp ∧ Binds K fd ["self"] []
  cl : Cls K C
def tM (C : Addr) (m : Str) (sp : Sp) (E : L2.St → XK) (ta : TE) (t : TA) : TE := fun σ H Q => ta σ H fun x H1 => ∃ a dx fs, x = .ref a ∧ H1 a = some (.ins C dx fs) ∧ fs.lookup m = none ∧ t σ H1 fun vs H2 => sp (x :: vs) H2 Q (E σ)
def tMK (C : Addr) (m : Str) (l : Nat) (gV : List V → List V → List V) (sp : Sp) (E : L2.St → XK) (ta : TE) (tk : TA) : TE := fun σ H Q => ta σ H fun x H1 => ∃ a dx fs, x = .ref a ∧ H1 a = some (.ins C dx fs) ∧ fs.lookup m = none ∧ tk σ H1 fun zs H2 => zs.length = l ∧ sp (gV [x] zs) H2 Q (E σ)
def tMx (C : Addr) (sp : Sp) (E : L2.St → XK) (t : TA) : TE := fun σ H Q => t σ H fun vs H1 => ∀ x dx, H1 x = none → H1 dx = none → dx ≠ x → sp (.ref x :: vs) (upd (upd H1 dx (.own x)) x (.ins C dx [])) (fun v H2 => v = .non ∧ Q (.ref x) H2) (E σ)
def tMxK (C : Addr) (l : Nat) (gV : List V → List V → List V) (sp : Sp) (E : L2.St → XK) (tk : TA) : TE := fun σ H Q => tk σ H fun zs H1 => zs.length = l ∧ ∀ x dx, H1 x = none → H1 dx = none → dx ≠ x → sp (gV [.ref x] zs) (upd (upd H1 dx (.own x)) x (.ins C dx [])) (fun v H2 => v = .non ∧ Q (.ref x) H2) (E σ)
theorem at0 {X : Cx} : ∀ σ, PassesAt CX0 X σ ((fun _ => E0 : L2.St → XK) σ) := fun _ _ _ _ _ _ _ h => h.elim
section
variable {X : Cx} {CXf : CXT} {k : Nat} {C : Addr} {m x : Str} {ps ks : List Str} {gV : List V → List V → List V} {sp : Sp} {E : L2.St → XK} {p apos pos : Pos} {o e : Expr} {es : List Expr} {kws : List Keyword} {ta : TE} {t tk : TA} {pl : Sem Bool}
theorem pe_m (D : Mt CXf X.prog X.w X.K X.mg X.base k C m ps sp) (hx : ∀ σ, PassesAt CXf X σ (E σ)) (hr : Room k X.A) (he : PE X o ta) (ha : PA X (e :: es) t)
    (hst : starEach (e :: es) X.env = (false, eval e X.env) :: starEach es X.env := by rfl) (hpl : (backTo pos (starEach es X.env)).any (·.1) = false := by rfl)
    (ht : eval (.Call (.Attribute o m apos) (e :: es) [] pos) X.env = (do
      let ov ← eval o X.env
      standAt apos.atName
      let (f, first) ← holding [ov] (getMethod ov m pl)
      callWith pos f first (backTo pos (starEach (e :: es) X.env)) (backToKw pos (keywordEach [] X.env))) := by rfl) :
    PE X (.Call (.Attribute o m apos) (e :: es) [] pos) (tM C m sp E ta t) := by
  obtain ⟨⟨f, fd, F, hm, hb⟩, c⟩ := D
  refine ⟨fun pins s σ H Q I h => ?_⟩
  refine PySem.W.methodCall_KW (pl := pl) (thn (he.run pins s σ H _ I h) fun u s1 ⟨x, H1, I1, rx, a, dx, fs, ex, ea, l, q⟩ => ?_) ht
  subst ex
  obtain rfl : u = Value.ref a := rx
  refine getmeth_ok I1 ea c hm l ?_
  refine PySem.W.callWith_K (first := [.ref a]) (h₀ := X.base) I.ok.mod.kin hm.kp (thn (ha.run pos pins s1 σ H1 _ I1 q) fun us s2 ⟨vs, H2, I2, r, q2⟩ => ⟨I2.kIn, ?_⟩) hst hpl
  exact run_fnS (us := .ref a :: us) (vs := .ref a :: vs) F hr hb (hx σ) I2 (.cons rfl r) q2
theorem pe_m0c (D : Mt CXf X.prog X.w X.K X.mg X.base k C m ps sp) (hx : ∀ σ, PassesAt CXf X σ (E σ)) (hr : Room k X.A) (he : PE X o ta)
    (ht : eval (.Call (.Attribute o m apos) [] [] pos) X.env = (do
      let ov ← eval o X.env
      standAt apos.atName
      let (f, first) ← holding [ov] (getMethod ov m pl)
      callWith pos f first (backTo pos (starEach [] X.env)) (backToKw pos (keywordEach [] X.env))) := by rfl) :
    PE X (.Call (.Attribute o m apos) [] [] pos) (tM C m sp E ta tNil) := by
  obtain ⟨⟨f, fd, F, hm, hb⟩, c⟩ := D
  refine ⟨fun pins s σ H Q I h => ?_⟩
  refine PySem.W.methodCall_KW (pl := pl) (thn (he.run pins s σ H _ I h) fun u s1 ⟨x, H1, I1, rx, a, dx, fs, ex, ea, l, q⟩ => ?_) ht
  subst ex
  obtain rfl : u = Value.ref a := rx
  refine getmeth_ok I1 ea c hm l ?_
  exact PySem.W.callWith_K0 (first := [.ref a]) I1.kIn hm.kp (run_fnS (us := [.ref a]) (vs := [.ref a]) F hr hb (hx σ) I1 (.cons rfl .nil) q)
theorem pe_mK (D : MtK CXf X.prog X.w X.K X.mg X.base k C m ps ks gV sp) (hx : ∀ σ, PassesAt CXf X σ (E σ)) (hr : Room k X.A) (he : PE X o ta) (hkw : PK X kws tk)
    (hall : (backToKw pos (keywordEach kws X.env)).all (·.1.isSome) = true := by rfl) (hks : (backToKw pos (keywordEach kws X.env)).filterMap (·.1) = ks := by rfl)
    (hpl : ((backTo pos (starEach [] X.env)).any (·.1) || (backToKw pos (keywordEach kws X.env)).any (·.1.isNone)) = false := by rfl)
    (ht : eval (.Call (.Attribute o m apos) [] kws pos) X.env = (do
      let ov ← eval o X.env
      standAt apos.atName
      let (f, first) ← holding [ov] (getMethod ov m pl)
      callWith pos f first (backTo pos (starEach [] X.env)) (backToKw pos (keywordEach kws X.env))) := by rfl) :
    PE X (.Call (.Attribute o m apos) [] kws pos) (tMK C m ks.length gV sp E ta tk) := by
  obtain ⟨⟨f, fd, g, F, hm, hb⟩, c⟩ := D
  refine ⟨fun pins s σ H Q I h => ?_⟩
  refine PySem.W.methodCall_KW (pl := pl) (thn (he.run pins s σ H _ I h) fun u s1 ⟨x, H1, I1, rx, a, dx, fs, ex, ea, l, q⟩ => ?_) ht
  subst ex
  obtain rfl : u = Value.ref a := rx
  refine getmeth_ok I1 ea c hm l ?_
  refine PySem.W.callWith_KW0 (first := [.ref a]) (h₀ := X.base) I.ok.mod.kin hm.kp hall (thn (hkw.run pos pins s1 σ H1 _ I1 q) fun ws s2 ⟨zs, H2, I2, rz, l2, q2⟩ => ⟨I2.kIn, ?_⟩) hpl
  rw [hks]
  exact run_fnKS (us := [.ref a]) (vs := [.ref a]) F hr hb (hx σ) I2 (.cons rfl .nil) rz rfl l2 q2
theorem pe_mx (D : Mx CXf X.prog X.w X.K X.mg X.base k x C ps sp) (hx : ∀ σ, PassesAt CXf X σ (E σ)) (hr : Room (k + 1) X.A) (hg : Gl X x) (ha : PA X (e :: es) t) (hdb : (x == ("__debug__" : Str)) = false := by decide)
    (he : starEach (e :: es) X.env = (false, eval e X.env) :: starEach es X.env := by rfl) (hpl : (backTo pos (starEach es X.env)).any (·.1) = false := by rfl) :
    PE X (.Call (.Name x p) (e :: es) [] pos) (tMx C sp E t) := by
  obtain ⟨⟨f, fd, M, F, hb⟩, hm⟩ := D
  refine ⟨fun pins s σ H Q I h => ?_⟩
  refine wpAny_Call_Name_kw (ld_glob I hg hm ?_ hdb)
  refine PySem.W.callWith_K (h₀ := X.base) I.ok.mod.kin M.kp (thn (ha.run pos pins s σ H _ I h) fun us s1 ⟨vs, H1, I1, r, q⟩ => ⟨I1.kIn, ?_⟩) he hpl
  exact run_makeS M F hr hb (hx σ) I1 r q
theorem pe_mxK (D : MxK CXf X.prog X.w X.K X.mg X.base k x C ps ks gV sp) (hx : ∀ σ, PassesAt CXf X σ (E σ)) (hr : Room (k + 1) X.A) (hg : Gl X x) (hkw : PK X kws tk) (hall : (backToKw pos (keywordEach kws X.env)).all (·.1.isSome) = true := by rfl)
    (hks : (backToKw pos (keywordEach kws X.env)).filterMap (·.1) = ks := by rfl) (hdb : (x == ("__debug__" : Str)) = false := by decide)
    (hpl : ((backTo pos (starEach [] X.env)).any (·.1) || (backToKw pos (keywordEach kws X.env)).any (·.1.isNone)) = false := by rfl) :
    PE X (.Call (.Name x p) [] kws pos) (tMxK C ks.length gV sp E tk) := by
  obtain ⟨⟨f, fd, g, M, F, hb⟩, hm⟩ := D
  refine ⟨fun pins s σ H Q I h => ?_⟩
  refine wpAny_Call_Name_kw (ld_glob I hg hm ?_ hdb)
  refine PySem.W.callWith_KW0 (h₀ := X.base) I.ok.mod.kin M.kp hall (thn (hkw.run pos pins s σ H _ I h) fun ws s1 ⟨zs, H1, I1, rz, l2, q⟩ => ⟨I1.kIn, ?_⟩) hpl
  rw [hks]
  exact run_makeKS M F hr hb (hx σ) I1 rz l2 q
theorem pe_pr {f : Str} (D : Pr X.prog X.w X.K X.mg X.base k C f sp) (hr : Room (k + 1) X.A) (he : PE X e ta) (hab : attributeBase e f X.env (eval e X.env) = eval e X.env := by rfl) : PE X (.Attribute e f pos) (tProp C sp [] E0 ta) := by
  obtain ⟨⟨q, g, fd, hp, F, hb⟩, c⟩ := D
  exact pe_prop he c hp F hr hb .nil (fun _ _ _ _ _ _ _ h => h.elim) hab
end
end Sq

set_option Elab.async false
set_option linter.all false
set_option maxRecDepth 100000
set_option maxHeartbeats 1000000
/-! a <= b <= c <= d as a test; the number of all origins. -/
namespace Sq
open PySem PySem.Spec PyProof.Rows L2
def tCh3 (r r' r'' : R2) (ta tb tc td : TE) : TT := fun σ H Q => ta σ H fun x H1 => tb σ H1 fun y H2 => r x y H2 fun z H3 => ∃ k, z = .bl k ∧ if k = true then tc σ H3 fun u H4 => r' y u H4 fun z' H5 => ∃ k', z' = .bl k' ∧ if k' = true then td σ H5 fun v H6 => r'' u v H6 fun z'' H7 => ∃ k'', z'' = .bl k'' ∧ Q k'' H7 else Q false H5 else Q false H3
theorem pt_chain3 {X : Cx} {a b c d : Expr} {ta tb tc td : TE} {pos : Pos} {op op' op'' : CmpOp} {r r' r'' : R2} (ho : OpR X (compareOp op) r) (ho' : OpR X (compareOp op') r') (ho'' : OpR X (compareOp op'') r'') (ha : PE X a ta) (hb : PE X b tb) (hc : PE X c tc) (hd : PE X d td)
    (hm : lastMarks [op, op', op''] [b, c, d] = false := by rfl) : PT X (.Compare a [op, op', op''] [b, c, d] pos) (tCh3 r r' r'' ta tb tc td) := by
  refine ⟨fun pins s σ H Q I h => ?_⟩
  refine PyProof.Rows.isTrue_chain (thn (ha.run pins s σ H _ I h) fun x1 s1 ⟨x, H1, I1, rx, h1⟩ => ?_) hm
  refine PyProof.Rows.test_link (thn (hb.run pins s1 σ H1 _ I1 h1) fun y1 s2 ⟨y, H2, I2, ry, h2⟩ => ?_)
  refine thn (ho pins s2 σ H2 x y x1 y1 _ I2 rx ry h2) fun z1 s3 ⟨z, H3, I3, rz, k, ez, h3⟩ => ?_
  subst ez
  obtain rfl : z1 = Value.bool k := rz
  refine wpAny_pure ?_
  cases k with
  | false => exact ⟨H3, I3, h3⟩
  | true =>
    refine PyProof.Rows.test_link (thn (hc.run pins s3 σ H3 _ I3 h3) fun u1 s4 ⟨u, H4, I4, ru, h4⟩ => ?_)
    refine thn (ho' pins s4 σ H4 y u y1 u1 _ I4 ry ru h4) fun z2 s5 ⟨z', H5, I5, rz', k', ez', h5⟩ => ?_
    subst ez'
    obtain rfl : z2 = Value.bool k' := rz'
    refine wpAny_pure ?_
    cases k' with
    | false => exact ⟨H5, I5, h5⟩
    | true =>
      refine PyProof.Rows.test_last (thn (hd.run pins s5 σ H5 _ I5 h5) fun v1 s6 ⟨v, H6, I6, rv, h6⟩ => ?_)
      refine thn (ho'' pins s6 σ H6 u v u1 v1 _ I6 ru rv h6) fun z3 s7 ⟨z'', H7, I7, rz'', k'', ez'', h7⟩ => ?_
      subst ez''
      obtain rfl : z3 = Value.bool k'' := rz''
      exact wpAny_pure ⟨H7, I7, h7⟩
end Sq

set_option Elab.async false
set_option linter.all false
set_option maxRecDepth 100000
set_option maxHeartbeats 1000000
/-! The number of all origins, replacement by replacement. -/
namespace Sq
open PySem PySem.Spec PyProof.Rows L2
theorem cntN_mono (f : Nat → Bool) {n m : Nat} (h : n ≤ m) : cntN f n ≤ cntN f m := by
  induction m with
  | zero =>
    obtain rfl : n = 0 := by omega
    exact Nat.le_refl _
  | succ m ih =>
    by_cases c : n = m + 1
    · rw [c]
      exact Nat.le_refl _
    · exact Nat.le_trans (ih (by omega)) (Nat.le_add_right _ _)
theorem cntN_const {f : Nat → Bool} {B : Nat} (hf : ∀ y, f y = true → y ≤ B) : ∀ {n : Nat}, B + 1 ≤ n → cntN f n = cntN f (B + 1) := fun {n} h => by
  induction n with
  | zero => omega
  | succ n ih =>
    by_cases c : B + 1 = n + 1
    · rw [c]
    · rw [cntN_succ, ih (by omega)]
      have : f n ≠ true := fun z => by have := hf n z; omega
      rw [if_neg this, Nat.add_zero]
theorem cntN_sum (f : Nat → Bool) : ∀ n : Nat, ((cntN f n : Nat) : Int) = sumR (fun y => one (f y)) n
  | 0 => rfl
  | n + 1 => by
    show _ = sumR _ n + one (f n)
    rw [← cntN_sum f n, cntN_succ, Int.natCast_add]
    congr 1
    unfold one
    split <;> rfl
theorem sumR_cnt (f : Nat → Bool) : ∀ k : Nat, sumR (fun left => ((cntN f left : Nat) : Int)) k = sumR (fun y => ((k : Int) - 1 - (y : Int)) * one (f y)) k
  | 0 => rfl
  | k + 1 => by
    show sumR _ k + ((cntN f k : Nat) : Int) = sumR (fun y => (((k + 1 : Nat) : Int) - 1 - (y : Int)) * one (f y)) k + (((k + 1 : Nat) : Int) - 1 - (k : Int)) * one (f k)
    rw [sumR_cnt f k, cntN_sum f k, ← sumR_add]
    have e : (((k + 1 : Nat) : Int) - 1 - (k : Int)) = 0 := by omega
    rw [e, Int.zero_mul, Int.add_zero]
    refine sumR_congr fun y _ => ?_
    rw [show ((k + 1 : Nat) : Int) - 1 - (y : Int) = ((k : Int) - 1 - (y : Int)) + 1 by omega, Int.add_mul, Int.one_mul]
def wAll (L : Nat) : List Int → Int
  | [] => 1
  | k :: r => k * wAll L r - sumR (fun y => (k - 1 - (y : Int)) * one (decide (sN y r = L))) k.toNat
theorem sN_grow {ks : List Int} {x : Nat} (h : ∀ k ∈ ks, 2 ≤ k) : (x : Int) ≤ pro ks * ((sN x ks : Nat) : Int) := by
  rw [← sq_nat ks x h]
  exact sq_grow ks _ h (by omega)
theorem sumR_const (v : Int) : ∀ n : Nat, sumR (fun _ => v) n = (n : Int) * v
  | 0 => by
    show (0 : Int) = 0 * v
    rw [Int.zero_mul]
  | n + 1 => by
    show sumR _ n + v = _
    rw [sumR_const v n, show ((n + 1 : Nat) : Int) = (n : Int) + 1 by omega, Int.add_mul, Int.one_mul]
theorem sumR_sub {g h : Nat → Int} : ∀ n : Nat, sumR (fun y => g y - h y) n = sumR g n - sumR h n
  | 0 => rfl
  | n + 1 => by
    show sumR _ n + (g n - h n) = (sumR g n + g n) - (sumR h n + h n)
    rw [sumR_sub n]
    omega
theorem pro_cons' (k : Int) (ks : List Int) : pro (k :: ks) = k * pro ks := by
  have := pro_app [k] ks
  rw [show [k] ++ ks = k :: ks from rfl] at this
  rw [this, show pro [k] = 1 * k from rfl, Int.one_mul]
theorem cnt_all {L : Nat} (hL : 1 ≤ L) : ∀ (ks : List Int) (last : Nat), (∀ k ∈ ks, 2 ≤ k) → (L : Int) * pro ks ≤ (last : Int) → ((cntO L ks last : Nat) : Int) = wAll L ks
  | [], last, _, h => by
    have h' : (L : Int) ≤ (last : Int) := by
      have e : pro [] = 1 := rfl
      rw [e] at h
      omega
    unfold cntO
    show ((cntN (fun x => decide (x = L)) (last + 1) : Nat) : Int) = 1
    rw [cnt_eq, decide_eq_true (by omega)]
    rfl
  | k :: r, last, hks, h => by
    have hk := hks k List.mem_cons_self
    have hr : ∀ x ∈ r, 2 ≤ x := fun x hx => hks x (List.mem_cons_of_mem _ hx)
    obtain ⟨kn, rfl⟩ : ∃ kn : Nat, k = (kn : Int) := ⟨k.toNat, by omega⟩
    have p1 : 1 ≤ pro r := pro_pos hr
    obtain ⟨pn, epn⟩ : ∃ pn : Nat, pro r = (pn : Int) := ⟨(pro r).toNat, by omega⟩
    have pn1 : 1 ≤ pn := by omega
    rw [pro_cons', epn] at h
    have hB : kn * (L * pn) ≤ last := by
      have e : (L : Int) * ((kn : Int) * (pn : Int)) = ((kn * (L * pn) : Nat) : Int) := by
        simp only [Int.natCast_mul]
        rw [Int.mul_left_comm]
      rw [e] at h
      omega
    have B1 : 1 ≤ L * pn := Nat.mul_pos hL pn1
    obtain ⟨B, eB⟩ : ∃ B, B = L * pn := ⟨_, rfl⟩
    rw [← eB] at hB B1
    have ih := cnt_all hL r B hr (by rw [epn, eB, Int.natCast_mul]; exact Int.le_refl _)
    have hf : ∀ y, decide (sN y r = L) = true → y ≤ B := fun y e => by
      have e' : sN y r = L := of_decide_eq_true e
      have g := sN_grow (x := y) hr
      rw [e', epn] at g
      have : (pn : Int) * (L : Int) = ((L * pn : Nat) : Int) := by rw [Int.natCast_mul, Int.mul_comm]
      omega
    unfold cntO
    show ((cntN (fun x => (fun y => decide (sN y r = L)) (onceN x (kn : Int).toNat)) (last + 1) : Nat) : Int) = (kn : Int) * wAll L r - sumR (fun y => ((kn : Int) - 1 - (y : Int)) * one (decide (sN y r = L))) (kn : Int).toNat
    rw [Int.toNat_natCast, cnt_once (fun y => decide (sN y r = L)) (by omega) last]
    have kB : kn ≤ kn * B := Nat.le_mul_of_pos_right _ (by omega)
    rw [Nat.min_eq_left (by omega), sumR_sub, sumR_cnt]
    congr 1
    rw [← ih, ← sumR_const]
    refine sumR_congr fun left hl => ?_
    unfold cntO
    congr 1
    refine cntN_const hf ?_
    -- (last - left) / kn + left is B at least
    have : B ≤ (last - left) / kn + left := by
      by_cases c : left = 0
      · rw [c, Nat.sub_zero, Nat.add_zero]
        exact (Nat.le_div_iff_mul_le (by omega)).mpr (by rw [Nat.mul_comm]; exact hB)
      · have d : B - 1 ≤ (last - left) / kn := (Nat.le_div_iff_mul_le (by omega)).mpr (by
          have e : (B - 1) * kn = kn * B - kn := by rw [Nat.mul_comm, Nat.mul_sub, Nat.mul_one]
          omega)
        omega
    omega
theorem cntO_step (L : Nat) (ks : List Int) (n : Nat) : cntO L ks (n + 1) = cntO L ks n + (if sN (n + 1) ks = L then 1 else 0) := by
  unfold cntO
  rw [cntN_succ _ (n + 1)]
  congr 1
  by_cases c : sN (n + 1) ks = L
  · rw [if_pos c, if_pos (by exact decide_eq_true c)]
  · rw [if_neg c, if_neg (by intro z; exact c (of_decide_eq_true z))]
theorem cntO_mono (L : Nat) (ks : List Int) {n m : Nat} (h : n ≤ m) : cntO L ks n ≤ cntO L ks m := cntN_mono _ (by omega)
end Sq

set_option Elab.async false
set_option linter.all false
set_option maxRecDepth 100000
set_option maxHeartbeats 1000000
/-! yield from a list. -/
namespace L2
open PySem PySem.Spec PyProof.Rows GenW
section
variable {prog : Program} {w : World} {A : Around} {E : Value → Shared → Prop} {s : Shared}
theorem special_lst_item {it l : Addr} {i : Nat} {items : Array Value} {x : Value} {Q : Option Value → Shared → Prop} (hit : s.heap.IsListIter it l i) (hl : s.heap.IsList l items) (hx : items[i]? = some x)
    (hQ : ∀ h', h'.IsListIter it l (i + 1) → Heap.SameBut it s.heap h' → Q (some x) { s with heap := h' }) : wpAny (model prog w) A (callSpecial? (.ref it) "__next__") Q E s := by
  obtain ⟨o, ho, hc, hd⟩ := id hit
  obtain ⟨ol, hol, _, nl, hdl⟩ := hl
  refine wpAny_callSpecial?_slot (name := Str.ofString "__next__") hit.typeIs slot_listiter_next (wpAny_call_entry slot_listiter_next hit.typeIs entry_listiter_next ?_ (args_listiter_next _))
  show wpAny _ _ (field (.ref it) 0 >>= _) _ _ s
  refine wpAny_bind (wpAny_field ho hd (x := .ref l) rfl ?_)
  show wpAny _ _ (if (Value.ref l == Value.none) = true then _ else _) _ _ s
  rw [if_neg (show ¬ ((Value.ref l == Value.none) = true) from Bool.false_ne_true)]
  show wpAny _ _ (field (.ref it) 1 >>= _) _ _ s
  refine wpAny_bind (wpAny_field ho hd (x := .int i 0) rfl ?_)
  show wpAny _ _ (seqItems? (.ref l) >>= _) _ _ s
  refine wpAny_bind (wpAny_seqItems hol hdl ?_)
  simp only [Int.toNat_natCast, hx]
  refine wpAny_bind (wpAny_setField ho hd (by simp) (wpAny_pure ⟨x, rfl, hQ _ ?_ (Heap.SameBut.update ..)⟩))
  exact ⟨_, Heap.get?_update_self _ ho (Obj.isFreed_of_fields (Obj.data_mapFields hd _)), (Obj.cls_mapFields ..).trans hc, by
    rw [Obj.data_mapFields hd]; simp [rawInt]⟩
theorem special_lst_end {it l : Addr} {i : Nat} {items : Array Value} {Q : Option Value → Shared → Prop} (hh : A.handled = none) (hit : s.heap.IsListIter it l i) (hl : s.heap.IsList l items) (hx : items[i]? = none)
    (hE : ∀ e h', StopX e h' → Heap.ExtBut it s.heap h' → E e { s with heap := h' }) : wpAny (model prog w) A (callSpecial? (.ref it) "__next__") Q E s := by
  obtain ⟨o, ho, hc, hd⟩ := id hit
  obtain ⟨ol, hol, _, nl, hdl⟩ := hl
  refine wpAny_callSpecial?_slot (name := Str.ofString "__next__") hit.typeIs slot_listiter_next (wpAny_call_entry slot_listiter_next hit.typeIs entry_listiter_next ?_ (args_listiter_next _))
  show wpAny _ _ (field (.ref it) 0 >>= _) _ _ s
  refine wpAny_bind (wpAny_field ho hd (x := .ref l) rfl ?_)
  show wpAny _ _ (if (Value.ref l == Value.none) = true then _ else _) _ _ s
  rw [if_neg (show ¬ ((Value.ref l == Value.none) = true) from Bool.false_ne_true)]
  show wpAny _ _ (field (.ref it) 1 >>= _) _ _ s
  refine wpAny_bind (wpAny_field ho hd (x := .int i 0) rfl ?_)
  show wpAny _ _ (seqItems? (.ref l) >>= _) _ _ s
  refine wpAny_bind (wpAny_seqItems hol hdl ?_)
  simp only [Int.toNat_natCast, hx]
  refine wpAny_bind (wpAny_rule (wpAny_bind (wpAny_setField ho hd (by simp) ?_)))
  show wpAny _ _ (newExc (.type "StopIteration") [] >>= _) _ _ _
  refine wpAny_bind ?_
  simp only [newExc, newTuple]
  refine wpAny_bind (wpAny_newObj_type ?_ (by size_fits))
  refine wpAny_bind (m := firstArgMember _ _) (wpAny_of_eq (a := Value.none) (by first | rfl | (simp only [firstArgMember]; rfl)) ?_)
  refine wpAny_newObj_type ?_ (by size_fits)
  simp only [raiseNew]
  refine wpAny_bind (wpAny_handled ?_)
  first | rw [show A.in1.handled = none from hh] | rw [hh]
  refine wpAny_bind (wpAny_pure (wpAny_throw ?_))
  refine hE _ _ ⟨_, _, _, rfl, Heap.get?_push_size _ rfl, rfl, rfl, ?_⟩ (((Heap.SameBut.update ..).extBut.push _).push _)
  first
    | rfl
    | (rw [Array.getElem?_append_left (by decide)]; rfl)
    | kernel_rfl
end
section
variable {X : Cx} {e : Expr} {te : TE}
theorem pi_listK {tg l : Expr} {K0 : PySem.W.Frag} {tl : TE} (hK : X.K = K0) (hl : PE X l tl) : PI X tg l (iList K0 tl) := by
  subst hK
  exact pi_list hl
def tYfLst (te : TE) : TYf := fun σ H Q => te σ H fun x H1 => ∃ a xs, x = .ref a ∧ H1 a = some (.lst xs) ∧ Q xs H1
theorem close_lst : typeLookup (.type "list_iterator") "close" = pure none := by rw [typeLookup_type, builtinLookup_eq_fast]; kernel_rfl
theorem yf_lst (he : PE X e te) : YfE X e (tYfLst te) := by
  refine ⟨fun pins s σ H Q I h => ?_⟩
  refine thn (he.run pins s σ H _ I h) fun v s1 ⟨x, H1, I1, r1, a, xs, ex, ha, hq⟩ => ?_
  subst ex
  obtain rfl : v = Value.ref a := r1
  obtain ⟨its, rits, pl, hlen⟩ := I1.list (.inl (.inl ha))
  have ht := pl.isList
  refine ⟨"list", ht.typeIs, by decide, ?_⟩
  refine wpAny_pyIter_list ht ?_
  have ksz : ∀ b o, s1.heap.get? b = some o → b ≠ s1.heap.objs.size := fun b o e => Nat.ne_of_lt (Heap.lt_size e)
  have kp : ∀ b o, s1.heap.get? b = some o → (s1.heap.push { cls := .type "list_iterator", data := .fields #[.ref a, .int 0 0] }).get? b = some o := fun b o e => Heap.get?_push_of_some _ e
  refine ⟨s1.heap.objs.size, H1, xs, fun j h => h.IsListIter s1.heap.objs.size a j ∧ h.IsList a its.toArray, rfl, I1.kept (t' := s1.toks) kp, .inr I1.sz, Nat.ne_of_gt I1.lt, fun y c hy => ?_, I1.hok.fresh (Nat.le_refl _), fun p hp => ?_,
    ⟨⟨_, Heap.get?_push_size _ rfl, rfl, rfl⟩, ht.push _⟩, ⟨⟨"list_iterator", fun j h q => ?_, close_lst, by decide⟩, fun j h h' q hk => ?_, fun A' j x s2 Q' E' hA hx q hQ => ?_, fun A' s2 Q' E' hA q hE => ?_⟩, hq⟩
  · obtain ⟨v, o, ho, _⟩ := I1.cell y c hy
    exact ksz c o ho
  · exact ksz p.1 _ (I1.pin p hp).1
  · obtain ⟨⟨o, ho, hc, _⟩, _⟩ := q
    exact ⟨o, ho, hc⟩
  · obtain ⟨⟨o, ho, r⟩, o2, ho2, r2⟩ := q
    exact ⟨⟨o, hk _ o (.inl rfl) ho, r⟩, o2, hk _ o2 (.inr (by rw [ha]; exact fun z => by cases z)) ho2, r2⟩
  · obtain ⟨q1, q2⟩ := q
    obtain ⟨u, hu, ru⟩ := rits.get hx
    have hne : a ≠ s1.heap.objs.size := by
      obtain ⟨o, ho, _⟩ := ht
      exact ksz a o ho
    exact special_lst_item q1 q2 (x := u) (by simpa using hu) fun h' q1' hs => hQ u h' s2.toks ru ⟨q1', q2.extBut hs.extBut hne⟩ fun b o hb eb => hs.extBut b o hb eb
  · obtain ⟨q1, q2⟩ := q
    have hnone : its.toArray[xs.length]? = none := by
      have e := rits.length
      have e2 : its[xs.length]? = none := List.getElem?_eq_none_iff.mpr (by omega)
      simpa using e2
    exact special_lst_end hA q1 q2 hnone fun e h' hS hk => hE e h' s2.toks hS fun b o hb eb => hk b o hb eb
end
end L2

set_option Elab.async false
set_option linter.all false
set_option maxRecDepth 100000
set_option maxHeartbeats 2000000
namespace Sq
open PySem PySem.Spec PyProof.Rows L2 GenW
/-- a generator and its consumer -/
structure Lv where
  Xc : Cx
  pinsC : List (Addr × Obj)
  N : List Str
  qual : Str
  scope : Scope
  f : Addr
  cd : Value
  A : Around
  n0 : Addr
  a : Addr
  go : Obj
  g : Nat
  E : XK
  sC : Shared
  HC : Hp
  tot : Nat
  M : Addr → Prop
  It : Nat → V → Hp → Prop
  J : Nat → L2.St → Hp → Prop
abbrev Lv.cx (L : Lv) (s0 : Shared) (H0 : Hp) (E : XK) : Cx := gcx L.Xc L.N L.qual L.scope L.f L.cd L.A L.n0 s0 H0 E [(L.a, L.go)]
abbrev Lv.prv (L : Lv) (ip : List (Addr × Obj)) : List Addr := prvOf L.scope L.n0 [(L.a, L.go)] ip
abbrev Lv.md (L : Lv) : Model := model L.Xc.prog L.Xc.w
structure Lv.Ok (L : Lv) : Prop where
  ab : Above L.Xc L.pinsC L.n0
  isG : ∀ h : Heap, h.get? L.a = some L.go → h.IsGen L.a L.g
  na : L.n0 ≤ L.a
/-- the consumer leaves what it doesn't own -/
def Kps (M : Addr → Prop) (x : V) (H1 H2 : Hp) : Prop := ∀ b o, H1 b = some o → ¬ M b → x ≠ .ref b → H2 b = some o
def Lv.Seat (L : Lv) (i : Nat) (Hb : Hp) (s0 : Shared) (E' : XK) : Prop := ∃ c sb, s0 = cutSh sb L.n0 ∧ L.n0 ≤ sb.heap.objs.size ∧ Inv L.Xc L.pinsC c Hb sb ∧ L.J i c Hb ∧ ((i = 0 ∧ s0 = L.sC ∧ Hb = L.HC ∧ E' = L.E) ∨ E' = E0)
def Lv.Y (L : Lv) : Protocol := fun n s₀ v s kap => ∃ (i : Nat) (c : L2.St) (Hb H1 : Hp) (x : V) (ip : List (Addr × Obj)), n + 1 + i = L.tot ∧ L.J i c Hb ∧ Same Hb H1 ∧ L.It i x H1 ∧ RelV x v ∧ Inv L.Xc L.pinsC c (hidP (L.prv ip) s.heap H1) s ∧ (∀ b ∈ L.prv ip, H1 b = none ∧ ∃ o, s.heap.get? b = some o) ∧ s.heap.IsGen L.a L.g ∧
  ∀ s2 c2 H2, Inv L.Xc L.pinsC c2 H2 s2 → (∀ b ∈ L.prv ip, H2 b = hidP (L.prv ip) s.heap H1 b) → Kps L.M x H1 (unh (L.prv ip) H2) → L.J (i + 1) c2 (unh (L.prv ip) H2) → kap (.send .none) s2
def Lv.R (L : Lv) : GenEnd := fun n s₀ r s => ((r = .ok (.ret .none) ∨ r = .ok .next) ∧ ∃ c Hb H1, L.J L.tot c Hb ∧ Same Hb H1 ∧ Inv L.Xc L.pinsC c H1 s) ∨ ∃ e, r = .error e ∧ L2N.CX L.Xc.prog L.Xc.w L.Xc.stack L.HC L.sC L.E e s ∧ s.heap.IsGen L.a L.g
structure GEndL where
  nx : Nat → Hp → L2.St → Hp → Prop
  rt : Nat → Hp → VK
  bk : Nat → Hp → L2.St → Hp → Prop := fun _ _ _ _ => False
  ct : Nat → Hp → L2.St → Hp → Prop := fun _ _ _ _ => False
def GEndL.at (D : GEndL) (i : Nat) (Hb : Hp) : Ends := { nx := D.nx i Hb, rt := D.rt i Hb, bk := D.bk i Hb, ct := D.ct i Hb }
abbrev TGL := GEndL → Nat → Hp → L2.St → Hp → Prop
structure Lv.GC (L : Lv) (ip : List (Addr × Obj)) (c : Code) (fs : List Frame) (gd : Bool → Bool) : Prop where
  over : L.A.over c fs = L.A.deeper (envOfC L.qual L.scope L.n0 L.f L.cd)
  split : splitAtGen fs = none
  guard : fs.any Frame.guarded = false
  gd : gd false = false
  low : ∀ p ∈ ip, L.n0 ≤ p.1
structure Lv.GK (L : Lv) (ip : List (Addr × Obj)) (c : Code) (fs : List Frame) (Kf : Flow → Sem PySem.Fin) (Je : Value → Sem PySem.Fin) (D : GEndL) : Prop where
  ok : ∀ (n i : Nat) (s₀ s s0 : Shared) (E' : XK) (Hb : Hp) (fl : Flow), n + i = L.tot → L.Seat i Hb s0 E' → SP (L.cx s0 Hb E') ip (D.at i Hb) fl s → Seg L.md L.A L.R L.Y n s₀ c (Kf fl) fs s
  exc : ∀ (n i : Nat) (s₀ : Shared) (e : Value) (s s0 : Shared) (E' : XK) (Hb : Hp), L.Seat i Hb s0 E' → (L.cx s0 Hb E').xe e s → Seg L.md L.A L.R L.Y n s₀ c (Je e) fs s
structure GL (L : Lv) (st : Stmt) (t : TGL) : Prop where
  run : ∀ (ip : List (Addr × Obj)) (n i : Nat) (s₀ : Shared) (c : Code) (fs : List Frame) (Kf : Flow → Sem PySem.Fin) (Je : Value → Sem PySem.Fin) (gd : Bool → Bool) (lv : List Value → List Value) (s s0 : Shared) (E' : XK) (σ : L2.St) (Hb H : Hp) (D : GEndL),
    L.GC ip c fs gd → n + i = L.tot → L.GK ip c fs Kf Je D → L.Seat i Hb s0 E' → Inv (L.cx s0 Hb E') ip σ H s → t D i Hb σ H → Seg L.md L.A L.R L.Y n s₀ c ((exec st (envOfC L.qual L.scope L.n0 L.f L.cd)).wrap Kf Je gd lv) fs s
structure GLs (L : Lv) (st : List Stmt) (t : TGL) : Prop where
  run : ∀ (ip : List (Addr × Obj)) (n i : Nat) (s₀ : Shared) (c : Code) (fs : List Frame) (Kf : Flow → Sem PySem.Fin) (Je : Value → Sem PySem.Fin) (gd : Bool → Bool) (lv : List Value → List Value) (s s0 : Shared) (E' : XK) (σ : L2.St) (Hb H : Hp) (D : GEndL),
    L.GC ip c fs gd → n + i = L.tot → L.GK ip c fs Kf Je D → L.Seat i Hb s0 E' → Inv (L.cx s0 Hb E') ip σ H s → t D i Hb σ H → Seg L.md L.A L.R L.Y n s₀ c ((execs st (envOfC L.qual L.scope L.n0 L.f L.cd)).wrap Kf Je gd lv) fs s
section
variable {L : Lv} {st : Stmt} {rest : List Stmt}
def tLPlain (t : TS) : TGL := fun D i Hb σ H => t (D.at i Hb) σ H
theorem gl_ps {t : TS} (h : ∀ s0 Hb E', PS (L.cx s0 Hb E') st t) : GL L st (tLPlain t) := by
  refine ⟨fun ip n i s₀ c fs Kf Je gd lv s s0 E' σ Hb H D gc hn k seat I ht => ?_⟩
  refine seg_wrap ?_
  rw [gc.over]
  exact wpAny_mono ((h s0 Hb E').run ip s σ H (D.at i Hb) I ht) (fun fl s' hs => k.ok n i s₀ s' s0 E' Hb fl hn seat hs) fun x s' hx => k.exc n i s₀ x s' s0 E' Hb seat hx
theorem gls_pss {t : TS} (h : ∀ s0 Hb E', PSs (L.cx s0 Hb E') rest t) : GLs L rest (tLPlain t) := by
  refine ⟨fun ip n i s₀ c fs Kf Je gd lv s s0 E' σ Hb H D gc hn k seat I ht => ?_⟩
  refine seg_wrap ?_
  rw [gc.over]
  exact wpAny_mono ((h s0 Hb E').run ip s σ H (D.at i Hb) I ht) (fun fl s' hs => k.ok n i s₀ s' s0 E' Hb fl hn seat hs) fun x s' hx => k.exc n i s₀ x s' s0 E' Hb seat hx
def tL0 : TGL := fun D i Hb σ H => D.nx i Hb σ H
theorem gls_nil : GLs L [] tL0 :=
  ⟨fun ip n i s₀ c fs Kf Je gd lv s s0 E' σ Hb H D gc hn k seat I ht => seg_execs_nil (k.ok n i s₀ s s0 E' Hb .next hn seat ⟨σ, H, I, ht⟩)⟩
def tLThen (t u : TGL) : TGL := fun D i Hb σ H => t { D with nx := fun i' Hb' σ' H' => u D i' Hb' σ' H' } i Hb σ H
theorem gls_cons {t u : TGL} (a : GL L st t) (b : GLs L rest u) : GLs L (st :: rest) (tLThen t u) := by
  refine ⟨fun ip n i s₀ c fs Kf Je gd lv s s0 E' σ Hb H D gc hn k seat I ht => ?_⟩
  refine seg_execs_cons ?_
  refine a.run ip n i s₀ c fs _ Je gd lv s s0 E' σ Hb H { D with nx := fun i' Hb' σ' H' => u D i' Hb' σ' H' } gc hn ⟨fun n' i' s₀' s' s0' E2 Hb' fl hn' seat' hs => ?_, k.exc⟩ seat I ht
  match fl, hs with
  | .next, ⟨σ', H', I', q⟩ => exact b.run ip n' i' s₀' c fs Kf Je gd lv s' s0' E2 σ' Hb' H' D gc hn' k seat' I' q
  | .brk, hs => exact k.ok n' i' s₀' s' s0' E2 Hb' .brk hn' seat' hs
  | .cont, hs => exact k.ok n' i' s₀' s' s0' E2 Hb' .cont hn' seat' hs
  | .ret u, hs => exact k.ok n' i' s₀' s' s0' E2 Hb' (.ret u) hn' seat' hs
/-! ### yield -/
/-- what is handed out, and what stands when the generator is woken -/
def tLYield (L : Lv) (te : TE) : TGL := fun D i Hb σ H => i < L.tot ∧ te σ H fun x H1 => Same Hb H1 ∧ L.It i x H1 ∧ ∀ H2, Kps L.M x H1 H2 → D.nx (i + 1) H2 σ H2
theorem prv_above {L : Lv} (ok : L.Ok) {s0 : Shared} {Hb H : Hp} {E' : XK} {ip : List (Addr × Obj)} {σ : L2.St} {sb s : Shared} (le : L.n0 ≤ sb.heap.objs.size) (I : Inv (L.cx (cutSh sb L.n0) Hb E') ip σ H s) (hip : ∀ p ∈ ip, L.n0 ≤ p.1) : ∀ b ∈ L.prv ip, H b = none ∧ L.n0 ≤ b := fun b hb => by
  refine ⟨(prv_there I b hb).1, ?_⟩
  rcases List.mem_cons.mp hb with e | hb
  · rw [e]
    exact Nat.le_refl _
  · rcases List.mem_append.mp hb with hb | hb
    · obtain ⟨x, hx⟩ := cellA_mem.mp hb
      have q : (cutH sb.heap L.n0).objs.size ≤ b := I.ok.cab x b rfl hx
      rw [cutH_size, Nat.min_eq_left le] at q
      exact q
    · obtain ⟨p, hp, rfl⟩ := List.mem_map.mp hb
      rcases List.mem_append.mp hp with hp | hp
      · rw [List.mem_singleton.mp hp]
        exact ok.na
      · exact hip p hp
/-- at a yield: what the consumer sees, and how it comes back -/
theorem live_turn {L : Lv} (ok : L.Ok) {n i : Nat} {s₀ s s0 : Shared} {E' : XK} {Hb H : Hp} {σ : L2.St} {ip : List (Addr × Obj)} {x : V} {v : Value} {kap : Resume → Shared → Prop} (hip : ∀ p ∈ ip, L.n0 ≤ p.1) (hn : n + 1 + i = L.tot) (seat : L.Seat i Hb s0 E') (I : Inv (L.cx s0 Hb E') ip σ H s) (rv : RelV x v)
    (sm : Same Hb H) (it : L.It i x H) (back : ∀ (s2 : Shared) (H2 : Hp), L.Seat (i + 1) H2 (cutSh s2 L.n0) E0 → Inv (L.cx (cutSh s2 L.n0) H2 E0) ip σ H2 s2 → Kps L.M x H H2 → kap (.send .none) s2) : L.Y n s₀ v s kap := by
  obtain ⟨c, sb, rfl, le, Ic, j, _⟩ := seat
  have ab := prv_above ok (s0 := cutSh sb L.n0) le I hip
  refine ⟨i, c, Hb, H, x, ip, hn, j, sm, it, rv, live_out Ic ok.ab I ab, fun b hb => prv_there I b hb, ok.isG _ (I.pin (L.a, L.go) (List.mem_append_left _ (List.mem_singleton.mpr rfl))).1, fun s2 c2 H2 Ic2 hid kp j2 => ?_⟩
  obtain ⟨ext, I2⟩ := live_in (E := E0) Ic2 ok.ab le I hid
  have Iu := inv_unhid Ic2 ext
  have sz : L.n0 ≤ s2.heap.objs.size := Nat.le_of_lt I2.lt
  exact back s2 _ ⟨c2, s2, rfl, sz, Iu, j2, .inr rfl⟩ I2 kp
theorem gl_yield (ok : L.Ok) {e : Expr} {yp pos : Pos} {te : TE} (he : ∀ s0 Hb E', PE (L.cx s0 Hb E') e te) (hco : L.scope.isCoroutine = false) (hi : interactive (envOfC L.qual L.scope L.n0 L.f L.cd) = false := by rfl) : GL L (.Expr (.Yield (some e) yp) pos) (tLYield L te) := by
  refine ⟨fun ip n i s₀ c fs Kf Je gd lv s s0 E' σ Hb H D gc hn k seat I ht => ?_⟩
  obtain ⟨lt, ht⟩ := ht
  obtain ⟨n, rfl⟩ : ∃ m, n = m + 1 := ⟨n - 1, by omega⟩
  refine seg_Expr_Yield gc.split gc.gd gc.guard ?_ hco hi
  rw [gc.over]
  refine wpAny_mono ((he s0 Hb E').run ip s σ H _ I ht) (fun v s' hv => ?_) fun x s' hx => k.exc _ i s₀ x s' s0 E' Hb seat hx
  obtain ⟨x, H1, I1, rv, sm, it, nx⟩ := hv
  intro kap hk
  refine live_turn ok gc.low hn seat I1 rv sm it fun s2 H2 seat2 I2 kp => hk .none s2 ?_
  exact k.ok n (i + 1) s2 s2 (cutSh s2 L.n0) E0 H2 .next (by omega) seat2 ⟨σ, H2, I2, nx H2 kp⟩
/-! ### for -/
def tLFor (wi : TI) (g : TG) (tb : TGL) : TGL := fun D i Hb σ H => wi σ H fun J' H1 => ∃ W : Nat → Nat → Nat → Hp → L2.St → Hp → Prop, (∃ m, W 0 m i Hb σ H1) ∧ ∀ j m i Hb σ H, W j m i Hb σ H →
  (J'.stop j H ∧ D.nx i Hb σ H) ∨ (J'.go j H ∧ ∃ Nw : Nat → Hp → L2.St → Hp → Prop, (∀ i' Hb' σ' H', Nw i' Hb' σ' H' → ∃ m', m' < m ∧ W (j + 1) m' i' Hb' σ' H') ∧ ∀ x H', J'.yld j H x H' → g x σ H' fun σ2 H2 => tb { D with nx := Nw, ct := Nw, bk := D.nx } i Hb σ2 H2)
theorem gl_for {tg iter : Expr} {body : List Stmt} {wi : TI} {g : TG} {tb : TGL} {pos : Pos} (hcalm : ∀ s0 Hb E', (L.cx s0 Hb E').calm = true) (hi : ∀ s0 Hb E', PI (L.cx s0 Hb E') tg iter wi) (hg : ∀ s0 Hb E', PG (L.cx s0 Hb E') tg g) (hb : GLs L body tb)
    (hs : ∀ x, foldedSetIterable iter (envOfC L.qual L.scope L.n0 L.f L.cd) x = pure x := by intro _; rfl) : GL L (.For tg iter body [] pos) (tLFor wi g tb) := by
  refine ⟨fun ip n i s₀ c fs Kf Je gd lv s s0 E' σ Hb H D gc hn k seat I ht => ?_⟩
  refine segFor ?_ hs
  rw [gc.over]
  refine wpAny_mono ((hi s0 Hb E').run ip s σ H _ I ht) (fun v s1 h1 => ?_) fun x s' hx => k.exc n i s₀ x s' s0 E' Hb seat hx
  refine wpAny_mono h1 (fun itv s2 h2 => ?_) fun x s' hx => k.exc n i s₀ x s' s0 E' Hb seat hx
  obtain ⟨it, fp, tn, J', H2, e, I2, T, st2, f2, W, ⟨m0, w0⟩, turn⟩ := h2
  subst e
  intro p
  have young : ∀ b ∈ fp, L.n0 ≤ b := fun b hb => by
    obtain ⟨c', sb, rfl, le, _⟩ := seat
    rcases (f2 b hb).2.2.2.1 with z | z
    · exact absurd z List.not_mem_nil
    · have z : (cutH sb.heap L.n0).objs.size ≤ b := z
      rw [cutH_size, Nat.min_eq_left le] at z
      exact z
  have over' : ∀ kk : Result → Sem PySem.Fin, L.A.over (.forLoop tg (.ref it) body [] (envOfC L.qual L.scope L.n0 L.f L.cd)) (.ret kk none (gd false) (lv []) c p [] :: fs) = L.A.deeper (envOfC L.qual L.scope L.n0 L.f L.cd) := fun kk => (over_loop rfl rfl).trans gc.over
  have fpk : ∀ {s0 : Shared} {Hb H' : Hp} {E' : XK} {i : Nat}, L.Seat i Hb s0 E' → (∀ b ∈ fp, H' b = none) → ∀ b ∈ fp, FpOk (L.cx s0 Hb E') ip H' b := fun {s0 Hb H' E' i} seat hn b hb => by
    obtain ⟨c', sb, rfl, le, _⟩ := seat
    obtain ⟨_, q1, q2, _, q4, q5⟩ := f2 b hb
    refine ⟨hn b hb, q1, q2, .inr ?_, q4, q5⟩
    show (cutH sb.heap L.n0).objs.size ≤ b
    rw [cutH_size]
    exact Nat.le_trans (Nat.min_le_left _ _) (young b hb)
  have loop : ∀ (m j n i : Nat) (s₀ s s0 : Shared) (E' : XK) (σ : L2.St) (Hb H : Hp), n + i = L.tot → W j m i Hb σ H → tn j s.heap → (∀ b ∈ fp, H b = none) → L.Seat i Hb s0 E' → Inv (L.cx s0 Hb E') ip σ H s →
      Seg L.md L.A L.R L.Y n s₀ (.forLoop tg (.ref it) body [] (envOfC L.qual L.scope L.n0 L.f L.cd)) (L.md.den (.forLoop tg (.ref it) body [] (envOfC L.qual L.scope L.n0 L.f L.cd)))
        (.ret (fun r => ((match r with | .ok f => (.pure f : Sem Flow) | .error e => .raise e).onRaise (cameBack (envOfC L.qual L.scope L.n0 L.f L.cd))).wrap Kf Je gd lv) none (gd false) (lv []) c p [] :: fs) s := by
    intro m
    induction m using Nat.strongRecOn with
    | ind m ih =>
      intro j n i s₀ s s0 E' σ Hb H hn w st fr seat I
      have back : ∀ (n i : Nat) (s₀ : Shared) (x : Value) (s' s0 : Shared) (E' : XK) (Hb : Hp), L.Seat i Hb s0 E' → cameBackBy L.md (L.A.deeper (envOfC L.qual L.scope L.n0 L.f L.cd)) (envOfC L.qual L.scope L.n0 L.f L.cd) (L.cx s0 Hb E').xe x s' → Seg L.md L.A L.R L.Y n s₀ c (((Sem.raise x : Sem Flow).onRaise (cameBack (envOfC L.qual L.scope L.n0 L.f L.cd))).wrap Kf Je gd lv) fs s' := fun n i s₀ x s' s0 E' Hb seat h => by
        show Seg _ _ _ _ _ _ _ (((cameBack (envOfC L.qual L.scope L.n0 L.f L.cd) x).bind fun _ => (Sem.raise x : Sem Flow)).wrap Kf Je gd lv) _ _
        rw [Sem.bind_eq_wrap, Sem.wrap_wrap]
        refine seg_wrap ?_
        rw [gc.over]
        exact wpAny_mono h (fun _ s' hx => k.exc n i s₀ x s' s0 E' Hb seat hx) fun y s' hx => k.exc n i s₀ y s' s0 E' Hb seat hx
      have ee : ∀ (n i : Nat) (s₀ : Shared) (x : Value) (s' s0 : Shared) (E' : XK) (Hb : Hp), L.Seat i Hb s0 E' → (L.cx s0 Hb E').xe x s' → Seg L.md L.A L.R L.Y n s₀ (.forLoop tg (.ref it) body [] (envOfC L.qual L.scope L.n0 L.f L.cd))
          ((do noteFrame x (envOfC L.qual L.scope L.n0 L.f L.cd); theTreesLotGoes x : Sem Unit).wrap (fun _ => .raise x) .raise id id)
          (.ret (fun r => ((match r with | .ok f => (.pure f : Sem Flow) | .error e => .raise e).onRaise (cameBack (envOfC L.qual L.scope L.n0 L.f L.cd))).wrap Kf Je gd lv) none (gd false) (lv []) c p [] :: fs) s' := fun n i s₀ x s' s0 E' Hb seat hx => by
        refine seg_wrap ?_
        rw [over']
        refine wpAny_bind (wpAny_mono (owns_lcx x s' hx) (fun _ s'' hcb => wpAny_theTreesLotGoes ?_) fun y s'' hcb => ?_)
        · exact seg_leaf (.error x) (back n i s₀ x s'' s0 E' Hb seat hcb)
        · exact seg_leaf (.error y) (back n i s₀ y s'' s0 E' Hb seat hcb)
      refine segForLoop ?_
      rw [over']
      rcases turn j m i Hb σ H w with ⟨stop, qn⟩ | ⟨go, Nw, hN, step⟩
      · refine wpAny_mono (T.done (L.cx s0 Hb E') rfl rfl rfl (hcalm s0 Hb E') j _ s σ H (L.cx s0 Hb E').xe I (fpk seat fr) st stop) (fun rr s4 hh => ?_) fun x s' hx => ee n i s₀ x s' s0 E' Hb seat hx
        obtain ⟨hr, I4⟩ := hh
        subst hr
        refine seg_again rfl (segBlockNil ?_)
        exact seg_leaf (.ok .next) (k.ok n i s₀ s4 s0 E' Hb .next hn seat ⟨σ, H, I4, qn⟩)
      · refine wpAny_mono (T.item (L.cx s0 Hb E') rfl rfl rfl (hcalm s0 Hb E') j _ s σ H (L.cx s0 Hb E').xe I (fpk seat fr) st go) (fun rr s4 hh => ?_) fun x s' hx => ee n i s₀ x s' s0 E' Hb seat hx
        obtain ⟨u, hr, h4⟩ := hh
        subst hr
        refine wpAny_mono h4 (fun _ s5 hh => ?_) fun x s' hx => ee n i s₀ x s' s0 E' Hb seat hx
        obtain ⟨x, H5, I5, r5, y5, st5, fr5⟩ := hh
        have I5' := I5.pinned (fpk seat fr5) (T.obj _ _ st5)
        refine wpAny_mono ((hg s0 Hb E').run _ s5 σ H5 x u _ I5' r5 (step x H5 y5)) (fun _ s6 hh => ?_) fun x s' hx => ee n i s₀ x s' s0 E' Hb seat hx
        obtain ⟨σ6, H6, I6, q6⟩ := hh
        have gm : L.GC (ip ++ pinsAt fp s5.heap) (.forLoop tg (.ref it) body [] (envOfC L.qual L.scope L.n0 L.f L.cd)) (.ret (fun r => ((match r with | .ok f => (.pure f : Sem Flow) | .error e => .raise e).onRaise (cameBack (envOfC L.qual L.scope L.n0 L.f L.cd))).wrap Kf Je gd lv) none (gd false) (lv []) c p [] :: fs) id := by
          refine ⟨over' _, ?_, ?_, rfl, fun q hq => ?_⟩
          · show (splitAtGen fs).map _ = none
            rw [gc.split]
            rfl
          · show (gd false || fs.any Frame.guarded) = false
            rw [gc.gd, gc.guard]
            rfl
          · rcases List.mem_append.mp hq with z | z
            · exact gc.low q z
            · exact young q.1 (of_pinsAt z).1
        have again : ∀ {n' i' : Nat} {s₀' s7 s0' : Shared} {E2 : XK} {σ7 : L2.St} {Hb7 H7 : Hp}, n' + i' = L.tot → L.Seat i' Hb7 s0' E2 → Inv (L.cx s0' Hb7 E2) (ip ++ pinsAt fp s5.heap) σ7 H7 s7 → Nw i' Hb7 σ7 H7 →
            Seg L.md L.A L.R L.Y n' s₀' (.forLoop tg (.ref it) body [] (envOfC L.qual L.scope L.n0 L.f L.cd)) (.pure (.again (.forLoop tg (.ref it) body [] (envOfC L.qual L.scope L.n0 L.f L.cd))))
              (.ret (fun r => ((match r with | .ok f => (.pure f : Sem Flow) | .error e => .raise e).onRaise (cameBack (envOfC L.qual L.scope L.n0 L.f L.cd))).wrap Kf Je gd lv) none (gd false) (lv []) c p [] :: fs) s7 := fun {n' i' s₀' s7 s0' E2 σ7 Hb7 H7} hn' seat' I7 n7 => by
          obtain ⟨m', hm, w7⟩ := hN i' Hb7 σ7 H7 n7
          have pz : ∀ b ∈ fp, ∀ o, s5.heap.get? b = some o → s7.heap.get? b = some o ∧ H7 b = none := fun b hb o e => by
            have z := I7.pin (b, o) (List.mem_append_right _ (List.mem_append_right _ (mem_pinsAt hb e)))
            exact ⟨z.1, z.2.1⟩
          refine seg_again rfl (ih m' hm (j + 1) n' i' s₀' s7 s0' E2 σ7 Hb7 H7 hn' w7 (T.keep _ _ _ st5 fun b hb o e => (pz b hb o e).1) (fun b hb => ?_) seat' I7.unpinned)
          obtain ⟨o, e, d⟩ := T.obj _ _ st5 b hb
          exact (pz b hb o e).2
        refine hb.run (ip ++ pinsAt fp s5.heap) n i s₀ _ _ _ _ id id s6 s0 E' σ6 Hb H6 { D with nx := Nw, ct := Nw, bk := D.nx } gm hn ⟨fun n' i' s₀' s3 s0' E2 Hb' fl hn' seat' hs => ?_, fun n' i' s₀' x s3 s0' E2 Hb' seat' hx => ee n' i' s₀' x s3 s0' E2 Hb' seat' hx⟩ seat I6 q6
        match fl, hs with
        | .next, ⟨σ3, H3, I3, n3⟩ => exact again hn' seat' I3 n3
        | .cont, ⟨σ3, H3, I3, n3⟩ => exact again hn' seat' I3 n3
        | .brk, ⟨σ3, H3, I3, n3⟩ => exact seg_leaf (.ok .next) (k.ok n' i' s₀' s3 s0' E2 Hb' .next hn' seat' ⟨σ3, H3, I3.unpinned, n3⟩)
        | .ret v, ⟨x3, σ3, H3, I3, r3, n3⟩ => exact seg_leaf (.ok (.ret v)) (k.ok n' i' s₀' s3 s0' E2 Hb' (.ret v) hn' seat' ⟨x3, σ3, H3, I3.unpinned, r3, n3⟩)
  exact loop m0 0 n i s₀ s2 s0 E' σ Hb H2 hn w0 st2 (fun b hb => (f2 b hb).1) seat I2
end
end Sq

set_option Elab.async false
set_option linter.all false
set_option maxRecDepth 100000
set_option maxHeartbeats 2000000
namespace Sq
open PySem PySem.Spec PyProof.Rows L2 GenW
section
variable {L : Lv}
/-! ### yield from a list -/
def tLYf (L : Lv) (te : TE) : TGL := fun D i Hb σ H => te σ H fun x H1 => ∃ (a : Addr) (xs : List V), x = .ref a ∧ Same Hb H1 ∧ i + xs.length ≤ L.tot ∧ ∃ Pv : Nat → Hp → Prop, Pv 0 H1 ∧ (∀ j H, j ≤ xs.length → Pv j H → H a = some (.lst xs)) ∧
  (∀ j H x, xs[j]? = some x → Pv j H → L.It (i + j) x H ∧ ∀ H2, Kps L.M x H H2 → Pv (j + 1) H2) ∧ ∀ Hb' H, Pv xs.length H → Same Hb' H → D.nx (i + xs.length) Hb' σ H
theorem segYf (ok : L.Ok) {ip : List (Addr × Obj)} {fs : List Frame} {it a : Addr} {xs : List V} {σ : L2.St} {i0 : Nat} {Pv : Nat → Hp → Prop} (low : ∀ p ∈ ip, L.n0 ≤ p.1) (young : L.n0 ≤ it) (nL : it ≠ L.n0) (nC : ∀ x c, (cellsFrom (L.n0 + 1) L.scope.names []).lookup x = some c → c ≠ it) (nP : ∀ p ∈ [(L.a, L.go)] ++ ip, p.1 ≠ it) (nF : it ∉ frs L.Xc.stack) (nA : a ≠ it)
    (calm : (L.A.over (.builtin "proto.yield_from" ⟨[.ref it, .bool false, .none], []⟩) fs).handled = none) (sp : splitAtGen fs = none) (gd : fs.any Frame.guarded = false) (room : i0 + xs.length ≤ L.tot)
    (lst : ∀ j H, j ≤ xs.length → Pv j H → H a = some (.lst xs)) (step : ∀ j H x, xs[j]? = some x → Pv j H → L.It (i0 + j) x H ∧ ∀ H2, Kps L.M x H H2 → Pv (j + 1) H2)
    (fin : ∀ (n : Nat) (s₀ s s0 : Shared) (E' : XK) (Hb H : Hp), n + (i0 + xs.length) = L.tot → L.Seat (i0 + xs.length) Hb s0 E' → Same Hb H → Inv (L.cx s0 Hb E') ip σ H s → Pv xs.length H → Seg L.md L.A L.R L.Y n s₀ (.builtin "proto.yield_from" ⟨[.ref it, .bool false, .none], []⟩) (.pure (.done (.ret .none))) fs s) :
    ∀ (r j n : Nat) (s₀ s s0 : Shared) (E' : XK) (Hb H : Hp), j + r = xs.length → n + (i0 + j) = L.tot → L.Seat (i0 + j) Hb s0 E' → Same Hb H → Inv (L.cx s0 Hb E') ip σ H s → H it = none → s.heap.IsListIter it a j → Pv j H →
      Seg L.md L.A L.R L.Y n s₀ (.builtin "proto.yield_from" ⟨[.ref it, .bool false, .none], []⟩) (L.md.den (.builtin "proto.yield_from" ⟨[.ref it, .bool false, .none], []⟩)) fs s := by
  have turned : ∀ {s s0 : Shared} {E' : XK} {Hb H : Hp} {i : Nat} {h' : Heap} {tk : Nat}, L.Seat i Hb s0 E' → H it = none → Inv (L.cx s0 Hb E') ip σ H s → (∀ b o, b ≠ it → s.heap.get? b = some o → h'.get? b = some o) → Inv (L.cx s0 Hb E') ip σ H { s with heap := h', toks := tk } := fun {s s0 E' Hb H i h' tk} seat hn I hk => by
    obtain ⟨c', sb, rfl, le, _⟩ := seat
    refine I.turned (it := it) hk hn nL (.inr ?_) nC nP
    show (cutH sb.heap L.n0).objs.size ≤ it
    rw [cutH_size]
    exact Nat.le_trans (Nat.min_le_left _ _) young
  intro r
  induction r with
  | zero =>
    intro j n s₀ s s0 E' Hb H hj hn seat sm I hit isL pv
    obtain rfl : j = xs.length := by omega
    obtain ⟨_, its, _, rits, hl⟩ := I.hok a _ (lst _ _ (Nat.le_refl _) pv)
    have isl : s.heap.IsList a its.toArray := ⟨_, hl, rfl, _, rfl⟩
    have none' : its.toArray[xs.length]? = none := by
      have e := rits.length
      have e2 : its[xs.length]? = none := List.getElem?_eq_none_iff.mpr (by omega)
      simpa using e2
    rw [show L.md.den _ = _ from den_yf (X := L.Xc)]
    unfold Builtin.«proto.yield_from»
    try dsimp only
    refine seg_bind (wpAny_pure ?_)
    try dsimp only
    refine seg_bind (wpAny_attempt (wpAny_holding ?_))
    rw [if_neg Bool.false_ne_true, if_pos (show (Value.none == Value.none) = true from rfl)]
    refine wpAny_bind (wpAny_rule (wpAny_bind ?_))
    refine special_lst_end calm isL isl none' fun e h' hS hk => ?_
    obtain ⟨ae, oe, vs, rfl, hoe, hce, hde, h5⟩ := hS
    try dsimp only
    refine seg_bind (wpAny_endsTurn hoe hce ?_)
    try dsimp only
    rw [if_pos rfl]
    first
      | refine seg_bind (wpAny_rule ?_)
      | (rw [if_neg Bool.false_ne_true]; refine seg_bind (wpAny_rule ?_))
      | (rw [if_neg Bool.false_ne_true]; refine seg_bind (wpAny_pure ?_); refine seg_bind (wpAny_rule ?_))
    refine seg_bind (wpAny_field hoe hde h5 ?_)
    exact fin n s₀ _ s0 E' Hb H hn seat sm (turned (tk := s.toks) seat hit I fun b o hb eb => hk b o hb eb) pv
  | succ r ih =>
    intro j n s₀ s s0 E' Hb H hj hn seat sm I hit isL pv
    have lt : j < xs.length := by omega
    obtain ⟨x, hx⟩ : ∃ x, xs[j]? = some x := ⟨_, List.getElem?_eq_getElem lt⟩
    obtain ⟨iti, nxt⟩ := step j H x hx pv
    obtain ⟨_, its, _, rits, hl⟩ := I.hok a _ (lst _ _ (Nat.le_of_lt lt) pv)
    have isl : s.heap.IsList a its.toArray := ⟨_, hl, rfl, _, rfl⟩
    obtain ⟨u, hu, ru⟩ := rits.get hx
    have lb : i0 + j < L.tot := by omega
    obtain ⟨n, rfl⟩ : ∃ m, n = m + 1 := ⟨n - 1, by omega⟩
    rw [show L.md.den _ = _ from den_yf (X := L.Xc)]
    unfold Builtin.«proto.yield_from»
    try dsimp only
    refine seg_bind (wpAny_pure ?_)
    try dsimp only
    refine seg_bind (wpAny_attempt (wpAny_holding ?_))
    rw [if_neg Bool.false_ne_true, if_pos (show (Value.none == Value.none) = true from rfl)]
    refine wpAny_bind (wpAny_rule (wpAny_bind ?_))
    refine special_lst_item isL isl (x := u) (by simpa using hu) fun h' isL' hs => ?_
    have I' := turned (tk := s.toks) seat hit I fun b o hb eb => hs.extBut b o hb eb
    obtain ⟨oi, hoi, hci, hdi⟩ := id isL'
    refine wpAny_pure ?_
    try dsimp only
    refine seg_bind (wpAny_typeOf (T := "list_iterator") ⟨oi, hoi, hci⟩ ?_)
    try dsimp only
    first
      | (refine seg_bind (wpAny_of_eq close_lst ?_); refine seg_bind (wpAny_pure ?_))
      | refine seg_bind (wpAny_bind (wpAny_of_eq close_lst (wpAny_pure ?_)))
      | refine seg_bind (wpAny_of_eq close_lst ?_)
    try dsimp only
    refine seg_bind (wpAny_sleptOver hoi hci (by decide) ?_)
    refine seg_yield sp rfl gd ?_
    have Ip : Inv (L.cx s0 Hb E') (ip ++ [(it, oi)]) σ H { s with heap := h', toks := s.toks } := I'.pins_of fun p hp => by
      rcases List.mem_append.mp hp with z | z
      · exact I'.pin p (List.mem_append_right _ z)
      · rw [List.mem_singleton.mp z]
        exact ⟨hoi, hit, nL, nF, fun v q => by rw [hdi] at q; cases q⟩
    refine live_turn ok (fun p hp => ?_) (by omega) seat Ip ru sm iti fun s2 H2 seat2 I2 kp => ?_
    · rcases List.mem_append.mp hp with z | z
      · exact low p z
      · rw [List.mem_singleton.mp z]
        exact young
    have there := I2.pin (it, oi) (List.mem_append_right _ (List.mem_append_right _ (List.mem_singleton.mpr rfl)))
    have I3 : Inv (L.cx (cutSh s2 L.n0) H2 E0) ip σ H2 s2 := I2.pins_of fun p hp => I2.pin p (List.mem_append_right _ (List.mem_append_left _ hp))
    show Seg _ _ _ _ n s2 _ (Builtin.Generator.sleptOver (.ref it) false >>= fun _ => _) fs s2
    refine seg_bind (wpAny_sleptOver there.1 hci (by decide) ?_)
    try dsimp only
    refine seg_bind (wpAny_pure ?_)
    exact seg_again (plainId_quiet plain_yf _) (ih (j + 1) n s2 s2 (cutSh s2 L.n0) E0 H2 H2 (by omega) (by omega) seat2 (Same.refl _) I3 there.2.1 ⟨oi, there.1, hci, hdi⟩ (nxt H2 kp))
theorem gl_yf (ok : L.Ok) {e : Expr} {yp pos : Pos} {te : TE} (he : ∀ s0 Hb E', PE (L.cx s0 Hb E') e te) (calm : (L.A.deeper (envOfC L.qual L.scope L.n0 L.f L.cd)).handled = none) (hi : interactive (envOfC L.qual L.scope L.n0 L.f L.cd) = false := by rfl) : GL L (.Expr (.YieldFrom e yp) pos) (tLYf L te) := by
  refine ⟨fun ip n i s₀ c fs Kf Je gd lv s s0 E' σ Hb H D gc hn k seat I ht => ?_⟩
  rw [exec_Expr (envOfC L.qual L.scope L.n0 L.f L.cd) _ pos hi rfl]
  show Seg _ _ _ _ n s₀ c (.at pos fun _ => ((eval e (envOfC L.qual L.scope L.n0 L.f L.cd) >>= fun v => (standAt yp >>= fun _ => yieldFrom (envOfC L.qual L.scope L.n0 L.f L.cd) v)) >>= fun x => dropValue (.YieldFrom e yp) pos x).wrap Kf Je gd lv) fs s
  refine seg_at (segw_bind2 ?_)
  rw [gc.over]
  refine wpAny_mono ((he s0 Hb E').run ip s σ H _ I ht) (fun v s1 hv => ?_) fun x s' hx => k.exc n i s₀ x s' s0 E' Hb seat hx
  obtain ⟨x, H1, I1, rv, a, xs, ex, sm, room, Pv, p0, lst, step, fin⟩ := hv
  subst ex
  obtain rfl : v = Value.ref a := rv
  obtain ⟨_, its, _, rits, hl⟩ := I1.hok a _ (lst 0 H1 (Nat.zero_le _) p0)
  have isl : s1.heap.IsList a its.toArray := ⟨_, hl, rfl, _, rfl⟩
  refine seg_at ?_
  show Seg _ _ _ _ n s₀ c ((yieldFrom (envOfC L.qual L.scope L.n0 L.f L.cd) (.ref a)).wrap (fun b => (dropValue (.YieldFrom e yp) pos b).wrap Kf Je gd lv) Je gd lv) fs s1
  unfold yieldFrom
  refine seg_bind_wrap (wpAny_typeOf isl.typeIs ?_)
  rw [if_neg (show ¬ ((Value.type "list" == Value.type "coroutine") = true) by decide)]
  refine seg_bind_wrap (wpAny_holding ?_)
  rw [gc.over]
  refine wpAny_pyIter_list isl ?_
  have below : ∀ {b : Addr} {o : Obj}, s1.heap.get? b = some o → b ≠ s1.heap.objs.size := fun e => Nat.ne_of_lt (Heap.lt_size e)
  have kept : ∀ b o, s1.heap.get? b = some o → (s1.heap.push { cls := .type "list_iterator", data := .fields #[.ref a, .int 0 0] }).get? b = some o := fun b o e => Heap.get?_push_of_some _ e
  have I2 : Inv (L.cx s0 Hb E') ip σ H1 { s1 with heap := s1.heap.push { cls := .type "list_iterator", data := .fields #[.ref a, .int 0 0] } } := I1.kept (t' := s1.toks) kept
  have free : H1 s1.heap.objs.size = none := I1.hok.fresh (Nat.le_refl _)
  have yng : L.n0 ≤ s1.heap.objs.size := Nat.le_of_lt I1.lt
  have frn : s1.heap.objs.size ∉ frs L.Xc.stack := I1.nofs (Nat.le_refl _)
  refine seg_call fun p => ?_
  refine segYf ok (xs := xs) (σ := σ) (i0 := i) gc.low yng (Nat.ne_of_gt I1.lt) (fun y k' e z => ?_) (fun q hq => below (I1.pin q hq).1) frn (below hl) ?_ ?_ ?_ room lst step (fun n' s₀' s' s0' E2 Hb' H' hn' seat' sm' I' pv' => ?_) xs.length 0 n s₀ _ s0 E' Hb H1 (Nat.zero_add _) hn seat sm I2 free ⟨_, Heap.get?_push_size _ rfl, rfl, rfl⟩ p0
  · obtain ⟨v', o, ho, _⟩ := I1.cell y k' e
    exact below ho z
  · show (L.A.over c fs).handled = none
    rw [gc.over]
    exact calm
  · show (splitAtGen fs).map _ = none
    rw [gc.split]
    rfl
  · show (gd false || fs.any Frame.guarded) = false
    rw [gc.gd, gc.guard]
    rfl
  · exact seg_leaf (.ok (.ret .none)) (k.ok n' (i + xs.length) s₀' s' s0' E2 Hb' .next hn' seat' ⟨σ, H', I', fin Hb' H' pv' sm'⟩)
/-! ### from the call to the first item -/
structure G0s (L : Lv) (st : List Stmt) (t : GEndL → L2.St → Hp → Prop) : Prop where
  run : ∀ (s₀ : Shared) (c : Code) (fs : List Frame) (Kf : Flow → Sem PySem.Fin) (Je : Value → Sem PySem.Fin) (gd : Bool → Bool) (lv : List Value → List Value) (s : Shared) (σ : L2.St) (H : Hp) (D : GEndL),
    L.GC [] c fs gd → L.GK [] c fs Kf Je D → L.Seat 0 L.HC L.sC L.E → Inv (L.cx L.sC L.HC L.E) [] σ H s → t D σ H → Seg L.md L.A L.R L.Y L.tot s₀ c ((execs st (envOfC L.qual L.scope L.n0 L.f L.cd)).wrap Kf Je gd lv) fs s
theorem g0_of {st : List Stmt} {t : TGL} (h : GLs L st t) : G0s L st fun D σ H => t D 0 L.HC σ H :=
  ⟨fun s₀ c fs Kf Je gd lv s σ H D gc k seat I ht => h.run [] L.tot 0 s₀ c fs Kf Je gd lv s L.sC L.E σ L.HC H D gc rfl k seat I ht⟩
theorem g0_cons {st : Stmt} {rest : List Stmt} {t : TS} {u : GEndL → L2.St → Hp → Prop} (h : PS (L.cx L.sC L.HC L.E) st t) (r : G0s L rest u) : G0s L (st :: rest) fun D σ H => t { nx := fun σ' H' => u D σ' H', rt := fun _ _ => False } σ H := by
  refine ⟨fun s₀ c fs Kf Je gd lv s σ H D gc k seat I ht => ?_⟩
  refine seg_execs_cons (seg_wrap ?_)
  rw [gc.over]
  refine wpAny_mono (h.run [] s σ H _ I ht) (fun fl s' hs => ?_) fun x s' hx => k.exc L.tot 0 s₀ x s' L.sC L.E L.HC seat hx
  match fl, hs with
  | .next, ⟨σ', H', I', q⟩ => exact r.run s₀ c fs Kf Je gd lv s' σ' H' D gc k seat I' q
  | .brk, ⟨_, _, _, q⟩ => exact False.elim q
  | .cont, ⟨_, _, _, q⟩ => exact False.elim q
  | .ret u, ⟨_, _, _, _, _, q⟩ => exact False.elim q
end
end Sq

set_option Elab.async false
set_option linter.all false
set_option maxRecDepth 100000
set_option maxHeartbeats 2000000
namespace Sq
open PySem PySem.Spec PyProof.Rows L2 GenW
/-! ### a generator def, for a consumer that lives beside it -/
abbrev SpL := List V → Hp → (Addr → Prop) → Nat → (Nat → V → Hp → Prop) → XK → Prop
/-- what a call gives: a generator that has not begun -/
def LMade (Xc : Cx) (pinsC : List (Addr × Obj)) (k : Nat) (c : L2.St) (H : Hp) (s : Shared) (M : Addr → Prop) (tot : Nat) (It : Nat → V → Hp → Prop) (E : XK) (u : Value) (s' : Shared) : Prop :=
  ∃ (a : Addr) (g : Nat) (code : Code), u = .ref a ∧ s.heap.objs.size ≤ a ∧ s'.heap.IsGen a g ∧ s'.gens[g]? = some (.fresh code) ∧ s'.os = s.os ∧ AllBare s'.gens ∧ s'.heap.NoLimit ∧ (∀ b o, s.heap.get? b = some o → s'.heap.get? b = some o) ∧
    ∀ (J : Nat → L2.St → Hp → Prop) (A : Around) (s2 : Shared), J 0 c H → Room k A → A.frames = some Xc.stack → (∀ b o, s'.heap.get? b = some o → s2.heap.get? b = some o) → s2.os = s.os → AllBare s2.gens →
      ∃ L : Lv, L.Ok ∧ L.Xc = Xc ∧ L.pinsC = pinsC ∧ L.a = a ∧ L.g = g ∧ L.M = M ∧ L.tot = tot ∧ L.It = It ∧ L.J = J ∧ L.E = E ∧ L.sC = s ∧ L.HC = H ∧ L.A = A ∧ Seg L.md L.A L.R L.Y L.tot s2 code (L.md.den code) [] s2
structure GFnL (P : Program) (w : World) (K : PySem.W.Frag) (mg : Str → Option Value) (base : Heap) (k : Nat) (f : Addr) (fd : FuncData) (ps : List Str) (sp : SpL) : Prop where
  len : ∀ vs H M tot It E, sp vs H M tot It E → vs.length = ps.length
  run : ∀ (Xc : Cx) (pinsC : List (Addr × Obj)) (c : L2.St) (s : Shared) (H : Hp) (args : Args) (us : List Value) (vs : List V) (M : Addr → Prop) (tot : Nat) (It : Nat → V → Hp → Prop) (E : XK), Xc.prog = P → Xc.w = w → Xc.K = K → Xc.mg = mg → Xc.base = base → Inv Xc pinsC c H s → Room k Xc.A → BindsTo s fd args (ps.zip us) → Vals vs us → sp vs H M tot It E →
    codeAny (model P w) Xc.A (.call (.ref f) args) (fun r s' => match r with | .ok (.ret u) => LMade Xc pinsC k c H s M tot It E u s' | _ => False) s
theorem lfn_of {P : Program} {w : World} {K : PySem.W.Frag} {mg : Str → Option Value} {base : Heap} {k : Nat} {f : Addr} {name qual : Str} {params : Arguments} {body : List Stmt} {scope : Scope} {dV kV doc pm cdv ct oc : Value} {an od : Option Addr}
    {osl : Array (Option Value)} {N ps : List Str} {sp : SpL} (found : K.lookup f = some ⟨oc, od, .func (PySem.W.fnOf name qual params body scope dV kV doc pm an cdv ct), osl⟩) (coded : PySem.W.codeIn K cdv qual = true) (S : GScope N ps scope)
    (len : ∀ vs H M tot It E, sp vs H M tot It E → vs.length = ps.length)
    (inner : ∀ (L : Lv) (vs : List V), L.Ok → L.Xc.prog = P → L.Xc.w = w → L.Xc.K = K → L.Xc.mg = mg → L.Xc.base = base → L.N = N → L.qual = qual → L.scope = scope → L.f = f → L.cd = cdv → Room k (L.A.deeper (envOfC qual scope L.n0 f cdv)) → sp vs L.HC L.M L.tot L.It L.E →
      ∃ t, G0s L body t ∧ t { nx := fun i Hb _ H => i = L.tot ∧ Same Hb H, rt := fun _ _ _ _ => False } (start N vs) L.HC) :
    GFnL P w K mg base (k + 1) f (PySem.W.fnOf name qual params body scope dV kV doc pm an cdv ct) ps sp := by
  refine ⟨len, fun Xc pinsC c s H args us vs M tot It E hP hw hK hmg hbase Ic room bound rel wish => ?_⟩
  subst hP hw hK hmg hbase
  have few := len _ _ _ _ _ _ wish
  have e0 := Ic.env0
  have inK : Xc.K.In s.heap := Ic.kIn
  have noLim : s.heap.NoLimit := Ic.nolimit
  have kinds : ∀ y ∈ ps.zip us, scope.names.lookup y.1 = some .local ∨ (scope.names.lookup y.1 = some .cell ∧ ((cellsFrom (s.heap.objs.size + 1) scope.names []).lookup y.1).isSome = true) := fun ⟨n, v⟩ hy =>
    (S.par n (List.of_mem_zip hy).1).elim .inl fun z => .inr ⟨z, PySem.W.cellsFrom_some _ _ _ (.inl z)⟩
  refine codeAny_call_generator room.depth (inK _ _ found) rfl S.co S.gen rfl (PySem.W.codeRec_of inK coded) (bound _ _ _ _ ?_)
  refine wpAny_newFunctionEnv_cells S.kind kinds fun env he s1 made => ?_
  subst he
  have lim1 : s1.heap.NoLimit := noLim.keeps made.toInCall.keep
  refine ⟨lim1, ?_⟩
  obtain ⟨h1, tk, es1, keep1⟩ := made.done
  have os1 : s1.os = s.os := by rw [es1]
  have gen1 : s1.gens = s.gens := by rw [es1]
  have lt1 : s.heap.objs.size < s1.heap.objs.size := made.toInCall.ns.lt
  have keepS : ∀ b o, s.heap.get? b = some o → s1.heap.get? b = some o := made.toInCall.keep
  suffices main : ∀ (go : Obj) (nm qn : Value) (tk2 : Nat), go.cls = .type "generator" → go.data = .fields #[.int s1.gens.size 0, nm, qn] → go.slots = #[] → (∀ h : Heap, (h.push go).get? h.objs.size = some go) →
      LMade Xc pinsC (k + 1) c H s M tot It E (.ref s1.heap.objs.size) { s1 with gens := s1.gens.push (.fresh (.func body (envOfC qual scope s.heap.objs.size f cdv))), toks := tk2, heap := s1.heap.push go } from
    main _ _ _ _ rfl rfl rfl fun h => Heap.get?_push_size _ rfl
  intro go nm qn tk2 isG dataG slotsG pushG
  have isGen : ∀ h : Heap, h.get? s1.heap.objs.size = some go → h.IsGen s1.heap.objs.size s1.gens.size := fun h e => ⟨go, nm, qn, e, isG, dataG, slotsG⟩
  refine ⟨s1.heap.objs.size, s1.gens.size, _, rfl, Nat.le_of_lt lt1, isGen _ (pushG _), Array.getElem?_push_size .., os1, AllBare.push (by rw [gen1]; exact Ic.bare) rfl, lim1.keeps fun b o e => Heap.get?_push_of_some _ e, fun b o e => Heap.get?_push_of_some _ (keepS b o e), ?_⟩
  intro J Aw s2 j0 roomW framesW keep2 os2 bare2
  obtain ⟨L, eL⟩ : ∃ L : Lv, L = ⟨Xc, pinsC, N, qual, scope, f, cdv, Aw, s.heap.objs.size, s1.heap.objs.size, go, s1.gens.size, E, s, H, tot, M, It, J⟩ := ⟨_, rfl⟩
  have ok : L.Ok := by
    subst eL
    exact ⟨above_of Ic (Nat.le_refl _), fun h e => isGen h e, Nat.le_of_lt lt1⟩
  refine ⟨L, ok, by rw [eL], by rw [eL], by rw [eL], by rw [eL], by rw [eL], by rw [eL], by rw [eL], by rw [eL], by rw [eL], by rw [eL], by rw [eL], by rw [eL], ?_⟩
  obtain ⟨t, ht, reading⟩ := inner L vs ok (by rw [eL]) (by rw [eL]) (by rw [eL]) (by rw [eL]) (by rw [eL]) (by rw [eL]) (by rw [eL]) (by rw [eL]) (by rw [eL]) (by rw [eL]) (by rw [eL]; exact roomW.deeper _) (by rw [eL]; exact wish)
  subst eL
  have e0w : Env0 Xc.prog Xc.w Xc.K Xc.mg Xc.base Aw Xc.stack s H := ⟨framesW, e0.mod, e0.bs, e0.bsz, e0.funs, e0.frf, e0.hok, e0.bare⟩
  have I1 : Inv (gcxOf Xc.prog Xc.w Xc.K Xc.mg Xc.base N qual scope f cdv Aw Xc.stack s H E []) [] (start N vs) H s1 := inv_startG S roomW.hd e0w few rel made
  have keep12 : ∀ b o, s1.heap.get? b = some o → s2.heap.get? b = some o := fun b o e => keep2 b o (Heap.get?_push_of_some _ e)
  have I2 : Inv (gcxOf Xc.prog Xc.w Xc.K Xc.mg Xc.base N qual scope f cdv Aw Xc.stack s H E []) [] (start N vs) H s2 :=
    I1.call' (ch := []) (os2.trans os1.symm) (Un.kept keep12) (I1.hok.kept keep12) bare2 fun b z => by simp at z
  have thereG : s2.heap.get? s1.heap.objs.size = some go := keep2 s1.heap.objs.size go (pushG _)
  have I3 : Inv (gcxOf Xc.prog Xc.w Xc.K Xc.mg Xc.base N qual scope f cdv Aw Xc.stack s H E [(s1.heap.objs.size, go)]) [] (start N vs) H s2 := Inv.pinnedG I2 fun p hp => by
    have hp' : p = (s1.heap.objs.size, go) := by simpa using hp
    rw [hp']
    exact ⟨thereG, I1.hok.fresh (Nat.le_refl _), Nat.ne_of_gt lt1, I1.nofs (Nat.le_refl _), fun v q => by rw [dataG] at q; cases q⟩
  have seat0 : Lv.Seat ⟨Xc, pinsC, N, qual, scope, f, cdv, Aw, s.heap.objs.size, s1.heap.objs.size, go, s1.gens.size, E, s, H, tot, M, It, J⟩ 0 H s E :=
    ⟨c, s, (cutS_all (Nat.le_refl _)).symm, Nat.le_refl _, Ic, j0, .inl ⟨rfl, rfl, rfl, rfl⟩⟩
  refine seg_func ?_
  refine ht.run s2 _ [] _ _ id id s2 (start N vs) H _ ⟨over_func, rfl, rfl, rfl, fun p z => absurd z List.not_mem_nil⟩ ⟨fun n i s₀ s' s0 E' Hb fl hn seat hs => ?_, fun n i s₀ e s' s0 E' Hb seat hx => ?_⟩ seat0 (inv_lcx I3) reading
  · match fl, hs with
    | .next, ⟨σ', H', I', hi, sm⟩ =>
      refine seg_end (.ok (.ret .none)) (.inl ⟨.inl rfl, ?_⟩)
      obtain ⟨c', sb, rfl, le, Ib, j', _⟩ := seat
      have q := live_out (prv := []) Ib ok.ab I' fun b z => absurd z List.not_mem_nil
      have e : hidP [] s'.heap H' = H' := by
        funext b
        exact hidP_out List.not_mem_nil
      rw [e] at q
      subst hi
      exact ⟨c', Hb, H', j', sm, q⟩
    | .brk, ⟨_, _, _, q⟩ => exact False.elim q
    | .cont, ⟨_, _, _, q⟩ => exact False.elim q
    | .ret u, ⟨_, _, _, _, _, q⟩ => exact False.elim q
  · refine seg_wrap ?_
    rw [over_func]
    refine wpAny_mono (show wpAny (model Xc.prog Xc.w) (Aw.deeper (envOfC qual scope s.heap.objs.size f cdv)) (leaving (envOfC qual scope s.heap.objs.size f cdv) e) (fun _ s'' => L2N.CX Xc.prog Xc.w Xc.stack Hb s0 E' e s'' ∧ ∀ p ∈ [(s1.heap.objs.size, go)], s''.heap.get? p.1 = some p.2) (fun _ _ => False) s' from hx) (fun _ s'' q => ?_) fun _ s'' q => q.elim
    obtain ⟨c', sb, es, le, Ib, j', alt⟩ := seat
    rcases alt with ⟨rfl, rfl, rfl, rfl⟩ | rfl
    · exact seg_end (.error e) (.inr ⟨e, rfl, q.1, isGen _ (q.2 (s1.heap.objs.size, go) (List.mem_singleton.mpr rfl))⟩)
    · obtain ⟨a', B, H', cls, d, _, _, _, _, _, _, _, z⟩ := q.1
      exact z.elim
end Sq

set_option Elab.async false
set_option linter.all false
set_option maxRecDepth 100000
set_option maxHeartbeats 2000000
/-! Code that leaves the generators' table as it is. -/
namespace Sq
open PySem PySem.Spec PyProof.Rows L2 GenW
section
variable {X : Cx} {pins : List (Addr × Obj)} {σ : L2.St} {H : Hp} {s : Shared}
structure GE (X : Cx) (e : Expr) (t : TE) : Prop where
  run : ∀ (pins : List (Addr × Obj)) (s : Shared) (σ : L2.St) (H : Hp) (Q : VK), Inv X pins σ H s → t σ H Q → wpAny (model X.prog X.w) X.A (eval e X.env) (fun u s' => s'.gens = s.gens ∧ EP X pins σ Q u s') X.xe s
structure GA (X : Cx) (es : List Expr) (t : TA) : Prop where
  run : ∀ (pos : Pos) (pins : List (Addr × Obj)) (s : Shared) (σ : L2.St) (H : Hp) (Q : List V → Hp → Prop), Inv X pins σ H s → t σ H Q → wpAny (model X.prog X.w) X.A (spliced (backTo pos (starEach es X.env))) (fun us s' => s'.gens = s.gens ∧ AP X pins σ Q us s') X.xe s
structure GT (X : Cx) (e : Expr) (t : TT) : Prop where
  run : ∀ (pins : List (Addr × Obj)) (s : Shared) (σ : L2.St) (H : Hp) (Q : Bool → Hp → Prop), Inv X pins σ H s → t σ H Q → wpAny (model X.prog X.w) X.A (isTrue e X.env (eval e X.env)) (fun b s' => s'.gens = s.gens ∧ TP X pins σ Q b s') X.xe s
structure GSt (X : Cx) (st : Stmt) (t : TS) : Prop where
  run : ∀ (pins : List (Addr × Obj)) (s : Shared) (σ : L2.St) (H : Hp) (D : Ends), Inv X pins σ H s → t D σ H → wpAny (model X.prog X.w) X.A (exec st X.env) (fun f s' => s'.gens = s.gens ∧ SP X pins D f s') X.xe s
structure GSts (X : Cx) (st : List Stmt) (t : TS) : Prop where
  run : ∀ (pins : List (Addr × Obj)) (s : Shared) (σ : L2.St) (H : Hp) (D : Ends), Inv X pins σ H s → t D σ H → wpAny (model X.prog X.w) X.A (execs st X.env) (fun f s' => s'.gens = s.gens ∧ SP X pins D f s') X.xe s
structure GG (X : Cx) (tg : Expr) (t : TG) : Prop where
  run : ∀ (pins : List (Addr × Obj)) (s : Shared) (σ : L2.St) (H : Hp) (v : V) (u : Value) (Q : L2.St → Hp → Prop), Inv X pins σ H s → RelV v u → t v σ H Q → wpAny (model X.prog X.w) X.A (assign tg X.env u) (fun _ s' => s'.gens = s.gens ∧ ∃ σ' H', Inv X pins σ' H' s' ∧ Q σ' H') X.xe s
def CallG (X : Cx) (f : Value) (r : List V → Hp → VK → Prop) : Prop := ∀ (pins : List (Addr × Obj)) (s : Shared) (σ : L2.St) (H : Hp) (vs : List V) (us : List Value) (Q : VK), Inv X pins σ H s → Vals vs us → r vs H Q → wpAny (model X.prog X.w) X.A (call f us) (fun u s' => s'.gens = s.gens ∧ EP X pins σ Q u s') X.xe s
/-! ### expressions -/
theorem ge_var {i : Nat} {x : Str} {pos : Pos} (hN : X.N[i]? = some x) (hv : Vis X.env.scope x) (hd : (x == ("__debug__" : Str)) = false := by decide) (hcd : (x == ("__classdict__" : Str)) = false := by decide) : GE X (.Name x pos) (tVar i) :=
  ⟨fun pins s σ H Q I h => by
    obtain ⟨v, e, q⟩ := h
    exact raw_name hN hv I e (fun u r => ⟨rfl, v, H, I, r, q⟩) hd hcd⟩
theorem ge_int {i : Int} {k : Nat} {pos : Pos} : GE X (.Constant (.int i) k pos) (tC (.int i)) :=
  ⟨fun pins s σ H Q I h => wpAny_Constant_int ⟨rfl, .int i, H, I.tok _, ⟨_, rfl⟩, h⟩⟩
theorem ga_nil : GA X [] tNil := ⟨fun pos pins s σ H Q I h => Calls.spliced_nil ⟨rfl, [], H, I, .nil, h⟩⟩
theorem ga_cons {e : Expr} {es : List Expr} {te : TE} {t : TA} (ha : GE X e te) (hr : GA X es t) (hs : starEach (e :: es) X.env = (false, eval e X.env) :: starEach es X.env := by rfl) : GA X (e :: es) (tCons te t) := by
  refine ⟨fun pos pins s σ H Q I h => ?_⟩
  rw [hs]
  show wpAny _ _ (spliced ((false, eval e X.env) :: backTo pos (starEach es X.env))) _ _ s
  refine Calls.spliced_cons (thn (ha.run pins s σ H _ I h) fun u s1 hh => ?_)
  obtain ⟨g1, x, H1, I1, r1, q1⟩ := hh
  exact thn (hr.run pos pins s1 σ H1 _ I1 q1) fun us s2 ⟨g2, xs, H2, I2, r2, q2⟩ => ⟨g2.trans g1, x :: xs, H2, I2, .cons r1 r2, q2⟩
theorem ge_lst {es : List Expr} {ta : TA} {pos : Pos} (h : GA X es ta) : GE X (.List es pos) (tLst ta) := by
  refine ⟨fun pins s σ H Q I hq => ?_⟩
  refine wpAny_List_spliced (thn (h.run pos pins s σ H _ I hq) fun us s1 hh => ?_)
  obtain ⟨g1, xs, H1, I1, r, z, q⟩ := hh
  refine ⟨by rw [← r.length]; exact z, g1, .ref s1.heap.objs.size, upd H1 s1.heap.objs.size (.lst xs), I1.laid (t' := s1.toks) (fun b u e => Heap.get?_push_of_some _ e) (Nat.le_refl _) ?_, rfl, q _ (I1.hok.fresh (Nat.le_refl _))⟩
  exact ⟨z, us, 0, r, Heap.get?_push_size _ rfl⟩
theorem ge_callB {id : String} {r : List V → Hp → VK → Prop} {x : Str} {p pos : Pos} {e : Expr} {es : List Expr} {t : TA} (hc : CallG X (.builtin id) r) (hg : Gl X x) (hm : X.mg x = none) (hv : bootBuiltins x = some (.builtin id)) (ha : GA X (e :: es) t) (hn : x ≠ "__name__" := by decide) (hdb : (x == ("__debug__" : Str)) = false := by decide)
    (he : starEach (e :: es) X.env = (false, eval e X.env) :: starEach es X.env := by rfl) (hpl : (backTo pos (starEach es X.env)).any (·.1) = false := by rfl) : GE X (.Call (.Name x p) (e :: es) [] pos) (tCB r t) := by
  refine ⟨fun pins s σ H Q I h => ?_⟩
  refine wpAny_Call_Name_kw (ld_blt I hg hm hv ?_ hn hdb)
  refine PyProof.Rows.callWith_builtin1 (thn (ha.run pos pins s σ H _ I h) fun us s1 hh => ?_) he hpl
  obtain ⟨g1, vs, H1, I1, r1, q1⟩ := hh
  exact thn (hc pins s1 σ H1 vs us Q I1 r1 q1) fun u s2 ⟨g2, q2⟩ => ⟨g2.trans g1, q2⟩
theorem cg_len : CallG X (.builtin "len") (rLenK X.K) := by
  intro pins s σ H xs us Q I r h
  obtain ⟨p, ys, rfl, hq, q⟩ := h
  obtain ⟨u, rfl, rx⟩ := vals1 r
  cases rx
  have hn := line63
  rcases hq with hq | hq
  · obtain ⟨its, r', pl, hz⟩ := I.list hq
    have hlen := r'.length
    exact Calls.call_len_list pl.isList (by simp only [List.size_toArray] <;> omega) ⟨rfl, .int ys.length, H, I.tok _, ⟨s.toks + 1, by rw [List.size_toArray, hlen]⟩, q⟩
  · obtain ⟨its, r', pl, hz⟩ := I.tuple hq
    have hlen := r'.length
    exact len_tuple pl (by simp only [List.size_toArray] <;> omega) ⟨rfl, .int ys.length, H, I.tok _, ⟨s.toks + 1, by rw [List.size_toArray, hlen]⟩, q⟩
/-- l.append(e) -/
theorem ge_append {o e : Expr} {to te : TE} {apos cpos : Pos} (ho : GE X o to) (ha : GE X e te) (hbase : attributeBase o "append" X.env (eval o X.env) = eval o X.env := by rfl)
    (hfew : ((backTo cpos (starEach [e] X.env)).all (fun x => !x.1) && (backToKw cpos (keywordEach [] X.env)).all (fun x => x.1.isSome) && decide ([e].length + ([] : List Keyword).length + (if ([] : List Keyword).isEmpty then 0 else 1) < 30)) = true := by rfl)
    (hline : (apos.endLine == cpos.line) = true := by rfl) (hs : starEach [e] X.env = (false, eval e X.env) :: starEach [] X.env := by rfl) : GE X (.Call (.Attribute o "append" apos) [e] [] cpos) (tBM X.K "list" rAppend to (tCons te tNil)) := by
  refine ⟨fun pins s σ H Q I h => ?_⟩
  refine wpAny_Call_method_late hbase hfew hline rfl (thn (ho.run pins s σ H _ I h) fun v s1 hh => ?_)
  obtain ⟨g1, x, H1, I1, r1, ty, q1⟩ := hh
  obtain ⟨h1, h2⟩ := tyV_is I1 r1 ty
  refine ⟨"list", _, PySem.F.plainAttrs_list, PySem.F.slot_list_append, PySem.F.type_list_append, h1, h2, ?_⟩
  have hA := (ga_cons (hs := hs) ha ga_nil).run cpos pins s1 σ H1 _ I1 q1
  rw [hs] at hA ⊢
  refine Calls.callWith_builtin rfl (Calls.evalArgs_plain (thn hA fun us s2 hh => ?_))
  obtain ⟨g2, vs, H2, I2, r2, l, xs, y, ex, ev, hH, hz, q⟩ := hh
  subst ex ev
  cases r1
  obtain ⟨u, rfl, ru⟩ := r2.one
  obtain ⟨z, its, n, r, hl, eo⟩ := I2.lstM hH
  refine call_meets F.slot_list_append ⟨_, eo, rfl⟩ F.entry_list_append (F.args_list_append_2 _ _) (PySem.list_append l its.toArray n u (by rw [List.size_toArray]; omega)) ⟨eo, ?_⟩
  refine ⟨g2.trans g1, .non, _, I2.lset (its' := its ++ [u]) hH eo (by simp) (r.append (.cons ru .nil)) ?_, rfl, q⟩
  rw [List.length_append, List.length_singleton]
  omega
/-- a == b, two ints -/
def tEqI (ta tb : TE) : TT := fun σ H Q => ta σ H fun x H1 => tb σ H1 fun y H2 => ∃ i j, x = .int i ∧ y = .int j ∧ Q (decide (i = j)) H2
theorem gt_eq {a b : Expr} {ta tb : TE} {pos : Pos} (ha : GE X a ta) (hb : GE X b tb) (hm : behindInMarks .Eq b = false) : GT X (.Compare a [.Eq] [b] pos) (tEqI ta tb) := by
  refine ⟨fun pins s σ H Q I h => ?_⟩
  refine wpAny_isTrue_Compare1 (thn (ha.run pins s σ H _ I h) fun v s1 hh => ?_) hm
  obtain ⟨g1, x, H1, I1, r1, q1⟩ := hh
  refine thn (hb.run pins s1 σ H1 _ I1 q1) fun u s2 hh => ?_
  obtain ⟨g2, y, H2, I2, r2, i, j, rfl, rfl, q⟩ := hh
  obtain ⟨t1, rfl⟩ := r1
  obtain ⟨t2, rfl⟩ := r2
  refine PySem.P.eq_int ?_
  have e : (i == j) = decide (i = j) := rfl
  rw [e]
  exact wpAny_truthy_bool ⟨g2.trans g1, H2, I2, q⟩
/-! ### statements -/
theorem gst_expr {e : Expr} {te : TE} {pos : Pos} (he : GE X e te) (hs : swapsWith e none pos.line X.env = pure false := by rfl) : GSt X (.Expr e pos) (tDrop te) := by
  refine ⟨fun pins s σ H D I h => ?_⟩
  refine wpAny_Expr_any (thn (he.run pins s σ H _ I h) fun v s1 hh => ?_) I.quiet hs
  obtain ⟨g1, x, H1, I1, r1, q1⟩ := hh
  exact ⟨g1, σ, H1, I1, q1⟩
theorem gst_break {pos : Pos} : GSt X (.Break pos) tBreak := ⟨fun _ _ σ H _ I h => wpAny_Break ⟨rfl, σ, H, I, h⟩⟩
theorem gsts_nil : GSts X [] tNext := ⟨fun _ _ σ H _ I h => wpAny_execs_nil ⟨rfl, σ, H, I, h⟩⟩
theorem gsts_cons {st : Stmt} {rest : List Stmt} {t u : TS} (h1 : GSt X st t) (h2 : GSts X rest u) : GSts X (st :: rest) (tSeq t u) := by
  refine ⟨fun pins s σ H D I h => ?_⟩
  refine wpAny_execs_cons (thn (h1.run pins s σ H { D with nx := u D } I h) fun f s1 hh => ?_)
  obtain ⟨g1, q⟩ := hh
  match f, q with
  | .next, ⟨σ', H', I', q⟩ => exact thn (h2.run pins s1 σ' H' D I' q) fun f2 s2 ⟨g2, q2⟩ => ⟨g2.trans g1, q2⟩
  | .ret v, q => exact ⟨g1, q⟩
  | .brk, q => exact ⟨g1, q⟩
  | .cont, q => exact ⟨g1, q⟩
theorem gsts_one {st : Stmt} {t : TS} (h1 : GSt X st t) : GSts X [st] t := by
  refine ⟨fun pins s σ H D I h => ?_⟩
  refine wpAny_execs_cons (thn (h1.run pins s σ H D I h) fun f s1 hh => ?_)
  obtain ⟨g1, q⟩ := hh
  match f, q with
  | .next, q => exact wpAny_execs_nil ⟨g1, q⟩
  | .ret v, q => exact ⟨g1, q⟩
  | .brk, q => exact ⟨g1, q⟩
  | .cont, q => exact ⟨g1, q⟩
theorem gst_if {c : Expr} {a b : List Stmt} {tc : TT} {t u : TS} {pos : Pos} (hc : GT X c tc) (ha : GSts X a t) (hb : GSts X b u) : GSt X (.If c a b pos) (tIfS tc t u) := by
  refine ⟨fun pins s σ H D I h => ?_⟩
  refine wpAny_If (thn (hc.run pins s σ H _ I h) fun d s1 hh => ?_)
  obtain ⟨g1, H1, I1, q1⟩ := hh
  cases d with
  | true => exact thn (ha.run pins s1 σ H1 D I1 q1) fun f2 s2 ⟨g2, q2⟩ => ⟨g2.trans g1, q2⟩
  | false => exact thn (hb.run pins s1 σ H1 D I1 q1) fun f2 s2 ⟨g2, q2⟩ => ⟨g2.trans g1, q2⟩
/-- a local name is stored -/
theorem gg_name {i : Nat} {x : Str} {pos : Pos} (hN : X.N.Nodup) (hi : X.N[i]? = some x) (hx : X.env.scope.names.lookup x = some .local) (hk : X.env.kindOf x = some .local := by first | rfl | assumption) : GG X (.Name x pos) (gName i) := by
  refine ⟨fun pins s σ H v u Q I r h => ?_⟩
  refine wpAny_assign_Name ?_
  obtain ⟨m, hn, hl⟩ := id I.loc
  have hcls : (X.env.scope.kind == .class || (X.env.scope.kind == .module && X.env.locals != X.env.globals)) = false := by rw [I.ok.kind]; rfl
  have hiσ : i < σ.length := by rw [I.len]; exact (List.getElem?_eq_some_iff.mp hi).1
  refine wpAny_storeName_local hk hn (fun h' hn' hs => ⟨rfl, σ.set i (some v), H, ?_, h⟩) hcls
  have old : ∀ b o, X.s_0.heap.get? b = some o → b ≠ X.env.locals := fun b o e => Nat.ne_of_lt (Nat.lt_of_lt_of_le (Heap.lt_size e) I.ok.above)
  obtain ⟨oL, _, _, hoL, _⟩ := id hn
  refine ⟨I.ok, I.os, I.bare, ⟨fun b o e n hb hx => ?_, fun b o e n hb hx => ?_, I.base.free, fun b o e hx => ?_, I.base.tups, I.base.frzs, I.base.tbls⟩, ⟨_, hn', fun j y v' e1 e2 e3 => ?_⟩, fun y c e => ?_, I.free, I.freeC, fun p hp => ?_, fun b ob e => ?_, by simpa using I.len⟩
  · exact (hs.2 b (old b o e)).trans (I.base.keep b o e n hb hx)
  · obtain ⟨sl, e1⟩ := I.base.slot b o e n hb hx
    exact ⟨sl, (hs.2 b (old b o e)).trans e1⟩
  · obtain ⟨o', e1⟩ := I.base.there b o e hx
    exact ⟨o', (hs.2 b (old b o e)).trans e1⟩
  · by_cases hj : j = i
    · subst hj
      rw [hi] at e1
      cases e1
      rw [List.getElem?_set_self hiσ] at e2
      cases e2
      exact ⟨u, r, .inl ⟨hk, by simp⟩⟩
    · rw [List.getElem?_set_ne (Ne.symm hj)] at e2
      obtain ⟨u', r', q⟩ := hl j y v' e1 e2 e3
      refine ⟨u', r', ?_⟩
      rcases q with ⟨k, e⟩ | ⟨k, c, e, z⟩
      · have ne : y ≠ x := fun e => hj (nodup_ix hN e1 (e ▸ hi))
        exact .inl ⟨k, by simp [ne, e]⟩
      · exact .inr ⟨k, c, e, z.sameBut hs (I.cne y c e)⟩
  · obtain ⟨w', z⟩ := I.cell y c e
    exact ⟨w', z.sameBut hs (I.cne y c e)⟩
  · obtain ⟨e, n, ne, nf, d⟩ := I.pin p hp
    exact ⟨(hs.2 p.1 ne).trans e, n, ne, nf, d⟩
  · refine (I.hok b ob e).stay (fun c w' hc q => (hs.2 c ?_).trans q) (fun _ q => q) fun _ _ q => q
    rintro rfl
    rcases hc with rfl | hc
    · rw [I.free] at e
      cases e
    · rw [I.free] at hc
      cases hc
end
end Sq

set_option Elab.async false
set_option linter.all false
set_option maxRecDepth 100000
set_option maxHeartbeats 2000000
/-! for x in g(e, ..): body, where g is a generator def that lives beside its consumer. -/
namespace Sq
open PySem PySem.Spec PyProof.Rows L2 GenW
/-- what the body of the loop has to keep -/
def LBack (M : Addr → Prop) (J : Nat → L2.St → Hp → Prop) (i : Nat) (x : V) (P : Addr → Prop) (H2 Hh : Hp) (σ' : L2.St) (H' : Hp) : Prop := (∀ b, P b → H' b = Hh b) ∧ ∀ H'' : Hp, (∀ b, P b → H'' b = none) → (∀ b, ¬ P b → H'' b = H' b) → Kps M x H2 H'' ∧ J (i + 1) σ' H''
def tForL (sp : SpL) (E : L2.St → XK) (t : TA) (g : TG) (tb : TS) : TS := fun D σ H => t σ H fun vs H1 => ∃ (M : Addr → Prop) (tot : Nat) (It : Nat → V → Hp → Prop) (J : Nat → L2.St → Hp → Prop), sp vs H1 M tot It (E σ) ∧ J 0 σ H1 ∧
  (∀ (i : Nat) (c : L2.St) (Hb H2 : Hp) (x : V) (P : Addr → Prop) (Hh : Hp), i < tot → J i c Hb → Same Hb H2 → It i x H2 → (∀ b, P b → H2 b = none ∧ ∃ φ, Hh b = some (.ext φ)) → (∀ b, ¬ P b → Hh b = H2 b) →
    g x c Hh fun σ2 H3 => tb { nx := LBack M J i x P H2 Hh, ct := LBack M J i x P H2 Hh, bk := D.nx, rt := D.rt } σ2 H3) ∧
  ∀ c Hb H2, J tot c Hb → Same Hb H2 → D.nx c H2
theorem weakN {P : Program} {w : World} {outer : List Env} {H : Hp} {s s' : Shared} {E : XK} {u : Value} (c : L2N.CX P w outer H s E u s') : L2.CX P w outer H s E u s' := by
  obtain ⟨a, B, H', cls, d, e, fl, r⟩ := c
  exact ⟨a, B, H', cls, d, e, L2H.flyingZ_imp (fun _ z => z.zc) fl, r⟩
section
variable {X : Cx} {k : Nat} {f : Addr} {fd : FuncData} {ps : List Str} {sp : SpL} {E : L2.St → XK} {x : Str} {p cpos pos : Pos} {tgt e : Expr} {es : List Expr} {t : TA} {g : TG} {tb : TS} {body : List Stmt}
theorem ps_forL (F : GFnL X.prog X.w X.K X.mg X.base k f fd ps sp) (hr : Room (k + 1) X.A) (hg : Gl X x) (hm : X.mg x = some (.ref f)) (hk : PySem.W.keepIn X.K (.ref f) = true) (hb : Binds X.K fd ps []) (ha : PA X (e :: es) t) (htg : GG X tgt g) (hbd : GSts X body tb)
    (hx : ∀ σ, PassesAt (L2N.CX X.prog X.w) X σ (E σ)) (ns : ∀ σ, NoStop X.K (E σ)) (own : PassesOwn (model X.prog X.w) X.A X.env X.xe) (lt : ∀ (a : Addr) (v : Value), letOwnedTupleGo tgt (.ref a) v = pure () := by intro _ _; rfl)
    (hfs : ∀ y, foldedSetIterable (.Call (.Name x p) (e :: es) [] cpos) X.env y = pure y := by intro _; rfl)
    (hdb : (x == ("__debug__" : Str)) = false := by decide) (he : starEach (e :: es) X.env = (false, eval e X.env) :: starEach es X.env := by rfl) (hpl : (backTo cpos (starEach es X.env)).any (·.1) = false := by rfl) :
    PS X (.For tgt (.Call (.Name x p) (e :: es) [] cpos) body [] pos) (tForL sp E t g tb) := by
  refine ⟨fun pins s σ H D I h => ?_⟩
  refine wpAny_For (wpAny_Call_Name_kw (ld_glob I hg hm ?_ hdb)) hfs
  refine PySem.W.callWith_K (h₀ := X.base) I.ok.mod.kin hk (thn (ha.run cpos pins s σ H _ I h) fun us s1 hh => ?_) he hpl
  obtain ⟨vs, H1, I1, r1, M, tot, It, J, q, j0, turn, fin⟩ := hh
  refine ⟨I1.kIn, ?_⟩
  have few : us.length = ps.length := by rw [← r1.length]; exact F.len _ _ _ _ _ _ q
  have bind := hb s1 us I1.kIn (by rw [List.append_nil]; exact few)
  rw [List.append_nil] at bind
  refine wpAny_call (codeAny_mono (F.run X pins σ s1 H1 ⟨us, []⟩ us vs M tot It (E σ) rfl rfl rfl rfl rfl I1 (hr.mono (by omega)) bind r1 q) fun r s2 hq => ?_)
  match r, hq with
  | .ok (.ret u), hq =>
    obtain ⟨a, g, c, rfl, ha1, isG, fresh, os2, bare2, lim2, keep2, wake⟩ := hq
    refine wpAny_pyIter_gen isG ?_
    obtain ⟨L, ok, eX, eP, eA, eG, eM, eT, eI, eJ, eE, eS, eH, eAr, seg⟩ := wake J X.A.in1 (s2.setGen g .running) j0 ⟨hr.hd, by have := hr.dp; show X.A.depth + 3 * k + 5 < _; omega, by have := hr.un; show X.A.units + 1 + 16 * k + 200 < _; omega⟩ I1.ok.frames (fun b o e => e) os2 (allBare_setGen bare2 rfl)
    obtain ⟨LX, Lp, LN, Lq, Ls, Lf, Lc, LA, Ln, La, Lo, Lg, LE, LS, LH, LT, LM, LI, LJ⟩ := L
    dsimp only at eX eP eA eG eM eT eI eJ eE eS eH eAr
    have eX := eX.symm
    have eP := eP.symm
    have eA := eA.symm
    have eG := eG.symm
    have eM := eM.symm
    have eT := eT.symm
    have eI := eI.symm
    have eJ := eJ.symm
    have eE := eE.symm
    have eS := eS.symm
    have eH := eH.symm
    subst eX eP eA eG eM eT eI eJ eE eS eH eAr
    obtain ⟨L, eL⟩ : ∃ L : Lv, L = ⟨X, pins, LN, Lq, Ls, Lf, Lc, X.A.in1, Ln, a, Lo, g, E σ, s1, H1, tot, M, It, J⟩ := ⟨_, rfl⟩
    have goes0 : (GenState.fresh c).Goes (model X.prog X.w) X.A.in1 (fun n s₀ r s₁ => ((r = .ok (.ret .none) ∨ r = .ok .next) ∧ ∃ c Hb H2, J tot c Hb ∧ Same Hb H2 ∧ Inv X pins c H2 s₁) ∨ ∃ e, r = .error e ∧ (L2N.CX X.prog X.w X.stack H1 s1 (E σ) e s₁ ∧ s₁.heap.IsGen a g)) L.Y tot (.send .none) (s2.setGen g .running) := by
      subst eL
      exact ⟨rfl, seg_imp (fun n s₀ r s z => z) (fun n s₀ v s kap kap' hkk z => by
        obtain ⟨i, c, Hb, H1, x, ip, z1, z2, z3, z4, z5, z6, z7, z8, z9⟩ := z
        exact ⟨i, c, Hb, H1, x, ip, z1, z2, z3, z4, z5, z6, z7, z8, fun s2 c2 H2 w1 w2 w3 w4 => hkk _ _ (z9 s2 c2 H2 w1 w2 w3 w4)⟩) tot seg⟩
    refine codeAny_forLoop_any (fun n s' => s'.heap.IsGen a g ∧ s'.heap.NoLimit ∧ ∃ gs, s'.gens[g]? = some gs ∧ gs.Goes (model X.prog X.w) X.A.in1 (fun n s₀ r s₁ => ((r = .ok (.ret .none) ∨ r = .ok .next) ∧ ∃ c Hb H2, J tot c Hb ∧ Same Hb H2 ∧ Inv X pins c H2 s₁) ∨ ∃ e, r = .error e ∧ (L2N.CX X.prog X.w X.stack H1 s1 (E σ) e s₁ ∧ s₁.heap.IsGen a g)) L.Y n (.send .none) (s'.setGen g .running)) (fun n s' hs => ?_) tot ⟨isG, lim2, _, fresh, goes0⟩
    obtain ⟨isG', lim', gs, hgs, goes⟩ := hs
    have hgl : g < s'.gens.size := (Array.getElem?_eq_some_iff.mp hgs).1
    refine wpAny_gsz (n := g + 1) hgl (next_genG (A := X.A) (F := fun _ _ s₁ => ∃ c Hb H2, J tot c Hb ∧ Same Hb H2 ∧ Inv X pins c H2 s₁) hr.hd lim' (by have := hr.dp; omega) isG' hgs goes (fun v s₁ gs' bare' hv => ?_) (fun s₁ hp h' hkp => ?_) fun er s₁ hee => ?_)
    · intro hsz
      have hsz1 : g < s₁.gens.size := by
        have q : (s₁.setGen g gs').gens.size = s₁.gens.size := setGen_size _ _ _
        have hsz' : g + 1 ≤ (s₁.setGen g gs').gens.size := hsz
        omega
      subst eL
      obtain ⟨i, c2, Hb, H2, x2, ip, hi, j, sm, it, rv, I2, prv, isG1, back⟩ := hv
      dsimp only at j it I2 back isG1 hi
      have I3 : Inv X pins c2 (hidP (Lv.prv ⟨X, pins, LN, Lq, Ls, Lf, Lc, X.A.in1, Ln, a, Lo, g, E σ, s1, H1, tot, M, It, J⟩ ip) s₁.heap H2) (s₁.setGen g gs') := inv_gens I2 rfl rfl (allBare_setGen I2.bare bare')
      obtain ⟨prvL, ePrv⟩ : ∃ l, l = Lv.prv ⟨X, pins, LN, Lq, Ls, Lf, Lc, X.A.in1, Ln, a, Lo, g, E σ, s1, H1, tot, M, It, J⟩ ip := ⟨_, rfl⟩
      have ma : a ∈ prvL := by
        rw [ePrv]
        exact List.mem_cons_of_mem _ (List.mem_append_right _ (List.mem_map.mpr ⟨(a, Lo), List.mem_append_left _ (List.mem_singleton.mpr rfl), rfl⟩))
      rw [← ePrv] at I3 prv back
      refine wpAny_of_eq (lt a v) ?_
      have rd := turn i c2 Hb H2 x2 (fun b => b ∈ prvL) (hidP prvL s₁.heap H2) (by omega) j sm it (fun b hb => ⟨(prv b hb).1, by obtain ⟨o, ho⟩ := (prv b hb).2; exact ⟨_, hidP_in hb ho⟩⟩) fun b hb => hidP_out hb
      refine wpAny_passesOwn own (thn (htg.run pins _ c2 _ x2 v _ I3 rv rd) fun _ s4 h4 => ?_)
      obtain ⟨g4, σ4, H4, I4, q4⟩ := h4
      refine wpAny_passesOwn own (thn (hbd.run pins s4 σ4 H4 _ I4 q4) fun fl s5 h5 => ?_)
      obtain ⟨g5, q5⟩ := h5
      have again : ∀ σ5 H5, Inv X pins σ5 H5 s5 → LBack M J i x2 (fun b => b ∈ prvL) H2 (hidP prvL s₁.heap H2) σ5 H5 → ∃ m, m < n ∧ s5.heap.IsGen a g ∧ s5.heap.NoLimit ∧ ∃ gs, s5.gens[g]? = some gs ∧ gs.Goes (model X.prog X.w) X.A.in1 (fun n s₀ r s₁ => ((r = .ok (.ret .none) ∨ r = .ok .next) ∧ ∃ c Hb H2, J tot c Hb ∧ Same Hb H2 ∧ Inv X pins c H2 s₁) ∨ ∃ e, r = .error e ∧ (L2N.CX X.prog X.w X.stack H1 s1 (E σ) e s₁ ∧ s₁.heap.IsGen a g)) (Lv.Y ⟨X, pins, LN, Lq, Ls, Lf, Lc, X.A.in1, Ln, a, Lo, g, E σ, s1, H1, tot, M, It, J⟩) m (.send .none) (s5.setGen g .running) := fun σ5 H5 I5 lb => by
        obtain ⟨lb1, lb2⟩ := lb
        obtain ⟨kp, j5⟩ := lb2 (unh prvL H5) (fun b hb => unh_in hb) fun b hb => unh_out hb
        have hk := back (s5.setGen g .running) σ5 H5 (inv_gens I5 rfl rfl (allBare_setGen I5.bare rfl)) lb1 kp j5
        cases n with
        | zero => exact hk.elim
        | succ m =>
          refine ⟨m, Nat.lt_succ_self m, ?_, I5.nolimit, gs', ?_, hk⟩
          · obtain ⟨o, nm, qn, ho, r⟩ := isG1
            refine ⟨o, nm, qn, ?_, r⟩
            have z := lb1 a ma
            rw [hidP_in ma ho] at z
            exact (I5.hok a _ z).1
          · rw [g5, g4]
            exact setGen_at hsz1
      match fl, q5 with
      | .next, ⟨σ5, H5, I5, lb⟩ => exact again σ5 H5 I5 lb
      | .cont, ⟨σ5, H5, I5, lb⟩ => exact again σ5 H5 I5 lb
      | .brk, ⟨σ5, H5, I5, qd⟩ => exact ⟨σ5, H5, I5, qd⟩
      | .ret v, q5 => exact q5
    · intro _
      obtain ⟨c2, Hb, H2, j, sm, I2⟩ := hp
      refine wpAny_execs_nil ⟨c2, H2, ?_, fin c2 Hb H2 j sm⟩
      exact I2.call' (ch := []) rfl (Un.kept hkp) (I2.hok.kept hkp) (allBare_setGen I2.bare rfl) fun b z => by simp at z
    · obtain ⟨hc, hg1⟩ := hee
      have kin : X.K.In s₁.heap := by
        obtain ⟨b1, B, H2, cls, d, _, fl, _, ub, _⟩ := id hc
        refine I1.ok.mod.kin.keeps fun b o eb => fl.1 b o (ub.keep b o (I1.bs b o eb).1 (I1.bs b o eb).2 fun hm => ?_)
        rcases List.mem_cons.mp (I1.stkSub b hm) with z | z
        · have low := Heap.lt_size eb
          rw [z] at low
          exact absurd (Nat.lt_of_lt_of_le low (Nat.le_trans I1.ok.bsz I1.ok.above)) (Nat.lt_irrefl _)
        · exact I1.ok.nofr eb z
      refine ⟨hg1, notStop_of (ns σ) kin (weakN hc), fun _ => own _ _ (hx σ pins H1 s1 er _ I1 ?_)⟩
      obtain ⟨b1, B, H2, cls, d, z1, fl, z2, ub, z3, z4, z5, z6⟩ := hc
      exact ⟨b1, B, H2, cls, d, z1, fl, z2, ub, z3, z4, allBare_setGen z5 rfl, z6⟩
end
/-- a generator def by its name -/
structure Dl (P : Program) (w : World) (K : PySem.W.Frag) (mg : Str → Option Value) (base : Heap) (k : Nat) (x : Str) (ps : List Str) (sp : SpL) : Prop where
  ex : ∃ f fd, GFnL P w K mg base k f fd ps sp ∧ mg x = some (.ref f) ∧ PySem.W.keepIn K (.ref f) = true ∧ Binds K fd ps []
section
variable {X : Cx} {k : Nat} {ps : List Str} {sp : SpL} {x : Str} {p cpos pos : Pos} {tgt e : Expr} {es : List Expr} {t : TA} {g : TG} {tb : TS} {body : List Stmt} {W : WX}
theorem ps_forLD {K0 : PySem.W.Frag} (sameK : X.K = K0) (D : Dl X.prog X.w X.K X.mg X.base k x ps sp) (takes : L2N.Takes X W) (hr : Room (k + 1) X.A) (hg : Gl X x) (ha : PA X (e :: es) t) (htg : GG X tgt g) (hbd : GSts X body tb) (own : PassesOwn (model X.prog X.w) X.A X.env X.xe)
    (lt : ∀ (a : Addr) (v : Value), letOwnedTupleGo tgt (.ref a) v = pure () := by intro _ _; rfl) (hfs : ∀ y, foldedSetIterable (.Call (.Name x p) (e :: es) [] cpos) X.env y = pure y := by intro _; rfl)
    (hdb : (x == ("__debug__" : Str)) = false := by decide) (he : starEach (e :: es) X.env = (false, eval e X.env) :: starEach es X.env := by rfl) (hpl : (backTo cpos (starEach es X.env)).any (·.1) = false := by rfl) :
    PS X (.For tgt (.Call (.Name x p) (e :: es) [] cpos) body [] pos) (tForL sp (EF K0 W) t g tb) := by
  obtain ⟨f, fd, F, gm, kp, b⟩ := D.ex
  subst sameK
  exact ps_forL (E := EF X.K W) F hr hg gm kp b ha htg hbd (fun σ pins H s e s' I c => L2N.passAt (W := fun cls d σ H => W cls d σ H ∧ PySem.W.subIn X.K cls (.type "StopIteration") = some false) (takes.imp fun _ _ _ _ z => z.1) σ pins H s e s' I c) (fun σ cls d H (z : EF X.K W σ cls d H) => z.2) own lt hfs hdb he hpl
/-- the same where it lets nothing out -/
theorem ps_forL0 (D : Dl X.prog X.w X.K X.mg X.base k x ps sp) (hr : Room (k + 1) X.A) (hg : Gl X x) (ha : PA X (e :: es) t) (htg : GG X tgt g) (hbd : GSts X body tb) (own : PassesOwn (model X.prog X.w) X.A X.env X.xe)
    (lt : ∀ (a : Addr) (v : Value), letOwnedTupleGo tgt (.ref a) v = pure () := by intro _ _; rfl) (hfs : ∀ y, foldedSetIterable (.Call (.Name x p) (e :: es) [] cpos) X.env y = pure y := by intro _; rfl)
    (hdb : (x == ("__debug__" : Str)) = false := by decide) (he : starEach (e :: es) X.env = (false, eval e X.env) :: starEach es X.env := by rfl) (hpl : (backTo cpos (starEach es X.env)).any (·.1) = false := by rfl) :
    PS X (.For tgt (.Call (.Name x p) (e :: es) [] cpos) body [] pos) (tForL sp (fun _ => E0) t g tb) := by
  obtain ⟨f, fd, F, gm, kp, b⟩ := D.ex
  refine ps_forL (E := fun _ => E0) F hr hg gm kp b ha htg hbd (fun σ pins H s e s' I c => ?_) (fun σ cls d H z => False.elim z) own lt hfs hdb he hpl
  obtain ⟨_, _, _, _, _, _, _, _, _, _, _, _, z⟩ := c
  exact False.elim z
end
end Sq

set_option Elab.async false
set_option linter.all false
set_option maxRecDepth 100000
set_option maxHeartbeats 2000000
namespace Sq
open PySem PySem.Spec PyProof.Rows L2 GenW
/-- a loop over a walk that hands out -/
theorem lfor_it {J : L2.It} {n : Nat} {G : Hp → Prop} {Y : Nat → Hp → V → Hp → Prop} (w : Walk J n G Y) {g : TG} {tb : TGL} {D : GEndL} {k : Nat} {Hb : Hp} {σ : L2.St} {H : Hp} (Pv : Nat → Nat → Hp → L2.St → Hp → Prop) (h0 : Pv 0 k Hb σ H) (hG : ∀ i k Hb σ H, i ≤ n → Pv i k Hb σ H → G H)
    (hs : ∀ i k Hb x σ H H', i < n → Pv i k Hb σ H → Y i H x H' → g x σ H' fun σ2 H2 => tb { D with nx := Pv (i + 1), ct := Pv (i + 1), bk := D.nx } k Hb σ2 H2) (hd : ∀ k Hb σ H, Pv n k Hb σ H → D.nx k Hb σ H) :
    ∃ W : Nat → Nat → Nat → Hp → L2.St → Hp → Prop, (∃ m, W 0 m k Hb σ H) ∧ ∀ j m i Hb σ H, W j m i Hb σ H →
      (J.stop j H ∧ D.nx i Hb σ H) ∨ (J.go j H ∧ ∃ Nw : Nat → Hp → L2.St → Hp → Prop, (∀ i' Hb' σ' H', Nw i' Hb' σ' H' → ∃ m', m' < m ∧ W (j + 1) m' i' Hb' σ' H') ∧ ∀ x H', J.yld j H x H' → g x σ H' fun σ2 H2 => tb { D with nx := Nw, ct := Nw, bk := D.nx } i Hb σ2 H2) := by
  refine ⟨fun j m i Hb σ H => m = n - j ∧ j ≤ n ∧ Pv j i Hb σ H, ⟨n, by simp, Nat.zero_le _, h0⟩, ?_⟩
  rintro j m i Hb σ H ⟨rfl, hj, p⟩
  have q := hG j i Hb σ H hj p
  by_cases hlt : j < n
  · exact .inr ⟨w.goes j H hlt q, Pv (j + 1), fun i' Hb' σ' H' p' => ⟨n - (j + 1), by omega, rfl, hlt, p'⟩, fun x H' y => hs j i Hb x σ H H' hlt p (w.yields j H x H' hlt q y)⟩
  · have e : j = n := by omega
    subst e
    exact .inl ⟨w.stops H q, hd i Hb σ H p⟩
theorem pi_reversedK {X : Cx} {K0 : PySem.W.Frag} {tg e : Expr} {ta : TA} {p pos : Pos} (hK : X.K = K0) (hg : Gl X "reversed") (hm : X.mg "reversed" = none) (ha : PA X [e] ta) (hs : starEach [e] X.env = [(false, eval e X.env)] := by rfl) : PI X tg (.Call (.Name "reversed" p) [e] [] pos) (iRev K0 ta) := by
  subst hK
  exact pi_reversed hg hm ha hs
theorem ge_appendK {X : Cx} {K0 : PySem.W.Frag} {o e : Expr} {to te : TE} {apos cpos : Pos} (hK : X.K = K0) (ho : GE X o to) (ha : GE X e te) (hbase : attributeBase o "append" X.env (eval o X.env) = eval o X.env := by rfl)
    (hfew : ((backTo cpos (starEach [e] X.env)).all (fun x => !x.1) && (backToKw cpos (keywordEach [] X.env)).all (fun x => x.1.isSome) && decide ([e].length + ([] : List Keyword).length + (if ([] : List Keyword).isEmpty then 0 else 1) < 30)) = true := by rfl)
    (hline : (apos.endLine == cpos.line) = true := by rfl) (hs : starEach [e] X.env = (false, eval e X.env) :: starEach [] X.env := by rfl) : GE X (.Call (.Attribute o "append" apos) [e] [] cpos) (tBM K0 "list" rAppend to (tCons te tNil)) := by
  subst hK
  exact ge_append ho ha hbase hfew hline hs
/-- a generator def, its context taken apart -/
theorem lfn_at {P : Program} {w : World} {K : PySem.W.Frag} {mg : Str → Option Value} {base : Heap} {k : Nat} {f : Addr} {name qual : Str} {params : Arguments} {body : List Stmt} {scope : Scope} {dV kV doc pm cdv ct oc : Value} {an od : Option Addr}
    {osl : Array (Option Value)} {N ps : List Str} {sp : SpL} (found : K.lookup f = some ⟨oc, od, .func (PySem.W.fnOf name qual params body scope dV kV doc pm an cdv ct), osl⟩) (coded : PySem.W.codeIn K cdv qual = true) (S : GScope N ps scope)
    (len : ∀ vs H M tot It E, sp vs H M tot It E → vs.length = ps.length)
    (inner : ∀ (Xc : Cx) (pinsC : List (Addr × Obj)) (A : Around) (n0 a : Addr) (go : Obj) (g : Nat) (E : XK) (sC : Shared) (HC : Hp) (tot : Nat) (M : Addr → Prop) (It : Nat → V → Hp → Prop) (J : Nat → L2.St → Hp → Prop) (vs : List V),
      Lv.Ok ⟨{ Xc with prog := P, w := w, K := K, mg := mg, base := base }, pinsC, N, qual, scope, f, cdv, A, n0, a, go, g, E, sC, HC, tot, M, It, J⟩ → Room k (A.deeper (envOfC qual scope n0 f cdv)) → sp vs HC M tot It E →
      ∃ t, G0s ⟨{ Xc with prog := P, w := w, K := K, mg := mg, base := base }, pinsC, N, qual, scope, f, cdv, A, n0, a, go, g, E, sC, HC, tot, M, It, J⟩ body t ∧ t { nx := fun i Hb _ H => i = tot ∧ Same Hb H, rt := fun _ _ _ _ => False } (start N vs) HC) :
    GFnL P w K mg base (k + 1) f (PySem.W.fnOf name qual params body scope dV kV doc pm an cdv ct) ps sp := by
  refine lfn_of found coded S len fun L vs ok h1 h2 h3 h4 h5 h6 h7 h8 h9 h10 room h => ?_
  obtain ⟨LX, Lp, LN, Lq, Ls, Lf, Lc, LA, Ln, La, Lo, Lg, LE, LS, LH, LT, LM, LI, LJ⟩ := L
  dsimp only at h1 h2 h3 h4 h5 h6 h7 h8 h9 h10 room h
  subst h6 h7 h8 h9 h10
  subst h1 h2 h3 h4 h5
  exact inner LX Lp LA Ln La Lo Lg LE LS LH LT LM LI LJ vs ok room h
end Sq

set_option Elab.async false
set_option linter.all false
set_option maxRecDepth 100000
set_option maxHeartbeats 2000000
/-! More code that leaves the generators' table as it is: calls of defs, operators, tuples, enumerate. -/
namespace Sq
open PySem PySem.Spec PyProof.Rows L2 GenW
/-- a def that keeps the table and lets nothing out -/
structure FnQ (P : Program) (w : World) (K : PySem.W.Frag) (mg : Str → Option Value) (base : Heap) (k : Nat) (f : Addr) (fd : FuncData) (ps : List Str) (sp : Sp) : Prop where
  len : ∀ vs H Q E, sp vs H Q E → vs.length = ps.length
  run : ∀ (A : Around) (outer : List Env) (s : Shared) (H : Hp) (args : Args) (us : List Value) (vs : List V) (Q : VK), Room k A → Env0 P w K mg base A outer s H → BindsTo s fd args (ps.zip us) → Vals vs us → sp vs H Q E0 →
    codeAny (model P w) A (.call (.ref f) args) (fun r s' => match r with | .ok (.ret u) => s'.gens = s.gens ∧ CE outer P w H s Q u s' | _ => False) s
structure Dq (P : Program) (w : World) (K : PySem.W.Frag) (mg : Str → Option Value) (base : Heap) (k : Nat) (x : Str) (ps : List Str) (sp : Sp) : Prop where
  ex : ∃ f fd, FnQ P w K mg base k f fd ps sp ∧ mg x = some (.ref f) ∧ PySem.W.keepIn K (.ref f) = true ∧ Binds K fd ps []
theorem fnq_of {P : Program} {w : World} {K : PySem.W.Frag} {mg : Str → Option Value} {base : Heap} {x qual : Str} {st : Stmt} {f : Addr} {fd : FuncData} {N ps : List Str} {k : Nat} {sp : Sp} (F : Fun K x qual st f fd) (S : FnScope N ps (defScope st)) (len : ∀ vs H Q E, sp vs H Q E → vs.length = ps.length)
    (walk : ∀ (cdv : Value) (A : Around) (outer : List Env) (s : Shared) (H : Hp) (vs : List V) (Q : VK), Room k (A.deeper (envOfC qual (defScope st) s.heap.objs.size f cdv)) → sp vs H Q E0 →
      ∃ t, GSts (cxOf CX0 P w K mg base N qual (defScope st) f cdv A outer s H E0).nox (defBody st) t ∧ t { nx := fun _ H' => Q .non H', rt := Q } (L2.start N vs) H) : FnQ P w K mg base (k + 1) f fd ps sp := by
  obtain ⟨oc, od, kV, doc, pm, an, cdv, ct, osl, rfl, lk, hcd⟩ := F.ex
  refine ⟨len, fun A outer s H args us vs Q hr e0 hb r hsp => ?_⟩
  have hl := len _ _ _ _ hsp
  have KX : K.In s.heap := e0.mod.kin.keeps fun b o e => (e0.bs b o e).1
  have lim : s.heap.NoLimit := e0.mod.nolimit.keeps fun b o e => (e0.bs b o e).1
  have hkind : ∀ y ∈ ps.zip us, (defScope st).names.lookup y.1 = some .local ∨ ((defScope st).names.lookup y.1 = some .cell ∧ ((cellsFrom (s.heap.objs.size + 1) (defScope st).names []).lookup y.1).isSome = true) := fun ⟨n, v⟩ hy =>
    (S.par n (List.of_mem_zip hy).1).elim .inl fun z => .inr ⟨z, PySem.W.cellsFrom_some _ _ _ (.inl z)⟩
  refine codeAny_call_function hr.depth (KX _ _ lk) rfl S.co S.gen rfl (PySem.W.codeRec_of KX hcd) (hb _ _ _ _ ?_)
  refine wpAny_newFunctionEnv_cells S.kind hkind fun env he s1 made => ?_
  subst he
  refine ⟨lim.keeps made.toInCall.keep, codeAny_func ?_⟩
  have gen1 : s1.gens = s.gens := by
    obtain ⟨h1, tk, es1, _⟩ := made.done
    rw [es1]
  obtain ⟨t, ht, hq⟩ := walk cdv A outer s H vs Q (hr.deeper _) hsp
  have I : Inv (cxOf CX0 P w K mg base N qual (defScope st) f cdv A outer s H E0).nox [] (start N vs) H s1 := (inv_start S hr.hd e0 hl r made).wish _
  refine wpAny_mono (ht.run [] s1 (start N vs) H _ I hq) (fun fl s' hs => ?_) fun e s' hs => False.elim hs
  obtain ⟨g, hs⟩ := hs
  match fl, hs with
  | .ret u, ⟨v, σ', H', J, rv, q⟩ => exact ⟨g.trans gen1, v, H', J.os, J.bare, J.base, J.hok, rv, q⟩
  | .next, ⟨σ', H', J, q⟩ => exact ⟨g.trans gen1, V.non, H', J.os, J.bare, J.base, J.hok, rfl, q⟩
  | .brk, ⟨_, _, _, q⟩ => exact False.elim q
  | .cont, ⟨_, _, _, q⟩ => exact False.elim q
section
variable {X : Cx} {pins : List (Addr × Obj)} {σ : L2.St} {H : Hp} {s : Shared} {k : Nat} {ps : List Str} {sp : Sp} {x : Str} {p pos : Pos} {e : Expr} {es : List Expr} {t : TA}
theorem ge_callU (D : Dq X.prog X.w X.K X.mg X.base k x ps sp) (hr : Room k X.A) (hg : Gl X x) (ha : GA X (e :: es) t) (hdb : (x == ("__debug__" : Str)) = false := by decide)
    (he : starEach (e :: es) X.env = (false, eval e X.env) :: starEach es X.env := by rfl) (hpl : (backTo pos (starEach es X.env)).any (·.1) = false := by rfl) : GE X (.Call (.Name x p) (e :: es) [] pos) (tCall sp [] E0 t) := by
  obtain ⟨f, fd, F, g, kp, b⟩ := D.ex
  refine ⟨fun pins s σ H Q I h => ?_⟩
  refine wpAny_Call_Name_kw (ld_glob I hg g ?_ hdb)
  refine PySem.W.callWith_K (h₀ := X.base) I.ok.mod.kin kp (thn (ha.run pos pins s σ H _ I h) fun us s1 hh => ?_) he hpl
  obtain ⟨g1, vs, H1, I1, r, q⟩ := hh
  refine ⟨I1.kIn, ?_⟩
  rw [List.append_nil] at q
  have hl : us.length = ps.length := by rw [← r.length]; exact F.len _ _ _ _ q
  have bind := b s1 us I1.kIn (by rw [List.append_nil]; exact hl)
  rw [List.append_nil] at bind
  refine wpAny_call (codeAny_mono (F.run X.A X.stack s1 H1 ⟨us, []⟩ us vs Q hr I1.env0 bind r q) fun r s' hq => ?_)
  match r, hq with
  | .ok (.ret u), hq => exact ⟨hq.1.trans g1, I1.after hq.2⟩
/-- a + b, two ints -/
def tAddI (ta tb : TE) : TE := fun σ H Q => ta σ H fun x H1 => tb σ H1 fun y H2 => ∃ i j, x = .int i ∧ y = .int j ∧ Q (.int (i + j)) H2
theorem ge_add {a b : Expr} {ta tb : TE} (ha : GE X a ta) (hb : GE X b tb) : GE X (.BinOp a .Add b pos) (tAddI ta tb) := by
  refine ⟨fun pins s σ H Q I h => ?_⟩
  refine wpAny_BinOp (thn (ha.run pins s σ H _ I h) fun v s1 hh => ?_)
  obtain ⟨g1, x, H1, I1, r1, q1⟩ := hh
  refine thn (hb.run pins s1 σ H1 _ I1 q1) fun u s2 hh => ?_
  obtain ⟨g2, y, H2, I2, r2, i, j, rfl, rfl, q⟩ := hh
  obtain ⟨t1, rfl⟩ := r1
  obtain ⟨t2, rfl⟩ := r2
  exact add_int ⟨g2.trans g1, .int (i + j), H2, I2.tok _, ⟨_, rfl⟩, q⟩
/-- a < b, two ints -/
def tLtI (ta tb : TE) : TT := fun σ H Q => ta σ H fun x H1 => tb σ H1 fun y H2 => ∃ i j, x = .int i ∧ y = .int j ∧ Q (decide (i < j)) H2
theorem gt_lt {a b : Expr} {ta tb : TE} (ha : GE X a ta) (hb : GE X b tb) (hm : behindInMarks .Lt b = false) : GT X (.Compare a [.Lt] [b] pos) (tLtI ta tb) := by
  refine ⟨fun pins s σ H Q I h => ?_⟩
  refine wpAny_isTrue_Compare1 (thn (ha.run pins s σ H _ I h) fun v s1 hh => ?_) hm
  obtain ⟨g1, x, H1, I1, r1, q1⟩ := hh
  refine thn (hb.run pins s1 σ H1 _ I1 q1) fun u s2 hh => ?_
  obtain ⟨g2, y, H2, I2, r2, i, j, rfl, rfl, q⟩ := hh
  obtain ⟨t1, rfl⟩ := r1
  obtain ⟨t2, rfl⟩ := r2
  exact lt_int (wpAny_truthy_bool ⟨g2.trans g1, H2, I2, q⟩)
/-- divmod(a, b), b positive -/
def rDivmod : List V → Hp → VK → Prop := fun xs H Q => ∃ i j, xs = [.int i, .int j] ∧ CDivP i j ∧ ∀ p, H p = none → Q (.ref p) (upd H p (.tup [.int (i / j), .int (i % j)]))
theorem cg_divmod : CallG X (.builtin "divmod") rDivmod := by
  intro pins s σ H xs us Q I r h
  obtain ⟨i, j, rfl, ⟨h1, h2⟩, q⟩ := h
  obtain ⟨u, w', rfl, ⟨t, rfl⟩, ⟨t', rfl⟩⟩ := vals2 r
  refine divmod_int (by omega) ?_ (.inl h2)
  rw [Int.fdiv_eq_ediv_of_nonneg i (by omega), Int.fmod_eq_emod_of_nonneg i (by omega)]
  have hn : H s.heap.objs.size = none := I.hok.fresh (Nat.le_refl _)
  refine ⟨rfl, .ref s.heap.objs.size, _, ?_, rfl, q _ hn⟩
  refine I.laid (fun b o e => Heap.get?_push_of_some _ e) (Nat.le_refl _) ⟨by simp only [List.length_cons, List.length_nil]; rw [sizeLine_eq]; decide, [.int (i / j) s.toks, .int (i % j) (s.toks + 1)], .cons ⟨_, rfl⟩ (.cons ⟨_, rfl⟩ .nil), ?_⟩
  exact ⟨_, Heap.get?_push_size s.heap rfl, rfl, 0, rfl⟩
/-! ### targets -/
structure GGs (X : Cx) (es : List Expr) (t : TGs) : Prop where
  run : ∀ (pins : List (Addr × Obj)) (s : Shared) (σ : L2.St) (H : Hp) (vs : List V) (us : List Value) (Q : L2.St → Hp → Prop), Inv X pins σ H s → Vals vs us → t vs σ H Q →
    wpAny (model X.prog X.w) X.A (assignInOrder ((assignEach es X.env).map (·.2)) us) (fun _ s' => s'.gens = s.gens ∧ ∃ σ' H', Inv X pins σ' H' s' ∧ Q σ' H') X.xe s
theorem ggs_nil : GGs X [] gNil := ⟨fun pins s σ H vs us Q I r h => by
  obtain ⟨e, q⟩ := h
  subst e
  cases r
  exact assignInOrder_nil ⟨rfl, σ, H, I, q⟩⟩
theorem ggs_cons {e : Expr} {es : List Expr} {t : TG} {u : TGs} (h1 : GG X e t) (h2 : GGs X es u)
    (hs : (assignEach (e :: es) X.env).map (·.2) = assign e X.env :: (assignEach es X.env).map (·.2) := by rfl) : GGs X (e :: es) (gCons t u) := by
  refine ⟨fun pins s σ H vs us Q I r h => ?_⟩
  obtain ⟨v, vr, e1, h⟩ := h
  subst e1
  cases r with
  | cons r rr =>
    rw [hs]
    refine assignInOrder_cons (thn (h1.run pins s σ H _ _ _ I r h) fun _ s1 hh => ?_)
    obtain ⟨g1, σ1, H1, I1, q1⟩ := hh
    exact thn (h2.run pins s1 σ1 H1 _ _ Q I1 rr q1) fun _ s2 ⟨g2, q2⟩ => ⟨g2.trans g1, q2⟩
theorem gg_tup {es : List Expr} {kk : Nat} {t : TGs} {n : Nat} {tpos : Pos} (hc : X.calm = true) (h : GGs X es t) (hn : (assignEach es X.env).length = n := by rfl) (hst : (assignEach es X.env).findIdx? (·.1) = none := by rfl) : GG X (.Tuple es kk tpos) (gTup X.K n t) := by
  refine ⟨fun pins s σ H v u Q I r hw => ?_⟩
  obtain ⟨a, xs, e1, hq, hl, hw⟩ := hw
  subst e1
  cases r
  obtain ⟨its, rv, ht, hz⟩ := I.tuple hq
  refine assign_Tuple_tuple (I.ok.hd hc) ht (by simp [hn, ← hl, rv.length]) hst fun h' hx => ?_
  have I1 : Inv X pins σ H { s with heap := h' } := I.kept (t' := s.toks) fun b o e => hx b o (Nat.ne_of_lt (Heap.lt_size e)) e
  exact h.run pins _ σ H xs _ Q I1 (by simpa using rv) hw
/-! ### statements -/
theorem gst_asg {tg e : Expr} {te : TE} {g : TG} {spos : Pos} (he : GE X e te) (hg : GG X tg g) (hs : swapsWithSole [tg] e spos.line X.env = pure false := by rfl) (hw : swappedStores [tg] e X.env = pure none := by rfl)
    (h1 : (assignEach [tg] X.env).map (·.2) = [assign tg X.env] := by rfl) : GSt X (.Assign [tg] e spos) (tAsg te g) := by
  refine ⟨fun pins s σ H D I h => ?_⟩
  refine wpAny_Assign_stores (thn (he.run pins s σ H _ I h) fun v s1 hh => ?_) hs hw
  obtain ⟨g1, x, H1, I1, r1, q1⟩ := hh
  rw [h1]
  exact thn (hg.run pins s1 σ H1 x v _ I1 r1 q1) fun _ s2 ⟨g2, q2⟩ => ⟨g2.trans g1, q2⟩
theorem gst_ret {e : Expr} {te : TE} {spos : Pos} (he : GE X e te) : GSt X (.Return (some e) spos) (tRet te) := by
  refine ⟨fun pins s σ H D I h => ?_⟩
  refine wpAny_Return_some (thn (he.run pins s σ H _ I h) fun v s1 hh => ?_)
  obtain ⟨g1, x, H1, I1, r1, q1⟩ := hh
  exact ⟨g1, x, σ, H1, I1, r1, q1⟩
/-- what is never reached -/
theorem gst_never {st : Stmt} : GSt X st fun _ _ _ => False := ⟨fun _ _ _ _ _ _ h => False.elim h⟩
/-- for a, b in enumerate(e): body -/
def tForEn (K : PySem.W.Frag) (te : TE) (g : TG) (tb : TS) : TS := fun D σ H => (tCons te tNil) σ H fun vs H1 => ∃ (a : Addr) (xs : List V), vs = [.ref a] ∧ SqL K H1 a xs ∧ ∃ Pv : Nat → L2.St → Hp → Prop, Pv 0 σ H1 ∧ (∀ i σ H, Pv i σ H → SqL K H a xs) ∧
  (∀ (i : Nat) (y : V) (σ : L2.St) (H : Hp) (T : Addr), xs[i]? = some y → Pv i σ H → H T = none → g (.ref T) σ (upd H T (.tup [.int (i : Int), y])) fun σ2 H2 => tb { nx := Pv (i + 1), ct := Pv (i + 1), bk := D.nx, rt := D.rt } σ2 H2) ∧ ∀ σ H, Pv xs.length σ H → D.nx σ H
theorem gst_forEn {K0 : PySem.W.Frag} {elts : List Expr} {kk : Nat} {tpos : Pos} {e : Expr} {te : TE} {g : TG} {tb : TS} {body : List Stmt} {p cpos spos : Pos} (hK : X.K = K0) (hc : X.calm = true) (own : PassesOwn (model X.prog X.w) X.A X.env X.xe) (hg : Gl X "enumerate") (hm : X.mg "enumerate" = none) (he : GE X e te) (hgt : GG X (.Tuple elts kk tpos) g) (hb : GSts X body tb)
    (hs : starEach [e] X.env = (false, eval e X.env) :: starEach [] X.env := by rfl) (hfs : ∀ y, foldedSetIterable (.Call (.Name "enumerate" p) [e] [] cpos) X.env y = pure y := by intro _; rfl) :
    GSt X (.For (.Tuple elts kk tpos) (.Call (.Name "enumerate" p) [e] [] cpos) body [] spos) (tForEn K0 te g tb) := by
  subst hK
  refine ⟨fun pins s σ H D I h => ?_⟩
  have ha : GA X [e] (tCons te tNil) := ga_cons (hs := hs) he ga_nil
  refine wpAny_For (Call_ (ld_blt I hg hm boot_enumerate (PyProof.Rows.callWith_type1 (thn (ha.run _ pins s σ H _ I h) fun us s1 hh => ?_) hs rfl))) hfs
  obtain ⟨g1, vs, H1, I1, r1, a, xs, ex, hq, Pv, p0, hl, turn, fin⟩ := hh
  subst ex
  obtain ⟨v0, rfl, rv0⟩ := r1.one
  cases rv0
  obtain ⟨its, rv, p', hz⟩ := I1.list hq
  refine call_enumerate_list p'.isList fun h' hen hit hsz hk => wpAny_pyIter_enum hen ?_
  have I2 : Inv X pins σ H1 { s1 with heap := h' } := I1.kept (t' := s1.toks) hk
  obtain ⟨en, een⟩ : ∃ en, en = s1.heap.objs.size + 1 := ⟨_, rfl⟩
  obtain ⟨it, eit⟩ : ∃ it, it = s1.heap.objs.size := ⟨_, rfl⟩
  have fresh : ∀ b ∈ [en, it], s1.heap.objs.size ≤ b := fun b hb => by
    have e' : b = en ∨ b = it := by simpa using hb
    rcases e' with z | z <;> omega
  have fpk : ∀ b ∈ [en, it], FpOk X pins H1 b := fun b hb => I1.fpOk (fresh b hb) (I1.hok.fresh (fresh b hb))
  have hne : en ≠ it := by omega
  rw [← een, ← eit] at hen
  rw [← eit] at hit
  rw [← een]
  refine codeAny_forLoop_any (fun n s' => ∃ i σ' H', n = xs.length - i ∧ i ≤ xs.length ∧ s'.gens = s.gens ∧ Inv X pins σ' H' s' ∧ (∃ old, IsEnum s'.heap en it (i : Int) old) ∧ s'.heap.IsListIter it a i ∧ (∀ b ∈ [en, it], H' b = none) ∧ Pv i σ' H') (fun n s' hs' => ?_) xs.length ⟨0, σ, H1, rfl, Nat.zero_le _, g1, I2, ⟨_, hen⟩, hit, fun b hb => (fpk b hb).1, p0⟩
  obtain ⟨i, σ', H', rfl, hi, g2, I', ⟨old, hen'⟩, hit', non, pv⟩ := hs'
  have fpk' : ∀ b ∈ [en, it], FpOk X pins H' b := fun b hb => ⟨non b hb, (fpk b hb).2⟩
  obtain ⟨its', rv', p2, hz'⟩ := I'.list (hl i σ' H' pv)
  have hlen := rv'.length
  by_cases lt : i < xs.length
  · obtain ⟨y, hy⟩ : ∃ y, xs[i]? = some y := ⟨_, List.getElem?_eq_getElem lt⟩
    obtain ⟨u, hu, ru⟩ := rv'.get hy
    have hel : en < s'.heap.objs.size := Heap.lt_size hen'
    have hil : it < s'.heap.objs.size := by
      obtain ⟨_, q, _⟩ := hit'
      exact Heap.lt_size q
    refine wpAny_pyNext_enum_item hen' hit' p2.isList (x := u) (by simpa using hu) hne fun h2 ho hit2 hT hsz2 hk2 => ?_
    refine wpAny_letOwnedTupleGo_enum (s := { s' with heap := h2, toks := s'.toks + 1 }) ho fun h3 hen3 sb => ?_
    have hT2 : h3.get? s'.heap.objs.size = some { cls := .type "tuple", data := .seq #[.int i s'.toks, u] } := (sb.2 _ (Nat.ne_of_gt hel)).trans hT
    have new : ObjOk X.prog X.w (upd H' s'.heap.objs.size (.tup [.int (i : Nat), y])) h3 s'.heap.objs.size (.tup [.int (i : Nat), y]) :=
      ⟨by show 2 ≤ sizeLine; rw [sizeLine_eq]; decide, [.int i s'.toks, u], .cons ⟨_, rfl⟩ (.cons ru .nil), ⟨_, hT2, rfl, _, rfl⟩⟩
    have I3 : Inv X pins σ' (upd H' s'.heap.objs.size (.tup [.int (i : Nat), y])) { s' with heap := h3, toks := s'.toks + 1 } :=
      I'.turnedNew (ch := [en, it]) (fun b ob hb q => (sb.2 b (fun z => hb (by simp [z]))).trans (hk2 b ob (fun z => hb (by simp [z])) (fun z => hb (by simp [z])) q)) fpk' (Nat.le_refl _) new
    have hit3 : h3.IsListIter it a (i + 1) := hit2.at fun o q => (sb.2 it (Ne.symm hne)).trans q
    have non3 : ∀ b ∈ [en, it], (upd H' s'.heap.objs.size (.tup [.int (i : Nat), y])) b = none := fun b hb => by
      have lb : b < s'.heap.objs.size := by
        have e' : b = en ∨ b = it := by simpa using hb
        rcases e' with z | z <;> omega
      rw [upd_ne (Nat.ne_of_lt lb)]
      exact non b hb
    obtain ⟨oi, eoi, ci, di⟩ := id hit3
    have I4 := I3.pinned (fp := [en, it]) (fun b hb => ⟨non3 b hb, (fpk b hb).2⟩) (fun b hb => by
      have e' : b = en ∨ b = it := by simpa using hb
      rcases e' with z | z
      · rw [z]
        exact ⟨_, hen3, fun v q => nomatch q⟩
      · rw [z]
        exact ⟨oi, eoi, fun v q => by rw [di] at q; cases q⟩)
    refine wpAny_passesOwn own (thn (hgt.run _ _ σ' _ (V.ref s'.heap.objs.size) _ _ I4 rfl (turn i y σ' H' _ hy pv (I'.hok.fresh (Nat.le_refl _)))) fun _ s4 h4 => ?_)
    obtain ⟨g4, σ4, H4, I4', q4⟩ := h4
    refine wpAny_passesOwn own (thn (hb.run _ s4 σ4 H4 _ I4' q4) fun fl s5 h5 => ?_)
    obtain ⟨g5, q5⟩ := h5
    have gg : s5.gens = s.gens := g5.trans (g4.trans g2)
    have again : ∀ σ5 H5, Inv X (pins ++ pinsAt [en, it] h3) σ5 H5 s5 → Pv (i + 1) σ5 H5 → ∃ m, m < xs.length - i ∧ ∃ i' σ' H', m = xs.length - i' ∧ i' ≤ xs.length ∧ s5.gens = s.gens ∧ Inv X pins σ' H' s5 ∧ (∃ old, IsEnum s5.heap en it (i' : Int) old) ∧ s5.heap.IsListIter it a i' ∧ (∀ b ∈ [en, it], H' b = none) ∧ Pv i' σ' H' := fun σ5 H5 I5 pv5 => by
      have pe := I5.pin (en, _) (List.mem_append_right _ (List.mem_append_right _ (mem_pinsAt (by simp) hen3)))
      have pi := I5.pin (it, _) (List.mem_append_right _ (List.mem_append_right _ (mem_pinsAt (by simp) eoi)))
      refine ⟨xs.length - (i + 1), by omega, i + 1, σ5, H5, rfl, lt, gg, I5.unpinned, ⟨u, ?_⟩, ⟨oi, pi.1, ci, di⟩, fun b hb => ?_, pv5⟩
      · have e1 : ((i + 1 : Nat) : Int) = (i : Int) + 1 := by omega
        rw [e1]
        exact pe.1
      · have e' : b = en ∨ b = it := by simpa using hb
        rcases e' with z | z
        · rw [z]
          exact pe.2.1
        · rw [z]
          exact pi.2.1
    match fl, q5 with
    | .next, ⟨σ5, H5, I5, pv5⟩ => exact again σ5 H5 I5 pv5
    | .cont, ⟨σ5, H5, I5, pv5⟩ => exact again σ5 H5 I5 pv5
    | .brk, ⟨σ5, H5, I5, qd⟩ => exact ⟨gg, σ5, H5, I5.unpinned, qd⟩
    | .ret v, ⟨x5, σ5, H5, I5, rv5, qd⟩ => exact ⟨gg, x5, σ5, H5, I5.unpinned, rv5, qd⟩
  · obtain rfl : i = xs.length := by omega
    refine wpAny_pyNext_enum_end (I'.ok.hd hc) hen' hit' p2.isList (by simp; omega) fun h2 eb => ?_
    obtain ⟨f0, f1, f2, f3, f4, f5⟩ := fpk' it (by simp)
    have I3 : Inv X pins σ' H' { s' with heap := h2 } := I'.turned (t' := s'.toks) (fun b o hb q => eb b o hb q) f0 f1 f3 f4 f5
    exact wpAny_execs_nil ⟨g2, σ', H', I3, fin σ' H' pv⟩
end
end Sq

set_option Elab.async false
set_option linter.all false
set_option maxRecDepth 100000
set_option maxHeartbeats 2000000
/-! Methods called by keywords: one value by place, the rest by name. -/
namespace Sq
open PySem PySem.Spec PyProof.Rows L2
theorem kbn_mk1 {K : PySem.W.Frag} {x qual : Str} {st : Stmt} {f : Addr} {fd : FuncData} {ps : List Str} (F : Fun K x qual st f fd) (ks : List Str) (g : List Value → List Value → List Value) (gV : List V → List V → List V)
    (rel : ∀ {vs : List V} {us : List Value} {zs : List V} {ws : List Value}, Vals vs us → Vals zs ws → Vals (gV vs zs) (g us ws))
    (h : ∀ (kV doc pm : Value) (an : Option Addr) (cdv ct u : Value) (ws : List Value), ws.length = ks.length → bindArgs (PySem.W.fnOf x qual (defArgs st) (defBody st) (defScope st) .none kV doc pm an cdv ct) ⟨[u], ks.zip ws⟩ = pure (ps.zip (g [u] ws))) : KBn K fd ps 1 ks g gV := by
  obtain ⟨oc, od, kV, doc, pm, an, cdv, ct, osl, rfl, lk, hcd⟩ := F.ex
  refine ⟨fun s us ws X l1 l2 => ?_, rel⟩
  match us, l1 with
  | [u], _ => exact .of_eq (h kV doc pm an cdv ct u ws l2)
theorem vals_app : ∀ {vs : List V} {us : List Value} {zs : List V} {ws : List Value}, Vals vs us → Vals zs ws → Vals (vs ++ zs) (us ++ ws)
  | _, _, _, _, .nil, s => s
  | _, _, _, _, .cons a r, s => .cons a (vals_app r s)
end Sq

set_option Elab.async false
set_option linter.all false
set_option maxRecDepth 100000
set_option maxHeartbeats 2000000
/-! A def that may raise, called by keywords. -/
namespace Sq
open PySem PySem.Spec PyProof.Rows L2
def tKN (l : Nat) (gV : List V → List V → List V) (sp : Sp) (E : L2.St → XK) (tk : TA) : TE := fun σ H Q => tk σ H fun zs H1 => zs.length = l ∧ sp (gV [] zs) H1 Q (E σ)
section
variable {X : Cx} {k : Nat} {ps ks : List Str} {g : List Value → List Value → List Value} {gV : List V → List V → List V} {sp : Sp} {x : Str} {p pos : Pos} {kws : List Keyword} {tk : TA} {W : WX}
theorem pe_callNK (D : Dnk X.prog X.w X.K X.mg X.base k x ps ks g gV sp) (takes : L2N.Takes X W) (hr : Room k X.A) (hg : Gl X x) (hkw : PK X kws tk) (hall : (backToKw pos (keywordEach kws X.env)).all (·.1.isSome) = true := by rfl)
    (hks : (backToKw pos (keywordEach kws X.env)).filterMap (·.1) = ks := by rfl) (hdb : (x == ("__debug__" : Str)) = false := by decide)
    (hpl : ((backTo pos (starEach [] X.env)).any (·.1) || (backToKw pos (keywordEach kws X.env)).any (·.1.isNone)) = false := by rfl) :
    PE X (.Call (.Name x p) [] kws pos) (tKN ks.length gV sp (WE W) tk) := by
  obtain ⟨f, fd, F, hm, kp, hb⟩ := D.ex
  refine ⟨fun pins s σ H Q I h => ?_⟩
  refine wpAny_Call_Name_kw (ld_glob I hg hm ?_ hdb)
  refine PySem.W.callWith_KW0 (h₀ := X.base) I.ok.mod.kin kp hall (thn (hkw.run pos pins s σ H _ I h) fun ws s1 ⟨zs, H1, I1, rz, l2, q⟩ => ⟨I1.kIn, ?_⟩) hpl
  rw [hks]
  exact run_fnKS (us := []) (vs := []) F hr hb (L2N.passAt takes σ) I1 .nil rz rfl l2 q
end
end Sq

set_option Elab.async false
set_option linter.all false
set_option maxRecDepth 100000
set_option maxHeartbeats 2000000
/-! sorted of a set of ints, any number of members. -/
namespace Sq
open PySem PySem.Spec PyProof.Rows L2
theorem set_sorted {P : Program} {w : World} {A : Around} {E : Value → Shared → Prop} {s : Shared} {a : Addr} {S : Int → Bool} {n : Nat} {Q : Value → Shared → Prop} (R : SetR w s.heap a S n) (quiet : A.handled = none) (few : n ≤ sizeLine)
    (fin : ∀ s' p (got : List Value) (ep : Nat) (ns : List Int), (∀ b o, s.heap.get? b = some o → s'.heap.get? b = some o) → s'.gens = s.gens → s'.os = s.os → s.heap.objs.size ≤ p → s'.heap.get? p = some (seqObj "list" got.toArray ep) →
      IntsAre got ns → ns.Pairwise (· < ·) → (∀ k, k ∈ ns ↔ S k = true) → ns.length = n → Q (.ref p) s') : wpAny (model P w) A (call (.builtin "sorted") [.ref a]) Q E s := by
  obtain ⟨o, es, ep, t, get, exact', data, good, once, mem, bound, fits, size, ris, led⟩ := R
  apply Calls.call_function_entry kind_sorted plain_sorted entry_sorted (args_sorted1 _)
  unfold Builtin.«sorted»
  apply wpAny_bind (m := checkCount "sorted" 1 1 _)
  apply wpAny_pure
  apply wpAny_bind
  refine collect_set (A := A.in1) quiet ⟨o, get, exact'.1, data⟩ fits bound ris led fun s1 vs kept grown gens os perm => ?_
  have len : vs.length = n := by
    rw [perm.length_eq, List.length_map, Array.length_toList]
    exact size
  have areInts : IntsAre vs (vs.map Builtin.Re.reRawOf) := ints_of vs fun v hv => by
    obtain ⟨e, he, q⟩ := List.mem_map.mp (perm.mem_iff.mp hv)
    obtain ⟨k, tk, h1, _⟩ := good e he
    exact ⟨k, tk, q ▸ h1⟩
  have keys : (vs.map Builtin.Re.reRawOf).Perm (es.toList.map keyOf) := by
    have := perm.map Builtin.Re.reRawOf
    rwa [List.map_map] at this
  apply wpAny_bind
  refine wpAny_newList ?_ (by omega)
  have fresh : (s1.heap.push (seqObj "list" vs.toArray 0)).get? s1.heap.objs.size = some (seqObj "list" vs.toArray 0) := Heap.get?_push_size _ rfl
  apply wpAny_bind
  apply wpAny_holding
  refine wpAny_call_entry slot_list_sort ⟨_, fresh, rfl⟩ entry_list_sort ?_ (args_list_sort _)
  refine SrtO.list_sort_ord SrtO.swo_int fresh (by omega) (fun two => SrtO.ints_sortable areInts two) fun out up stable => ⟨_, rfl, ?_⟩
  obtain ⟨i1, i2, i3⟩ := SrtO.ints_out areInts up stable
  obtain ⟨c, hc⟩ := sortedHeap_at (vs := vs) (out := out.toArray) fresh
  have all := i2.trans keys
  apply wpAny_pure
  refine ⟨_, rfl, fin _ s1.heap.objs.size out c (out.map SrtO.iv) (fun b u e => ?_) gens os grown hc i1 (lt_of_le_nodup _ i3 (all.nodup_iff.mpr once)) (fun k => by rw [all.mem_iff, ← mem k]) ?_⟩
  · have old := kept b u e
    have lt := Heap.lt_size old
    refine (sortedHeap_old (Nat.ne_of_lt lt) ?_).trans (Heap.get?_push_of_some _ old)
    rw [size_push']
    exact Nat.lt_succ_of_lt lt
  · rw [all.length_eq, List.length_map, Array.length_toList, size]
def rSortedSetI (w : World) : List V → Hp → VK → Prop := fun vs H Q => ∃ (a : Addr) (S : Int → Bool) (n : Nat), vs = [V.ref a] ∧ H a = some (SetO w a S n) ∧ n ≤ sizeLine ∧
  ∀ (ns : List Int) (p : Addr), ns.Pairwise (· < ·) → (∀ k : Int, k ∈ ns ↔ S k = true) → ns.length = n → H p = none → Q (.ref p) (upd H p (.lst (ns.map V.int)))
theorem cr_sortedSetI {X : Cx} (hc : X.calm = true) : CallR X (.builtin "sorted") (rSortedSetI X.w) := by
  intro pins s σ H vs us Q I r h
  obtain ⟨a, S, n, rfl, ha, few, q⟩ := h
  rw [Vals.ref1 r]
  refine set_sorted (setO_get I ha) (I.ok.hd hc) few fun s' p got ep ns kept g os lp hg areI up mem len => ?_
  have free : H p = none := I.hok.fresh lp
  have sz : (ns.map V.int).length ≤ sizeLine := by
    rw [List.length_map]
    omega
  have same : s' = { s with heap := s'.heap, gens := s'.gens, drawn := s'.drawn, toks := s'.toks } := by
    cases s'
    cases s
    cases os
    rfl
  rw [same]
  exact ⟨.ref p, upd H p (.lst (ns.map V.int)), I.call (ch := []) (Un.laid kept lp free) (I.hok.laid kept lp ⟨sz, got, ep, vals_of_ints areI, hg⟩) (by rw [g]; exact I.bare) (fun _ z => nomatch z), rfl, q ns p up mem len free⟩
end Sq

set_option Elab.async false
set_option linter.all false
set_option maxHeartbeats 1000000
/-! The runs that a list makes single: the greatest two, and how many runs one replacement makes equal. -/
namespace Sq
def Single (ks : List Int) (n : Int) : Prop := 1 ≤ n ∧ sq n ks = 1
theorem single_top {ks : List Int} (h : ∀ k ∈ ks, 2 ≤ k) : Single ks (pro ks) := by
  refine ⟨pro_pos h, ?_⟩
  have := sq_mul ks 1 h
  rwa [Int.mul_one] at this
theorem single_le {ks : List Int} {n : Int} (h : ∀ k ∈ ks, 2 ≤ k) (s : Single ks n) : n ≤ pro ks := by
  by_cases c : n ≤ pro ks
  · exact c
  · have := sq_two h (show pro ks < n by omega)
    have e := s.2
    omega
/-- the second greatest one -/
theorem single_next {k : Int} {ks : List Int} (hk : 2 ≤ k) (h : ∀ x ∈ ks, 2 ≤ x) : Single (k :: ks) (pro (k :: ks) - (k - 1)) := by
  refine ⟨?_, less_single hk h⟩
  have p := pro_pos h
  rw [pro_cons]
  have := Int.mul_le_mul_of_nonneg_left p (show 0 ≤ k by omega)
  omega
theorem single_gap {k n : Int} {ks : List Int} (hk : 2 ≤ k) (h : ∀ x ∈ ks, 2 ≤ x) (s : Single (k :: ks) n) (lt : n < pro (k :: ks)) : n ≤ pro (k :: ks) - (k - 1) := by
  by_cases c : n ≤ pro (k :: ks) - (k - 1)
  · exact c
  · exfalso
    rw [pro_cons] at lt c
    have e : n = (n - k * (pro ks - 1)) + k * (pro ks - 1) := by omega
    have m : k * (pro ks - 1) = k * pro ks - k := by rw [Int.mul_sub, Int.mul_one]
    have o : once n k = pro ks - 1 + (n - k * (pro ks - 1)) := by
      unfold once
      rw [e, Int.add_mul_ediv_left _ _ (by omega : k ≠ 0), Int.add_mul_emod_self_left, Int.ediv_eq_zero_of_lt (by omega) (by omega), Int.emod_eq_of_lt (by omega) (by omega)]
      omega
    have b := sq_two (n := once n k) h (by omega)
    have s2 := s.2
    rw [sq_cons] at s2
    omega
theorem once_pos {k n : Int} (hk : 2 ≤ k) (h1 : 1 ≤ n) : 1 ≤ once n k := by
  by_cases c : 1 ≤ once n k
  · exact c
  · have g := once_grow hk (show 0 ≤ n by omega)
    have z := once_nonneg hk (show 0 ≤ n by omega)
    rw [show once n k = 0 by omega, Int.mul_zero] at g
    omega
/-- what is single behind the first replacement -/
theorem single_step {k n : Int} {ks : List Int} (hk : 2 ≤ k) (h1 : 1 ≤ n) : Single (k :: ks) n ↔ Single ks (once n k) := by
  constructor
  · intro s
    exact ⟨once_pos hk h1, s.2⟩
  · intro s
    exact ⟨h1, s.2⟩
/-- all runs of one length behind a replacement -/
theorem once_all {k m n : Int} (hk : 2 ≤ k) (h1 : 1 ≤ n) : once n k = m ↔ ∃ r, 0 ≤ r ∧ r < k ∧ r ≤ m ∧ n = k * (m - r) + r := by
  constructor
  · intro e
    have d := Int.mul_ediv_add_emod n k
    have r0 := Int.emod_nonneg n (by omega : k ≠ 0)
    have r1 := Int.emod_lt_of_pos n (by omega : 0 < k)
    have q0 := Int.ediv_nonneg (by omega : 0 ≤ n) (by omega : 0 ≤ k)
    unfold once at e
    refine ⟨n % k, r0, r1, by omega, ?_⟩
    rw [show m - n % k = n / k by omega]
    omega
  · rintro ⟨r, r0, r1, rm, e⟩
    unfold once
    rw [e, Int.add_comm (k * (m - r)) r, Int.add_mul_ediv_left _ _ (by omega : k ≠ 0), Int.add_mul_emod_self_left, Int.ediv_eq_zero_of_lt r0 r1, Int.emod_eq_of_lt r0 r1]
    omega
/-- two lists with the same single runs are equal -/
theorem single_same : ∀ (ks ls : List Int), (∀ k ∈ ks, 2 ≤ k) → (∀ k ∈ ls, 2 ≤ k) → (∀ n, Single ks n ↔ Single ls n) → ks = ls
  | [], [], _, _, _ => rfl
  | [], l :: ls, _, h2, e => by
    exfalso
    have a := single_le (ks := []) (fun _ z => absurd z List.not_mem_nil) ((e _).mpr (single_top h2))
    have p := pro_pos (ks := ls) fun x hx => h2 x (List.mem_cons_of_mem _ hx)
    have l2 := h2 l (List.mem_cons_self ..)
    rw [pro_cons] at a
    have := Int.mul_le_mul l2 p (by decide) (by omega)
    have z : pro [] = 1 := rfl
    omega
  | k :: ks, [], h1, _, e => by
    exfalso
    have a := single_le (ks := []) (fun _ z => absurd z List.not_mem_nil) ((e _).mp (single_top h1))
    have p := pro_pos (ks := ks) fun x hx => h1 x (List.mem_cons_of_mem _ hx)
    have k2 := h1 k (List.mem_cons_self ..)
    rw [pro_cons] at a
    have := Int.mul_le_mul k2 p (by decide) (by omega)
    have z : pro [] = 1 := rfl
    omega
  | k :: ks, l :: ls, h1, h2, e => by
    have k2 := h1 k (List.mem_cons_self ..)
    have l2 := h2 l (List.mem_cons_self ..)
    have hk : ∀ x ∈ ks, 2 ≤ x := fun x hx => h1 x (List.mem_cons_of_mem _ hx)
    have hl : ∀ x ∈ ls, 2 ≤ x := fun x hx => h2 x (List.mem_cons_of_mem _ hx)
    have t : pro (k :: ks) = pro (l :: ls) := by
      have a := single_le h2 ((e _).mp (single_top h1))
      have b := single_le h1 ((e _).mpr (single_top h2))
      omega
    have kl : k = l := by
      have a := single_gap l2 hl ((e _).mp (single_next k2 hk)) (by omega)
      have b := single_gap k2 hk ((e _).mpr (single_next l2 hl)) (by omega)
      omega
    subst kl
    congr 1
    refine single_same ks ls hk hl fun m => ?_
    constructor
    · intro s
      have n1 : 1 ≤ k * m := by
        have := Int.mul_le_mul (show 1 ≤ k by omega) s.1 (by decide) (by omega)
        omega
      have o := once_mul (k := k) (m := m) k2
      have := (single_step (ks := ls) k2 n1).mp ((e _).mp ((single_step (ks := ks) k2 n1).mpr (by rw [o]; exact s)))
      rwa [o] at this
    · intro s
      have n1 : 1 ≤ k * m := by
        have := Int.mul_le_mul (show 1 ≤ k by omega) s.1 (by decide) (by omega)
        omega
      have o := once_mul (k := k) (m := m) k2
      have := (single_step (ks := ks) k2 n1).mp ((e _).mpr ((single_step (ks := ls) k2 n1).mpr (by rw [o]; exact s)))
      rwa [o] at this
end Sq

set_option Elab.async false
set_option linter.all false
set_option maxHeartbeats 1000000
/-! Reading a list back: one step. -/
namespace Sq
theorem len_le_of {α : Type} [DecidableEq α] : ∀ {A B : List α}, A.Nodup → (∀ x ∈ A, x ∈ B) → A.length ≤ B.length
  | [], B, _, _ => Nat.zero_le _
  | a :: A, B, nd, sub => by
    have nd' := List.nodup_cons.mp nd
    have h := len_le_of (A := A) (B := B.erase a) nd'.2 fun x hx => (List.mem_erase_of_ne (fun z : x = a => nd'.1 (by rw [← z]; exact hx))).mpr (sub x (List.mem_cons_of_mem _ hx))
    have l := List.length_erase_of_mem (sub a (List.mem_cons_self ..))
    have p : 0 < B.length := List.length_pos_of_mem (sub a (List.mem_cons_self ..))
    rw [List.length_cons]
    omega
theorem sub_all {α : Type} [DecidableEq α] : ∀ {A B : List α}, A.Nodup → (∀ x ∈ A, x ∈ B) → B.length ≤ A.length → ∀ x ∈ B, x ∈ A
  | [], B, _, _, l, x, hx => by
    have := List.length_pos_of_mem hx
    rw [List.length_nil] at l
    omega
  | a :: A, B, nd, sub, l, x, hx => by
    have nd' := List.nodup_cons.mp nd
    by_cases c : x = a
    · rw [c]
      exact List.mem_cons_self ..
    · have p : 0 < B.length := List.length_pos_of_mem hx
      have le := List.length_erase_of_mem (sub a (List.mem_cons_self ..))
      rw [List.length_cons] at l
      exact List.mem_cons_of_mem _ (sub_all (A := A) (B := B.erase a) nd'.2 (fun y hy => (List.mem_erase_of_ne (fun z : y = a => nd'.1 (by rw [← z]; exact hy))).mpr (sub y (List.mem_cons_of_mem _ hy))) (by omega) x ((List.mem_erase_of_ne c).mpr hx))
/-- the runs of one length behind a replacement, and all of them -/
def manyOne (k m : Int) : Nat := (min (k - 1) m).toNat + 1
def backOne (k m : Int) : List Int := (List.range (manyOne k m)).map fun r : Nat => k * (m - r) + r
def backAll (k : Int) (after : List Int) : List Int := after.flatMap (backOne k)
theorem backAll_len (k : Int) : ∀ after : List Int, (backAll k after).length = (after.map (manyOne k)).sum
  | [] => rfl
  | m :: after => by
    show ((m :: after).flatMap (backOne k)).length = _
    rw [List.flatMap_cons, List.length_append, List.map_cons, List.sum_cons]
    have := backAll_len k after
    unfold backAll at this
    rw [this]
    unfold backOne
    rw [List.length_map, List.length_range]
theorem mem_backOne {k m n : Int} (hk : 2 ≤ k) (hm : 1 ≤ m) : n ∈ backOne k m ↔ 1 ≤ n ∧ once n k = m := by
  unfold backOne manyOne
  rw [List.mem_map]
  constructor
  · rintro ⟨r, hr, e⟩
    have hr' := List.mem_range.mp hr
    have rb : (r : Int) < k ∧ (r : Int) ≤ m := by omega
    have pos : 1 ≤ n := by
      by_cases c : (r : Int) = m
      · have z : m - (r : Int) = 0 := by omega
        rw [z, Int.mul_zero] at e
        omega
      · have := Int.mul_le_mul_of_nonneg_left (show (1 : Int) ≤ m - r by omega) (show 0 ≤ k by omega)
        omega
    exact ⟨pos, (once_all hk pos).mpr ⟨r, by omega, rb.1, rb.2, e.symm⟩⟩
  · rintro ⟨h1, h2⟩
    obtain ⟨r, r0, r1, rm, e⟩ := (once_all hk h1).mp h2
    refine ⟨r.toNat, List.mem_range.mpr (by omega), ?_⟩
    rw [show ((r.toNat : Nat) : Int) = r by omega]
    exact e.symm
theorem mem_backAll {k n : Int} {after : List Int} (hk : 2 ≤ k) (hm : ∀ m ∈ after, 1 ≤ m) : n ∈ backAll k after ↔ 1 ≤ n ∧ once n k ∈ after := by
  unfold backAll
  rw [List.mem_flatMap]
  constructor
  · rintro ⟨m, h1, h2⟩
    obtain ⟨a, b⟩ := (mem_backOne hk (hm m h1)).mp h2
    exact ⟨a, b ▸ h1⟩
  · rintro ⟨h1, h2⟩
    exact ⟨_, h2, (mem_backOne hk (hm _ h2)).mpr ⟨h1, rfl⟩⟩
theorem backAll_nodup {k : Int} (hk : 2 ≤ k) : ∀ {after : List Int}, (∀ m ∈ after, 1 ≤ m) → after.Nodup → (backAll k after).Nodup
  | [], _, _ => List.nodup_nil
  | m :: after, hm, nd => by
    have nd' := List.nodup_cons.mp nd
    have ih := backAll_nodup hk (after := after) (fun x hx => hm x (List.mem_cons_of_mem _ hx)) nd'.2
    have m1 := hm m (List.mem_cons_self ..)
    show ((m :: after).flatMap (backOne k)).Nodup
    rw [List.flatMap_cons]
    refine List.nodup_append.mpr ⟨?_, ih, fun x hx y hy e => ?_⟩
    · unfold backOne
      refine List.Pairwise.map _ (fun (r s : Nat) h => ?_) List.nodup_range
      intro z
      apply h
      have e1 : k * (m - (r : Int)) + r = k * m - (k - 1) * r := by
        rw [Int.mul_sub, Int.sub_mul, Int.one_mul]
        omega
      have e2 : k * (m - (s : Int)) + s = k * m - (k - 1) * s := by
        rw [Int.mul_sub, Int.sub_mul, Int.one_mul]
        omega
      rw [e1, e2] at z
      have z2 : (k - 1) * (r : Int) = (k - 1) * (s : Int) := by omega
      have := Int.eq_of_mul_eq_mul_left (by omega) z2
      omega
    · subst e
      have a := ((mem_backOne hk m1).mp hx).2
      have b := ((mem_backAll hk (fun x hx => hm x (List.mem_cons_of_mem _ hx))).mp hy).2
      rw [a] at b
      exact nd'.1 b
/-- the step that reads one replacement -/
theorem step_sound {k : Int} {P after rest : List Int} (hk : 2 ≤ k) (pos : ∀ n ∈ P, 1 ≤ n) (nd : P.Nodup) (img : ∀ m, m ∈ after ↔ ∃ n ∈ P, once n k = m) (cnt : (after.map (manyOne k)).sum = P.length)
    (ih : ∀ n, 1 ≤ n → (n ∈ after ↔ Single rest n)) (n : Int) (h1 : 1 ≤ n) : n ∈ P ↔ Single (k :: rest) n := by
  have apos : ∀ m ∈ after, 1 ≤ m := fun m hm => by
    obtain ⟨x, hx, e⟩ := (img m).mp hm
    rw [← e]
    exact once_pos hk (pos x hx)
  have sub : ∀ x ∈ P, x ∈ backAll k after := fun x hx => (mem_backAll hk apos).mpr ⟨pos x hx, (img _).mpr ⟨x, hx, rfl⟩⟩
  have all := sub_all nd sub (by rw [backAll_len, cnt]; exact Nat.le_refl _)
  rw [single_step hk h1, ← ih _ (once_pos hk h1)]
  constructor
  · exact fun h => (img _).mpr ⟨n, h, rfl⟩
  · exact fun h => all n ((mem_backAll hk apos).mpr ⟨h1, h⟩)
theorem step_full {k : Int} {P after rest : List Int} (hk : 2 ≤ k) (pos : ∀ n ∈ P, 1 ≤ n) (nd : P.Nodup) (and' : after.Nodup) (img : ∀ m, m ∈ after ↔ ∃ n ∈ P, once n k = m) (full : ∀ n, 1 ≤ n → (n ∈ P ↔ Single (k :: rest) n)) :
    (after.map (manyOne k)).sum = P.length ∧ ∀ n, 1 ≤ n → (n ∈ after ↔ Single rest n) := by
  have apos : ∀ m ∈ after, 1 ≤ m := fun m hm => by
    obtain ⟨x, hx, e⟩ := (img m).mp hm
    rw [← e]
    exact once_pos hk (pos x hx)
  have two : ∀ m, 1 ≤ m → (m ∈ after ↔ Single rest m) := fun m m1 => by
    constructor
    · intro h
      obtain ⟨x, hx, e⟩ := (img m).mp h
      have := (single_step hk (pos x hx)).mp ((full x (pos x hx)).mp hx)
      rwa [e] at this
    · intro s
      have n1 : 1 ≤ k * m := by
        have := Int.mul_le_mul (show 1 ≤ k by omega) m1 (by decide) (by omega)
        omega
      have o := once_mul (k := k) (m := m) hk
      exact (img m).mpr ⟨k * m, (full _ n1).mpr ((single_step hk n1).mpr (by rw [o]; exact s)), o⟩
  refine ⟨?_, two⟩
  rw [← backAll_len]
  refine Nat.le_antisymm (len_le_of (backAll_nodup hk apos and') fun x hx => ?_) (len_le_of nd fun x hx => (mem_backAll hk apos).mpr ⟨pos x hx, (img _).mpr ⟨x, hx, rfl⟩⟩)
  obtain ⟨x1, x2⟩ := (mem_backAll hk apos).mp hx
  exact (full x x1).mpr ((single_step hk x1).mpr ((two _ (once_pos hk x1)).mp x2))
end Sq

set_option Elab.async false
set_option linter.all false
set_option maxRecDepth 100000
set_option maxHeartbeats 4000000
/-! set(l) of a list of ints, kept so that it may be sorted; its len. -/
namespace Sq
open PySem PySem.Spec PyProof.Rows L2
abbrev emptyS (w : World) : Obj := { cls := .type "set", dict := none, data := .set #[] 0 (.fresh 0 0 (!w.params.followText "set-order")) }
section
variable {P : Program} {w : World} {A : Around} {E : Value → Shared → Prop} {s : Shared}
theorem set_of_list {l : Addr} {its : Array Value} {zs : List Int} {Q : Value → Shared → Prop} (quiet : A.handled = none) (isL : s.heap.IsList l its) (areI : IntsAre its.toList zs) (few : zs.length + 1 < scanBound)
    (fin : ∀ (g : Heap) (tk m : Nat), SetR w g s.heap.objs.size (fun j => decide (j ∈ zs)) m → m ≤ zs.length → (∀ b o, s.heap.get? b = some o → g.get? b = some o) → Q (.ref s.heap.objs.size) { s with heap := g, toks := tk }) :
    wpAny (model P w) A (call (.type "set") [.ref l]) Q E s := by
  have size : its.size = zs.length := by
    rw [← Array.length_toList]
    exact IntsAre.length areI
  obtain ⟨c0, tl0, mro0⟩ := F.called_set.mro
  have made0 := F.called_set.made
  have sub0 := F.called_set.sub
  refine wpAny_call (codeAny_of_tree (show wpAny _ _ (callAny (.type "set") _) _ _ _ from ?_))
  refine wpAny_pure ⟨Code.quiet_builtin _ (by decide +kernel), codeAny_builtin F.entry_type_call ?_⟩
  rw [Around.under_plain (weight_type_call_type "set" [.ref l] []) rfl]
  have t1 := F.called_set.notType
  have t2 := F.called_set.canCreate
  have t3 := F.typeCall_set_1 (.ref l)
  repeat (any_goals (first | assumption | wp_step))
  refine codeAny_mono (code_set_led1 (.ref l) (E := E) (Q₁ := fun ob s' => ob = .ref s.heap.objs.size ∧ s' = { s with heap := s.heap.push (emptyS w) }) ⟨rfl, rfl⟩) fun r s' hr => ?_
  match r, hr with
  | .error e, hr => exact hr
  | .ok .next, hr => exact hr.elim
  | .ok .brk, hr => exact hr.elim
  | .ok .cont, hr => exact hr.elim
  | .ok (.ret ob), hr =>
    obtain ⟨rfl, rfl⟩ := hr
    have gS : (s.heap.push (emptyS w)).get? s.heap.objs.size = some (emptyS w) := Heap.get?_push_size _ rfl
    have tS : Shared.TypeIs { s with heap := s.heap.push (emptyS w) } (.ref s.heap.objs.size) "set" := ⟨_, gS, rfl⟩
    have i1 := F.called_set.init.lookup
    have i2 := F.called_set.init.bind (.ref s.heap.objs.size)
    repeat (any_goals (first | assumption | wp_step))
    refine codeAny_mono (codeAny_call_builtin (R := wants (fun r s2 => r = .none ∧ ∃ g tk m, s2 = { s with heap := g, toks := tk } ∧ SetR w g s.heap.objs.size (fun j => decide (j ∈ zs)) m ∧ m ≤ zs.length ∧
        ∀ b o, s.heap.get? b = some o → g.get? b = some o) E) F.called_set.init.plain F.entry_set_init (check_set_init_1 tS ?_)) fun r2 s2 hr2 => ?_
    · obtain ⟨⟨cl, di, da, sl⟩, ol, isC, nl, isD⟩ := isL
      simp only at isC isD
      subst isC isD
      have ol1 : (s.heap.push (emptyS w)).get? l = some { cls := .type "list", dict := di, data := .seq its nl, slots := sl } := Heap.get?_push_of_some _ ol
      have n1 := F.sub_list_set
      have n2 := F.sub_list_frozenset
      have n3 : (Value.type "list" == Value.type "dict") = false := by decide
      have isL1 : (s.heap.push (emptyS w)).IsList l its := ⟨_, ol1, rfl, nl, rfl⟩
      unfold Builtin.«set.__init__» noKeywords Builtin.Frozenset.updateFrom
      generalize pk : pyIter = PK
      wp_walk
      subst pk
      refine wpAny_pyIter_list isL1 (wpAny_bind (wpAny_runValue ?_))
      have low : l < s.heap.objs.size := Heap.lt_size ol
      have q3 : A.in1.in1.in1.handled = none := by simp [quiet]
      have big : (s.heap.push (emptyS w)).objs.size = s.heap.objs.size + 1 := Heap.size_push ..
      have apart : l ≠ (s.heap.push (emptyS w)).objs.size := by rw [big]; exact Nat.ne_of_lt (Nat.lt_succ_of_lt low)
      have notIn : s.heap.objs.size ∉ [(s.heap.push (emptyS w)).objs.size, l] := by
        rw [big]
        intro z
        rcases List.mem_cons.mp z with z | z
        · exact absurd z (Nat.ne_of_lt (Nat.lt_succ_self _))
        · exact absurd (List.mem_singleton.mp z) (Nat.ne_of_gt low)
      have vals : ∀ (i : Nat) (v : Value), its[i]? = some v → ∃ k t, zs[i]? = some k ∧ v = .int k t := fun i v hv => by
        have li : i < zs.length := by rw [← size]; exact (Array.getElem?_eq_some_iff.mp hv).1
        obtain ⟨t, e⟩ := IntsAre.int_at areI i v (by rw [Array.getElem?_toList]; exact hv)
        refine ⟨zs[i], t, List.getElem?_eq_getElem li, ?_⟩
        rw [e, List.getD_eq_getElem?_getD, List.getElem?_eq_getElem li] <;> rfl
      refine set_update_ints ((Walks.list q3 _ l apart its).toS) s.heap.objs.size notIn zs size few vals (its.size - 0) 0 _ (by omega) (Nat.zero_le _) ⟨⟨_, Heap.get?_push_size _ rfl, rfl, rfl⟩, isL1.push _⟩ ⟨0, Nat.le_refl 0, setR_new_at (Heap.get?_push_of_some _ gS)⟩ ?_
      intro s3 m mv lm R3
      obtain ⟨g, gn, dr, tk, os⟩ := s3
      obtain rfl : gn = s.gens := mv.gens
      obtain rfl : dr = s.drawn := mv.drawn
      obtain rfl : os = s.os := mv.os
      rw [size] at lm
      refine (show wpAny _ _ _ _ _ _ from wpAny_pure (show wpAny _ _ (ret Value.none) _ _ _ from ?_))
      refine wpAny_pure ⟨rfl, g, tk, m, rfl, R3, lm, fun b o e => ?_⟩
      have lb : b < s.heap.objs.size := Heap.lt_size e
      refine mv.heap b o (fun z => ?_) (Heap.get?_push_of_some _ (Heap.get?_push_of_some _ e))
      rcases List.mem_cons.mp z with z | z
      · exact absurd z (Nat.ne_of_lt lb)
      · have z := List.mem_singleton.mp z
        rw [big] at z
        exact absurd z (Nat.ne_of_lt (Nat.lt_succ_of_lt lb))
    · match r2, hr2 with
      | .error e, hr2 => exact hr2
      | .ok .next, hr2 => exact hr2.elim
      | .ok .brk, hr2 => exact hr2.elim
      | .ok .cont, hr2 => exact hr2.elim
      | .ok (.ret v), hr2 =>
        obtain ⟨rfl, g, tk, m, rfl, R3, lm, kept⟩ := hr2
        repeat (any_goals (first | assumption | wp_step))
        exact fin _ _ _ R3 lm kept
end
theorem perm_of_sub {α : Type} [DecidableEq α] : ∀ {A B : List α}, A.Nodup → (∀ x ∈ A, x ∈ B) → B.length = A.length → A.Perm B
  | [], B, _, _, l => by rw [List.length_eq_zero_iff.mp l]
  | a :: A, B, nd, sub, l => by
    have nd' := List.nodup_cons.mp nd
    have ha := sub a List.mem_cons_self
    have le := List.length_erase_of_mem ha
    rw [List.length_cons] at l
    have ih := perm_of_sub (A := A) (B := B.erase a) nd'.2 (fun x hx => (List.mem_erase_of_ne (fun z : x = a => nd'.1 (by rw [← z]; exact hx))).mpr (sub x (List.mem_cons_of_mem _ hx))) (by omega)
    exact (ih.cons a).trans (List.perm_cons_erase ha).symm
theorem setR_count {w : World} {h : Heap} {a : Addr} {zs : List Int} {m : Nat} (R : SetR w h a (fun j => decide (j ∈ zs)) m) : m = zs.length ↔ zs.Nodup := by
  obtain ⟨o, es, ep, t, get, ex, data, good, once, mem, bound, fits, size, ris, led⟩ := R
  have len : (es.toList.map keyOf).length = m := by rw [List.length_map, Array.length_toList]; exact size
  have sub : ∀ x, x ∈ es.toList.map keyOf ↔ x ∈ zs := fun x => by rw [← mem x]; exact decide_eq_true_iff
  constructor
  · intro e
    exact (perm_of_sub once (fun x hx => (sub x).mp hx) (by rw [len, e])).nodup_iff.mp once
  · intro nd
    have a := len_le_of nd fun x hx => (sub x).mpr hx
    have b := len_le_of once fun x hx => (sub x).mp hx
    omega
section
variable {X : Cx}
def rSetL (K : PySem.W.Frag) (w : World) : List V → Hp → VK → Prop := fun vs H Q => ∃ (l : Addr) (zs : List Int), vs = [.ref l] ∧ SqL K H l (zs.map V.int) ∧ zs.length ≤ 4000 ∧ ∀ p m, H p = none → m ≤ zs.length → (m = zs.length ↔ zs.Nodup) → Q (.ref p) (upd H p (SetO w p (fun j => decide (j ∈ zs)) m))
theorem call_setL (hc : X.calm = true) : CallR X (.type "set") (rSetL X.K X.w) := by
  intro pins s σ H vs us Q I r h
  obtain ⟨l, zs, rfl, hs, few, q⟩ := h
  rw [Vals.ref1 r]
  obtain ⟨its, rv, pl, _⟩ := I.list hs
  refine set_of_list (I.ok.hd hc) pl.isList (by simpa using ints_of_vals rv) (by unfold scanBound; omega) fun g tk m R lm kept => ?_
  have free : H s.heap.objs.size = none := I.hok.fresh (Nat.le_refl _)
  exact ⟨.ref s.heap.objs.size, upd H s.heap.objs.size (SetO X.w s.heap.objs.size (fun j => decide (j ∈ zs)) m), I.laid kept (Nat.le_refl _) (setO_new R), rfl, q _ m free lm (setR_count R)⟩
def rLenS (w : World) : List V → Hp → VK → Prop := fun vs H Q => ∃ (a : Addr) (S : Int → Bool) (n : Nat), vs = [.ref a] ∧ H a = some (SetO w a S n) ∧ n ≤ 4000 ∧ Q (.int (n : Int)) H
theorem call_lenS : CallR X (.builtin "len") (rLenS X.w) := by
  intro pins s σ H vs us Q I r h
  obtain ⟨a, S, n, rfl, ha, few, q⟩ := h
  rw [Vals.ref1 r]
  obtain ⟨o, es, ep, t, get, ex, data, good, once, mem, bound, fits, size, ris, led⟩ := setO_get I ha
  refine call_len_set get ex data fits (by rw [size]; omega) ⟨.int (n : Int), H, I.tok _, ⟨_, by rw [size]⟩, q⟩
end
end Sq

set_option Elab.async false
set_option linter.all false
set_option maxRecDepth 100000
set_option maxHeartbeats 1000000
/-! Texts of lists: what the laws share. -/
namespace Sq
open PySem PySem.Spec PyProof.Rows L2
open TL (numL numL_len)
theorem gd_str {x : Str} {n : Nat} (h : ∀ c ∈ TL.tl x, c < 16 ^ 8) (l : x.length ≤ n) : Gd n (.str x) := by
  refine ⟨rfl, rfl, Nat.zero_le _, ?_, ?_⟩
  · show (x.cps.toList.all fun c => decide (c < 16 ^ 8)) = true
    rw [List.all_eq_true]
    exact fun c hc => decide_eq_true (h c hc)
  · exact l
theorem numL_low (n : Nat) : ∀ c ∈ numL n, c < 128 := fun c hc => by have := TL.numL_digits n c hc; omega
theorem pL_low (n k : Nat) : ∀ c ∈ pL n k, c < 128 := fun c hc => by
  unfold pL at hc
  rcases List.mem_append.mp hc with z | z
  · exact numL_low n c z
  · split at z
    · cases z
    · rcases List.mem_cons.mp z with e | e
      · rw [e]; decide
      · exact numL_low k c e
theorem joinL_low {S : List Nat} (hS : ∀ c ∈ S, c < 128) : ∀ (ps : List (List Nat)), (∀ p ∈ ps, ∀ c ∈ p, c < 128) → ∀ c ∈ TL.joinL S ps, c < 128
  | [], _, c, h => nomatch h
  | [p], h, c, hc => h p List.mem_cons_self c hc
  | p :: q :: r, h, c, hc => by
    have hc' : c ∈ p ++ (S ++ TL.joinL S (q :: r)) := hc
    rcases List.mem_append.mp hc' with z | z
    · exact h p List.mem_cons_self c z
    · rcases List.mem_append.mp z with z | z
      · exact hS c z
      · exact joinL_low hS (q :: r) (fun p hp => h p (List.mem_cons_of_mem _ hp)) c z
theorem txtL_low (ps : List (Nat × Nat)) : ∀ c ∈ txtL ps, c < 128 := fun c hc => by
  unfold txtL at hc
  split at hc
  · simp only [List.mem_cons, List.not_mem_nil, or_false] at hc
    omega
  · exact joinL_low (by decide) _ (fun p hp => by obtain ⟨q, _, rfl⟩ := List.mem_map.mp hp; exact pL_low _ _) c hc
theorem lenG {ks : List Int} (h : ks.length ≤ 15000) : ∀ ps, Grp ks ps → ps.length ≤ 15000 := fun ps g => Nat.le_trans g.len.1 h
/-- every list of numbers that aren't negative has its groups -/
theorem grp_ex : ∀ (ks : List Int), (∀ k ∈ ks, 0 ≤ k) → ∃ ps, Grp ks ps := fun ks => by
  have key : ∀ n, n ≤ ks.length → (∀ k ∈ ks, 0 ≤ k) → ∃ ps, Grp (ks.take n) ps := fun n => by
    induction n with
    | zero => exact fun _ _ => ⟨[], by rw [List.take_zero]; exact Grp.nil⟩
    | succ n ih =>
      intro hn h0
      obtain ⟨ps, G⟩ := ih (by omega) h0
      have lt : n < ks.length := by omega
      have hk := h0 _ (List.getElem_mem lt)
      obtain ⟨k, ek⟩ : ∃ k : Nat, ks[n] = (k : Int) := ⟨ks[n].toNat, (Int.toNat_of_nonneg hk).symm⟩
      have tk : ks.take (n + 1) = ks.take n ++ [(k : Int)] := by
        rw [List.take_add_one, List.getElem?_eq_getElem lt, ek]
        rfl
      rw [tk]
      by_cases c : lastN none ps = some (k : Int)
      · rcases List.eq_nil_or_concat ps with e | ⟨qs, p, e⟩
        · rw [e] at c; cases c
        · rw [e, List.concat_eq_append] at c G
          rw [lastN_snoc] at c
          obtain ⟨x, m⟩ := p
          have : x = k := Int.ofNat.inj (Option.some.inj c)
          subst this
          exact ⟨_, G.more⟩
      · exact ⟨_, G.new c⟩
  intro h
  have := key ks.length (Nat.le_refl _) h
  rwa [List.take_length] at this
theorem txt_len {ks : List Int} {ps : List (Nat × Nat)} (G : Grp ks ps) (hl : ks.length ≤ 12) (h : ∀ k ∈ ks, 2 ≤ k ∧ k ≤ 1000000) : (txtL ps).length ≤ 300 := by
  unfold txtL
  split
  · decide
  · have b := G.len
    have j := join_len [44, 32] (ps.map fun p => pL p.1 p.2) 20 fun x hx => by
      obtain ⟨p, hp, rfl⟩ := List.mem_map.mp hx
      have p1 := h _ (G.mem p hp)
      have p2 := b.2 p hp
      have p3 : (numL p.1).length ≤ 7 := numL_len (by decide) (by omega)
      have p4 : (numL p.2).length ≤ 2 := numL_len (by decide) (by omega)
      unfold pL
      rw [List.length_append]
      split
      · simp only [List.length_nil]
        omega
      · rw [List.length_cons]
        omega
    rw [List.length_map] at j
    have j3 : (TL.joinL [44, 32] (ps.map fun p => pL p.1 p.2)).length ≤ ps.length * (20 + 2) := j
    show (TL.joinL [44, 32] (ps.map fun p => pL p.1 p.2)).length ≤ _
    omega

theorem in_infix {x y : Str} {A B : List Nat} (hy : TL.tl y ≠ []) (h : TL.tl x = A ++ TL.tl y ++ B) : (!(Builtin.Str.occurrences x y 0 x.length 1).isEmpty) = true := by
  refine (StrLaws.found_iff x y).mpr ⟨A.length, (TL.at_iff hy A.length).mpr ?_⟩
  rw [h, List.append_assoc, List.drop_left]
  exact TL.pre_self _ _
theorem part_infix : ∀ (ps : List (Nat × Nat)) (p : Nat × Nat), p ∈ ps → p.2 ≠ 1 → ∃ A B, shL ps = A ++ (94 :: numL p.2) ++ B
  | [], p, h, _ => nomatch h
  | q :: r, p, h, hk => by
    have cut : ∃ T, shL (q :: r) = pL q.1 q.2 ++ T ∧ (r ≠ [] → T = [44, 32] ++ shL r) := by
      cases r with
      | nil => exact ⟨[], by show pL q.1 q.2 = _; rw [List.append_nil], fun z => absurd rfl z⟩
      | cons q2 s => exact ⟨[44, 32] ++ shL (q2 :: s), rfl, fun _ => rfl⟩
    obtain ⟨T, e1, e2⟩ := cut
    rcases List.mem_cons.mp h with z | z
    · subst z
      refine ⟨numL p.1, T, ?_⟩
      rw [e1]
      unfold pL
      rw [if_neg hk]
    · obtain ⟨A, B, e⟩ := part_infix r p z hk
      refine ⟨pL q.1 q.2 ++ [44, 32] ++ A, B, ?_⟩
      rw [e1, e2 (fun z2 => by rw [z2] at z; cases z), e]
      simp [List.append_assoc]
theorem small_dec {l : List Nat} (h : ((TL.spl [44, 32] 0 [] l).all fun p => match rPart p with | some (_, k) => decide (k ≤ 1000) | none => true) = true) : Small l := fun p hp n k e => by
  have := List.all_eq_true.mp h p hp
  rw [e] at this
  exact of_decide_eq_true this
theorem cutS_take (z : Str) (n : Nat) (h : n ≤ z.length) : TL.tl (cutS z none (some (n : Int))) = (TL.tl z).take n := by
  show ((z.cps.toList.drop (HT.sIx z.length 0 none)).take (HT.sIx z.length z.length (some (n : Int)) - HT.sIx z.length 0 none)) = _
  rw [HT.sIx_nat, HT.sIx_none, List.drop_zero, Nat.min_eq_left h, Nat.sub_zero]
theorem cutS_drop (z : Str) (n : Nat) : TL.tl (cutS z (some (n : Int)) none) = (TL.tl z).drop n := by
  show ((z.cps.toList.drop (HT.sIx z.length 0 (some (n : Int)))).take (HT.sIx z.length z.length none - HT.sIx z.length 0 (some (n : Int)))) = _
  have e : z.length = (TL.tl z).length := TL.len_tl z
  rw [HT.sIx_nat, HT.sIx_none]
  by_cases h : n ≤ z.length
  · rw [Nat.min_eq_left h, List.take_of_length_le (by rw [List.length_drop]; show (TL.tl z).length - n ≤ _; omega)]
  · rw [Nat.min_eq_right (by omega), Nat.sub_self, List.take_zero]
    exact (List.drop_of_length_le (by omega)).symm
end Sq

set_option Elab.async false
set_option linter.all false
set_option maxRecDepth 100000
set_option maxHeartbeats 2000000
/-! list(text); texts cut at ^ or at ", "; how long a shown list of numbers is. -/
namespace Sq
open PySem PySem.Spec PyProof.Rows L2
open NumText (digitsVal AllDigits)
def signsV (x : Str) : List V := (TL.tl x).map fun c => V.str ⟨#[c]⟩
def rListStr : List V → Hp → VK → Prop := fun xs H Q => ∃ x : Str, xs = [.str x] ∧ x.length ≤ sizeLine ∧ ∀ p, H p = none → Q (.ref p) (upd H p (.lst (signsV x)))
theorem vals_signs {x : Str} {acc : Array Value} (h : ItemsOf (SignAt x) acc x.cps.size) : Vals (signsV x) acc.toList := by
  obtain ⟨sz, items⟩ := h
  have key : ∀ (cs : List Nat) (vs : List Value), cs.length = vs.length → (∀ (j : Nat) (v : Value), vs[j]? = some v → ∃ c u, cs[j]? = some c ∧ v = Value.str ⟨#[c]⟩ u) → Vals (cs.map fun c => V.str ⟨#[c]⟩) vs := fun cs => by
    induction cs with
    | nil =>
      intro vs l _
      cases vs with
      | nil => exact .nil
      | cons v vs => cases l
    | cons c cs ih =>
      intro vs l it
      cases vs with
      | nil => cases l
      | cons v vs =>
        obtain ⟨c', u, e, rfl⟩ := it 0 v rfl
        cases e
        exact .cons ⟨u, rfl⟩ (ih vs (Nat.succ.inj l) fun j w e => it (j + 1) w e)
  refine key (TL.tl x) acc.toList ?_ fun j v e => ?_
  · show x.cps.toList.length = _
    rw [Array.length_toList, Array.length_toList, sz]
  · obtain ⟨c, u, e2, e3⟩ := items j v (by rw [← Array.getElem?_toList]; exact e)
    exact ⟨c, u, by show x.cps.toList[j]? = some c; rw [Array.getElem?_toList]; exact e2, e3⟩
theorem call_listStr {X : Cx} (hc : X.calm = true) : CallR X (.type "list") rListStr := by
  intro pins s σ H xs us Q I r h
  obtain ⟨x, rfl, hl, q⟩ := h
  obtain ⟨u, rfl, t, rfl⟩ := vals1 r
  refine PySem.call_list_str (I.ok.hd hc) x t (fun h' tk acc' c' keep got items => ?_) hl
  have free : H s.heap.objs.size = none := I.hok.fresh (Nat.le_refl _)
  have len : (signsV x).length ≤ sizeLine := by
    unfold signsV
    rw [List.length_map, ← TL.len_tl]
    exact hl
  refine ⟨.ref s.heap.objs.size, upd H s.heap.objs.size (.lst (signsV x)), ?_, rfl, q _ free⟩
  exact I.call (ch := []) (Un.laid keep (Nat.le_refl _) free) (I.hok.laid keep (Nat.le_refl _) ⟨len, acc'.toList, c', vals_signs items, by rw [Array.toArray_toList]; exact got⟩) I.bare (fun _ z => nomatch z)
end Sq

set_option Elab.async false
set_option linter.all false
set_option maxRecDepth 100000
set_option maxHeartbeats 2000000
/-! Code that leaves one cell of the frame as it is, to the token of its text: for str.replace. -/
namespace Sq
open PySem PySem.Spec PyProof.Rows L2 GenW
/-- the object at c is as it was -/
def Kc (c : Addr) (s s' : Shared) : Prop := ∀ o, s.heap.get? c = some o → s'.heap.get? c = some o
theorem Kc.refl {c : Addr} {s : Shared} : Kc c s s := fun _ e => e
theorem Kc.trans {c : Addr} {s s1 s2 : Shared} (a : Kc c s s1) (b : Kc c s1 s2) : Kc c s s2 := fun o e => b o (a o e)
/-- c is the cell of a name of the def's own -/
structure Cel (X : Cx) (y : Str) (c : Addr) : Prop where
  is : X.env.cells.lookup y = some c
  own : X.fn y = true
section
variable {X : Cx} {y : Str} {c : Addr} {pins : List (Addr × Obj)} {σ : L2.St} {H H' : Hp} {s s' : Shared}
theorem Cel.free (C : Cel X y c) (I : Inv X pins σ H s) : H c = none := I.freeC _ _ C.is
theorem Cel.nofs (C : Cel X y c) (I : Inv X pins σ H s) : c ∉ X.fs := fun hb => by
  obtain ⟨_, o, ho, _⟩ := I.ok.funs.mem hb
  exact absurd (Nat.lt_of_lt_of_le (Heap.lt_size ho) (I.ok.cab _ _ C.own C.is)) (Nat.lt_irrefl _)
theorem Cel.nostk (C : Cel X y c) (I : Inv X pins σ H s) : c ∉ frs X.stack := by
  rcases I.ok.stk with e | ⟨e, fr⟩
  · rw [e]
    exact C.nofs I
  · rw [e]
    intro h
    obtain ⟨en, hm, hf⟩ := List.mem_filterMap.mp h
    rcases List.mem_cons.mp hm with z | z
    · rw [z, fr] at hf
      exact I.cne _ _ C.is (Option.some.inj hf).symm
    · exact C.nofs I (List.mem_filterMap.mpr ⟨en, z, hf⟩)
theorem Cel.un (C : Cel X y c) (I : Inv X pins σ H s) (u : Un (frs X.stack) [] H H' s.heap s'.heap) : Kc c s s' := fun o e => u.keep c o e (C.free I) (C.nostk I) (by simp)
end
structure JE (X : Cx) (c : Addr) (e : Expr) (t : TE) : Prop where
  run : ∀ (pins : List (Addr × Obj)) (s : Shared) (σ : L2.St) (H : Hp) (Q : VK), Inv X pins σ H s → t σ H Q → wpAny (model X.prog X.w) X.A (eval e X.env) (fun u s' => Kc c s s' ∧ EP X pins σ Q u s') X.xe s
structure JA (X : Cx) (c : Addr) (es : List Expr) (t : TA) : Prop where
  run : ∀ (pos : Pos) (pins : List (Addr × Obj)) (s : Shared) (σ : L2.St) (H : Hp) (Q : List V → Hp → Prop), Inv X pins σ H s → t σ H Q → wpAny (model X.prog X.w) X.A (spliced (backTo pos (starEach es X.env))) (fun us s' => Kc c s s' ∧ AP X pins σ Q us s') X.xe s
structure JSt (X : Cx) (c : Addr) (st : Stmt) (t : TS) : Prop where
  run : ∀ (pins : List (Addr × Obj)) (s : Shared) (σ : L2.St) (H : Hp) (D : Ends), Inv X pins σ H s → t D σ H → wpAny (model X.prog X.w) X.A (exec st X.env) (fun f s' => Kc c s s' ∧ SP X pins D f s') X.xe s
def CallJ (X : Cx) (c : Addr) (f : Value) (r : List V → Hp → VK → Prop) : Prop := ∀ (pins : List (Addr × Obj)) (s : Shared) (σ : L2.St) (H : Hp) (vs : List V) (us : List Value) (Q : VK), Inv X pins σ H s → Vals vs us → r vs H Q → wpAny (model X.prog X.w) X.A (call f us) (fun u s' => Kc c s s' ∧ EP X pins σ Q u s') X.xe s
section
variable {X : Cx} {y : Str} {c : Addr} {pins : List (Addr × Obj)} {σ : L2.St} {H : Hp} {s : Shared} {x : Str} {p pos : Pos} {e : Expr} {es : List Expr} {te : TE} {t : TA}
/-! ### expressions -/
theorem je_var {i : Nat} (hN : X.N[i]? = some x) (hv : Vis X.env.scope x) (hd : (x == ("__debug__" : Str)) = false := by decide) (hcd : (x == ("__classdict__" : Str)) = false := by decide) : JE X c (.Name x pos) (tVar i) :=
  ⟨fun pins s σ H Q I h => by
    obtain ⟨v, e, q⟩ := h
    exact raw_name hN hv I e (fun u r => ⟨Kc.refl, v, H, I, r, q⟩) hd hcd⟩
theorem jv (i : Nat) (hN : X.N[i]? = some x := by rfl) (hv : Vis X.env.scope x := by first | exact Or.inl rfl | exact Or.inr (Or.inl rfl) | exact Or.inr (Or.inr rfl)) (hd : (x == ("__debug__" : Str)) = false := by decide)
    (hcd : (x == ("__classdict__" : Str)) = false := by decide) : JE X c (.Name x pos) (tVar i) := je_var hN hv hd hcd
theorem je_int {i : Int} {k : Nat} : JE X c (.Constant (.int i) k pos) (tC (.int i)) :=
  ⟨fun pins s σ H Q I h => wpAny_Constant_int ⟨Kc.refl, .int i, H, I.tok _, ⟨_, rfl⟩, h⟩⟩
theorem ja_nil : JA X c [] tNil := ⟨fun pos pins s σ H Q I h => Calls.spliced_nil ⟨Kc.refl, [], H, I, .nil, h⟩⟩
theorem ja_cons (ha : JE X c e te) (hr : JA X c es t) (hs : starEach (e :: es) X.env = (false, eval e X.env) :: starEach es X.env := by rfl) : JA X c (e :: es) (tCons te t) := by
  refine ⟨fun pos pins s σ H Q I h => ?_⟩
  rw [hs]
  show wpAny _ _ (spliced ((false, eval e X.env) :: backTo pos (starEach es X.env))) _ _ s
  refine Calls.spliced_cons (thn (ha.run pins s σ H _ I h) fun u s1 hh => ?_)
  obtain ⟨g1, x, H1, I1, r1, q1⟩ := hh
  exact thn (hr.run pos pins s1 σ H1 _ I1 q1) fun us s2 ⟨g2, xs, H2, I2, r2, q2⟩ => ⟨g1.trans g2, x :: xs, H2, I2, .cons r1 r2, q2⟩
theorem run_fnJ {CX : CXT} {k : Nat} {f : Addr} {fd : FuncData} {ps : List Str} {sp : Sp} {dvs : List V} {ds : List Value} {E : XK} {Q : VK} {us : List Value} {vs : List V} (C : Cel X y c) (F : FnOk X.prog X.w X.K X.mg X.base CX k f fd ps sp) (hr : Room k X.A) (hb : Binds X.K fd ps ds) (hd : Vals dvs ds) (hx : Passes CX X E)
    (I : Inv X pins σ H s) (r : Vals vs us) (h : sp (vs ++ dvs) H Q E) : wpAny (model X.prog X.w) X.A (call (.ref f) us) (fun u s' => Kc c s s' ∧ EP X pins σ Q u s') X.xe s := by
  have r2 : Vals (vs ++ dvs) (us ++ ds) := r.append hd
  have hl : (us ++ ds).length = ps.length := by rw [← r2.length]; exact F.len _ _ _ _ h
  refine wpAny_call (codeAny_mono (F.run X.A X.stack s H ⟨us, []⟩ (us ++ ds) (vs ++ dvs) Q E hr I.env0 (hb s us I.kIn hl) r2 h) fun r s' hq => ?_)
  match r, hq with
  | .error e, hq => exact hx pins σ H s e s' I hq
  | .ok (.ret u), hq =>
    have ce : CE X.stack X.prog X.w H s Q u s' := hq
    obtain ⟨_, _, _, _, un, _⟩ := id ce
    exact ⟨C.un I un, I.after ce⟩
  | .ok .next, hq => exact False.elim hq
  | .ok .brk, hq => exact False.elim hq
  | .ok .cont, hq => exact False.elim hq
theorem je_call {CX : CXT} {k : Nat} {f : Addr} {fd : FuncData} {ps : List Str} {sp : Sp} {dvs : List V} {ds : List Value} {E : XK} (C : Cel X y c) (F : FnOk X.prog X.w X.K X.mg X.base CX k f fd ps sp) (hr : Room k X.A) (hg : Gl X x) (hm : X.mg x = some (.ref f)) (hk : PySem.W.keepIn X.K (.ref f) = true) (hb : Binds X.K fd ps ds) (hd : Vals dvs ds) (hx : Passes CX X E)
    (ha : JA X c (e :: es) t) (hdb : (x == ("__debug__" : Str)) = false := by decide) (he : starEach (e :: es) X.env = (false, eval e X.env) :: starEach es X.env := by rfl) (hpl : (backTo pos (starEach es X.env)).any (·.1) = false := by rfl) :
    JE X c (.Call (.Name x p) (e :: es) [] pos) (tCall sp dvs E t) := by
  refine ⟨fun pins s σ H Q I h => ?_⟩
  refine wpAny_Call_Name_kw (ld_glob I hg hm ?_ hdb)
  refine PySem.W.callWith_K (h₀ := X.base) I.ok.mod.kin hk (thn (ha.run pos pins s σ H _ I h) fun us s1 hh => ?_) he hpl
  obtain ⟨g1, vs, H1, I1, r, q⟩ := hh
  exact ⟨I1.kIn, thn (run_fnJ C F hr hb hd hx I1 r q) fun u s2 ⟨g2, q2⟩ => ⟨g1.trans g2, q2⟩⟩
theorem je_callD {k : Nat} {ps : List Str} {sp : Sp} (C : Cel X y c) (D : Df X.prog X.w X.K X.mg X.base k x ps sp) (hr : Room k X.A) (hg : Gl X x) (ha : JA X c (e :: es) t) (hdb : (x == ("__debug__" : Str)) = false := by decide)
    (he : starEach (e :: es) X.env = (false, eval e X.env) :: starEach es X.env := by rfl) (hpl : (backTo pos (starEach es X.env)).any (·.1) = false := by rfl) : JE X c (.Call (.Name x p) (e :: es) [] pos) (tCall sp [] E0 t) := by
  obtain ⟨f, fd, F, g, kp, b⟩ := D.ex
  exact je_call C F hr hg g kp b .nil pass0 ha hdb he hpl
theorem je_callB {id : String} {r : List V → Hp → VK → Prop} (hc : CallJ X c (.builtin id) r) (hg : Gl X x) (hm : X.mg x = none) (hv : bootBuiltins x = some (.builtin id)) (ha : JA X c (e :: es) t) (hn : x ≠ "__name__" := by decide) (hdb : (x == ("__debug__" : Str)) = false := by decide)
    (he : starEach (e :: es) X.env = (false, eval e X.env) :: starEach es X.env := by rfl) (hpl : (backTo pos (starEach es X.env)).any (·.1) = false := by rfl) : JE X c (.Call (.Name x p) (e :: es) [] pos) (tCB r t) := by
  refine ⟨fun pins s σ H Q I h => ?_⟩
  refine wpAny_Call_Name_kw (ld_blt I hg hm hv ?_ hn hdb)
  refine PyProof.Rows.callWith_builtin1 (thn (ha.run pos pins s σ H _ I h) fun us s1 hh => ?_) he hpl
  obtain ⟨g1, vs, H1, I1, r1, q1⟩ := hh
  exact thn (hc pins s1 σ H1 vs us Q I1 r1 q1) fun u s2 ⟨g2, q2⟩ => ⟨g1.trans g2, q2⟩
theorem cj_sortedSetI (hc : X.calm = true) : CallJ X c (.builtin "sorted") (rSortedSetI X.w) := by
  intro pins s σ H vs us Q I r h
  obtain ⟨a, S, n, rfl, ha, few, q⟩ := h
  rw [Vals.ref1 r]
  refine set_sorted (setO_get I ha) (I.ok.hd hc) few fun s' p got ep ns kept g os lp hg areI up mem len => ?_
  have free : H p = none := I.hok.fresh lp
  have sz : (ns.map V.int).length ≤ sizeLine := by
    rw [List.length_map]
    omega
  have same : s' = { s with heap := s'.heap, gens := s'.gens, drawn := s'.drawn, toks := s'.toks } := by
    cases s'
    cases s
    cases os
    rfl
  rw [same]
  exact ⟨fun o e => kept _ _ e, .ref p, upd H p (.lst (ns.map V.int)), I.call (ch := []) (Un.laid kept lp free) (I.hok.laid kept lp ⟨sz, got, ep, vals_of_ints areI, hg⟩) (by rw [g]; exact I.bare) (fun _ z => nomatch z), rfl, q ns p up mem len free⟩
/-! ### statements -/
theorem jst_expr (he : JE X c e te) (hs : swapsWith e none pos.line X.env = pure false := by rfl) : JSt X c (.Expr e pos) (tDrop te) := by
  refine ⟨fun pins s σ H D I h => ?_⟩
  refine wpAny_Expr_any (thn (he.run pins s σ H _ I h) fun v s1 hh => ?_) I.quiet hs
  obtain ⟨g1, x, H1, I1, r1, q1⟩ := hh
  exact ⟨g1, σ, H1, I1, q1⟩
theorem jst_set {i : Nat} {pos' : Pos} (C : Cel X y c) (ne : x ≠ y) (hN : X.N.Nodup) (hi : X.N[i]? = some x) (hx : Loc X.env.scope x) (he : JE X c e te) (hs : swapsWith e (some (.Name x pos')) pos.line X.env = pure false := by rfl) (hf : X.fn x = true ∨ X.env.scope.names.lookup x = some .local := by first | exact .inl rfl | exact .inr rfl | assumption) :
    JSt X c (.Assign [.Name x pos'] e pos) (tAsg te (gName i)) := by
  refine ⟨fun pins s σ H D I h => ?_⟩
  refine wpAny_Assign_Name (thn (he.run pins s σ H _ I h) fun v s1 hh => ?_) hs
  obtain ⟨g1, z, H1, I1, r1, q1⟩ := hh
  refine store_ok2 I1 hN hi hx r1 (fun s2 I2 hh => ?_) hf
  obtain ⟨a, sb, ha⟩ := hh
  have ca : c ≠ a := fun z => by
    rcases ha with ha | ha
    · exact I1.cne _ _ C.is (z.trans ha)
    · rw [← z] at ha
      exact ne (I1.ok.inj _ _ _ ha C.is)
  exact ⟨g1.trans fun o e => (sb.2 c ca).trans e, _, H1, I2, q1⟩
end
end Sq

set_option Elab.async false
set_option linter.all false
set_option maxRecDepth 100000
set_option maxHeartbeats 4000000
/-! More code that leaves one cell as it is: a dict comprehension with one for, set(l), list(x). -/
namespace Sq
open PySem PySem.Spec PyProof.Rows L2 GenW
section
variable {X : Cx}
/-- where a loop's items come from -/
structure JI (X : Cx) (c : Addr) (tg iter : Expr) (wi : TI) : Prop where
  run : ∀ (pins : List (Addr × Obj)) (s : Shared) (σ : L2.St) (H : Hp) (R : It → Hp → Prop), Inv X pins σ H s → wi σ H R →
    wpAny (model X.prog X.w) X.A (eval iter X.env) (fun v s1 => wpAny (model X.prog X.w) X.A (pyIter v) (fun u s2 => Kc c s s2 ∧ PIE X pins σ tg R u s2) X.xe s1) X.xe s
theorem ji_list {c : Addr} {tg l : Expr} {tl : TE} (hl : JE X c l tl) : JI X c tg l (iList X.K tl) := by
  refine ⟨fun pins s σ H R I h => ?_⟩
  refine thn (hl.run pins s σ H _ I h) fun v s1 hh => ?_
  obtain ⟨g1, x, H1, I1, r1, a, e, ⟨xs, hq⟩, q⟩ := hh
  subst e
  cases r1
  obtain ⟨its, rv, p, hz⟩ := I1.list hq
  refine wpAny_pyIter_list p.isList ⟨g1.trans fun o e => Heap.get?_push_of_some _ e, ?_⟩
  have lo : s1.heap.objs.size ≤ s1.heap.objs.size := Nat.le_refl _
  refine ⟨s1.heap.objs.size, [s1.heap.objs.size], _, _, H1, rfl, I1.kept (t' := s1.toks) fun b o e => Heap.get?_push_of_some _ e, turn_list a _, ⟨_, Heap.get?_push_size _ rfl, rfl, rfl⟩, fun b hb => ?_, q⟩
  rw [List.mem_singleton.mp hb]
  exact I1.fpOk lo (I1.hok.fresh lo)
theorem dcJ_core {y0 : Str} {c0 : Addr} (Ce : Cel X y0 c0) {pins : List (Addr × Obj)} {s : Shared} {σ : L2.St} {H : Hp} {Q : VK} {elt eltv tg iter : Expr} {ifs : List Expr} {scope : Scope} {own : List (Str × Nat)} {pos pos' : Pos} {wi : TI} {g : TG} {tt : TT} {te tf : TE} {use : Option (Value → Sem Unit)} {Qf : Value → Shared → Prop}
    (mood : X.calm = true) (nodupN : X.N.Nodup) (I : Inv X pins σ H s) (sourceA : JI X c0 tg iter wi) (ok : BlkOk X.N X.env.scope scope own)
    (targetA : ∀ (s : Shared) (H : Hp) (C : Addr) (cl : List (Str × Addr)) (fp : List Addr), PG (X.blk s H scope (compEnvC scope cl C X.env) fp) tg g) (testsA : ∀ (s : Shared) (H : Hp) (C : Addr) (cl : List (Str × Addr)) (fp : List Addr), PTs (X.blk s H scope (compEnvC scope cl C X.env) fp) ifs tt)
    (elemA : ∀ (s : Shared) (H : Hp) (C : Addr) (cl : List (Str × Addr)) (fp : List Addr), PE (X.blk s H scope (compEnvC scope cl C X.env) fp) elt te)
    (valA : ∀ (s : Shared) (H : Hp) (C : Addr) (cl : List (Str × Addr)) (fp : List Addr), PE (X.blk s H scope (compEnvC scope cl C X.env) fp) eltv tf) (plainA : ∀ x, foldedSetIterable iter X.env x = pure x)
    (h : tDc wi g tt te tf (own.map (·.2)) σ H Q)
    (back : ∀ D C s' m H', Kc c0 s s' → Inv X pins σ H' s' → Q (.ref D) H' → s'.heap.Ns C m → FpOk X pins H' C → compPost (model X.prog X.w) X.A X.xe use Qf (.ref D) C (.ok .next) s') :
    wpAny (model X.prog X.w) X.A (comprehension (.DictComp elt eltv [⟨tg, iter, ifs, 0⟩] scope pos) scope X.env pos' newDict false (eval iter X.env) use) Qf X.xe s := by
  have captured : ∀ y ∈ scope.names, y.2 = .free → ∃ c, X.env.cells.lookup y.1 = some c := fun y hy e => by
    rcases ok.free y hy e with k | k
    · exact I.ok.has _ (.inl k)
    · exact I.ok.has _ (.inr k)
  refine wpAny_comprehension_free (use := use) rfl plainA (closure_ok captured) ok.kind (fun y hy e => by rw [ok.uniq y hy, e])
    (thn (sourceA.run pins s σ H _ I h) fun srcV sA gotX => thn gotX fun itV sB hB2 => ?_)
  obtain ⟨kB, h2⟩ := hB2
  obtain ⟨it, fp, tn, J, HB, e, I2, T, st2, f2, q⟩ := h2
  subst e
  refine wpAny_newObj_type (newEnv_comp ?_)
  generalize atD : sB.heap.objs.size = D
  have freshD : HB D = none := I2.hok.fresh (Nat.le_of_eq atD)
  obtain ⟨W, ⟨mes0, inv0⟩, walk0⟩ := q D freshD
  -- the new dict
  generalize laid3 : ({ sB with heap := sB.heap.push { cls := .type "dict", data := .dict #[] } } : Shared) = sC
  have J3 : Inv X pins σ (upd HB D (.dK [])) sC := by
    rw [← laid3]
    refine I2.laid (t' := sB.toks) (fun b o e => Heap.get?_push_of_some _ e) (Nat.le_of_eq atD) ?_
    rw [← atD]
    exact dk_empty sB.heap I2.big
  have heap3 : sC.heap = sB.heap.push { cls := .type "dict", data := .dict #[] } := by rw [← laid3]
  have below : ∀ b ∈ fp, b < sB.heap.objs.size := fun b hb => by
    obtain ⟨o, e, _⟩ := T.obj _ _ st2 b hb
    exact Heap.lt_size e
  have roam3 : ∀ b ∈ fp, FpOk X pins (upd HB D (.dK [])) b ∧ b < sC.heap.objs.size := fun b hb => by
    have hlt := below b hb
    refine ⟨⟨?_, (f2 b hb).2⟩, by rw [heap3, Heap.size_push]; exact Nat.lt_succ_of_lt hlt⟩
    rw [upd_ne (by rw [← atD]; exact Nat.ne_of_lt hlt)]
    exact (f2 b hb).1
  have turn3 : tn 0 sC.heap := T.keep _ _ _ st2 fun b _ o e => by rw [heap3]; exact Heap.get?_push_of_some _ e
  have J4 := block_start J3 ok nodupN roam3
  have tgt := targetA sC (upd HB D (.dK [])) sC.heap.objs.size (cellsFrom (sC.heap.objs.size + 1) scope.names (cloFrom X.env.cells scope.names [])) fp
  have elv := valA sC (upd HB D (.dK [])) sC.heap.objs.size (cellsFrom (sC.heap.objs.size + 1) scope.names (cloFrom X.env.cells scope.names [])) fp
  have tst := testsA sC (upd HB D (.dK [])) sC.heap.objs.size (cellsFrom (sC.heap.objs.size + 1) scope.names (cloFrom X.env.cells scope.names [])) fp
  have elm := elemA sC (upd HB D (.dK [])) sC.heap.objs.size (cellsFrom (sC.heap.objs.size + 1) scope.names (cloFrom X.env.cells scope.names [])) fp
  show codeAny _ _ (.compStart (.DictComp elt eltv [⟨tg, iter, ifs, 0⟩] scope pos) 0 (.ref it) (.ref D) (compEnvC scope (cellsFrom (sC.heap.objs.size + 1) scope.names (cloFrom X.env.cells scope.names [])) sC.heap.objs.size X.env)) (compPost (model X.prog X.w) X.A X.xe use Qf (.ref D) sC.heap.objs.size) { sC with heap := pushCells (sC.heap.push { cls := .type "dict", data := .dict #[] }) scope.names }
  have untr : ∀ b ∈ fp, (upd HB D (.dK [])) b = none := fun b hb => (roam3 b hb).1.1
  generalize blkE : compEnvC scope (cellsFrom (sC.heap.objs.size + 1) scope.names (cloFrom X.env.cells scope.names [])) sC.heap.objs.size X.env = ce at J4 tgt tst elm elv ⊢
  have locE : ce.locals = sC.heap.objs.size := by subst blkE; rfl
  generalize heapE : upd HB D (.dK []) = HC at J3 J4 tgt tst elm elv inv0 untr roam3
  generalize laid4 : ({ sC with heap := pushCells (sC.heap.push { cls := .type "dict", data := .dict #[] }) scope.names } : Shared) = sD at J4 ⊢
  have turn4 : tn 0 sD.heap := T.keep _ _ _ turn3 fun b _ o e => by rw [← laid4]; exact pushCells_keeps _ _ _ _ (Heap.get?_push_of_some _ e)
  have roams : ∀ {σ' : L2.St} {H' : Hp} {s' : Shared}, Inv (X.blk sC HC scope ce fp) [] σ' H' s' → (∀ b ∈ fp, H' b = none) → ∀ b ∈ fp, FpOk (X.blk sC HC scope ce fp) [] H' b := fun {σ' H' s'} I' nsC b hb =>
    ⟨nsC b hb, (I'.ok.exf b hb).1, I'.ok.exfs b hb, .inl hb, fun x c e => (I'.ok.exf b hb).2 x c e, fun p hp => absurd (show p ∈ ([] : List (Addr × Obj)) ++ [] from hp) (by simp)⟩
  have outer0 : codeAny (model X.prog X.w) X.A (.compLoop (.DictComp elt eltv [⟨tg, iter, ifs, 0⟩] scope pos) 0 (.ref it) (.ref D) ce) (compPost (model X.prog X.w) X.A X.xe use Qf (.ref D) sC.heap.objs.size) sD := by
    refine compLoop_anyD (fun n s' => ∃ i H', Inv (X.blk sC HC scope ce fp) [] (wipe σ (own.map (·.2))) H' s' ∧ tn i s'.heap ∧ (∀ b ∈ fp, H' b = none) ∧ W i n H') ?_ mes0 ⟨0, HC, J4, turn4, untr, inv0⟩
    rintro n sE ⟨i, HE, J5, turn5, un5, inv5⟩
    rcases walk0 i n HE inv5 with ⟨atEnd, done0⟩ | ⟨more, NxA, reach, body0⟩
    · have ended := T.done (X.blk sC HC scope ce fp) rfl rfl rfl mood i [] sE _ HE (fun _ _ => False) J5 (roams J5 un5) turn5 atEnd
      refine thnF ended fun r sF ⟨hr, J6⟩ => ?_
      subst hr
      have J7 : Inv X pins σ HE sF := J3.call' (ch := fp) J6.os J6.base J6.hok J6.bare fun b hb => ⟨(roam3 b hb).1.2.2.2.1, (roam3 b hb).1.2.1, (roam3 b hb).1.2.2.2.2.1, (roam3 b hb).1.2.2.2.2.2⟩
      have freeC : HE sC.heap.objs.size = none := by
        have z : HE ce.locals = none := J6.free
        rw [locE] at z
        exact z
      obtain ⟨m, nsC, _⟩ := J6.loc
      have nsC : sF.heap.Ns ce.locals m := nsC
      rw [locE] at nsC
      have kAll : Kc c0 s sF := fun o eo => by
        have e3 : sC.heap.get? c0 = some o := by
          rw [heap3]
          exact Heap.get?_push_of_some _ (kB o eo)
        refine J6.base.keep c0 o e3 (Ce.free J3) (Ce.nostk J3) fun hb => ?_
        exact (roam3 c0 hb).1.2.2.2.2.1 _ _ Ce.is rfl
      exact back D sC.heap.objs.size sF m HE kAll J7 done0 nsC (J3.fpOk (Nat.le_refl _) freeC)
    · have given := T.item (X.blk sC HC scope ce fp) rfl rfl rfl mood i [] sE _ HE (fun _ _ => False) J5 (roams J5 un5) turn5 more
      refine thnF given fun r sF ⟨u, hr, got6⟩ => ?_
      subst hr
      refine thnF got6 fun _ sG ⟨x, HG, J7, rel7, yld7, turn7, un7⟩ => ?_
      have J7p := J7.pinned (roams J7 un7) (T.obj _ _ turn7)
      refine thnF (tgt.run _ sG _ HG x u _ J7p rel7 (body0 x HG yld7)) fun _ sH ⟨τ, HH, J8, wip8, go8⟩ => ?_
      refine thnF (tst.run _ sH τ HH _ J8 go8) fun b sI ⟨HI, J9, go9⟩ => ?_
      have close : ∀ {s' : Shared} {H' : Hp}, Inv (X.blk sC HC scope ce fp) ([] ++ pinsAt fp sG.heap) τ H' s' → NxA H' →
          ∃ m, m < n ∧ ∃ i H', Inv (X.blk sC HC scope ce fp) [] (wipe σ (own.map (·.2))) H' s' ∧ tn i s'.heap ∧ (∀ b ∈ fp, H' b = none) ∧ W i m H' := fun {s' H'} I' nextW => by
        obtain ⟨m', lessM, invM⟩ := reach H' nextW
        have kept : ∀ b ∈ fp, ∀ o, sG.heap.get? b = some o → s'.heap.get? b = some o ∧ H' b = none := fun b hb o e =>
          let z := I'.pin (b, o) (List.mem_append_right _ (List.mem_append_right _ (mem_pinsAt hb e)))
          ⟨z.1, z.2.1⟩
        refine ⟨m', lessM, i + 1, H', (I'.unpinned (pins := [])).weak (by rw [← wip8, wipe_length]) (fun j v e => by rw [← wip8] at e; exact (wipe_some e).1), T.keep _ _ _ turn7 fun b hb o e => (kept b hb o e).1, fun b hb => ?_, invM⟩
        obtain ⟨o, e, _⟩ := T.obj _ _ turn7 b hb
        exact (kept b hb o e).2
      cases b with
      | false =>
        simp only [Bool.false_eq_true, if_false] at go9 ⊢
        exact close J9 go9
      | true =>
        simp only [if_true] at go9 ⊢
        refine thnF (elm.run _ sI τ HI _ J9 go9) fun z sQ ⟨yv, HQ, J17, rel17, go17⟩ => ?_
        refine thnF (elv.run _ sQ τ HQ _ J17 go17) fun z2 sR ⟨yw, HR, J18, rel18, kvs, kk, ey, acc18, room18, nextW⟩ => ?_
        subst ey
        exact d_dictSet (X := X.blk sC HC scope ce fp) J18 acc18 room18 rel17 rel18 fun sS J19 => close J19 nextW
  exact codeAny_compStart_dict outer0 (T.self X.A 0 _ _ _ turn4 outer0)

/-- as a value -/
theorem je_dc {y0 : Str} {c0 : Addr} (Ce : Cel X y0 c0) {elt eltv tg iter : Expr} {ifs : List Expr} {scope : Scope} {own : List (Str × Nat)} {pos : Pos} {wi : TI} {g : TG} {tt : TT} {te tf : TE} (mood : X.calm = true) (nodupN : X.N.Nodup) (sourceA : JI X c0 tg iter wi) (ok : BlkOk X.N X.env.scope scope own)
    (targetA : ∀ (s : Shared) (H : Hp) (C : Addr) (cl : List (Str × Addr)) (fp : List Addr), PG (X.blk s H scope (compEnvC scope cl C X.env) fp) tg g) (testsA : ∀ (s : Shared) (H : Hp) (C : Addr) (cl : List (Str × Addr)) (fp : List Addr), PTs (X.blk s H scope (compEnvC scope cl C X.env) fp) ifs tt)
    (elemA : ∀ (s : Shared) (H : Hp) (C : Addr) (cl : List (Str × Addr)) (fp : List Addr), PE (X.blk s H scope (compEnvC scope cl C X.env) fp) elt te)
    (valA : ∀ (s : Shared) (H : Hp) (C : Addr) (cl : List (Str × Addr)) (fp : List Addr), PE (X.blk s H scope (compEnvC scope cl C X.env) fp) eltv tf) (plainA : ∀ x, foldedSetIterable iter X.env x = pure x := by intro _; rfl) :
    JE X c0 (.DictComp elt eltv [⟨tg, iter, ifs, 0⟩] scope pos) (tDc wi g tt te tf (own.map (·.2))) := by
  refine ⟨fun pins s σ H Q I h => ?_⟩
  rw [arm_eval_DictComp]
  refine dcJ_core Ce mood nodupN I sourceA ok targetA testsA elemA valA plainA h fun D C s' m H' kAll I' q nsC f => ⟨m, nsC, fun h'' sb => ?_⟩
  obtain ⟨f0, f1, f2, roam3, f4, f5⟩ := f
  have away : c0 ≠ C := f4 _ _ Ce.is
  exact ⟨kAll.trans fun o e => (sb.2 c0 away).trans e, .ref D, H', I'.turned (t' := s'.toks) (fun b o hb e => (sb.2 b hb).trans e) f0 f1 roam3 f4 f5, rfl, q⟩
theorem je_callTy {c : Addr} {T : String} {r : List V → Hp → VK → Prop} {x : Str} {p pos : Pos} {e : Expr} {es : List Expr} {t : TA} (hc : CallJ X c (.type T) r) (hg : Gl X x) (hm : X.mg x = none) (hv : bootBuiltins x = some (.type T)) (ha : JA X c (e :: es) t) (hn : x ≠ "__name__" := by decide) (hdb : (x == ("__debug__" : Str)) = false := by decide)
    (he : starEach (e :: es) X.env = (false, eval e X.env) :: starEach es X.env := by rfl) (hpl : (backTo pos (starEach es X.env)).any (·.1) = false := by rfl) : JE X c (.Call (.Name x p) (e :: es) [] pos) (tCB r t) := by
  refine ⟨fun pins s σ H Q I h => ?_⟩
  refine wpAny_Call_Name_kw (ld_blt I hg hm hv ?_ hn hdb)
  refine PyProof.Rows.callWith_type1 (thn (ha.run pos pins s σ H _ I h) fun us s1 hh => ?_) he hpl
  obtain ⟨g1, vs, H1, I1, r1, q1⟩ := hh
  exact thn (hc pins s1 σ H1 vs us Q I1 r1 q1) fun u s2 ⟨g2, q2⟩ => ⟨g1.trans g2, q2⟩
theorem cj_setL {c : Addr} (hc : X.calm = true) : CallJ X c (.type "set") (rSetL X.K X.w) := by
  intro pins s σ H vs us Q I r h
  obtain ⟨l, zs, rfl, hs, few, q⟩ := h
  rw [Vals.ref1 r]
  obtain ⟨its, rv, pl, _⟩ := I.list hs
  refine set_of_list (I.ok.hd hc) pl.isList (by simpa using ints_of_vals rv) (by unfold scanBound; omega) fun g tk m R lm kept => ?_
  have free : H s.heap.objs.size = none := I.hok.fresh (Nat.le_refl _)
  exact ⟨fun o e => kept _ _ e, .ref s.heap.objs.size, upd H s.heap.objs.size (SetO X.w s.heap.objs.size (fun j => decide (j ∈ zs)) m), I.laid kept (Nat.le_refl _) (setO_new R), rfl, q _ m free lm (setR_count R)⟩
end
end Sq

set_option Elab.async false
set_option linter.all false
set_option maxRecDepth 100000
set_option maxHeartbeats 4000000
/-! Code that knows what stands in one cell, to the token: text.replace(character, ''). -/
namespace Sq
open PySem PySem.Spec PyProof.Rows L2 GenW
theorem Kc.cell {c : Addr} {s s' : Shared} {v : Option Value} (k : Kc c s s') (h : s.heap.IsCell c v) : s'.heap.IsCell c v := by
  obtain ⟨o, e, d⟩ := h
  exact ⟨o, k o e, d⟩
structure JR (X : Cx) (c : Addr) (u0 : Value) (n : Nat) (e : Expr) (t : TE) : Prop where
  run : ∀ (pins : List (Addr × Obj)) (s : Shared) (σ : L2.St) (H : Hp) (Q : VK), Inv X pins σ H s → n ≤ s.toks → s.heap.IsCell c (some u0) → t σ H Q → wpAny (model X.prog X.w) X.A (eval e X.env) (EP X pins σ Q) X.xe s
structure JRs (X : Cx) (c : Addr) (u0 : Value) (n : Nat) (sts : List Stmt) (t : TS) : Prop where
  run : ∀ (pins : List (Addr × Obj)) (s : Shared) (σ : L2.St) (H : Hp) (D : Ends), Inv X pins σ H s → n ≤ s.toks → s.heap.IsCell c (some u0) → t D σ H → wpAny (model X.prog X.w) X.A (execs sts X.env) (SP X pins D) X.xe s
section
variable {X : Cx} {c : Addr} {u0 : Value} {n : Nat} {x y : Str} {p pos : Pos} {e e2 : Expr} {es : List Expr} {te tf : TE} {t : TA} {st : Stmt} {rest : List Stmt} {ts tr : TS}
theorem jr_of (h : PE X e te) : JR X c u0 n e te := ⟨fun pins s σ H Q I _ _ q => h.run pins s σ H Q I q⟩
theorem jrs_of (h : PSs X rest tr) : JRs X c u0 n rest tr := ⟨fun pins s σ H D I _ _ q => h.run pins s σ H D I q⟩
theorem jrs_cons (h1 : JSt X c st ts) (h2 : JRs X c u0 n rest tr) : JRs X c u0 n (st :: rest) (tSeq ts tr) := by
  refine ⟨fun pins s σ H D I hn hc h => ?_⟩
  refine wpAny_execs_cons (wpAny_mono (PySem.wpAny_toks (h1.run pins s σ H { D with nx := tr D } I h)) (fun f s1 hh => ?_) fun _ _ z => z.2)
  obtain ⟨hk, kc, q⟩ := hh
  match f, q with
  | .next, ⟨σ', H', I', q⟩ => exact h2.run pins s1 σ' H' D I' (Nat.le_trans hn hk) (kc.cell hc) q
  | .ret v, q => exact q
  | .brk, q => exact q
  | .cont, q => exact q
/-- the last one that knows it: x = e, then what doesn't -/
theorem jrs_set {i : Nat} {pos' : Pos} (hN : X.N.Nodup) (hi : X.N[i]? = some x) (hx : Loc X.env.scope x) (he : JR X c u0 n e te) (h2 : PSs X rest tr) (hs : swapsWith e (some (.Name x pos')) pos.line X.env = pure false := by rfl) (hf : X.fn x = true ∨ X.env.scope.names.lookup x = some .local := by first | exact .inl rfl | exact .inr rfl | assumption) :
    JRs X c u0 n (.Assign [.Name x pos'] e pos :: rest) (tSeq (tAsg te (gName i)) tr) := by
  refine ⟨fun pins s σ H D I hn hc h => ?_⟩
  refine wpAny_execs_cons (wpAny_Assign_Name (thn (he.run pins s σ H _ I hn hc h) fun v s1 hh => ?_) hs)
  obtain ⟨z, H1, I1, r1, q1⟩ := hh
  exact store_ok I1 hN hi hx r1 (fun s2 I2 => h2.run pins s2 _ H1 D I2 q1) hf
theorem jr_op {op : Operator} {r : R2} (ho : OpR X (binaryOp op) r) (ha : JR X c u0 n e te) (hb : PE X e2 tf) : JR X c u0 n (.BinOp e op e2 pos) (tOp r te tf) := by
  refine ⟨fun pins s σ H Q I hn hc h => ?_⟩
  refine wpAny_BinOp (thn (ha.run pins s σ H _ I hn hc h) fun v s1 hh => ?_)
  obtain ⟨a, H1, I1, r1, q1⟩ := hh
  exact thn (hb.run pins s1 σ H1 _ I1 q1) fun u s2 ⟨b, H2, I2, r2, q2⟩ => ho pins s2 σ H2 a b v u Q I2 r1 r2 q2
/-- T(e) -/
theorem jr_callTy {T : String} {r : List V → Hp → VK → Prop} (hc : CallR X (.type T) r) (hg : Gl X x) (hm : X.mg x = none) (hv : bootBuiltins x = some (.type T)) (ha : JR X c u0 n e te) (hn : x ≠ "__name__" := by decide) (hdb : (x == ("__debug__" : Str)) = false := by decide)
    (he : starEach [e] X.env = (false, eval e X.env) :: starEach [] X.env := by rfl) (hpl : (backTo pos (starEach [] X.env)).any (·.1) = false := by rfl) : JR X c u0 n (.Call (.Name x p) [e] [] pos) (tCB r (tCons te tNil)) := by
  refine ⟨fun pins s σ H Q I hn' hcell h => ?_⟩
  refine wpAny_Call_Name_kw (ld_blt I hg hm hv ?_ hn hdb)
  refine PyProof.Rows.callWith_type1 ?_ he hpl
  rw [he]
  show wpAny _ _ (spliced ((false, eval e X.env) :: backTo pos (starEach [] X.env))) _ _ s
  refine Calls.spliced_cons (thn (ha.run pins s σ H _ I hn' hcell h) fun u s1 hh => ?_)
  obtain ⟨v, H1, I1, r1, q1⟩ := hh
  exact Calls.spliced_nil (hc pins s1 σ H1 [v] [u] Q I1 (.cons r1 .nil) q1)
/-- the name's own value, to the token -/
theorem raw_cell {pins : List (Addr × Obj)} {σ : L2.St} {H : Hp} {s : Shared} {Q E : Value → Shared → Prop} (I : Inv X pins σ H s) (hk : X.env.kindOf y = some .cell) (hc : X.env.cells.lookup y = some c) (hcell : s.heap.IsCell c (some u0)) (fin : Q u0 s)
    (hd : (y == ("__debug__" : Str)) = false := by decide) : wpAny (model X.prog X.w) X.A (eval (.Name y pos) X.env) Q E s :=
  wpAny_Name (wpAny_loadName_cell I.ok.kind hk hc hcell fin) hd
/-- text.replace(character, z): the text in a slot, the character in the cell, z written -/
def tRepJ (i : Nat) (b z : Str) : TE := fun σ H Q => ∃ a : Str, σ[i]? = some (some (.str a)) ∧ a.length + (a.length + 1) * z.length ≤ 16777216 ∧ Q (.str (Txt.replace a b z)) H
theorem jr_rep {i : Nat} {kx : Str} {b z : Str} {tb : Tok} {j : Nat} {p1 p2 c1 apos : Pos} (hN : X.N[i]? = some kx) (hv : Vis X.env.scope kx) (hk : X.env.kindOf y = some .cell) (hc : X.env.cells.lookup y = some c) (good : tb ≠ 0 ∧ tb < n) (hbz : (b == z) = false)
    (hd : (kx == ("__debug__" : Str)) = false := by decide) (hcd : (kx == ("__classdict__" : Str)) = false := by decide) (hdy : (y == ("__debug__" : Str)) = false := by decide)
    (hst : starEach [.Name y p2, .Constant (.str z) j c1] X.env = [(false, eval (.Name y p2) X.env), (false, eval (.Constant (.str z) j c1) X.env)] := by rfl)
    (hbase : attributeBase (.Name kx p1) "replace" X.env (eval (.Name kx p1) X.env) = eval (.Name kx p1) X.env := by rfl) (hline : (apos.endLine == pos.line) = true := by rfl) :
    JR X c (.str b tb) n (.Call (.Attribute (.Name kx p1) "replace" apos) [.Name y p2, .Constant (.str z) j c1] [] pos) (tRepJ i b z) := by
  refine ⟨fun pins s σ H Q I hn hcell h => ?_⟩
  obtain ⟨a, ha, few, q⟩ := h
  refine PySem.Call_method2 hbase hst hline (raw_name hN hv I ha (fun v r => ?_) hd hcd)
  obtain ⟨ta, e1⟩ := r
  subst e1
  refine ⟨"str", _, PySem.F.plainAttrs_str, PySem.F.slot_str_replace, PySem.F.type_str_replace, typeIs_str _ _ _, (fun _ e => nomatch e), Calls.callWith_builtin rfl (Calls.evalArgs_plain (Calls.spliced_cons (raw_cell I hk hc hcell ?_ hdy)))⟩
  refine Calls.spliced_cons (Calls.Constant_str (Calls.spliced_nil ?_))
  have g1 : tb ≠ 0 := good.1
  have g2 : tb < n := good.2
  exact PySem.SC.replace g1 (Nat.ne_of_gt (Nat.lt_of_lt_of_le (Nat.lt_of_le_of_lt (Nat.zero_le tb) g2) hn)) (Nat.ne_of_lt (Nat.lt_of_lt_of_le g2 hn)) hbz few fun t' k => ⟨.str (Txt.replace a b z), H, I.tok k, ⟨t', rfl⟩, q⟩
end
/-- a def whose promise needs one argument's token: it isn't 0 and was given out before -/
def Tkn (j : Nat) (us : List Value) (n : Nat) : Prop := ∀ b t, us[j]? = some (.str b t) → b.length = 1 → t ≠ 0 ∧ t < n
structure FnT (P : Program) (w : World) (K : PySem.W.Frag) (mg : Str → Option Value) (base : Heap) (k : Nat) (f : Addr) (fd : FuncData) (ps : List Str) (j : Nat) (sp : Sp) : Prop where
  len : ∀ vs H Q E, sp vs H Q E → vs.length = ps.length
  run : ∀ (A : Around) (outer : List Env) (s : Shared) (H : Hp) (args : Args) (us : List Value) (vs : List V) (Q : VK), Room k A → Env0 P w K mg base A outer s H → BindsTo s fd args (ps.zip us) → Vals vs us → Tkn j us s.toks → sp vs H Q E0 →
    codeAny (model P w) A (.call (.ref f) args) (fun r s' => match r with | .ok (.ret u) => CE outer P w H s Q u s' | _ => False) s
theorem fnt_of {P : Program} {w : World} {K : PySem.W.Frag} {mg : Str → Option Value} {base : Heap} {x qual y : Str} {st : Stmt} {f : Addr} {fd : FuncData} {N ps : List Str} {k j : Nat} {sp : Sp} (F : Fun K x qual st f fd) (S : FnScope N ps (defScope st)) (len : ∀ vs H Q E, sp vs H Q E → vs.length = ps.length)
    (hy : ps[j]? = some y) (hk : (defScope st).names.lookup y = some .cell)
    (walk : ∀ (cdv : Value) (A : Around) (outer : List Env) (s : Shared) (H : Hp) (us : List Value) (vs : List V) (Q : VK) (c : Addr) (u0 : Value), Room k (A.deeper (envOfC qual (defScope st) s.heap.objs.size f cdv)) → sp vs H Q E0 → Vals vs us → Tkn j us s.toks → us[j]? = some u0 → Cel (cxOf CX0 P w K mg base N qual (defScope st) f cdv A outer s H E0).nox y c →
      ∃ t, JRs (cxOf CX0 P w K mg base N qual (defScope st) f cdv A outer s H E0).nox c u0 s.toks (defBody st) t ∧ t { nx := fun _ H' => Q .non H', rt := Q } (L2.start N vs) H) : FnT P w K mg base (k + 1) f fd ps j sp := by
  obtain ⟨oc, od, kV, doc, pm, an, cdv, ct, osl, rfl, lk, hcd⟩ := F.ex
  refine ⟨len, fun A outer s H args us vs Q hr e0 hb r tkn hsp => ?_⟩
  have hl := len _ _ _ _ hsp
  have KX : K.In s.heap := e0.mod.kin.keeps fun b o e => (e0.bs b o e).1
  have lim : s.heap.NoLimit := e0.mod.nolimit.keeps fun b o e => (e0.bs b o e).1
  have hkind : ∀ y ∈ ps.zip us, (defScope st).names.lookup y.1 = some .local ∨ ((defScope st).names.lookup y.1 = some .cell ∧ ((cellsFrom (s.heap.objs.size + 1) (defScope st).names []).lookup y.1).isSome = true) := fun ⟨n, v⟩ hy =>
    (S.par n (List.of_mem_zip hy).1).elim .inl fun z => .inr ⟨z, PySem.W.cellsFrom_some _ _ _ (.inl z)⟩
  refine codeAny_call_function hr.depth (KX _ _ lk) rfl S.co S.gen rfl (PySem.W.codeRec_of KX hcd) (hb _ _ _ _ ?_)
  refine PySem.wpAny_with_toks (Nat.le_refl s.toks) (wpAny_newFunctionEnv_cells S.kind hkind fun env he s1 made toks1 => ?_)
  subst he
  refine ⟨lim.keeps made.toInCall.keep, codeAny_func ?_⟩
  obtain ⟨c, hc⟩ := cell_has (n := s.heap.objs.size + 1) hk
  have jl : j < ps.length := (List.getElem?_eq_some_iff.mp hy).1
  obtain ⟨u0, hu⟩ : ∃ u0, us[j]? = some u0 := ⟨us[j]'(by rw [← r.length, hl]; exact jl), List.getElem?_eq_getElem _⟩
  have ndP : ps.Nodup := by rw [← S.pre]; exact S.nd.sublist (List.take_sublist _ _)
  have at1 := made.cell y c hc
  rw [bindC_get ndP hy hu (by show (defScope st).names.lookup y ≠ _; rw [hk]; decide)] at at1
  obtain ⟨t, ht, hq⟩ := walk cdv A outer s H us vs Q c u0 (hr.deeper _) hsp r tkn hu ⟨hc, rfl⟩
  have I : Inv (cxOf CX0 P w K mg base N qual (defScope st) f cdv A outer s H E0).nox [] (start N vs) H s1 := (inv_start S hr.hd e0 hl r made).wish _
  refine wpAny_mono (ht.run [] s1 (start N vs) H _ I toks1 at1 hq) (fun fl s' hs => ?_) fun e s' hs => False.elim hs
  match fl, hs with
  | .ret u, ⟨v, σ', H', J, rv, q⟩ => exact ⟨v, H', J.os, J.bare, J.base, J.hok, rv, q⟩
  | .next, ⟨σ', H', J, q⟩ => exact ⟨V.non, H', J.os, J.bare, J.base, J.hok, rfl, q⟩
  | .brk, ⟨_, _, _, q⟩ => exact False.elim q
  | .cont, ⟨_, _, _, q⟩ => exact False.elim q
end Sq

set_option Elab.async false
set_option linter.all false
set_option maxRecDepth 100000
set_option maxHeartbeats 4000000
/-! for i, c in enumerate(text). -/
namespace Sq
open PySem PySem.Spec PyProof.Rows L2
/-- the signs of a text with their places, in new pairs -/
def IteS (x : Str) : It :=
  ⟨fun i _ => i < x.cps.size, fun i H v H' => ∃ (T : Addr) (c : Nat), v = .ref T ∧ H T = none ∧ H' = upd H T (.tup [.int (i : Nat), .str ⟨#[c]⟩]) ∧ x.cps[i]? = some c, fun i _ => i = x.cps.size⟩
theorem turn_enumS {P : Program} {w : World} {K : PySem.W.Frag} {elts : List Expr} {kk : Nat} {tpos : Pos} (en it : Addr) (x : Str) (t : Tok) :
    Turn P w K (.Tuple elts kk tpos) (IteS x) [en, it] en (fun i h => (∃ old, IsEnum h en it ((i : Nat) : Int) old) ∧ h.IsStrIter it (strIterType x) x t i ∧ en ≠ it) where
  mem := List.mem_cons_self
  obj := fun i h st b hb => by
    obtain ⟨⟨old, isE⟩, ⟨o, ho, cls, dat⟩, _⟩ := st
    rcases List.mem_cons.mp hb with z | z
    · rw [z]
      exact ⟨_, isE, fun v q => nomatch q⟩
    · rw [List.mem_singleton.mp z]
      exact ⟨o, ho, fun v q => by rw [dat] at q; cases q⟩
  keep := fun i h h' st k => by
    obtain ⟨⟨old, isE⟩, ⟨o, ho, r⟩, ne⟩ := st
    exact ⟨⟨old, k en (by simp) _ isE⟩, ⟨o, k it (by simp) o ho, r⟩, ne⟩
  item := by
    intro X hP hw hK hc i pins s σ H E I hf st hg
    subst hP hw hK
    obtain ⟨⟨old, isE⟩, isI, ne⟩ := st
    have quiet : X.A.in1.handled = none := by simp [I.ok.hd hc]
    have lowE : en < s.heap.objs.size := Heap.lt_size isE
    have lowI : it < s.heap.objs.size := by
      obtain ⟨_, q, _⟩ := isI
      exact Heap.lt_size q
    refine wpAny_pyNext_enum_itemD (Draws.text quiet it x t) isE isI hg ne (fun z => ne (List.mem_singleton.mp z)) fun v h' tk pv out isI' hT hsz hk => ?_
    obtain ⟨c, u, hx, rfl⟩ := pv
    refine ⟨_, rfl, wpAny_letOwnedTupleGo_enum (s := { s with heap := h', toks := tk + 1 }) out fun h2 isE2 sb => ?_⟩
    have fresh : H s.heap.objs.size = none := I.hok.fresh (Nat.le_refl _)
    have hT2 : h2.get? s.heap.objs.size = some { cls := .type "tuple", data := .seq #[.int i tk, .str ⟨#[c]⟩ u] } := (sb.2 _ (Nat.ne_of_gt lowE)).trans hT
    have made : ObjOk X.prog X.w (upd H s.heap.objs.size (.tup [.int (i : Nat), .str ⟨#[c]⟩])) h2 s.heap.objs.size (.tup [.int (i : Nat), .str ⟨#[c]⟩]) :=
      ⟨by show 2 ≤ sizeLine; rw [sizeLine_eq]; decide, [.int i tk, .str ⟨#[c]⟩ u], .cons ⟨_, rfl⟩ (.cons ⟨_, rfl⟩ .nil), ⟨_, hT2, rfl, _, rfl⟩⟩
    have I1 : Inv X pins σ (upd H s.heap.objs.size (.tup [.int (i : Nat), .str ⟨#[c]⟩])) { s with heap := h2, toks := tk + 1 } :=
      I.turnedNew (ch := [en, it]) (fun b ob hb q => (sb.2 b (fun z => hb (by simp [z]))).trans (hk b ob (fun z => hb (by simp [z])) (fun z => hb (by simp [z])) q)) hf (Nat.le_refl _) made
    obtain ⟨oi, eoi, ri⟩ := isI'
    refine ⟨.ref s.heap.objs.size, _, I1, rfl, ⟨_, c, rfl, fresh, rfl, hx⟩, ⟨⟨.str ⟨#[c]⟩ u, ?_⟩, ⟨oi, (sb.2 it (Ne.symm ne)).trans eoi, ri⟩, ne⟩, fun b hb => ?_⟩
    · rw [show ((i + 1 : Nat) : Int) = (i : Int) + 1 by omega]
      exact isE2
    · have lowB : b < s.heap.objs.size := by
        rcases List.mem_cons.mp hb with z | z
        · rw [z]
          exact lowE
        · rw [List.mem_singleton.mp z]
          exact lowI
      rw [upd_ne (Nat.ne_of_lt lowB)]
      exact (hf b hb).1
  done := by
    intro X hP hw hK hc i pins s σ H E I hf st hg
    subst hP hw hK
    obtain ⟨⟨old, isE⟩, isI, ne⟩ := st
    have quiet : X.A.in1.handled = none := by simp [I.ok.hd hc]
    obtain ⟨f0, f1, f2, f3, f4, f5⟩ := hf it (by simp)
    have last : i = x.cps.size := hg
    subst last
    exact wpAny_pyNext_enum_endD (Draws.text quiet it x t) isE isI fun h2 eb => ⟨rfl, I.turned (t' := s.toks) (fun b o hb q => eb b o hb q) f0 f1 f3 f4 f5⟩
  self := fun A i s Q E st h => by
    obtain ⟨⟨_, isE⟩, _⟩ := st
    exact wpAny_pyIter_enum isE h
def iEnumS (ta : TA) : TI := fun σ H R => ta σ H fun vs H1 => ∃ x, vs = [.str x] ∧ R (IteS x) H1
theorem pi_enumS {X : Cx} {e : Expr} {ta : TA} {p pos tpos : Pos} {elts : List Expr} {kk : Nat} (hg : Gl X "enumerate") (hm : X.mg "enumerate" = none) (ha : PA X [e] ta) (hs : starEach [e] X.env = [(false, eval e X.env)] := by rfl) :
    PI X (.Tuple elts kk tpos) (.Call (.Name "enumerate" p) [e] [] pos) (iEnumS ta) := by
  refine ⟨fun pins s σ H R I h => ?_⟩
  refine Call_ (ld_blt I hg hm boot_enumerate (PyProof.Rows.callWith_type1 (thn (ha.run pos pins s σ H _ I h) fun us s1 hh => ?_) hs rfl))
  obtain ⟨vs, H1, I1, r1, x, ex, q⟩ := hh
  subst ex
  obtain ⟨u, rfl, t, rfl⟩ := vals1 r1
  refine call_enumerate_str fun h' isE isI hsz hk => wpAny_pyIter_enum isE ?_
  obtain ⟨n, en⟩ : ∃ n, n = s1.heap.objs.size := ⟨_, rfl⟩
  refine ⟨s1.heap.objs.size + 1, [s1.heap.objs.size + 1, s1.heap.objs.size], _, _, H1, rfl, I1.kept (t' := s1.toks) hk, turn_enumS (s1.heap.objs.size + 1) s1.heap.objs.size x t, ⟨⟨.none, isE⟩, isI, Nat.succ_ne_self _⟩, fun b hb => ?_, q⟩
  have up : s1.heap.objs.size ≤ b := by
    rcases List.mem_cons.mp hb with z | z
    · rw [z]
      exact Nat.le_add_right _ _
    · rw [List.mem_singleton.mp z]
      exact Nat.le_refl _
  exact I1.fpOk up (I1.hok.fresh up)
theorem walk_enumS {x : Str} : Walk (IteS x) x.cps.size (fun _ => True) (fun i H v H' => ∃ (T : Addr) (c : Nat), v = .ref T ∧ H T = none ∧ H' = upd H T (.tup [.int (i : Nat), .str ⟨#[c]⟩]) ∧ x.cps[i]? = some c) :=
  ⟨fun i H hi _ => hi, fun H _ => rfl, fun i H v H' _ _ h => h⟩
end Sq

set_option Elab.async false
set_option linter.all false
set_option maxRecDepth 100000
set_option maxHeartbeats 4000000
/-! Code that keeps one cell and may use what stands in it: expressions, tests, statements. -/
namespace Sq
open PySem PySem.Spec PyProof.Rows L2 GenW
/-- the cell is kept, and n tokens were given out -/
def Kn2 (c : Addr) (n : Nat) (s s' : Shared) : Prop := Kc c s s' ∧ n ≤ s'.toks
theorem Kn2.trans {c : Addr} {n : Nat} {s s1 s2 : Shared} (a : Kn2 c n s s1) (b : Kn2 c n s1 s2) : Kn2 c n s s2 := ⟨a.1.trans b.1, b.2⟩
structure JK (X : Cx) (c : Addr) (u0 : Value) (n : Nat) (e : Expr) (t : TE) : Prop where
  run : ∀ (pins : List (Addr × Obj)) (s : Shared) (σ : L2.St) (H : Hp) (Q : VK), Inv X pins σ H s → n ≤ s.toks → s.heap.IsCell c (some u0) → t σ H Q → wpAny (model X.prog X.w) X.A (eval e X.env) (fun u s' => Kn2 c n s s' ∧ EP X pins σ Q u s') X.xe s
structure JKA (X : Cx) (c : Addr) (u0 : Value) (n : Nat) (es : List Expr) (t : TA) : Prop where
  run : ∀ (pos : Pos) (pins : List (Addr × Obj)) (s : Shared) (σ : L2.St) (H : Hp) (Q : List V → Hp → Prop), Inv X pins σ H s → n ≤ s.toks → s.heap.IsCell c (some u0) → t σ H Q → wpAny (model X.prog X.w) X.A (spliced (backTo pos (starEach es X.env))) (fun us s' => Kn2 c n s s' ∧ AP X pins σ Q us s') X.xe s
structure JKT (X : Cx) (c : Addr) (u0 : Value) (n : Nat) (e : Expr) (t : TT) : Prop where
  run : ∀ (pins : List (Addr × Obj)) (s : Shared) (σ : L2.St) (H : Hp) (Q : Bool → Hp → Prop), Inv X pins σ H s → n ≤ s.toks → s.heap.IsCell c (some u0) → t σ H Q → wpAny (model X.prog X.w) X.A (isTrue e X.env (eval e X.env)) (fun b s' => Kn2 c n s s' ∧ TP X pins σ Q b s') X.xe s
structure JKS (X : Cx) (c : Addr) (u0 : Value) (n : Nat) (st : Stmt) (t : TS) : Prop where
  run : ∀ (pins : List (Addr × Obj)) (s : Shared) (σ : L2.St) (H : Hp) (D : Ends), Inv X pins σ H s → n ≤ s.toks → s.heap.IsCell c (some u0) → t D σ H → wpAny (model X.prog X.w) X.A (exec st X.env) (fun f s' => Kn2 c n s s' ∧ SP X pins D f s') X.xe s
structure JKs (X : Cx) (c : Addr) (u0 : Value) (n : Nat) (sts : List Stmt) (t : TS) : Prop where
  run : ∀ (pins : List (Addr × Obj)) (s : Shared) (σ : L2.St) (H : Hp) (D : Ends), Inv X pins σ H s → n ≤ s.toks → s.heap.IsCell c (some u0) → t D σ H → wpAny (model X.prog X.w) X.A (execs sts X.env) (fun f s' => Kn2 c n s s' ∧ SP X pins D f s') X.xe s
section
variable {X : Cx} {c : Addr} {u0 : Value} {n : Nat} {x y : Str} {p pos : Pos} {e e2 : Expr} {es : List Expr} {te tf : TE} {t : TA} {st : Stmt} {rest a b : List Stmt} {ts tr : TS} {tt : TT}
theorem jk_of (h : JE X c e te) : JK X c u0 n e te :=
  ⟨fun pins s σ H Q I hn _ q => wpAny_mono (PySem.wpAny_toks_of hn (h.run pins s σ H Q I q)) (fun _ _ z => ⟨⟨z.2.1, z.1⟩, z.2.2⟩) fun _ _ z => z.2⟩
theorem jks_of (h : JSt X c st ts) : JKS X c u0 n st ts :=
  ⟨fun pins s σ H D I hn _ q => wpAny_mono (PySem.wpAny_toks_of hn (h.run pins s σ H D I q)) (fun _ _ z => ⟨⟨z.2.1, z.1⟩, z.2.2⟩) fun _ _ z => z.2⟩
theorem jka_nil : JKA X c u0 n [] tNil := ⟨fun pos pins s σ H Q I hn _ h => Calls.spliced_nil ⟨⟨Kc.refl, hn⟩, [], H, I, .nil, h⟩⟩
theorem jka_cons (ha : JK X c u0 n e te) (hr : JKA X c u0 n es t) (hs : starEach (e :: es) X.env = (false, eval e X.env) :: starEach es X.env := by rfl) : JKA X c u0 n (e :: es) (tCons te t) := by
  refine ⟨fun pos pins s σ H Q I hn hc h => ?_⟩
  rw [hs]
  show wpAny _ _ (spliced ((false, eval e X.env) :: backTo pos (starEach es X.env))) _ _ s
  refine Calls.spliced_cons (thn (ha.run pins s σ H _ I hn hc h) fun u s1 hh => ?_)
  obtain ⟨g1, x, H1, I1, r1, q1⟩ := hh
  exact thn (hr.run pos pins s1 σ H1 _ I1 g1.2 (g1.1.cell hc) q1) fun us s2 ⟨g2, xs, H2, I2, r2, q2⟩ => ⟨g1.trans g2, x :: xs, H2, I2, .cons r1 r2, q2⟩
/-- [e, ..] -/
theorem jk_lst {ta : TA} (h : JKA X c u0 n es ta) : JK X c u0 n (.List es pos) (tLst ta) := by
  refine ⟨fun pins s σ H Q I hn hc hq => ?_⟩
  refine wpAny_List_spliced (thn (h.run pos pins s σ H _ I hn hc hq) fun us s1 hh => ?_)
  obtain ⟨g1, xs, H1, I1, r, z, q⟩ := hh
  refine ⟨by rw [← r.length]; exact z, g1.trans ⟨fun o e => Heap.get?_push_of_some _ e, g1.2⟩, .ref s1.heap.objs.size, upd H1 s1.heap.objs.size (.lst xs), I1.laid (t' := s1.toks) (fun b u e => Heap.get?_push_of_some _ e) (Nat.le_refl _) ?_, rfl, q _ (I1.hok.fresh (Nat.le_refl _))⟩
  exact ⟨z, us, 0, r, Heap.get?_push_size _ rfl⟩
/-- an operator of which only the kept cell is to be told -/
def OpJ (X : Cx) (c : Addr) (op : Value → Value → Sem Value) (r : R2) : Prop :=
  ∀ (pins : List (Addr × Obj)) (s : Shared) (σ : L2.St) (H : Hp) (x y : V) (v u : Value) (Q : VK), Inv X pins σ H s → RelV x v → RelV y u → r x y H Q → wpAny (model X.prog X.w) X.A (op v u) (fun w s' => Kc c s s' ∧ EP X pins σ Q w s') X.xe s
theorem jk_op {op : Operator} {r : R2} (ho : OpJ X c (binaryOp op) r) (ha : JK X c u0 n e te) (hb : JK X c u0 n e2 tf) : JK X c u0 n (.BinOp e op e2 pos) (tOp r te tf) := by
  refine ⟨fun pins s σ H Q I hn hc h => ?_⟩
  refine wpAny_BinOp (thn (ha.run pins s σ H _ I hn hc h) fun v s1 hh => ?_)
  obtain ⟨g1, a, H1, I1, r1, q1⟩ := hh
  refine thn (hb.run pins s1 σ H1 _ I1 g1.2 (g1.1.cell hc) q1) fun u s2 hh => ?_
  obtain ⟨g2, b, H2, I2, r2, q2⟩ := hh
  refine wpAny_mono (PySem.wpAny_toks_of g2.2 (ho pins s2 σ H2 a b v u Q I2 r1 r2 q2)) (fun _ _ z => ?_) fun _ _ z => z.2
  exact ⟨(g1.trans g2).trans ⟨z.2.1, z.1⟩, z.2.2⟩
theorem oj_add : OpJ X c (binaryOp .Add) (rI0 fun i j => .int (i + j)) := by
  intro pins s σ H x y v u Q I rx ry h
  obtain ⟨i, j, rfl, rfl, q⟩ := h
  obtain ⟨t1, rfl⟩ := rx
  obtain ⟨t2, rfl⟩ := ry
  exact add_int ⟨Kc.refl, .int (i + j), H, I.tok _, ⟨_, rfl⟩, q⟩
/-! ### statements -/
theorem jks_nil : JKs X c u0 n [] tNext := ⟨fun _ _ σ H _ I hn _ h => wpAny_execs_nil ⟨⟨Kc.refl, hn⟩, σ, H, I, h⟩⟩
theorem jks_cons (h1 : JKS X c u0 n st ts) (h2 : JKs X c u0 n rest tr) : JKs X c u0 n (st :: rest) (tSeq ts tr) := by
  refine ⟨fun pins s σ H D I hn hc h => ?_⟩
  refine wpAny_execs_cons (thn (h1.run pins s σ H { D with nx := tr D } I hn hc h) fun f s1 hh => ?_)
  obtain ⟨g1, q⟩ := hh
  match f, q with
  | .next, ⟨σ', H', I', q⟩ => exact thn (h2.run pins s1 σ' H' D I' g1.2 (g1.1.cell hc) q) fun f2 s2 ⟨g2, q2⟩ => ⟨g1.trans g2, q2⟩
  | .ret v, q => exact ⟨g1, q⟩
  | .brk, q => exact ⟨g1, q⟩
  | .cont, q => exact ⟨g1, q⟩
theorem jks_one (h1 : JKS X c u0 n st ts) : JKs X c u0 n [st] ts := by
  refine ⟨fun pins s σ H D I hn hc h => ?_⟩
  refine wpAny_execs_cons (thn (h1.run pins s σ H D I hn hc h) fun f s1 hh => ?_)
  obtain ⟨g1, q⟩ := hh
  match f, q with
  | .next, q => exact wpAny_execs_nil ⟨g1, q⟩
  | .ret v, q => exact ⟨g1, q⟩
  | .brk, q => exact ⟨g1, q⟩
  | .cont, q => exact ⟨g1, q⟩
theorem jks_if {ce : Expr} (hc0 : JKT X c u0 n ce tt) (ha : JKs X c u0 n a ts) (hb : JKs X c u0 n b tr) : JKS X c u0 n (.If ce a b pos) (tIfS tt ts tr) := by
  refine ⟨fun pins s σ H D I hn hc h => ?_⟩
  refine wpAny_If (thn (hc0.run pins s σ H _ I hn hc h) fun d s1 hh => ?_)
  obtain ⟨g1, H1, I1, q1⟩ := hh
  cases d with
  | true => exact thn (ha.run pins s1 σ H1 D I1 g1.2 (g1.1.cell hc) q1) fun f2 s2 ⟨g2, q2⟩ => ⟨g1.trans g2, q2⟩
  | false => exact thn (hb.run pins s1 σ H1 D I1 g1.2 (g1.1.cell hc) q1) fun f2 s2 ⟨g2, q2⟩ => ⟨g1.trans g2, q2⟩
theorem jks_set {i : Nat} {pos' : Pos} (C : Cel X y c) (ne : x ≠ y) (hN : X.N.Nodup) (hi : X.N[i]? = some x) (hx : Loc X.env.scope x) (he : JK X c u0 n e te) (hs : swapsWith e (some (.Name x pos')) pos.line X.env = pure false := by rfl) (hf : X.fn x = true ∨ X.env.scope.names.lookup x = some .local := by first | exact .inl rfl | exact .inr rfl | assumption) :
    JKS X c u0 n (.Assign [.Name x pos'] e pos) (tAsg te (gName i)) := by
  refine ⟨fun pins s σ H D I hn hc h => ?_⟩
  refine wpAny_Assign_Name (thn (he.run pins s σ H _ I hn hc h) fun v s1 hh => ?_) hs
  obtain ⟨g1, z, H1, I1, r1, q1⟩ := hh
  refine wpAny_mono (PySem.wpAny_toks_of g1.2 (store_ok2 (E := X.xe) (Q := fun _ s2 => Kc c s1 s2 ∧ ∃ σ' H', Inv X pins σ' H' s2 ∧ D.nx σ' H') I1 hN hi hx r1 (fun s2 I2 hh => ?_) hf)) (fun _ _ z => ⟨g1.trans ⟨z.2.1, z.1⟩, z.2.2⟩) fun _ _ z => z.2
  obtain ⟨a, sb, ha⟩ := hh
  have ca : c ≠ a := fun z => by
    rcases ha with ha | ha
    · exact I1.cne _ _ C.is (z.trans ha)
    · rw [← z] at ha
      exact ne (I1.ok.inj _ _ _ ha C.is)
  exact ⟨fun o e => (sb.2 c ca).trans e, _, H1, I2, q1⟩
end
end Sq

set_option Elab.async false
set_option linter.all false
set_option maxRecDepth 100000
set_option maxHeartbeats 4000000
/-! Calls of a def whose promise needs one argument's token. -/
namespace Sq
open PySem PySem.Spec PyProof.Rows L2 GenW
/-- arguments of which the j-th, if it is a text of one sign, has a token that was given out -/
structure JKX (X : Cx) (c : Addr) (u0 : Value) (n j : Nat) (es : List Expr) (t : TA) : Prop where
  run : ∀ (pos : Pos) (pins : List (Addr × Obj)) (s : Shared) (σ : L2.St) (H : Hp) (Q : List V → Hp → Prop), Inv X pins σ H s → n ≤ s.toks → s.heap.IsCell c (some u0) → t σ H Q → wpAny (model X.prog X.w) X.A (spliced (backTo pos (starEach es X.env))) (fun us s' => (Kn2 c n s s' ∧ Tkn j us s'.toks) ∧ AP X pins σ Q us s') X.xe s
structure DfT (P : Program) (w : World) (K : PySem.W.Frag) (mg : Str → Option Value) (base : Heap) (k : Nat) (x : Str) (ps : List Str) (j : Nat) (sp : Sp) : Prop where
  ex : ∃ f fd, FnT P w K mg base k f fd ps j sp ∧ mg x = some (.ref f) ∧ PySem.W.keepIn K (.ref f) = true ∧ Binds K fd ps []
section
variable {X : Cx} {c : Addr} {u0 : Value} {n j : Nat} {x y : Str} {p pos : Pos} {e : Expr} {es : List Expr} {te : TE} {t : TA} {pins : List (Addr × Obj)} {σ : L2.St} {H : Hp} {s : Shared}
/-- the cell's own name -/
theorem jkx_name {i : Nat} (hN : X.N[i]? = some y) (hv : Vis X.env.scope y) (hk : X.env.kindOf y = some .cell) (C : Cel X y c) (good : Tkn 0 [u0] n) (hr : JKA X c u0 n es t) (hs : starEach (.Name y p :: es) X.env = (false, eval (.Name y p) X.env) :: starEach es X.env := by rfl) (hd : (y == ("__debug__" : Str)) = false := by decide) :
    JKX X c u0 n 0 (.Name y p :: es) (tCons (tVar i) t) := by
  refine ⟨fun pos pins s σ H Q I hn hc h => ?_⟩
  rw [hs]
  show wpAny _ _ (spliced ((false, eval (.Name y p) X.env) :: backTo pos (starEach es X.env))) _ _ s
  refine Calls.spliced_cons (raw_cell I hk C.is hc ?_ hd)
  obtain ⟨v, e, q⟩ := h
  -- what the slot holds is what stands in the cell
  obtain ⟨m, hns, look⟩ := I.loc
  obtain ⟨u, r, l⟩ := look i y v hN e hv
  have eu : u = u0 := by
    rcases l with ⟨k1, _⟩ | ⟨_, c1, e1, cell1⟩
    · rw [hk] at k1
      cases k1
    · rw [C.is] at e1
      obtain rfl : c = c1 := Option.some.inj e1
      obtain ⟨o1, g1, d1⟩ := hc
      obtain ⟨o2, g2, d2⟩ := cell1
      rw [g1] at g2
      obtain rfl : o1 = o2 := Option.some.inj g2
      rw [d1] at d2
      injection d2 with d2
      exact (Option.some.inj d2).symm
  rw [eu] at r
  refine thn (hr.run pos pins s σ H _ I hn hc q) fun us s2 hh => ?_
  obtain ⟨g2, xs, H2, I2, r2, q2⟩ := hh
  refine ⟨⟨g2, fun b tk eb one => ?_⟩, v :: xs, H2, I2, .cons r r2, q2⟩
  have g := good b tk eb one
  exact ⟨g.1, Nat.lt_of_lt_of_le g.2 g2.2⟩
/-- a written text -/
theorem jkx_str {z : Str} {k : Nat} (h1 : 1 ≤ n) (hr : JKA X c u0 n es t) (hs : starEach (.Constant (.str z) k p :: es) X.env = (false, eval (.Constant (.str z) k p) X.env) :: starEach es X.env := by rfl) : JKX X c u0 n 0 (.Constant (.str z) k p :: es) (tCons (tC (.str z)) t) := by
  refine ⟨fun pos pins s σ H Q I hn hc h => ?_⟩
  rw [hs]
  show wpAny _ _ (spliced ((false, eval (.Constant (.str z) k p) X.env) :: backTo pos (starEach es X.env))) _ _ s
  refine Calls.spliced_cons (Calls.Constant_str ?_)
  have up : n ≤ s.toks + 1 := Nat.le_trans hn (Nat.le_add_right _ _)
  refine wpAny_mono (PySem.wpAny_toks (hr.run pos pins { s with toks := s.toks + 1 } σ H _ (I.tok _) up hc h)) (fun us s2 hh => ?_) fun _ _ z => z.2
  obtain ⟨hk, g2, xs, H2, I2, r2, q2⟩ := hh
  refine ⟨⟨⟨g2.1, g2.2⟩, fun b tk eb one => ?_⟩, .str z :: xs, H2, I2, .cons ⟨_, rfl⟩ r2, q2⟩
  have e2 : Value.str z s.toks = .str b tk := Option.some.inj eb
  injection e2 with _ e3
  subst e3
  exact ⟨Nat.ne_of_gt (Nat.lt_of_lt_of_le (Nat.lt_of_lt_of_le Nat.zero_lt_one h1) hn), hk⟩
theorem jkx_skip (ha : JK X c u0 n e te) (hr : JKX X c u0 n j es t) (hs : starEach (e :: es) X.env = (false, eval e X.env) :: starEach es X.env := by rfl) : JKX X c u0 n (j + 1) (e :: es) (tCons te t) := by
  refine ⟨fun pos pins s σ H Q I hn hc h => ?_⟩
  rw [hs]
  show wpAny _ _ (spliced ((false, eval e X.env) :: backTo pos (starEach es X.env))) _ _ s
  refine Calls.spliced_cons (thn (ha.run pins s σ H _ I hn hc h) fun u s1 hh => ?_)
  obtain ⟨g1, v, H1, I1, r1, q1⟩ := hh
  exact thn (hr.run pos pins s1 σ H1 _ I1 g1.2 (g1.1.cell hc) q1) fun us s2 ⟨⟨g2, tk⟩, xs, H2, I2, r2, q2⟩ => ⟨⟨g1.trans g2, tk⟩, v :: xs, H2, I2, .cons r1 r2, q2⟩
/-- f(..) -/
theorem jk_callT {k : Nat} {ps : List Str} {sp : Sp} (C : Cel X y c) (D : DfT X.prog X.w X.K X.mg X.base k x ps j sp) (hr : Room k X.A) (hg : Gl X x) (ha : JKX X c u0 n j (e :: es) t) (hdb : (x == ("__debug__" : Str)) = false := by decide)
    (he : starEach (e :: es) X.env = (false, eval e X.env) :: starEach es X.env := by rfl) (hpl : (backTo pos (starEach es X.env)).any (·.1) = false := by rfl) : JK X c u0 n (.Call (.Name x p) (e :: es) [] pos) (tCall sp [] E0 t) := by
  obtain ⟨f, fd, F, g, kp, b⟩ := D.ex
  refine ⟨fun pins s σ H Q I hn hc h => ?_⟩
  refine wpAny_Call_Name_kw (ld_glob I hg g ?_ hdb)
  refine PySem.W.callWith_K (h₀ := X.base) I.ok.mod.kin kp (thn (ha.run pos pins s σ H _ I hn hc h) fun us s1 hh => ?_) he hpl
  obtain ⟨⟨g1, tk⟩, vs, H1, I1, r, q⟩ := hh
  refine ⟨I1.kIn, ?_⟩
  rw [List.append_nil] at q
  have hl : us.length = ps.length := by rw [← r.length]; exact F.len _ _ _ _ q
  have bind := b s1 us I1.kIn (by rw [List.append_nil]; exact hl)
  rw [List.append_nil] at bind
  have called : wpAny (model X.prog X.w) X.A (call (.ref f) us) (fun u s' => Kc c s1 s' ∧ EP X pins σ Q u s') X.xe s1 := by
    refine wpAny_call (codeAny_mono (F.run X.A X.stack s1 H1 ⟨us, []⟩ us vs Q hr I1.env0 bind r tk q) fun r s' hq => ?_)
    match r, hq with
    | .ok (.ret u), hq =>
      have ce : CE X.stack X.prog X.w H1 s1 Q u s' := hq
      obtain ⟨_, _, _, _, un, _⟩ := id ce
      exact ⟨C.un I1 un, I1.after ce⟩
  exact wpAny_mono (PySem.wpAny_toks_of g1.2 called) (fun u s' z => ⟨g1.trans ⟨z.2.1, z.1⟩, z.2.2⟩) fun _ _ z => z.2
end
end Sq

set_option Elab.async false
set_option linter.all false
set_option maxRecDepth 100000
set_option maxHeartbeats 4000000
/-! More code that keeps one cell: lists compared, repr, an item of a list, tests. -/
namespace Sq
open PySem PySem.Spec PyProof.Rows L2 GenW
section
variable {X : Cx} {c : Addr} {u0 : Value} {n : Nat} {x y : Str} {p pos : Pos} {e e2 : Expr} {es : List Expr} {te tf : TE} {t : TA}
theorem oj_neD (hu : X.A.units + 64 < cLine) : OpJ X c (compareOp .NotEq) (rNeD X.K) := by
  intro pins s σ H x y v u Q I rx ry h
  obtain ⟨d, e, hd, he, sd, se, q⟩ := h
  obtain ⟨as, r1⟩ := Dp.reads I d x v hd rx
  obtain ⟨bs, r2⟩ := Dp.reads I e y u he ry
  exact SeqAt.compareNe_shaped r1 r2 sd se hu ⟨Kc.refl, .bl _, H, I, rfl, q⟩
/-- two texts -/
def rNeT : R2 := fun x y H Q => ∃ a b : Str, x = .str a ∧ y = .str b ∧ Q (.bl (!decide (V.str a = V.str b))) H
theorem cj_reprD (hg : X.A.guards = some []) (hu : X.A.units + 64 < cLine) : CallJ X c (.builtin "repr") (rReprD X.K) := by
  intro pins s σ H xs us Q I r h
  obtain ⟨a, d, rfl, hd, sh, nd, dep, sz, q⟩ := h
  obtain ⟨u, rfl, rv⟩ := vals1 r
  obtain rfl : u = Value.ref a := rv
  obtain ⟨as, rd⟩ := Dp.reads I d _ _ hd (show RelV (.ref a) (.ref a) from rfl)
  refine repr_of_reads' rd sh (by rw [nd]; exact fun z => nomatch z) hg (by omega) (fun b o e => e) (fun h' u tk keep => ?_) sz
  exact ⟨fun o e => keep _ _ e, .str _, H, I.kept keep, ⟨_, rfl⟩, q⟩
theorem cj_lenK : CallJ X c (.builtin "len") (rLenK X.K) := by
  intro pins s σ H xs us Q I r h
  obtain ⟨p, ys, rfl, hq, q⟩ := h
  obtain ⟨u, rfl, rx⟩ := vals1 r
  cases rx
  have hn := line63
  rcases hq with hq | hq
  · obtain ⟨its, r', pl, hz⟩ := I.list hq
    have hlen := r'.length
    exact Calls.call_len_list pl.isList (by simp only [List.size_toArray] <;> omega) ⟨Kc.refl, .int ys.length, H, I.tok _, ⟨s.toks + 1, by rw [List.size_toArray, hlen]⟩, q⟩
  · obtain ⟨its, r', pl, hz⟩ := I.tuple hq
    have hlen := r'.length
    exact len_tuple pl (by simp only [List.size_toArray] <;> omega) ⟨Kc.refl, .int ys.length, H, I.tok _, ⟨s.toks + 1, by rw [List.size_toArray, hlen]⟩, q⟩
theorem jk_callB {id : String} {r : List V → Hp → VK → Prop} (hj : CallJ X c (.builtin id) r) (hg : Gl X x) (hm : X.mg x = none) (hv : bootBuiltins x = some (.builtin id)) (ha : JKA X c u0 n (e :: es) t) (hn : x ≠ "__name__" := by decide) (hdb : (x == ("__debug__" : Str)) = false := by decide)
    (he : starEach (e :: es) X.env = (false, eval e X.env) :: starEach es X.env := by rfl) (hpl : (backTo pos (starEach es X.env)).any (·.1) = false := by rfl) : JK X c u0 n (.Call (.Name x p) (e :: es) [] pos) (tCB r t) := by
  refine ⟨fun pins s σ H Q I hk hc h => ?_⟩
  refine wpAny_Call_Name_kw (ld_blt I hg hm hv ?_ hn hdb)
  refine PyProof.Rows.callWith_builtin1 (thn (ha.run pos pins s σ H _ I hk hc h) fun us s1 hh => ?_) he hpl
  obtain ⟨g1, vs, H1, I1, r1, q1⟩ := hh
  exact wpAny_mono (PySem.wpAny_toks_of g1.2 (hj pins s1 σ H1 vs us Q I1 r1 q1)) (fun u s' z => ⟨g1.trans ⟨z.2.1, z.1⟩, z.2.2⟩) fun _ _ z => z.2
theorem jk_callD {k : Nat} {ps : List Str} {sp : Sp} (C : Cel X y c) (D : Df X.prog X.w X.K X.mg X.base k x ps sp) (hr : Room k X.A) (hg : Gl X x) (ha : JKA X c u0 n (e :: es) t) (hdb : (x == ("__debug__" : Str)) = false := by decide)
    (he : starEach (e :: es) X.env = (false, eval e X.env) :: starEach es X.env := by rfl) (hpl : (backTo pos (starEach es X.env)).any (·.1) = false := by rfl) : JK X c u0 n (.Call (.Name x p) (e :: es) [] pos) (tCall sp [] E0 t) := by
  obtain ⟨f, fd, F, g, kp, b⟩ := D.ex
  refine ⟨fun pins s σ H Q I hk hc h => ?_⟩
  refine wpAny_Call_Name_kw (ld_glob I hg g ?_ hdb)
  refine PySem.W.callWith_K (h₀ := X.base) I.ok.mod.kin kp (thn (ha.run pos pins s σ H _ I hk hc h) fun us s1 hh => ?_) he hpl
  obtain ⟨g1, vs, H1, I1, r, q⟩ := hh
  refine ⟨I1.kIn, ?_⟩
  have called := run_fnJ (dvs := []) (ds := []) C F hr b .nil pass0 I1 r q
  exact wpAny_mono (PySem.wpAny_toks_of g1.2 called) (fun u s' z => ⟨g1.trans ⟨z.2.1, z.1⟩, z.2.2⟩) fun _ _ z => z.2
/-- l[i], i not negative -/
def rIxP (K : PySem.W.Frag) : R2 := fun x y H Q => ∃ (p : Addr) (xs : List V) (i : Nat) (v : V), x = .ref p ∧ y = .int (i : Int) ∧ SqL K H p xs ∧ xs[i]? = some v ∧ Q v H
theorem jk_ixP (ha : JK X c u0 n e te) (hb : JK X c u0 n e2 tf) (hs : PlainIx e2) : JK X c u0 n (.Subscript e e2 pos) (tOp (rIxP X.K) te tf) := by
  refine ⟨fun pins s σ H Q I hn hc h => ?_⟩
  refine Subscript_ (thn (ha.run pins s σ H _ I hn hc h) fun v s1 hh => ?_)
  obtain ⟨g1, a, H1, I1, r1, q1⟩ := hh
  refine thn (hb.run pins s1 σ H1 _ I1 g1.2 (g1.1.cell hc) q1) fun u s2 hh => ?_
  obtain ⟨g2, b, H2, I2, r2, l, xs, i, z, rfl, rfl, hq, hz, q⟩ := hh
  cases r1
  obtain ⟨tk, rfl⟩ := r2
  obtain ⟨its, r, pl, few⟩ := I2.list hq
  obtain ⟨w, ew, rw'⟩ := r.get hz
  have il : i < xs.length := (List.getElem?_eq_some_iff.mp hz).1
  have hl := r.length
  have line := line63
  refine item_listR pl.isList (Int.natCast_nonneg i) (by omega) (x := w) (by simpa using ew) ⟨g1.trans g2, z, H2, I2, rw', q⟩ (hs _ _)
/-! ### tests -/
theorem jkt_cmp {op : CmpOp} {r : R2} (ho : OpJ X c (compareOp op) r) (ha : JK X c u0 n e te) (hb : JK X c u0 n e2 tf) (hm : behindInMarks op e2 = false) : JKT X c u0 n (.Compare e [op] [e2] pos) (tTest (tOp r te tf)) := by
  refine ⟨fun pins s σ H Q I hn hc h => ?_⟩
  refine wpAny_isTrue_Compare1 (thn (ha.run pins s σ H _ I hn hc h) fun v s1 hh => ?_) hm
  obtain ⟨g1, a, H1, I1, r1, q1⟩ := hh
  refine thn (hb.run pins s1 σ H1 _ I1 g1.2 (g1.1.cell hc) q1) fun u s2 hh => ?_
  obtain ⟨g2, b, H2, I2, r2, q2⟩ := hh
  refine wpAny_mono (PySem.wpAny_toks_of g2.2 (ho pins s2 σ H2 a b v u _ I2 r1 r2 q2)) (fun w s3 z => ?_) fun _ _ z => z.2
  obtain ⟨t3, k3, b3, H3, I3, r3, k, e3, q3⟩ := z
  subst e3
  cases r3
  exact wpAny_truthy_bool ⟨(g1.trans g2).trans ⟨k3, t3⟩, H3, I3, q3⟩
end
end Sq

set_option Elab.async false
set_option linter.all false
set_option maxRecDepth 100000
set_option maxHeartbeats 4000000
/-! A name that is a cell is stored: what stands in the cell is known from then on. -/
namespace Sq
open PySem PySem.Spec PyProof.Rows L2 GenW
section
variable {X : Cx} {c : Addr} {n : Nat} {x : Str} {p pos : Pos} {e : Expr} {te : TE} {pins : List (Addr × Obj)} {σ : L2.St} {H : Hp} {s : Shared} {rest : List Stmt} {tr : TS}
theorem store_cellS {M : Model} {A : Around} {E : Value → Shared → Prop} {i : Nat} {v : V} {u : Value} {Q : Unit → Shared → Prop} (I : Inv X pins σ H s) (hN : X.N.Nodup) (hi : X.N[i]? = some x) (hk : X.env.kindOf x = some .cell) (C : Cel X x c) (r : RelV v u)
    (h : ∀ h', Inv X pins (σ.set i (some v)) H { s with heap := h' } → h'.IsCell c (some u) → Heap.SameBut c s.heap h' → Q () { s with heap := h' }) : wpAny M A (storeName X.env x u) Q E s := by
  obtain ⟨m, hn, hl⟩ := id I.loc
  have hiσ : i < σ.length := by rw [I.len]; exact (List.getElem?_eq_some_iff.mp hi).1
  obtain ⟨w0, old⟩ := I.cell x c C.is
  refine wpAny_storeName_cell I.ok.kind hk C.is old fun h' new sb => h h' ?_ new sb
  obtain ⟨oc, hoc, hod⟩ := id old
  have above : ∀ b o, X.s_0.heap.get? b = some o → b ≠ c := fun b o e => Nat.ne_of_lt (Nat.lt_of_lt_of_le (Heap.lt_size e) (I.ok.cab x c C.own C.is))
  have freeC := I.freeC x c C.is
  have loc2 : ∀ (j : Nat) (z : Str) (v' : V), X.N[j]? = some z → (σ.set i (some v))[j]? = some (some v') → Vis X.env.scope z → ∃ u', RelV v' u' ∧ Look X.env h' m z u' := fun j z v' e1 e2 e3 => by
    by_cases hj : j = i
    · subst hj
      rw [hi] at e1
      cases e1
      rw [List.getElem?_set_self hiσ] at e2
      cases e2
      exact ⟨u, r, .inr ⟨.inl hk, c, C.is, new⟩⟩
    · rw [List.getElem?_set_ne (Ne.symm hj)] at e2
      obtain ⟨u', r', q⟩ := hl j z v' e1 e2 e3
      rcases q with q | ⟨k, c2, e4, z4⟩
      · exact ⟨u', r', .inl q⟩
      · have away : c2 ≠ c := fun y => by
          rw [y] at e4
          exact hj (nodup_ix hN e1 (I.ok.inj _ _ _ e4 C.is ▸ hi))
        exact ⟨u', r', .inr ⟨k, c2, e4, z4.sameBut sb away⟩⟩
  refine ⟨I.ok, I.os, I.bare, ⟨fun b o e n hb hx => (sb.2 b (above b o e)).trans (I.base.keep b o e n hb hx), fun b o e n hb hx => ?_, I.base.free, fun b o e hx => ?_, I.base.tups, I.base.frzs, I.base.tbls⟩, ⟨m, hn.sameBut sb (Ne.symm (I.cne x c C.is)), loc2⟩, fun z c2 e => ?_, I.free, I.freeC, fun p hp => ?_, fun b ob e => ?_, by simpa using I.len⟩
  · obtain ⟨sl, e1⟩ := I.base.slot b o e n hb hx
    exact ⟨sl, (sb.2 b (above b o e)).trans e1⟩
  · obtain ⟨o2, e1⟩ := I.base.there b o e hx
    exact ⟨o2, (sb.2 b (above b o e)).trans e1⟩
  · by_cases y : c2 = c
    · rw [y]
      exact ⟨_, new⟩
    · obtain ⟨w2, z2⟩ := I.cell z c2 e
      exact ⟨w2, z2.sameBut sb y⟩
  · obtain ⟨e1, n1, ne1, nf1, d1⟩ := I.pin p hp
    have away : p.1 ≠ c := fun y => by
      rw [y, hoc] at e1
      exact d1 w0 (by rw [← Option.some.inj e1]; exact hod)
    exact ⟨(sb.2 p.1 away).trans e1, n1, ne1, nf1, d1⟩
  · refine (I.hok b ob e).stay (fun b2 w2 hb2 q => (sb.2 b2 fun y => ?_).trans q) (fun _ q => q) fun _ _ q => q
    rw [y, freeC] at hb2
    rcases hb2 with z | z
    · rw [← z, freeC] at e
      cases e
    · cases z
theorem store_cellJ {M : Model} {A : Around} {E : Value → Shared → Prop} {i : Nat} {v : V} {u : Value} {Q : Unit → Shared → Prop} (I : Inv X pins σ H s) (hN : X.N.Nodup) (hi : X.N[i]? = some x) (hk : X.env.kindOf x = some .cell) (C : Cel X x c) (r : RelV v u)
    (h : ∀ h', Inv X pins (σ.set i (some v)) H { s with heap := h' } → h'.IsCell c (some u) → Q () { s with heap := h' }) : wpAny M A (storeName X.env x u) Q E s :=
  store_cellS I hN hi hk C r fun h' I' z _ => h h' I' z
/-- name = 'text'[e]: the sign has a new token, and the rest knows it -/
def tIxC (z : Str) (te : TE) : TE := fun σ H Q => te σ H fun y H1 => ∃ (i : Nat) (ch : Nat), y = .int (i : Int) ∧ z.length ≤ sizeLine ∧ z.cps.toList[i]? = some ch ∧ Q (.str ⟨#[ch]⟩) H1
theorem pss_sign {i k : Nat} {z : Str} {p1 p2 p' : Pos} (hN : X.N.Nodup) (hi : X.N[i]? = some x) (hk : X.env.kindOf x = some .cell) (C : Cel X x c) (he : PE X e te) (hix : PlainIx e)
    (hrest : ∀ (ch tb n : Nat), tb ≠ 0 → tb < n → JKs X c (.str ⟨#[ch]⟩ tb) n rest tr) (hs : swapsWith (.Subscript (.Constant (.str z) k p1) e p2) (some (.Name x p')) pos.line X.env = pure false := by rfl) :
    PSs X (.Assign [.Name x p'] (.Subscript (.Constant (.str z) k p1) e p2) pos :: rest) (tSeq (tAsg (tIxC z te) (gName i)) tr) := by
  refine ⟨fun pins s σ H D I h => ?_⟩
  refine wpAny_execs_cons (wpAny_Assign_Name (Subscript_ (Calls.Constant_str ?_)) hs)
  refine wpAny_mono (PySem.wpAny_toks (he.run pins _ σ H _ (I.tok (s.toks + 1)) h)) (fun v s1 hh => ?_) fun _ _ z => z.2
  obtain ⟨up, y, H1, I1, r1, j, ch, rfl, few, at1, q⟩ := hh
  obtain ⟨tk, rfl⟩ := r1
  have jl : j < z.length := (List.getElem?_eq_some_iff.mp at1).1
  have szl : sizeLine = 16777216 := sizeLine_eq
  refine tail_any (typeIs_str s1 z s.toks) slot_str_getitem.lookup (getItem_str (c := ch) (by
    have e1 : decide ((j : Int) < -(2 ^ 63 : Int)) = false := decide_eq_false (by omega)
    have e2 : decide ((j : Int) ≥ 2 ^ 63) = false := decide_eq_false (by omega)
    rw [e1, e2, Bool.or_false]) (by rw [seqIndex_of (Int.natCast_nonneg j) (by omega)]; simpa using at1) ?_) (hix _ _)
  refine store_cellJ (v := .str ⟨#[ch]⟩) (I1.tok _) hN hi hk C ⟨s1.toks, rfl⟩ fun h' I2 cell => ?_
  have t0 : s1.toks ≠ 0 := Nat.ne_of_gt (Nat.lt_of_lt_of_le (Nat.succ_pos s.toks) up)
  exact thn ((hrest ch s1.toks (s1.toks + 1) t0 (Nat.lt_succ_self _)).run pins _ _ H1 D I2 (Nat.le_refl _) cell q) fun f s3 z => z.2
end
end Sq

set_option Elab.async false
set_option linter.all false
set_option maxRecDepth 100000
set_option maxHeartbeats 4000000
/-! for over a list, one cell kept. -/
namespace Sq
open PySem PySem.Spec PyProof.Rows L2 GenW
section
variable {X : Cx} {c : Addr} {u0 : Value} {n : Nat} {x y : Str} {p pos : Pos} {e : Expr} {te : TE} {tb : TS} {body : List Stmt}
/-- a name is stored, the cell is kept -/
structure JG (X : Cx) (c : Addr) (tg : Expr) (t : TG) : Prop where
  run : ∀ (pins : List (Addr × Obj)) (s : Shared) (σ : L2.St) (H : Hp) (v : V) (u : Value) (Q : L2.St → Hp → Prop), Inv X pins σ H s → RelV v u → t v σ H Q → wpAny (model X.prog X.w) X.A (assign tg X.env u) (fun _ s' => Kc c s s' ∧ ∃ σ' H', Inv X pins σ' H' s' ∧ Q σ' H') X.xe s
theorem jg_name {i : Nat} (C : Cel X y c) (ne : x ≠ y) (hN : X.N.Nodup) (hi : X.N[i]? = some x) (hx : Loc X.env.scope x) (hf : X.fn x = true ∨ X.env.scope.names.lookup x = some .local := by first | exact .inl rfl | exact .inr rfl | assumption) : JG X c (.Name x pos) (gName i) := by
  refine ⟨fun pins s σ H v u Q I r h => wpAny_assign_Name (store_ok2 I hN hi hx r (fun s2 I2 hh => ?_) hf)⟩
  obtain ⟨a, sb, ha⟩ := hh
  have ca : c ≠ a := fun z => by
    rcases ha with ha | ha
    · exact I.cne _ _ C.is (z.trans ha)
    · rw [← z] at ha
      exact ne (I.ok.inj _ _ _ ha C.is)
  exact ⟨fun o e => (sb.2 c ca).trans e, _, H, I2, h⟩
def tForJ (K : PySem.W.Frag) (te : TE) (g : TG) (tb : TS) : TS := fun D σ H => te σ H fun v H1 => ∃ (a : Addr) (xs : List V), v = .ref a ∧ SqL K H1 a xs ∧ ∃ Pv : Nat → L2.St → Hp → Prop, Pv 0 σ H1 ∧ (∀ i σ H, Pv i σ H → SqL K H a xs) ∧
  (∀ (i : Nat) (z : V) (σ : L2.St) (H : Hp), xs[i]? = some z → Pv i σ H → g z σ H fun σ2 H2 => tb { nx := Pv (i + 1), ct := Pv (i + 1), bk := D.nx, rt := D.rt } σ2 H2) ∧ ∀ σ H, Pv xs.length σ H → D.nx σ H
theorem jks_for {op : Pos} {g : TG} (hcalm : X.calm = true) (own : PassesOwn (model X.prog X.w) X.A X.env X.xe) (C : Cel X y c) (he : JE X c e te) (hg : JG X c (.Name x op) g) (hb : JKs X c u0 n body tb)
    (hfs : ∀ z, foldedSetIterable e X.env z = pure z := by intro _; rfl) : JKS X c u0 n (.For (.Name x op) e body [] pos) (tForJ X.K te g tb) := by
  refine ⟨fun pins s σ H D I hn hc h => ?_⟩
  refine wpAny_mono (wpAny_For (Q := fun f s' => (Kc c s s' ∧ n ≤ s'.toks) ∧ SP X pins D f s') (wpAny_mono (PySem.wpAny_toks_of hn (he.run pins s σ H _ I h)) (fun v s1 hh => ?_) fun _ _ z => z.2) hfs) (fun _ _ z => z) fun _ _ z => z
  obtain ⟨n1, g1, w, H1, I1, r1, a, xs, ew, hq, Pv, p0, hl, turn, fin⟩ := hh
  subst ew
  obtain rfl : v = Value.ref a := r1
  obtain ⟨its, rv, pl, hz⟩ := I1.list hq
  refine wpAny_pyIter_list pl.isList ?_
  obtain ⟨it, eit⟩ : ∃ it, it = s1.heap.objs.size := ⟨_, rfl⟩
  rw [← eit]
  have kept : ∀ b o, s1.heap.get? b = some o → (s1.heap.push { cls := .type "list_iterator", data := .fields #[.ref a, .int 0 0] }).get? b = some o := fun b o e => Heap.get?_push_of_some _ e
  have fpk : FpOk X pins H1 it := I1.fpOk (Nat.le_of_eq eit.symm) (by rw [eit]; exact I1.hok.fresh (Nat.le_refl _))
  have cit : c ≠ it := fun z => fpk.2.2.2.2.1 _ _ C.is z
  refine codeAny_forLoop_any (fun m s' => ∃ i σ' H', m = xs.length - i ∧ i ≤ xs.length ∧ Kc c s s' ∧ n ≤ s'.toks ∧ Inv X pins σ' H' s' ∧ s'.heap.IsListIter it a i ∧ H' it = none ∧ Pv i σ' H') (fun m s' hs' => ?_) xs.length
    ⟨0, σ, H1, rfl, Nat.zero_le _, g1.trans fun o e => kept _ _ e, n1, I1.kept (t' := s1.toks) kept, by rw [eit]; exact ⟨_, Heap.get?_push_size _ rfl, rfl, rfl⟩, fpk.1, p0⟩
  obtain ⟨i, σ', H', rfl, hi, k2, n2, I2, st, free, pv⟩ := hs'
  obtain ⟨its2, rv2, pl2, hz2⟩ := I2.list (hl i σ' H' pv)
  have hlen := rv2.length
  have fpk2 : FpOk X pins H' it := ⟨free, fpk.2⟩
  by_cases lt : i < xs.length
  · obtain ⟨z, hz3⟩ : ∃ z, xs[i]? = some z := ⟨_, List.getElem?_eq_getElem lt⟩
    obtain ⟨u, hu, ru⟩ := rv2.get hz3
    refine wpAny_pyNext_list_item st pl2.isList (x := u) (by simpa using hu) fun h' st' sb => ?_
    obtain ⟨f0, f1, f2, f3, f4, f5⟩ := fpk2
    have I3 : Inv X pins σ' H' { s' with heap := h' } := I2.turned (t' := s'.toks) (fun b o hb e => (sb.2 b hb).trans e) f0 f1 f3 f4 f5
    obtain ⟨oi, eoi, ci, di⟩ := id st'
    have I4 := I3.pinned (fp := [it]) (fun b hb => by rw [List.mem_singleton.mp hb]; exact ⟨free, fpk.2⟩) (fun b hb => by
      rw [List.mem_singleton.mp hb]
      exact ⟨oi, eoi, fun v q => by rw [di] at q; cases q⟩)
    have k3 : Kc c s { s' with heap := h' } := k2.trans fun o e => (sb.2 c cit).trans e
    refine go_of (s := { s' with heap := h' }) eoi ci di (by decide) ?_
    refine wpAny_passesOwn own (wpAny_mono (PySem.wpAny_toks_of n2 (hg.run _ { s' with heap := h' } σ' H' z u _ I4 ru (turn i z σ' H' hz3 pv))) (fun _ s4 h4 => ?_) fun _ _ z => z.2)
    obtain ⟨n4, k4, σ4, H4, I5, q4⟩ := h4
    refine wpAny_passesOwn own (thn (hb.run _ s4 σ4 H4 _ I5 n4 ((k3.trans k4).cell hc) q4) fun fl s5 h5 => ?_)
    obtain ⟨g5, q5⟩ := h5
    have k5 : Kc c s s5 := (k3.trans k4).trans g5.1
    have again : ∀ σ5 H5, Inv X (pins ++ pinsAt [it] h') σ5 H5 s5 → Pv (i + 1) σ5 H5 → ∃ m, m < xs.length - i ∧ ∃ i' σ' H', m = xs.length - i' ∧ i' ≤ xs.length ∧ Kc c s s5 ∧ n ≤ s5.toks ∧ Inv X pins σ' H' s5 ∧ s5.heap.IsListIter it a i' ∧ H' it = none ∧ Pv i' σ' H' := fun σ5 H5 I6 pv5 => by
      have pi := I6.pin (it, oi) (List.mem_append_right _ (List.mem_append_right _ (mem_pinsAt (by simp) eoi)))
      exact ⟨xs.length - (i + 1), by omega, i + 1, σ5, H5, rfl, lt, k5, g5.2, I6.unpinned, ⟨oi, pi.1, ci, di⟩, pi.2.1, pv5⟩
    match fl, q5 with
    | .next, ⟨σ5, H5, I6, pv5⟩ => exact again σ5 H5 I6 pv5
    | .cont, ⟨σ5, H5, I6, pv5⟩ => exact again σ5 H5 I6 pv5
    | .brk, ⟨σ5, H5, I6, qd⟩ => exact ⟨⟨k5, g5.2⟩, σ5, H5, I6.unpinned, qd⟩
    | .ret v, ⟨x5, σ5, H5, I6, rv5, qd⟩ => exact ⟨⟨k5, g5.2⟩, x5, σ5, H5, I6.unpinned, rv5, qd⟩
  · obtain rfl : i = xs.length := by omega
    refine wpAny_pyNext_list_end (I2.ok.hd hcalm) st pl2.isList (by simp; omega) fun h2 eb => ?_
    obtain ⟨f0, f1, f2, f3, f4, f5⟩ := fpk2
    have I3 : Inv X pins σ' H' { s' with heap := h2 } := I2.turned (t' := s'.toks) (fun b o hb q => eb b o hb q) f0 f1 f3 f4 f5
    refine wpAny_execs_nil ⟨⟨fun o e => eb c o cit (k2 o e), n2⟩, σ', H', I3, fin σ' H' pv⟩
end
end Sq

set_option Elab.async false
set_option linter.all false
set_option maxRecDepth 100000
set_option maxHeartbeats 4000000
/-! A list comprehension with one for, one cell kept. -/
namespace Sq
open PySem PySem.Spec PyProof.Rows L2 GenW
section
variable {X : Cx}
theorem lcJ_core {y0 : Str} {c0 : Addr} (Ce : Cel X y0 c0) {pins : List (Addr × Obj)} {s : Shared} {σ : L2.St} {H : Hp} {Q : VK} {elt tg iter : Expr} {ifs : List Expr} {scope : Scope} {own : List (Str × Nat)} {pos pos' : Pos} {wi : TI} {g : TG} {tt : TT} {te : TE} {use : Option (Value → Sem Unit)} {Qf : Value → Shared → Prop}
    (mood : X.calm = true) (nodupN : X.N.Nodup) (I : Inv X pins σ H s) (sourceA : JI X c0 tg iter wi) (ok : BlkOk X.N X.env.scope scope own)
    (targetA : ∀ (s : Shared) (H : Hp) (C : Addr) (cl : List (Str × Addr)) (fp : List Addr), PG (X.blk s H scope (compEnvC scope cl C X.env) fp) tg g) (testsA : ∀ (s : Shared) (H : Hp) (C : Addr) (cl : List (Str × Addr)) (fp : List Addr), PTs (X.blk s H scope (compEnvC scope cl C X.env) fp) ifs tt)
    (elemA : ∀ (s : Shared) (H : Hp) (C : Addr) (cl : List (Str × Addr)) (fp : List Addr), PE (X.blk s H scope (compEnvC scope cl C X.env) fp) elt te) (plainA : ∀ x, foldedSetIterable iter X.env x = pure x)
    (h : tLc wi g tt te (own.map (·.2)) σ H Q)
    (back : ∀ D C s' m H', Kc c0 s s' → Inv X pins σ H' s' → Q (.ref D) H' → s'.heap.Ns C m → FpOk X pins H' C → compPost (model X.prog X.w) X.A X.xe use Qf (.ref D) C (.ok .next) s') :
    wpAny (model X.prog X.w) X.A (comprehension (.ListComp elt [⟨tg, iter, ifs, 0⟩] scope pos) scope X.env pos' (newList []) false (eval iter X.env) use) Qf X.xe s := by
  have captured : ∀ y ∈ scope.names, y.2 = .free → ∃ c, X.env.cells.lookup y.1 = some c := fun y hy e => by
    rcases ok.free y hy e with k | k
    · exact I.ok.has _ (.inl k)
    · exact I.ok.has _ (.inr k)
  refine wpAny_comprehension_free (use := use) rfl plainA (closure_ok captured) ok.kind (fun y hy e => by rw [ok.uniq y hy, e])
    (thn (sourceA.run pins s σ H _ I h) fun srcV sA gotX => thn gotX fun itV sB hB2 => ?_)
  obtain ⟨kB, h2⟩ := hB2
  obtain ⟨it, fp, tn, J, HB, e, I2, T, st2, f2, q⟩ := h2
  subst e
  refine wpAny_newObj_type (newEnv_comp ?_) (Nat.zero_le _)
  generalize atD : sB.heap.objs.size = D
  have freshD : HB D = none := I2.hok.fresh (Nat.le_of_eq atD)
  obtain ⟨W, ⟨mes0, inv0⟩, walk0⟩ := q D freshD
  -- the new list
  generalize laid3 : ({ sB with heap := sB.heap.push { cls := .type "list", data := .seq ([] : List Value).toArray } } : Shared) = sC
  have J3 : Inv X pins σ (upd HB D (.lst [])) sC := by
    rw [← laid3]
    refine I2.laid (t' := sB.toks) (fun b o e => Heap.get?_push_of_some _ e) (Nat.le_of_eq atD) ⟨Nat.zero_le _, [], 0, .nil, ?_⟩
    rw [← atD]
    exact Heap.get?_push_size _ rfl
  have heap3 : sC.heap = sB.heap.push { cls := .type "list", data := .seq ([] : List Value).toArray } := by rw [← laid3]
  have below : ∀ b ∈ fp, b < sB.heap.objs.size := fun b hb => by
    obtain ⟨o, e, _⟩ := T.obj _ _ st2 b hb
    exact Heap.lt_size e
  have roam3 : ∀ b ∈ fp, FpOk X pins (upd HB D (.lst [])) b ∧ b < sC.heap.objs.size := fun b hb => by
    have hlt := below b hb
    refine ⟨⟨?_, (f2 b hb).2⟩, by rw [heap3, Heap.size_push]; exact Nat.lt_succ_of_lt hlt⟩
    rw [upd_ne (by rw [← atD]; exact Nat.ne_of_lt hlt)]
    exact (f2 b hb).1
  have turn3 : tn 0 sC.heap := T.keep _ _ _ st2 fun b _ o e => by rw [heap3]; exact Heap.get?_push_of_some _ e
  have J4 := block_start J3 ok nodupN roam3
  have tgt := targetA sC (upd HB D (.lst [])) sC.heap.objs.size (cellsFrom (sC.heap.objs.size + 1) scope.names (cloFrom X.env.cells scope.names [])) fp
  have tst := testsA sC (upd HB D (.lst [])) sC.heap.objs.size (cellsFrom (sC.heap.objs.size + 1) scope.names (cloFrom X.env.cells scope.names [])) fp
  have elm := elemA sC (upd HB D (.lst [])) sC.heap.objs.size (cellsFrom (sC.heap.objs.size + 1) scope.names (cloFrom X.env.cells scope.names [])) fp
  show codeAny _ _ (.compStart (.ListComp elt [⟨tg, iter, ifs, 0⟩] scope pos) 0 (.ref it) (.ref D) (compEnvC scope (cellsFrom (sC.heap.objs.size + 1) scope.names (cloFrom X.env.cells scope.names [])) sC.heap.objs.size X.env)) (compPost (model X.prog X.w) X.A X.xe use Qf (.ref D) sC.heap.objs.size) { sC with heap := pushCells (sC.heap.push { cls := .type "dict", data := .dict #[] }) scope.names }
  have untr : ∀ b ∈ fp, (upd HB D (.lst [])) b = none := fun b hb => (roam3 b hb).1.1
  generalize blkE : compEnvC scope (cellsFrom (sC.heap.objs.size + 1) scope.names (cloFrom X.env.cells scope.names [])) sC.heap.objs.size X.env = ce at J4 tgt tst elm ⊢
  have locE : ce.locals = sC.heap.objs.size := by subst blkE; rfl
  generalize heapE : upd HB D (.lst []) = HC at J3 J4 tgt tst elm inv0 untr roam3
  generalize laid4 : ({ sC with heap := pushCells (sC.heap.push { cls := .type "dict", data := .dict #[] }) scope.names } : Shared) = sD at J4 ⊢
  have turn4 : tn 0 sD.heap := T.keep _ _ _ turn3 fun b _ o e => by rw [← laid4]; exact pushCells_keeps _ _ _ _ (Heap.get?_push_of_some _ e)
  have roams : ∀ {σ' : L2.St} {H' : Hp} {s' : Shared}, Inv (X.blk sC HC scope ce fp) [] σ' H' s' → (∀ b ∈ fp, H' b = none) → ∀ b ∈ fp, FpOk (X.blk sC HC scope ce fp) [] H' b := fun {σ' H' s'} I' nsC b hb =>
    ⟨nsC b hb, (I'.ok.exf b hb).1, I'.ok.exfs b hb, .inl hb, fun x c e => (I'.ok.exf b hb).2 x c e, fun p hp => absurd (show p ∈ ([] : List (Addr × Obj)) ++ [] from hp) (by simp)⟩
  have outer0 : codeAny (model X.prog X.w) X.A (.compLoop (.ListComp elt [⟨tg, iter, ifs, 0⟩] scope pos) 0 (.ref it) (.ref D) ce) (compPost (model X.prog X.w) X.A X.xe use Qf (.ref D) sC.heap.objs.size) sD := by
    refine compLoop_any (fun n s' => ∃ i H', Inv (X.blk sC HC scope ce fp) [] (wipe σ (own.map (·.2))) H' s' ∧ tn i s'.heap ∧ (∀ b ∈ fp, H' b = none) ∧ W i n H') ?_ mes0 ⟨0, HC, J4, turn4, untr, inv0⟩
    rintro n sE ⟨i, HE, J5, turn5, un5, inv5⟩
    rcases walk0 i n HE inv5 with ⟨atEnd, done0⟩ | ⟨more, NxA, reach, body0⟩
    · have ended := T.done (X.blk sC HC scope ce fp) rfl rfl rfl mood i [] sE _ HE (fun _ _ => False) J5 (roams J5 un5) turn5 atEnd
      refine thnF ended fun r sF ⟨hr, J6⟩ => ?_
      subst hr
      have J7 : Inv X pins σ HE sF := J3.call' (ch := fp) J6.os J6.base J6.hok J6.bare fun b hb => ⟨(roam3 b hb).1.2.2.2.1, (roam3 b hb).1.2.1, (roam3 b hb).1.2.2.2.2.1, (roam3 b hb).1.2.2.2.2.2⟩
      have freeC : HE sC.heap.objs.size = none := by
        have z : HE ce.locals = none := J6.free
        rw [locE] at z
        exact z
      obtain ⟨m, nsC, _⟩ := J6.loc
      have nsC : sF.heap.Ns ce.locals m := nsC
      rw [locE] at nsC
      have kAll : Kc c0 s sF := fun o eo => by
        have e3 : sC.heap.get? c0 = some o := by
          rw [heap3]
          exact Heap.get?_push_of_some _ (kB o eo)
        refine J6.base.keep c0 o e3 (Ce.free J3) (Ce.nostk J3) fun hb => ?_
        exact (roam3 c0 hb).1.2.2.2.2.1 _ _ Ce.is rfl
      exact back D sC.heap.objs.size sF m HE kAll J7 done0 nsC (J3.fpOk (Nat.le_refl _) freeC)
    · have given := T.item (X.blk sC HC scope ce fp) rfl rfl rfl mood i [] sE _ HE (fun _ _ => False) J5 (roams J5 un5) turn5 more
      refine thnF given fun r sF ⟨u, hr, got6⟩ => ?_
      subst hr
      refine thnF got6 fun _ sG ⟨x, HG, J7, rel7, yld7, turn7, un7⟩ => ?_
      have J7p := J7.pinned (roams J7 un7) (T.obj _ _ turn7)
      refine thnF (tgt.run _ sG _ HG x u _ J7p rel7 (body0 x HG yld7)) fun _ sH ⟨τ, HH, J8, wip8, go8⟩ => ?_
      refine thnF (tst.run _ sH τ HH _ J8 go8) fun b sI ⟨HI, J9, go9⟩ => ?_
      have close : ∀ {s' : Shared} {H' : Hp}, Inv (X.blk sC HC scope ce fp) ([] ++ pinsAt fp sG.heap) τ H' s' → NxA H' →
          ∃ m, m < n ∧ ∃ i H', Inv (X.blk sC HC scope ce fp) [] (wipe σ (own.map (·.2))) H' s' ∧ tn i s'.heap ∧ (∀ b ∈ fp, H' b = none) ∧ W i m H' := fun {s' H'} I' nextW => by
        obtain ⟨m', lessM, invM⟩ := reach H' nextW
        have kept : ∀ b ∈ fp, ∀ o, sG.heap.get? b = some o → s'.heap.get? b = some o ∧ H' b = none := fun b hb o e =>
          let z := I'.pin (b, o) (List.mem_append_right _ (List.mem_append_right _ (mem_pinsAt hb e)))
          ⟨z.1, z.2.1⟩
        refine ⟨m', lessM, i + 1, H', (I'.unpinned (pins := [])).weak (by rw [← wip8, wipe_length]) (fun j v e => by rw [← wip8] at e; exact (wipe_some e).1), T.keep _ _ _ turn7 fun b hb o e => (kept b hb o e).1, fun b hb => ?_, invM⟩
        obtain ⟨o, e, _⟩ := T.obj _ _ turn7 b hb
        exact (kept b hb o e).2
      cases b with
      | false =>
        simp only [Bool.false_eq_true, if_false] at go9 ⊢
        exact close J9 go9
      | true =>
        simp only [if_true] at go9 ⊢
        refine thnF (elm.run _ sI τ HI _ J9 go9) fun z sQ ⟨yv, HQ, J17, rel17, acc, acc17, room17, nextW⟩ => ?_
        exact app_ok (X := X.blk sC HC scope ce fp) J17 acc17 room17 rel17 fun sR J18 => close J18 nextW
  exact codeAny_compStart_list outer0 (T.self X.A 0 _ _ _ turn4 outer0)
/-- as a value -/
theorem je_lc {y0 : Str} {c0 : Addr} (Ce : Cel X y0 c0) {elt tg iter : Expr} {ifs : List Expr} {scope : Scope} {own : List (Str × Nat)} {pos : Pos} {wi : TI} {g : TG} {tt : TT} {te : TE} (mood : X.calm = true) (nodupN : X.N.Nodup) (sourceA : JI X c0 tg iter wi) (ok : BlkOk X.N X.env.scope scope own)
    (targetA : ∀ (s : Shared) (H : Hp) (C : Addr) (cl : List (Str × Addr)) (fp : List Addr), PG (X.blk s H scope (compEnvC scope cl C X.env) fp) tg g) (testsA : ∀ (s : Shared) (H : Hp) (C : Addr) (cl : List (Str × Addr)) (fp : List Addr), PTs (X.blk s H scope (compEnvC scope cl C X.env) fp) ifs tt)
    (elemA : ∀ (s : Shared) (H : Hp) (C : Addr) (cl : List (Str × Addr)) (fp : List Addr), PE (X.blk s H scope (compEnvC scope cl C X.env) fp) elt te) (plainA : ∀ x, foldedSetIterable iter X.env x = pure x := by intro _; rfl) :
    JE X c0 (.ListComp elt [⟨tg, iter, ifs, 0⟩] scope pos) (tLc wi g tt te (own.map (·.2))) := by
  refine ⟨fun pins s σ H Q I h => ?_⟩
  rw [arm_eval_ListComp]
  refine lcJ_core Ce mood nodupN I sourceA ok targetA testsA elemA plainA h fun D C s' m H' kAll I' q nsC f => ⟨m, nsC, fun h'' sb => ?_⟩
  obtain ⟨f0, f1, f2, roam3, f4, f5⟩ := f
  have away : c0 ≠ C := f4 _ _ Ce.is
  exact ⟨kAll.trans fun o e => (sb.2 c0 away).trans e, .ref D, H', I'.turned (t' := s'.toks) (fun b o hb e => (sb.2 b hb).trans e) f0 f1 roam3 f4 f5, rfl, q⟩
/-- name = [..] on one line, the name a local -/
theorem jst_setLc {y0 : Str} {c0 : Addr} (Ce : Cel X y0 c0) {i : Nat} {z : Str} {pz : Pos} {elt tg iter : Expr} {ifs : List Expr} {scope : Scope} {own : List (Str × Nat)} {pos spos : Pos} {wi : TI} {g : TG} {tt : TT} {te : TE} (mood : X.calm = true) (nodupN : X.N.Nodup) (hz : X.N[i]? = some z) (hzl : X.env.scope.names.lookup z = some .local) (ne : z ≠ y0)
    (hsw : swapsWith (.ListComp elt [⟨tg, iter, ifs, 0⟩] scope pos) (some (.Name z pz)) spos.line X.env = pure true) (sourceA : JI X c0 tg iter wi) (ok : BlkOk X.N X.env.scope scope own)
    (targetA : ∀ (s : Shared) (H : Hp) (C : Addr) (cl : List (Str × Addr)) (fp : List Addr), PG (X.blk s H scope (compEnvC scope cl C X.env) fp) tg g) (testsA : ∀ (s : Shared) (H : Hp) (C : Addr) (cl : List (Str × Addr)) (fp : List Addr), PTs (X.blk s H scope (compEnvC scope cl C X.env) fp) ifs tt)
    (elemA : ∀ (s : Shared) (H : Hp) (C : Addr) (cl : List (Str × Addr)) (fp : List Addr), PE (X.blk s H scope (compEnvC scope cl C X.env) fp) elt te) (plainA : ∀ x, foldedSetIterable iter X.env x = pure x := by intro _; rfl) :
    JSt X c0 (.Assign [.Name z pz] (.ListComp elt [⟨tg, iter, ifs, 0⟩] scope pos) spos) (tAsg (tLc wi g tt te (own.map (·.2))) (gName i)) := by
  refine ⟨fun pins s σ H D I h => ?_⟩
  rw [exec_Assign_Name_used _ _ _ _ hsw]
  refine wpAny_bind (wpAny_standAt (wpAny_bind ?_))
  show wpAny _ X.A (do let _ ← comprehension (.ListComp elt [⟨tg, iter, ifs, 0⟩] scope pos) scope X.env (firstIterPos [⟨tg, iter, ifs, 0⟩] pos) (newList []) false (eval iter X.env) (some (assign (.Name z pz) X.env))) _ _ s
  have h2 : tLc wi g tt te (own.map (·.2)) σ H (fun x H1 => gName i x σ H1 D.nx) := h
  refine wpAny_bind (thn (lcJ_core (Qf := fun _ s' => Kc c0 s s' ∧ SP X pins D .next s') Ce mood nodupN I sourceA ok targetA testsA elemA plainA h2 fun L C s' m H' kAll I' q nsC f => ?_) fun _ s' hq => wpAny_pure (wpAny_pure hq))
  show wpAny _ _ (assign (.Name z pz) X.env (.ref L)) _ _ _
  refine wpAny_assign_Name (store_ok2 (v := V.ref L) I' nodupN hz (.inl hzl) rfl (fun s2 I2 hh => ?_) (.inr hzl))
  obtain ⟨a, sb, ha⟩ := hh
  obtain ⟨f0, f1, f2, f3, f4, f5⟩ := f
  have awayC : C ≠ a := fun w => by
    rcases ha with ha | ha
    · exact f1 (w.trans ha)
    · exact f4 z a ha w.symm
  have awayc : c0 ≠ a := fun w => by
    rcases ha with ha | ha
    · exact I'.cne _ _ Ce.is (w.trans ha)
    · rw [← w] at ha
      exact ne (I'.ok.inj _ _ _ ha Ce.is)
  have cC : c0 ≠ C := f4 _ _ Ce.is
  exact ⟨m, nsC.sameBut sb awayC, fun h3 sb3 => ⟨kAll.trans fun o e => (sb3.2 c0 cC).trans ((sb.2 c0 awayc).trans e), _, H', I2.turned (t' := s2.toks) (fun b o hb e => (sb3.2 b hb).trans e) f0 f1 f3 f4 f5, q⟩⟩
end
end Sq

set_option Elab.async false
set_option linter.all false
set_option maxRecDepth 100000
set_option maxHeartbeats 4000000
/-! Slices of lists, texts compared, `or` of tests, the signs of a text: one cell kept. -/
namespace Sq
open PySem PySem.Spec PyProof.Rows L2 GenW
section
variable {X : Cx} {c : Addr} {u0 : Value} {n : Nat} {x y : Str} {p pos p2 : Pos} {e e2 : Expr} {es : List Expr} {te tf : TE} {t tA tB' : TT} {lo hi : Option Expr} {tl th : TO}
theorem oj_neT : OpJ X c (compareOp .NotEq) rNeT := by
  intro pins s σ H x y v u Q I rx ry h
  obtain ⟨a, b, rfl, rfl, q⟩ := h
  obtain ⟨t1, rfl⟩ := rx
  obtain ⟨t2, rfl⟩ := ry
  refine ne_str ?_
  have e : (a != b) = !decide (V.str a = V.str b) := by
    show (!(a == b)) = _
    rw [dec_str]
  rw [e]
  exact ⟨Kc.refl, .bl _, H, I, rfl, q⟩
/-! ### slices -/
structure JO (X : Cx) (c : Addr) (u0 : Value) (n : Nat) (e : Option Expr) (t : TO) : Prop where
  run : ∀ (pins : List (Addr × Obj)) (s : Shared) (σ : L2.St) (H : Hp) (Q : Option Int → Hp → Prop), Inv X pins σ H s → n ≤ s.toks → s.heap.IsCell c (some u0) → t σ H Q →
    wpAny (model X.prog X.w) X.A (evalPart e X.env) (fun u s' => Kn2 c n s s' ∧ ∃ o H', Inv X pins σ H' s' ∧ IsPart u o ∧ Q o H') X.xe s
theorem jo_none : JO X c u0 n none tNoPart := by
  refine ⟨fun pins s σ H Q I hn hc h => ?_⟩
  rw [evalPart_none]
  exact wpAny_pure ⟨⟨Kc.refl, hn⟩, none, H, I, .none, h⟩
theorem jo_some (h : JK X c u0 n e te) : JO X c u0 n (some e) (tPart te) := by
  refine ⟨fun pins s σ H Q I hn hc hw => ?_⟩
  rw [evalPart_some]
  refine thn (h.run pins s σ H _ I hn hc hw) fun u s1 hh => ?_
  obtain ⟨g1, x, H1, I1, r1, i, rfl, q⟩ := hh
  obtain ⟨tk, rfl⟩ := r1
  exact ⟨g1, some i, H1, I1, .int i tk, q⟩
/-- l[lo:hi] -/
theorem jk_slL (he : JK X c u0 n e te) (hl : JO X c u0 n lo tl) (hu : JO X c u0 n hi th) : JK X c u0 n (.Subscript e (.Slice lo hi none p2) pos) (tSl (rSlL X.K) te tl th) := by
  refine ⟨fun pins s σ H Q I hn hc h => ?_⟩
  refine Subscript_ (thn (he.run pins s σ H _ I hn hc h) fun v s1 hh => ?_)
  obtain ⟨g1, x, H1, I1, r1, q1⟩ := hh
  refine wpAny_Slice (thn (hl.run pins s1 σ H1 _ I1 g1.2 (g1.1.cell hc) q1) fun vl s2 hh => ?_)
  obtain ⟨g2, l, H2, I2, pl, q2⟩ := hh
  refine thn (hu.run pins s2 σ H2 _ I2 g2.2 (g2.1.cell (g1.1.cell hc)) q2) fun vu s3 hh => ?_
  obtain ⟨g3, u, H3, I3, pu, a, xs, ex, hx, q⟩ := hh
  subst ex
  rw [evalPart_none]
  refine wpAny_pure ?_
  have keep : ∀ b ob, s3.heap.get? b = some ob → (s3.heap.push { cls := .type "slice", data := .fields #[vl, vu, .none] }).get? b = some ob := fun b ob z => Heap.get?_push_of_some _ z
  have I4 : Inv X pins σ H3 { s3 with heap := s3.heap.push { cls := .type "slice", data := .fields #[vl, vu, .none] } } := I3.kept (t' := s3.toks) keep
  obtain rfl : v = Value.ref a := r1
  obtain ⟨its, r, ht, hz⟩ := I4.list hx
  have hlen := r.length
  have kn : Kn2 c n s { s3 with heap := s3.heap.push { cls := .type "slice", data := .fields #[vl, vu, .none] } } := ((g1.trans g2).trans g3).trans ⟨fun o z => keep _ _ z, g3.2⟩
  generalize eS : ({ s3 with heap := s3.heap.push { cls := .type "slice", data := .fields #[vl, vu, .none] } } : Shared) = s4 at I4 ht kn
  have isS : s4.heap.IsSliceOf s3.heap.objs.size vl vu .none := by
    rw [← eS]
    exact Heap.IsSliceOf.new ..
  show wpAny (model X.prog X.w) X.A (subscriptTail e (.Slice lo hi none p2) (.ref a) (.ref s3.heap.objs.size)) _ X.xe _
  refine tail_any (ops := [.ref s3.heap.objs.size, .ref a]) ht.isList.typeIs slot_list_getitem.lookup ?_ (by with_unfolding_all rfl)
  refine wpAny_getItem_list_slice ht.isList isS pl pu .none (by simp) ?_ (by rw [List.size_toArray] <;> omega)
  rw [slicePick_cut, ← hlen]
  refine ⟨kn.trans ⟨fun o z => Heap.get?_push_of_some _ z, kn.2⟩, .ref s4.heap.objs.size, _, I4.laid (t' := s4.toks) (o := .lst (cutV xs l u)) (fun b ob q => Heap.get?_push_of_some _ q) (Nat.le_refl _) ?_, rfl, q _ (I4.hok.fresh (Nat.le_refl _))⟩
  exact ⟨Nat.le_trans (cutV_length xs l u) hz, _, 0, (r.drop (HT.sIx xs.length 0 l)).take (HT.sIx xs.length xs.length u - HT.sIx xs.length 0 l), Heap.get?_push_size _ rfl⟩
/-! ### or -/
structure JW (X : Cx) (c : Addr) (u0 : Value) (n : Nat) (e : Expr) (t : TT) : Prop where
  run : ∀ (whole : Sem Value) (pins : List (Addr × Obj)) (s : Shared) (σ : L2.St) (H : Hp) (Q : Bool → Hp → Prop), Inv X pins σ H s → n ≤ s.toks → s.heap.IsCell c (some u0) → t σ H Q → wpAny (model X.prog X.w) X.A (isTrue e X.env whole) (fun b s' => Kn2 c n s s' ∧ TP X pins σ Q b s') X.xe s
theorem JW.pt (h : JW X c u0 n e t) : JKT X c u0 n e t := ⟨h.run _⟩
theorem jw_or1 (ha : JKT X c u0 n e tA) : JW X c u0 n (.BoolOp .Or [e] pos) tA := by
  refine ⟨fun wh pins s σ H Q I hn hc h => ?_⟩
  refine isTrue_or (thn (ha.run pins s σ H Q I hn hc h) fun d s1 hh => ?_)
  cases d with
  | false => exact isTrue_or_nil hh
  | true => exact hh
theorem jw_or (ha : JKT X c u0 n e tA) (hb : JW X c u0 n (.BoolOp .Or (e2 :: es) pos) tB') : JW X c u0 n (.BoolOp .Or (e :: e2 :: es) pos) (tOr tA tB') := by
  refine ⟨fun wh pins s σ H Q I hn hc h => ?_⟩
  refine isTrue_or (thn (ha.run pins s σ H _ I hn hc h) fun d s1 hh => ?_)
  obtain ⟨g1, H1, I1, q1⟩ := hh
  cases d with
  | true => exact ⟨g1, H1, I1, q1⟩
  | false => exact thn (hb.run wh pins s1 σ H1 Q I1 g1.2 (g1.1.cell hc) q1) fun b s2 ⟨g2, q2⟩ => ⟨g1.trans g2, q2⟩
/-! ### the signs of a text, as a comprehension's source -/
theorem ji_str {tg : Expr} (he : JE X c e te) : JI X c tg e (iStr te) := by
  refine ⟨fun pins s σ H R I h => ?_⟩
  refine thn (he.run pins s σ H _ I h) fun v s1 hh => ?_
  obtain ⟨g1, w, H1, I1, r1, z, ez, q⟩ := hh
  subst ez
  obtain ⟨tk, rfl⟩ := r1
  have kc : ∀ o : Obj, Kc c s { s1 with heap := s1.heap.push o } := fun o => g1.trans fun o e => Heap.get?_push_of_some _ e
  cases low : z.cps.all (· < 128)
  · exact wpAny_pyIter_wide low ⟨kc _, pi_one (tk := s1.toks) I1 _ (turn_str _ z tk "str_iterator" (.inr rfl)) ⟨_, Heap.get?_push_size _ rfl, rfl, rfl⟩ q⟩
  · exact wpAny_pyIter_ascii low ⟨kc _, pi_one (tk := s1.toks) I1 _ (turn_str _ z tk "str_ascii_iterator" (.inl rfl)) ⟨_, Heap.get?_push_size _ rfl, rfl, rfl⟩ q⟩
end
end Sq

set_option Elab.async false
set_option linter.all false
set_option maxRecDepth 100000
set_option maxHeartbeats 4000000
/-! a, b = e, f: one cell kept. -/
namespace Sq
open PySem PySem.Spec PyProof.Rows L2 GenW
section
variable {X : Cx} {c : Addr} {y : Str}
theorem store_keep {M : Model} {A : Around} {E : Value → Shared → Prop} {pins : List (Addr × Obj)} {σ : L2.St} {H : Hp} {s : Shared} {i : Nat} {x : Str} {v : V} {u : Value} {Q : Unit → Shared → Prop} (C : Cel X y c) (ne : x ≠ y) (I : Inv X pins σ H s) (hN : X.N.Nodup) (hi : X.N[i]? = some x) (hx : Loc X.env.scope x) (r : RelV v u)
    (h : ∀ s', Inv X pins (σ.set i (some v)) H s' → Kc c s s' → Q () s') (hf : X.fn x = true ∨ X.env.scope.names.lookup x = some .local) : wpAny M A (storeName X.env x u) Q E s := by
  refine store_ok2 I hN hi hx r (fun s2 I2 hh => ?_) hf
  obtain ⟨a, sb, ha⟩ := hh
  have ca : c ≠ a := fun z => by
    rcases ha with ha | ha
    · exact I.cne _ _ C.is (z.trans ha)
    · rw [← z] at ha
      exact ne (I.ok.inj _ _ _ ha C.is)
  exact h s2 I2 fun o e => (sb.2 c ca).trans e
theorem jst_par {i j : Nat} {x z : Str} {a b : Expr} {ta : TA} {px pz pt spos : Pos} {kt k2 pt2} (C : Cel X y c) (nx : x ≠ y) (nz : z ≠ y) (mood : X.calm = true) (hN : X.N.Nodup) (hi : X.N[i]? = some x) (hj : X.N[j]? = some z) (hij : i ≠ j)
    (hx : X.env.scope.names.lookup x = some .local) (hz : X.env.scope.names.lookup z = some .local) (ha : JA X c [a, b] ta)
    (hw : swappedStores [.Tuple [.Name x px, .Name z pz] kt pt] (.Tuple [a, b] k2 pt2) X.env = pure (some [x, z]))
    (hs : swapsWithSole [.Tuple [.Name x px, .Name z pz] kt pt] (.Tuple [a, b] k2 pt2) spos.line X.env = pure false := by rfl) :
    JSt X c (.Assign [.Tuple [.Name x px, .Name z pz] kt pt] (.Tuple [a, b] k2 pt2) spos) (tPar i j ta) := by
  refine ⟨fun pins s σ H D I h => ?_⟩
  rw [exec_Assign_arm]
  refine wpAny_bind (wpAny_standAt ?_)
  rw [hs]
  refine wpAny_bind (wpAny_pure ?_)
  rw [if_neg (by decide)]
  refine wpAny_bind (Tuple_ (thn (ha.run _ pins s σ H _ I h) fun us s1 hh => ?_))
  obtain ⟨g1, vs, H1, I1, r1, v, w, e1, q1⟩ := hh
  subst e1
  obtain ⟨u1, u2, rfl, rv, rw'⟩ := vals2 r1
  refine wpAny_newObj_type ?_ (by show 2 ≤ sizeLine; decide)
  have g2 : Kc c s { s1 with heap := s1.heap.push { cls := .type "tuple", data := .seq [u1, u2].toArray } } := g1.trans fun o e => Heap.get?_push_of_some _ e
  have I2 : Inv X pins σ H1 { s1 with heap := s1.heap.push { cls := .type "tuple", data := .seq [u1, u2].toArray } } := I1.kept (t' := s1.toks) fun b o e => Heap.get?_push_of_some _ e
  rw [hw]
  refine wpAny_bind (wpAny_pure ?_)
  show wpAny (model X.prog X.w) X.A (do rule "assign.swapped-stores"; let items ← unpackItems (.ref s1.heap.objs.size) 2 none; assignInOrder [fun v => bindName X.env z v, fun v => bindName X.env x v] items.reverse; pure Flow.next) _ _ _
  refine wpAny_bind (wpAny_rule (wpAny_bind (unpackItems_tuple (items := #[u1, u2]) (I.ok.hd mood) (IsTup.new s1.heap _) fun h' hx' => ?_)))
  have stay := fun (b : Addr) (o : Obj) (e : (s1.heap.push { cls := .type "tuple", data := .seq [u1, u2].toArray }).get? b = some o) => hx' b o (Nat.ne_of_lt (Heap.lt_size e)) e
  have I3 := I2.kept (h' := h') (t' := s1.toks) stay
  have g3 : Kc c s { s1 with heap := h' } := g2.trans fun o e => stay _ _ e
  show wpAny _ _ (assignInOrder [fun v => bindName X.env z v, fun v => bindName X.env x v] [u2, u1] >>= fun _ => pure Flow.next) _ _ _
  refine wpAny_bind (assignInOrder_cons (wpAny_bindName (store_keep C nz I3 hN hj (.inl hz) rw' (fun s2 I4 g4 => ?_) (.inr hz))))
  refine assignInOrder_cons (wpAny_bindName (store_keep C nx I4 hN hi (.inl hx) rv (fun s3 I5 g5 => assignInOrder_nil (wpAny_pure ?_)) (.inr hx)))
  rw [List.set_comm _ _ (Ne.symm hij)] at I5
  exact ⟨(g3.trans g4).trans g5, _, H1, I5, q1⟩
end
end Sq

set_option Elab.async false
set_option linter.all false
set_option maxRecDepth 100000
set_option maxHeartbeats 4000000
/-! A def whose promise needs one argument's token, called by keywords. -/
namespace Sq
open PySem PySem.Spec PyProof.Rows L2 GenW
/-- keywords' values -/
structure JKK (X : Cx) (c : Addr) (u0 : Value) (n : Nat) (kws : List Keyword) (t : TA) : Prop where
  run : ∀ (pos : Pos) (pins : List (Addr × Obj)) (s : Shared) (σ : L2.St) (H : Hp) (Q : List V → Hp → Prop), Inv X pins σ H s → n ≤ s.toks → s.heap.IsCell c (some u0) → t σ H Q → wpAny (model X.prog X.w) X.A (evalAll ((backToKw pos (keywordEach kws X.env)).map (·.2))) (fun us s' => Kn2 c n s s' ∧ AP X pins σ Q us s') X.xe s
/-- .. the j-th with a token that was given out -/
structure JKY (X : Cx) (c : Addr) (u0 : Value) (n j : Nat) (kws : List Keyword) (t : TA) : Prop where
  run : ∀ (pos : Pos) (pins : List (Addr × Obj)) (s : Shared) (σ : L2.St) (H : Hp) (Q : List V → Hp → Prop), Inv X pins σ H s → n ≤ s.toks → s.heap.IsCell c (some u0) → t σ H Q → wpAny (model X.prog X.w) X.A (evalAll ((backToKw pos (keywordEach kws X.env)).map (·.2))) (fun us s' => (Kn2 c n s s' ∧ Tkn j us s'.toks) ∧ AP X pins σ Q us s') X.xe s
section
variable {X : Cx} {c : Addr} {u0 : Value} {n j : Nat} {x y : Str} {p pos kpos : Pos} {e : Expr} {te : TE} {t tk : TA} {kws : List Keyword} {nm : Option Str}
theorem jkk_nil : JKK X c u0 n [] tNil := ⟨fun _ _ _ _ H Q I hn hc h => wpAny_evalAll_nil ⟨⟨Kc.refl, hn⟩, [], H, I, .nil, h⟩⟩
theorem jkk_cons (ha : JK X c u0 n e te) (hr : JKK X c u0 n kws t) : JKK X c u0 n (⟨nm, e, kpos⟩ :: kws) (tCons te t) := by
  refine ⟨fun pos pins s σ H Q I hn hc h => ?_⟩
  show wpAny _ _ (evalAll ((do let v ← eval e X.env; standAt pos; pure v) :: (backToKw pos (keywordEach kws X.env)).map (·.2))) _ _ s
  refine wpAny_evalAll_cons (wpAny_bind (thn (ha.run pins s σ H _ I hn hc h) fun u s1 hh => wpAny_bind (wpAny_standAt (wpAny_pure ?_))))
  obtain ⟨g1, v, H1, I1, r1, q1⟩ := hh
  exact thn (hr.run pos pins s1 σ H1 _ I1 g1.2 (g1.1.cell hc) q1) fun us s2 ⟨g2, xs, H2, I2, r2, q2⟩ => ⟨g1.trans g2, v :: xs, H2, I2, .cons r1 r2, q2⟩
theorem jky_skip (ha : JK X c u0 n e te) (hr : JKY X c u0 n j kws t) : JKY X c u0 n (j + 1) (⟨nm, e, kpos⟩ :: kws) (tCons te t) := by
  refine ⟨fun pos pins s σ H Q I hn hc h => ?_⟩
  show wpAny _ _ (evalAll ((do let v ← eval e X.env; standAt pos; pure v) :: (backToKw pos (keywordEach kws X.env)).map (·.2))) _ _ s
  refine wpAny_evalAll_cons (wpAny_bind (thn (ha.run pins s σ H _ I hn hc h) fun u s1 hh => wpAny_bind (wpAny_standAt (wpAny_pure ?_))))
  obtain ⟨g1, v, H1, I1, r1, q1⟩ := hh
  exact thn (hr.run pos pins s1 σ H1 _ I1 g1.2 (g1.1.cell hc) q1) fun us s2 ⟨⟨g2, tkn⟩, xs, H2, I2, r2, q2⟩ => ⟨⟨g1.trans g2, tkn⟩, v :: xs, H2, I2, .cons r1 r2, q2⟩
theorem cell_value {pins : List (Addr × Obj)} {σ : L2.St} {H : Hp} {s : Shared} {i : Nat} {v : V} (I : Inv X pins σ H s) (hN : X.N[i]? = some y) (hv : Vis X.env.scope y) (hk : X.env.kindOf y = some .cell) (C : Cel X y c) (hc : s.heap.IsCell c (some u0)) (e : σ[i]? = some (some v)) : RelV v u0 := by
  obtain ⟨m, hns, look⟩ := I.loc
  obtain ⟨u, r, l⟩ := look i y v hN e hv
  have eu : u = u0 := by
    rcases l with ⟨k1, _⟩ | ⟨_, c1, e1, cell1⟩
    · rw [hk] at k1
      cases k1
    · rw [C.is] at e1
      obtain rfl : c = c1 := Option.some.inj e1
      obtain ⟨o1, g1, d1⟩ := hc
      obtain ⟨o2, g2, d2⟩ := cell1
      rw [g1] at g2
      obtain rfl : o1 = o2 := Option.some.inj g2
      rw [d1] at d2
      injection d2 with d2
      exact (Option.some.inj d2).symm
  rw [← eu]
  exact r
theorem jky_name {i : Nat} (hN : X.N[i]? = some y) (hv : Vis X.env.scope y) (hk : X.env.kindOf y = some .cell) (C : Cel X y c) (good : Tkn 0 [u0] n) (hr : JKK X c u0 n kws t) (hd : (y == ("__debug__" : Str)) = false := by decide) :
    JKY X c u0 n 0 (⟨nm, .Name y p, kpos⟩ :: kws) (tCons (tVar i) t) := by
  refine ⟨fun pos pins s σ H Q I hn hc h => ?_⟩
  show wpAny _ _ (evalAll ((do let v ← eval (.Name y p) X.env; standAt pos; pure v) :: (backToKw pos (keywordEach kws X.env)).map (·.2))) _ _ s
  obtain ⟨v, e, q⟩ := h
  have r := cell_value I hN hv hk C hc e
  refine wpAny_evalAll_cons (wpAny_bind (raw_cell I hk C.is hc (wpAny_bind (wpAny_standAt (wpAny_pure ?_))) hd))
  refine thn (hr.run pos pins s σ H _ I hn hc q) fun us s2 hh => ?_
  obtain ⟨g2, xs, H2, I2, r2, q2⟩ := hh
  refine ⟨⟨g2, fun b tb eb one => ?_⟩, v :: xs, H2, I2, .cons r r2, q2⟩
  have g := good b tb eb one
  exact ⟨g.1, Nat.lt_of_lt_of_le g.2 g2.2⟩
/-- the same as DfT by keywords -/
structure DkT (P : Program) (w : World) (K : PySem.W.Frag) (mg : Str → Option Value) (base : Heap) (k : Nat) (x : Str) (ps ks : List Str) (gV : List V → List V → List V) (j j' : Nat) (sp : Sp) : Prop where
  ex : ∃ f fd g, FnT P w K mg base k f fd ps j' sp ∧ mg x = some (.ref f) ∧ PySem.W.keepIn K (.ref f) = true ∧ KBn K fd ps 0 ks g gV ∧ ∀ ws m, ws.length = ks.length → Tkn j ws m → Tkn j' (g [] ws) m
/-- f(k = v, ..) -/
theorem jk_callTK {k : Nat} {ps ks : List Str} {gV : List V → List V → List V} {j' : Nat} {sp : Sp} (C : Cel X y c) (D : DkT X.prog X.w X.K X.mg X.base k x ps ks gV j j' sp) (hr : Room k X.A) (hg : Gl X x) (hkw : JKY X c u0 n j kws tk) (hall : (backToKw pos (keywordEach kws X.env)).all (·.1.isSome) = true := by rfl)
    (hks : (backToKw pos (keywordEach kws X.env)).filterMap (·.1) = ks := by rfl) (hdb : (x == ("__debug__" : Str)) = false := by decide)
    (hpl : ((backTo pos (starEach [] X.env)).any (·.1) || (backToKw pos (keywordEach kws X.env)).any (·.1.isNone)) = false := by rfl) :
    JK X c u0 n (.Call (.Name x p) [] kws pos) (fun σ H Q => tk σ H fun zs H1 => zs.length = ks.length ∧ sp (gV [] zs) H1 Q E0) := by
  obtain ⟨f, fd, g, F, hm, kp, hb, hj⟩ := D.ex
  refine ⟨fun pins s σ H Q I hn hc h => ?_⟩
  refine wpAny_Call_Name_kw (ld_glob I hg hm ?_ hdb)
  refine PySem.W.callWith_KW0 (h₀ := X.base) I.ok.mod.kin kp hall (thn (hkw.run pos pins s σ H _ I hn hc h) fun ws s1 hh => ?_) hpl
  obtain ⟨⟨g1, tkn⟩, zs, H1, I1, rz, l2, q⟩ := hh
  refine ⟨I1.kIn, ?_⟩
  rw [hks]
  have lw : ws.length = ks.length := rz.length.symm.trans l2
  have r2 := hb.rel .nil rz
  have called : wpAny (model X.prog X.w) X.A (call (.ref f) ([] ++ []) (ks.zip ws)) (fun u s' => Kc c s1 s' ∧ EP X pins σ Q u s') X.xe s1 := by
    refine wpAny_call (codeAny_mono (F.run X.A X.stack s1 H1 ⟨[], ks.zip ws⟩ (g [] ws) (gV [] zs) Q hr I1.env0 (hb.to s1 [] ws I1.kIn rfl lw) r2 (hj ws _ lw tkn) q) fun r s' hq => ?_)
    match r, hq with
    | .ok (.ret u), hq =>
      have ce : CE X.stack X.prog X.w H1 s1 Q u s' := hq
      obtain ⟨_, _, _, _, un, _⟩ := id ce
      exact ⟨C.un I1 un, I1.after ce⟩
  exact wpAny_mono (PySem.wpAny_toks_of g1.2 called) (fun u s' z => ⟨g1.trans ⟨z.2.1, z.1⟩, z.2.2⟩) fun _ _ z => z.2
end
end Sq

set_option Elab.async false
set_option linter.all false
set_option maxRecDepth 100000
set_option maxHeartbeats 4000000
/-! Written texts and truth values, return: one cell kept. -/
namespace Sq
open PySem PySem.Spec PyProof.Rows L2 GenW
section
variable {X : Cx} {c : Addr} {u0 : Value} {n : Nat} {pos : Pos} {e : Expr} {te : TE}
theorem je_str {z : Str} {k : Nat} : JE X c (.Constant (.str z) k pos) (tC (.str z)) :=
  ⟨fun pins s σ H Q I h => Calls.Constant_str ⟨Kc.refl, .str z, H, I.tok _, ⟨_, rfl⟩, h⟩⟩
theorem je_bl {b : Bool} {k : Nat} : JE X c (.Constant (.bool b) k pos) (tC (.bl b)) :=
  ⟨fun pins s σ H Q I h => Constant_bool ⟨Kc.refl, .bl b, H, I, rfl, h⟩⟩
theorem jks_ret (he : JK X c u0 n e te) : JKS X c u0 n (.Return (some e) pos) (tRet te) := by
  refine ⟨fun pins s σ H D I hn hc h => ?_⟩
  refine wpAny_Return_some (thn (he.run pins s σ H _ I hn hc h) fun v s1 hh => ?_)
  obtain ⟨g1, x, H1, I1, r1, q1⟩ := hh
  exact ⟨g1, x, σ, H1, I1, r1, q1⟩
end
end Sq

set_option Elab.async false
set_option linter.all false
set_option maxRecDepth 100000
set_option maxHeartbeats 4000000
/-! A call with a written sign, outside of any cell: something before it has given a token out. -/
namespace Sq
open PySem PySem.Spec PyProof.Rows L2 GenW
/-- e gives a token out -/
structure PEg (X : Cx) (e : Expr) (t : TE) : Prop where
  run : ∀ (pins : List (Addr × Obj)) (s : Shared) (σ : L2.St) (H : Hp) (Q : VK), Inv X pins σ H s → t σ H Q → wpAny (model X.prog X.w) X.A (eval e X.env) (fun u s' => 1 ≤ s'.toks ∧ EP X pins σ Q u s') X.xe s
section
variable {X : Cx} {x : Str} {p pos p2 pc : Pos} {e e1 e3 : Expr} {te t1 t3 : TE}
theorem peg_str {z : Str} {k : Nat} : PEg X (.Constant (.str z) k pos) (tC (.str z)) :=
  ⟨fun pins s σ H Q I h => Calls.Constant_str ⟨Nat.le_add_left 1 _, .str z, H, I.tok _, ⟨_, rfl⟩, h⟩⟩
/-- z[:i] -/
theorem peg_upto {i : Int} {k : Nat} (he : PE X e te) : PEg X (.Subscript e (.Slice none (some (.Constant (.int i) k pc)) none p2) pos) (tSl rSlS te tNoPart (tPart (tC (.int i)))) := by
  refine ⟨fun pins s σ H Q I h => ?_⟩
  refine Subscript_ (thn (he.run pins s σ H _ I h) fun v s1 hh => ?_)
  obtain ⟨z, H1, I1, r1, q1⟩ := hh
  refine wpAny_Slice ?_
  rw [evalPart_none]
  refine wpAny_pure ?_
  rw [evalPart_some]
  refine wpAny_Constant_int ?_
  obtain ⟨i', ei, q⟩ := q1
  cases ei
  refine wpAny_pure ?_
  have I3 : Inv X pins σ H1 { s1 with toks := s1.toks + 1 } := I1.tok _
  have I4 : Inv X pins σ H1 { s1 with heap := s1.heap.push { cls := .type "slice", data := .fields #[.none, .int i s1.toks, .none] }, toks := s1.toks + 1 } := I3.kept (t' := s1.toks + 1) fun b ob q => Heap.get?_push_of_some _ q
  obtain ⟨T, id, hT, ht, hg⟩ := sl_str pins { s1 with heap := s1.heap.push { cls := .type "slice", data := .fields #[.none, .int i s1.toks, .none] }, toks := s1.toks + 1 } σ H1 z v .none (.int i s1.toks) none (some i) s1.heap.objs.size Q I4 r1 (Heap.IsSliceOf.new ..) .none (.int i _) q
  show wpAny (model X.prog X.w) X.A (subscriptTail e (.Slice none (some (.Constant (.int i) k pc)) none p2) v (.ref s1.heap.objs.size)) (fun u s' => 1 ≤ s'.toks ∧ EP X pins σ Q u s') X.xe _
  exact tail_any (ops := [.ref s1.heap.objs.size, v]) ht hT (wpAny_mono (PySem.wpAny_toks_of (n := 1) (Nat.le_add_left 1 _) hg) (fun _ _ z => z) fun _ _ z => z.2) (by with_unfolding_all rfl)
theorem pe_callTg {k kz : Nat} {z : Str} {pz : Pos} {ps : List Str} {sp : Sp} (D : DfT X.prog X.w X.K X.mg X.base k x ps 1 sp) (hr : Room k X.A) (hg : Gl X x) (h1 : PEg X e1 t1) (h3 : PE X e3 t3) (hdb : (x == ("__debug__" : Str)) = false := by decide)
    (he : starEach [e1, .Constant (.str z) kz pz, e3] X.env = [(false, eval e1 X.env), (false, eval (.Constant (.str z) kz pz) X.env), (false, eval e3 X.env)] := by rfl) (hpl : (backTo pos (starEach [.Constant (.str z) kz pz, e3] X.env)).any (·.1) = false := by rfl)
    (hh : starEach [e1, .Constant (.str z) kz pz, e3] X.env = (false, eval e1 X.env) :: starEach [.Constant (.str z) kz pz, e3] X.env := by rfl) :
    PE X (.Call (.Name x p) [e1, .Constant (.str z) kz pz, e3] [] pos) (tCall sp [] E0 (tCons t1 (tCons (tC (.str z)) (tCons t3 tNil)))) := by
  obtain ⟨f, fd, F, g, kp, b⟩ := D.ex
  refine ⟨fun pins s σ H Q I h => ?_⟩
  refine wpAny_Call_Name_kw (ld_glob I hg g ?_ hdb)
  refine PySem.W.callWith_K (h₀ := X.base) I.ok.mod.kin kp ?_ hh hpl
  rw [he]
  refine Calls.spliced_cons (thn (h1.run pins s σ H _ I h) fun u1 s1 hh => ?_)
  obtain ⟨g1, v1, H1, I1, r1, q1⟩ := hh
  show wpAny _ _ (spliced ((false, eval (.Constant (.str z) kz pz) X.env) :: (false, eval e3 X.env) :: [])) _ _ _
  refine Calls.spliced_cons (Calls.Constant_str (Calls.spliced_cons (wpAny_mono (PySem.wpAny_toks (h3.run pins _ σ H1 _ (I1.tok (s1.toks + 1)) q1)) (fun u3 s3 hh => ?_) fun _ _ z => z.2)))
  obtain ⟨g3, v3, H3, I3, r3, q⟩ := hh
  refine Calls.spliced_nil ?_
  have r : Vals [v1, .str z, v3] [u1, .str z s1.toks, u3] := .cons r1 (.cons ⟨_, rfl⟩ (.cons r3 .nil))
  refine ⟨I3.kIn, ?_⟩
  replace q : sp [v1, .str z, v3] H3 Q E0 := q
  have hl : [u1, Value.str z s1.toks, u3].length = ps.length := by rw [← r.length]; exact F.len _ _ _ _ q
  have bind := b s3 [u1, .str z s1.toks, u3] I3.kIn (by rw [List.append_nil]; exact hl)
  rw [List.append_nil] at bind
  have tk : Tkn 1 [u1, Value.str z s1.toks, u3] s3.toks := fun b t eb one => by
    have e2 : Value.str z s1.toks = .str b t := Option.some.inj eb
    injection e2 with _ e3
    subst e3
    exact ⟨Nat.ne_of_gt (Nat.lt_of_lt_of_le Nat.zero_lt_one g1), g3⟩
  refine wpAny_call (codeAny_mono (F.run X.A X.stack s3 H3 ⟨[u1, .str z s1.toks, u3], []⟩ _ _ Q hr I3.env0 bind r tk q) fun r s' hq => ?_)
  match r, hq with
  | .ok (.ret u), hq => exact I3.after hq
end
end Sq

set_option Elab.async false
set_option linter.all false
set_option maxRecDepth 100000
set_option maxHeartbeats 4000000
/-! Code that keeps what is known of the state (Θ): the raw value of a name, how many tokens were given out. -/
namespace Sq
open PySem PySem.Spec PyProof.Rows L2 GenW
/-- u was stored as x -/
def Put (X : Cx) (x : Str) (u : Value) (s s' : Shared) : Prop :=
  (X.env.scope.names.lookup x = some .local ∧ Heap.SameBut X.env.locals s.heap s'.heap ∧ ∃ m, s.heap.Ns X.env.locals m ∧ s'.heap.Ns X.env.locals (fun z => if z = x then some u else m z)) ∨
  (∃ c, X.env.cells.lookup x = some c ∧ Heap.SameBut c s.heap s'.heap ∧ s'.heap.IsCell c (some u))
/-- what code keeps that doesn't store to ys -/
structure Clo (X : Cx) (ys : List Str) (Θ : Shared → Prop) : Prop where
  but : ∀ {pins : List (Addr × Obj)} {σ : L2.St} {H : Hp} {s s' : Shared} (fp : List Addr), Inv X pins σ H s → s.toks ≤ s'.toks → (∀ b ∈ fp, b ≠ X.env.locals ∧ ∀ x c, X.env.cells.lookup x = some c → c ≠ b) → (∀ b o, b ∉ fp → s.heap.get? b = some o → s'.heap.get? b = some o) → Θ s → Θ s'
  un : ∀ {pins : List (Addr × Obj)} {σ : L2.St} {H H' : Hp} {s s' : Shared} (ex : List Addr), Inv X pins σ H s → s.toks ≤ s'.toks → (∀ b ∈ ex, b ≠ X.env.locals ∧ ∀ x c, X.env.cells.lookup x = some c → c ≠ b) → Un (frs X.stack) ex H H' s.heap s'.heap → Θ s → Θ s'
  st : ∀ {pins : List (Addr × Obj)} {σ : L2.St} {H : Hp} {s s' : Shared} {x : Str} {u : Value}, Inv X pins σ H s → x ∉ ys → s.toks ≤ s'.toks → Put X x u s s' → Θ s → Θ s'
theorem Clo.kept {X : Cx} {ys : List Str} {Θ : Shared → Prop} (C : Clo X ys Θ) {pins : List (Addr × Obj)} {σ : L2.St} {H : Hp} {s s' : Shared} (I : Inv X pins σ H s) (t : s.toks ≤ s'.toks) (k : ∀ b o, s.heap.get? b = some o → s'.heap.get? b = some o) (θ : Θ s) : Θ s' :=
  C.but [] I t (fun _ z => nomatch z) (fun b o _ e => k b o e) θ
theorem Clo.tok {X : Cx} {ys : List Str} {Θ : Shared → Prop} (C : Clo X ys Θ) {pins : List (Addr × Obj)} {σ : L2.St} {H : Hp} {s : Shared} (I : Inv X pins σ H s) (θ : Θ s) : Θ { s with toks := s.toks + 1 } :=
  C.kept I (Nat.le_add_right _ _) (fun _ _ e => e) θ
theorem Clo.push {X : Cx} {ys : List Str} {Θ : Shared → Prop} (C : Clo X ys Θ) {pins : List (Addr × Obj)} {σ : L2.St} {H : Hp} {s : Shared} {o : Obj} (I : Inv X pins σ H s) (θ : Θ s) : Θ { s with heap := s.heap.push o } :=
  C.kept I (Nat.le_refl _) (fun _ _ e => Heap.get?_push_of_some _ e) θ
theorem Clo.un0 {X : Cx} {ys : List Str} {Θ : Shared → Prop} (C : Clo X ys Θ) {pins : List (Addr × Obj)} {σ : L2.St} {H H' : Hp} {s s' : Shared} (I : Inv X pins σ H s) (t : s.toks ≤ s'.toks) (u : Un (frs X.stack) [] H H' s.heap s'.heap) (θ : Θ s) : Θ s' :=
  C.un [] I t (fun _ z => nomatch z) u θ
/-- n tokens were given out -/
theorem clo_n {X : Cx} {n : Nat} : Clo X [] (fun s => n ≤ s.toks) :=
  ⟨fun _ _ t _ _ h => Nat.le_trans h t, fun _ _ t _ _ h => Nat.le_trans h t, fun _ _ t _ h => Nat.le_trans h t⟩
theorem Clo.and {X : Cx} {ys zs : List Str} {Θ Φ : Shared → Prop} (a : Clo X ys Θ) (b : Clo X zs Φ) : Clo X (ys ++ zs) (fun s => Θ s ∧ Φ s) :=
  ⟨fun fp I t f k h => ⟨a.but fp I t f k h.1, b.but fp I t f k h.2⟩, fun ex I t f u h => ⟨a.un ex I t f u h.1, b.un ex I t f u h.2⟩,
    fun I n t p h => ⟨a.st I (fun z => n (List.mem_append_left _ z)) t p h.1, b.st I (fun z => n (List.mem_append_right _ z)) t p h.2⟩⟩
/-- the raw value of a local name -/
def Raw (X : Cx) (y : Str) (u : Value) (s : Shared) : Prop := ∃ m, s.heap.Ns X.env.locals m ∧ m y = some u
theorem clo_raw {X : Cx} {y : Str} {u : Value} (hl : X.env.scope.names.lookup y = some .local) : Clo X [y] (Raw X y u) := by
  refine ⟨fun {pins σ H s s'} fp I t f k h => ?_, fun {pins σ H H' s s'} ex I t f un h => ?_, fun {pins σ H s s' x v} I n t p h => ?_⟩
  · obtain ⟨m, ⟨o, es, ep, ho, rest⟩, e⟩ := h
    exact ⟨m, ⟨o, es, ep, k _ _ (fun z => (f _ z).1 rfl) ho, rest⟩, e⟩
  · obtain ⟨m, ⟨o, es, ep, ho, rest⟩, e⟩ := h
    obtain ⟨sl, e2⟩ := un.any ho I.free (fun z => (f _ z).1 rfl)
    exact ⟨m, ⟨_, es, ep, e2, rest⟩, e⟩
  · obtain ⟨m, ns, e⟩ := h
    have ne : y ≠ x := fun z => n (by rw [z]; exact List.mem_singleton_self _)
    rcases p with ⟨_, _, m2, ns2, new⟩ | ⟨c, hc, sb, _⟩
    · refine ⟨_, new, ?_⟩
      show (if y = x then some v else m2 y) = some u
      rw [if_neg ne, ns2.agree ns y]
      exact e
    · exact ⟨m, ns.sameBut sb (Ne.symm (I.cne x c hc)), e⟩
/-- the raw value of a name that has a cell -/
def RawC (X : Cx) (c : Addr) (u : Value) (s : Shared) : Prop := s.heap.IsCell c (some u)
theorem clo_cell {X : Cx} {y : Str} {c : Addr} {u : Value} (hc : X.env.cells.lookup y = some c) : Clo X [y] (RawC X c u) := by
  refine ⟨fun {pins σ H s s'} fp I t f k h => ?_, fun {pins σ H H' s s'} ex I t f un h => ?_, fun {pins σ H s s' x v} I n t p h => ?_⟩
  · obtain ⟨o, ho, rest⟩ := h
    exact ⟨o, k _ _ (fun z => (f _ z).2 _ _ hc rfl) ho, rest⟩
  · obtain ⟨o, ho, rest⟩ := h
    obtain ⟨sl, e2⟩ := un.any ho (I.freeC _ _ hc) (fun z => (f _ z).2 _ _ hc rfl)
    exact ⟨_, e2, rest⟩
  · have ne : x ≠ y := fun z => n (by rw [z]; exact List.mem_singleton_self _)
    have k : ∀ a, c ≠ a → Heap.SameBut a s.heap s'.heap → RawC X c u s' := fun a na sb => by
      obtain ⟨o, ho, rest⟩ := h
      exact ⟨o, (sb.2 c na).trans ho, rest⟩
    rcases p with ⟨_, sb, _⟩ | ⟨c2, hc2, sb, _⟩
    · exact k _ (I.cne y c hc) sb
    · exact k _ (fun z => ne (I.ok.inj x y c (by rw [z]; exact hc2) hc)) sb
section
variable {X : Cx} {pins : List (Addr × Obj)} {σ : L2.St} {H : Hp} {s : Shared} {x : Str}
/-- a name is stored; what is known of the state afterwards -/
theorem put_ok {M : Model} {A : Around} {E : Value → Shared → Prop} {i : Nat} {v : V} {u : Value} {Q : Unit → Shared → Prop} (I : Inv X pins σ H s) (hN : X.N.Nodup) (hi : X.N[i]? = some x) (hx : Loc X.env.scope x) (r : RelV v u)
    (h : ∀ s', Inv X pins (σ.set i (some v)) H s' → s.toks ≤ s'.toks → Put X x u s s' → Q () s') (hf : X.fn x = true ∨ X.env.scope.names.lookup x = some .local) : wpAny M A (storeName X.env x u) Q E s := by
  rcases hx with hk | hk
  · obtain ⟨m, ns, look⟩ := id I.loc
    have inside : i < σ.length := by rw [I.len]; exact (List.getElem?_eq_some_iff.mp hi).1
    have notcls : (X.env.scope.kind == .class || (X.env.scope.kind == .module && X.env.locals != X.env.globals)) = false := by rw [I.ok.kind]; rfl
    refine wpAny_storeName_local hk ns (fun g ns2 sb => ?_) notcls
    obtain ⟨oF, _, _, hoF, _⟩ := id ns
    have low : ∀ b o, X.s_0.heap.get? b = some o → b ≠ X.env.locals := fun b o e => Nat.ne_of_lt (Nat.lt_of_lt_of_le (Heap.lt_size e) I.ok.above)
    have objs : HOk X.prog X.w H g := fun b ob e => by
      refine (I.hok b ob e).stay (fun c2 w2 h2 q => (sb.2 c2 fun z => ?_).trans q) (fun _ q => q) fun _ _ q => q
      subst z
      rcases h2 with z | z
      · rw [← z, I.free] at e
        cases e
      · rw [I.free] at z
        cases z
    have loc2 : ∀ (j : Nat) (z : Str) (w : V), X.N[j]? = some z → (σ.set i (some v))[j]? = some (some w) → Vis X.env.scope z → ∃ u', RelV w u' ∧ Look X.env g (fun y => if y = x then some u else m y) z u' := fun j z w e1 e2 e3 => by
      by_cases ji : j = i
      · subst ji
        rw [hi] at e1
        cases e1
        rw [List.getElem?_set_self inside] at e2
        cases e2
        exact ⟨u, r, .inl ⟨hk, by simp⟩⟩
      · rw [List.getElem?_set_ne (Ne.symm ji)] at e2
        obtain ⟨u', r', q⟩ := look j z w e1 e2 e3
        have zx : z ≠ x := fun e => ji (nodup_ix hN e1 (e ▸ hi))
        rcases q with ⟨k, e⟩ | ⟨k, c2, e, z4⟩
        · exact ⟨u', r', .inl ⟨k, by simp [zx, e]⟩⟩
        · exact ⟨u', r', .inr ⟨k, c2, e, z4.sameBut sb (I.cne z c2 e)⟩⟩
    refine h _ ⟨I.ok, I.os, I.bare, ⟨fun b o e n hb hx2 => (sb.2 b (low b o e)).trans (I.base.keep b o e n hb hx2), fun b o e n hb hx2 => ?_, I.base.free, fun b o e hx2 => ?_, I.base.tups, I.base.frzs, I.base.tbls⟩, ⟨_, ns2, loc2⟩, fun z c2 e => ?_, I.free, I.freeC, fun p hp => ?_, objs, by simpa using I.len⟩ (Nat.le_add_right _ _) (.inl ⟨hk, sb, m, ns, ns2⟩)
    · obtain ⟨sl, e1⟩ := I.base.slot b o e n hb hx2
      exact ⟨sl, (sb.2 b (low b o e)).trans e1⟩
    · obtain ⟨o2, e1⟩ := I.base.there b o e hx2
      exact ⟨o2, (sb.2 b (low b o e)).trans e1⟩
    · obtain ⟨w2, z2⟩ := I.cell z c2 e
      exact ⟨w2, z2.sameBut sb (I.cne z c2 e)⟩
    · obtain ⟨e, n, ne, nf, d⟩ := I.pin p hp
      exact ⟨(sb.2 p.1 ne).trans e, n, ne, nf, d⟩
  · have own : X.fn x = true := by
      rcases hf with z | z
      · exact z
      · rw [z] at hk; cases hk
    obtain ⟨c, hc⟩ := I.ok.has x (.inl hk)
    exact store_cellS I hN hi hk ⟨hc, own⟩ r fun h' I2 cell sb => h _ I2 (Nat.le_refl _) (.inr ⟨c, hc, sb, cell⟩)
end
end Sq

set_option Elab.async false
set_option linter.all false
set_option maxRecDepth 100000
set_option maxHeartbeats 4000000
/-! Judgements that keep what is known of the state. -/
namespace Sq
open PySem PySem.Spec PyProof.Rows L2 GenW
structure We (X : Cx) (Θ : Shared → Prop) (e : Expr) (t : TE) : Prop where
  run : ∀ (pins : List (Addr × Obj)) (s : Shared) (σ : L2.St) (H : Hp) (Q : VK), Inv X pins σ H s → Θ s → t σ H Q → wpAny (model X.prog X.w) X.A (eval e X.env) (fun u s' => Θ s' ∧ EP X pins σ Q u s') X.xe s
structure Wa (X : Cx) (Θ : Shared → Prop) (es : List Expr) (t : TA) : Prop where
  run : ∀ (pos : Pos) (pins : List (Addr × Obj)) (s : Shared) (σ : L2.St) (H : Hp) (Q : List V → Hp → Prop), Inv X pins σ H s → Θ s → t σ H Q → wpAny (model X.prog X.w) X.A (spliced (backTo pos (starEach es X.env))) (fun us s' => Θ s' ∧ AP X pins σ Q us s') X.xe s
structure Wt (X : Cx) (Θ : Shared → Prop) (e : Expr) (t : TT) : Prop where
  run : ∀ (pins : List (Addr × Obj)) (s : Shared) (σ : L2.St) (H : Hp) (Q : Bool → Hp → Prop), Inv X pins σ H s → Θ s → t σ H Q → wpAny (model X.prog X.w) X.A (isTrue e X.env (eval e X.env)) (fun b s' => Θ s' ∧ TP X pins σ Q b s') X.xe s
structure Ws (X : Cx) (Θ : Shared → Prop) (st : Stmt) (t : TS) : Prop where
  run : ∀ (pins : List (Addr × Obj)) (s : Shared) (σ : L2.St) (H : Hp) (D : Ends), Inv X pins σ H s → Θ s → t D σ H → wpAny (model X.prog X.w) X.A (exec st X.env) (fun f s' => Θ s' ∧ SP X pins D f s') X.xe s
structure Wss (X : Cx) (Θ : Shared → Prop) (sts : List Stmt) (t : TS) : Prop where
  run : ∀ (pins : List (Addr × Obj)) (s : Shared) (σ : L2.St) (H : Hp) (D : Ends), Inv X pins σ H s → Θ s → t D σ H → wpAny (model X.prog X.w) X.A (execs sts X.env) (fun f s' => Θ s' ∧ SP X pins D f s') X.xe s
/-- where it need not be known behind it -/
structure Wu (X : Cx) (Θ : Shared → Prop) (sts : List Stmt) (t : TS) : Prop where
  run : ∀ (pins : List (Addr × Obj)) (s : Shared) (σ : L2.St) (H : Hp) (D : Ends), Inv X pins σ H s → Θ s → t D σ H → wpAny (model X.prog X.w) X.A (execs sts X.env) (SP X pins D) X.xe s
/-- raw arguments of which the j-th is known -/
structure Wx (X : Cx) (Θ : Shared → Prop) (j : Nat) (es : List Expr) (t : TA) : Prop where
  run : ∀ (pos : Pos) (pins : List (Addr × Obj)) (s : Shared) (σ : L2.St) (H : Hp) (Q : List V → Hp → Prop), Inv X pins σ H s → Θ s → t σ H Q → wpAny (model X.prog X.w) X.A (spliced (backTo pos (starEach es X.env))) (fun us s' => (Θ s' ∧ Tkn j us s'.toks) ∧ AP X pins σ Q us s') X.xe s
structure Wk (X : Cx) (Θ : Shared → Prop) (kws : List Keyword) (t : TA) : Prop where
  run : ∀ (pos : Pos) (pins : List (Addr × Obj)) (s : Shared) (σ : L2.St) (H : Hp) (Q : List V → Hp → Prop), Inv X pins σ H s → Θ s → t σ H Q → wpAny (model X.prog X.w) X.A (evalAll ((backToKw pos (keywordEach kws X.env)).map (·.2))) (fun us s' => Θ s' ∧ AP X pins σ Q us s') X.xe s
structure Wy (X : Cx) (Θ : Shared → Prop) (j : Nat) (kws : List Keyword) (t : TA) : Prop where
  run : ∀ (pos : Pos) (pins : List (Addr × Obj)) (s : Shared) (σ : L2.St) (H : Hp) (Q : List V → Hp → Prop), Inv X pins σ H s → Θ s → t σ H Q → wpAny (model X.prog X.w) X.A (evalAll ((backToKw pos (keywordEach kws X.env)).map (·.2))) (fun us s' => (Θ s' ∧ Tkn j us s'.toks) ∧ AP X pins σ Q us s') X.xe s
/-- the raw value u of the name y is known, and if it is a text of one sign, its token -/
structure Known (X : Cx) (Θ : Shared → Prop) (y : Str) : Prop where
  kn : ∀ (s : Shared), Θ s → ∃ u, Tkn 0 [u] s.toks ∧ ((X.env.kindOf y = some .local ∧ Raw X y u s) ∨ (X.env.kindOf y = some .cell ∧ ∃ c, X.env.cells.lookup y = some c ∧ s.heap.IsCell c (some u)))
def OpW (X : Cx) (Θ : Shared → Prop) (op : Value → Value → Sem Value) (r : R2) : Prop :=
  ∀ (pins : List (Addr × Obj)) (s : Shared) (σ : L2.St) (H : Hp) (x y : V) (v u : Value) (Q : VK), Inv X pins σ H s → Θ s → RelV x v → RelV y u → r x y H Q → wpAny (model X.prog X.w) X.A (op v u) (fun w s' => Θ s' ∧ EP X pins σ Q w s') X.xe s
def CallW (X : Cx) (Θ : Shared → Prop) (f : Value) (r : List V → Hp → VK → Prop) : Prop := ∀ (pins : List (Addr × Obj)) (s : Shared) (σ : L2.St) (H : Hp) (vs : List V) (us : List Value) (Q : VK), Inv X pins σ H s → Θ s → Vals vs us → r vs H Q → wpAny (model X.prog X.w) X.A (call f us) (fun u s' => Θ s' ∧ EP X pins σ Q u s') X.xe s
section
variable {X : Cx} {Θ : Shared → Prop} {ys : List Str} {pins : List (Addr × Obj)} {σ : L2.St} {H : Hp} {s : Shared} {x y : Str} {p pos kpos : Pos} {e e2 : Expr} {es : List Expr} {te tf : TE} {t tk : TA} {st : Stmt} {a b rest : List Stmt} {ts tr : TS} {tt : TT} {kws : List Keyword} {nm : Option Str} {n j : Nat}
/-! ### expressions -/
theorem we_var {i : Nat} (hN : X.N[i]? = some x) (hv : Vis X.env.scope x) (hd : (x == ("__debug__" : Str)) = false := by decide) (hcd : (x == ("__classdict__" : Str)) = false := by decide) : We X Θ (.Name x pos) (tVar i) :=
  ⟨fun pins s σ H Q I θ h => by
    obtain ⟨v, e, q⟩ := h
    exact raw_name hN hv I e (fun u r => ⟨θ, v, H, I, r, q⟩) hd hcd⟩
theorem wv (i : Nat) (hN : X.N[i]? = some x := by rfl) (hv : Vis X.env.scope x := by first | exact Or.inl rfl | exact Or.inr (Or.inl rfl) | exact Or.inr (Or.inr rfl)) (hd : (x == ("__debug__" : Str)) = false := by decide)
    (hcd : (x == ("__classdict__" : Str)) = false := by decide) : We X Θ (.Name x pos) (tVar i) := we_var hN hv hd hcd
theorem we_int (C : Clo X ys Θ) {i : Int} {k : Nat} : We X Θ (.Constant (.int i) k pos) (tC (.int i)) :=
  ⟨fun pins s σ H Q I θ h => wpAny_Constant_int ⟨C.tok I θ, .int i, H, I.tok _, ⟨_, rfl⟩, h⟩⟩
theorem we_str (C : Clo X ys Θ) {z : Str} {k : Nat} : We X Θ (.Constant (.str z) k pos) (tC (.str z)) :=
  ⟨fun pins s σ H Q I θ h => Calls.Constant_str ⟨C.tok I θ, .str z, H, I.tok _, ⟨_, rfl⟩, h⟩⟩
theorem we_bl {b : Bool} {k : Nat} : We X Θ (.Constant (.bool b) k pos) (tC (.bl b)) :=
  ⟨fun pins s σ H Q I θ h => Constant_bool ⟨θ, .bl b, H, I, rfl, h⟩⟩
theorem we_non {k : Nat} : We X Θ (.Constant .none k pos) (tC .non) :=
  ⟨fun pins s σ H Q I θ h => wpAny_Constant_none ⟨θ, .non, H, I, rfl, h⟩⟩
theorem wa_nil : Wa X Θ [] tNil := ⟨fun pos pins s σ H Q I θ h => Calls.spliced_nil ⟨θ, [], H, I, .nil, h⟩⟩
theorem wa_cons (ha : We X Θ e te) (hr : Wa X Θ es t) (hs : starEach (e :: es) X.env = (false, eval e X.env) :: starEach es X.env := by rfl) : Wa X Θ (e :: es) (tCons te t) := by
  refine ⟨fun pos pins s σ H Q I θ h => ?_⟩
  rw [hs]
  show wpAny _ _ (spliced ((false, eval e X.env) :: backTo pos (starEach es X.env))) _ _ s
  refine Calls.spliced_cons (thn (ha.run pins s σ H _ I θ h) fun u s1 hh => ?_)
  obtain ⟨g1, x, H1, I1, r1, q1⟩ := hh
  exact thn (hr.run pos pins s1 σ H1 _ I1 g1 q1) fun us s2 ⟨g2, xs, H2, I2, r2, q2⟩ => ⟨g2, x :: xs, H2, I2, .cons r1 r2, q2⟩
/-- [e, ..] -/
theorem we_lst (C : Clo X ys Θ) (h : Wa X Θ es t) : We X Θ (.List es pos) (tLst t) := by
  refine ⟨fun pins s σ H Q I θ hq => ?_⟩
  refine wpAny_List_spliced (thn (h.run pos pins s σ H _ I θ hq) fun us s1 hh => ?_)
  obtain ⟨g1, xs, H1, I1, r, z, q⟩ := hh
  refine ⟨by rw [← r.length]; exact z, C.push I1 g1, .ref s1.heap.objs.size, upd H1 s1.heap.objs.size (.lst xs), I1.laid (t' := s1.toks) (fun b u e => Heap.get?_push_of_some _ e) (Nat.le_refl _) ?_, rfl, q _ (I1.hok.fresh (Nat.le_refl _))⟩
  exact ⟨z, us, 0, r, Heap.get?_push_size _ rfl⟩
theorem we_op {op : Operator} {r : R2} (ho : OpW X Θ (binaryOp op) r) (ha : We X Θ e te) (hb : We X Θ e2 tf) : We X Θ (.BinOp e op e2 pos) (tOp r te tf) := by
  refine ⟨fun pins s σ H Q I θ h => ?_⟩
  refine wpAny_BinOp (thn (ha.run pins s σ H _ I θ h) fun v s1 hh => ?_)
  obtain ⟨g1, a, H1, I1, r1, q1⟩ := hh
  refine thn (hb.run pins s1 σ H1 _ I1 g1 q1) fun u s2 hh => ?_
  obtain ⟨g2, b, H2, I2, r2, q2⟩ := hh
  exact ho pins s2 σ H2 a b v u Q I2 g2 r1 r2 q2
theorem we_callD {k : Nat} {ps : List Str} {sp : Sp} (C : Clo X ys Θ) (D : Df X.prog X.w X.K X.mg X.base k x ps sp) (hr : Room k X.A) (hg : Gl X x) (ha : Wa X Θ (e :: es) t) (hdb : (x == ("__debug__" : Str)) = false := by decide)
    (he : starEach (e :: es) X.env = (false, eval e X.env) :: starEach es X.env := by rfl) (hpl : (backTo pos (starEach es X.env)).any (·.1) = false := by rfl) : We X Θ (.Call (.Name x p) (e :: es) [] pos) (tCall sp [] E0 t) := by
  obtain ⟨f, fd, F, g, kp, b⟩ := D.ex
  refine ⟨fun pins s σ H Q I θ h => ?_⟩
  refine wpAny_Call_Name_kw (ld_glob I hg g ?_ hdb)
  refine PySem.W.callWith_K (h₀ := X.base) I.ok.mod.kin kp (thn (ha.run pos pins s σ H _ I θ h) fun us s1 hh => ?_) he hpl
  obtain ⟨g1, vs, H1, I1, r, q⟩ := hh
  refine ⟨I1.kIn, ?_⟩
  rw [List.append_nil] at q
  have hl : us.length = ps.length := by rw [← r.length]; exact F.len _ _ _ _ q
  have bind := b s1 us I1.kIn (by rw [List.append_nil]; exact hl)
  rw [List.append_nil] at bind
  have called : wpAny (model X.prog X.w) X.A (call (.ref f) us) (fun u s' => (s1.toks ≤ s'.toks → Θ s') ∧ EP X pins σ Q u s') X.xe s1 := by
    refine wpAny_call (codeAny_mono (F.run X.A X.stack s1 H1 ⟨us, []⟩ us vs Q E0 hr I1.env0 bind r q) fun r s' hq => ?_)
    match r, hq with
    | .error e, hq => exact pass0 pins σ H1 s1 e s' I1 hq
    | .ok (.ret u), hq =>
      have ce : CE X.stack X.prog X.w H1 s1 Q u s' := hq
      obtain ⟨_, _, _, _, un, _⟩ := id ce
      exact ⟨fun up => C.un0 I1 up un g1, I1.after ce⟩
  exact wpAny_mono (PySem.wpAny_toks called) (fun u s' z => ⟨z.2.1 z.1, z.2.2⟩) fun _ _ z => z.2
end
end Sq

set_option Elab.async false
set_option linter.all false
set_option maxRecDepth 100000
set_option maxHeartbeats 4000000
/-! Calls with a raw argument that is known; tests, statements, loops. -/
namespace Sq
open PySem PySem.Spec PyProof.Rows L2 GenW
section
variable {X : Cx} {Θ : Shared → Prop} {ys : List Str} {pins : List (Addr × Obj)} {σ : L2.St} {H : Hp} {s : Shared} {x y : Str} {p pos kpos : Pos} {e e2 : Expr} {es : List Expr} {te tf : TE} {t tk : TA} {st : Stmt} {a b rest : List Stmt} {ts tr : TS} {tt tu : TT} {kws : List Keyword} {nm : Option Str} {n j : Nat}
/-! ### a known name -/
theorem known_eval {E : Value → Shared → Prop} {Q : Value → Shared → Prop} {i : Nat} {v : V} (Kn : Known X Θ y) (I : Inv X pins σ H s) (θ : Θ s) (hN : X.N[i]? = some y) (hv : Vis X.env.scope y) (h : σ[i]? = some (some v)) (fin : ∀ u, RelV v u → Tkn 0 [u] s.toks → Q u s) (hd : (y == ("__debug__" : Str)) = false := by decide) :
    wpAny (model X.prog X.w) X.A (eval (.Name y p) X.env) Q E s := by
  obtain ⟨u, tk, where_⟩ := Kn.kn s θ
  obtain ⟨m, hns, look⟩ := I.loc
  obtain ⟨u2, r, l⟩ := look i y v hN h hv
  rcases where_ with ⟨k, m2, ns2, e2⟩ | ⟨k, c, hc, cell⟩
  · have eu : u2 = u := by
      rcases l with ⟨_, q⟩ | ⟨k1, _⟩
      · rw [hns.agree ns2 y, e2] at q
        exact (Option.some.inj q).symm
      · rw [k] at k1
        rcases k1 with z | z <;> cases z
    subst eu
    exact wpAny_Name (wpAny_loadName_local I.ok.kind k ns2 e2 (fin _ r tk)) hd
  · have eu : u2 = u := by
      rcases l with ⟨k1, _⟩ | ⟨_, c1, e1, cell1⟩
      · rw [k] at k1
        cases k1
      · rw [hc] at e1
        obtain rfl : c = c1 := Option.some.inj e1
        obtain ⟨o1, g1, d1⟩ := cell
        obtain ⟨o2, g2, d2⟩ := cell1
        rw [g1] at g2
        obtain rfl : o1 = o2 := Option.some.inj g2
        rw [d1] at d2
        injection d2 with d2
        exact (Option.some.inj d2).symm
    subst eu
    exact wpAny_Name (wpAny_loadName_cell I.ok.kind k hc cell (fin _ r tk)) hd
theorem tkn_up {us : List Value} {m : Nat} (h : Tkn j us n) (l : n ≤ m) : Tkn j us m := fun b t e one => ⟨(h b t e one).1, Nat.lt_of_lt_of_le (h b t e one).2 l⟩
theorem wx_name {i : Nat} (Kn : Known X Θ y) (hN : X.N[i]? = some y) (hv : Vis X.env.scope y) (hr : Wa X Θ es t) (hs : starEach (.Name y p :: es) X.env = (false, eval (.Name y p) X.env) :: starEach es X.env := by rfl) (hd : (y == ("__debug__" : Str)) = false := by decide) :
    Wx X Θ 0 (.Name y p :: es) (tCons (tVar i) t) := by
  refine ⟨fun pos pins s σ H Q I θ h => ?_⟩
  rw [hs]
  show wpAny _ _ (spliced ((false, eval (.Name y p) X.env) :: backTo pos (starEach es X.env))) _ _ s
  obtain ⟨v, e, q⟩ := h
  refine Calls.spliced_cons (known_eval Kn I θ hN hv e (fun u r good => ?_) hd)
  refine wpAny_mono (PySem.wpAny_toks (hr.run pos pins s σ H _ I θ q)) (fun us s2 hh => ?_) fun _ _ z => z.2
  obtain ⟨up, g2, xs, H2, I2, r2, q2⟩ := hh
  exact ⟨⟨g2, fun b tk eb one => ⟨(good b tk eb one).1, Nat.lt_of_lt_of_le (good b tk eb one).2 up⟩⟩, v :: xs, H2, I2, .cons r r2, q2⟩
/-- a written text; some token was given out before -/
theorem wx_str {z : Str} {k : Nat} (C : Clo X ys Θ) (h1 : ∀ s, Θ s → 1 ≤ s.toks) (hr : Wa X Θ es t) (hs : starEach (.Constant (.str z) k p :: es) X.env = (false, eval (.Constant (.str z) k p) X.env) :: starEach es X.env := by rfl) : Wx X Θ 0 (.Constant (.str z) k p :: es) (tCons (tC (.str z)) t) := by
  refine ⟨fun pos pins s σ H Q I θ h => ?_⟩
  rw [hs]
  show wpAny _ _ (spliced ((false, eval (.Constant (.str z) k p) X.env) :: backTo pos (starEach es X.env))) _ _ s
  refine Calls.spliced_cons (Calls.Constant_str ?_)
  refine wpAny_mono (PySem.wpAny_toks (hr.run pos pins { s with toks := s.toks + 1 } σ H _ (I.tok _) (C.tok I θ) h)) (fun us s2 hh => ?_) fun _ _ z => z.2
  obtain ⟨hk, g2, xs, H2, I2, r2, q2⟩ := hh
  refine ⟨⟨g2, fun b tk eb one => ?_⟩, .str z :: xs, H2, I2, .cons ⟨_, rfl⟩ r2, q2⟩
  have e2 : Value.str z s.toks = .str b tk := Option.some.inj eb
  injection e2 with _ e3
  subst e3
  exact ⟨Nat.ne_of_gt (h1 s θ), hk⟩
theorem wx_skip (ha : We X Θ e te) (hr : Wx X Θ j es t) (hs : starEach (e :: es) X.env = (false, eval e X.env) :: starEach es X.env := by rfl) : Wx X Θ (j + 1) (e :: es) (tCons te t) := by
  refine ⟨fun pos pins s σ H Q I θ h => ?_⟩
  rw [hs]
  show wpAny _ _ (spliced ((false, eval e X.env) :: backTo pos (starEach es X.env))) _ _ s
  refine Calls.spliced_cons (thn (ha.run pins s σ H _ I θ h) fun u s1 hh => ?_)
  obtain ⟨g1, v, H1, I1, r1, q1⟩ := hh
  exact thn (hr.run pos pins s1 σ H1 _ I1 g1 q1) fun us s2 ⟨g2, xs, H2, I2, r2, q2⟩ => ⟨g2, v :: xs, H2, I2, .cons r1 r2, q2⟩
/-- f(..) -/
theorem we_callT {k : Nat} {ps : List Str} {sp : Sp} (C : Clo X ys Θ) (D : DfT X.prog X.w X.K X.mg X.base k x ps j sp) (hr : Room k X.A) (hg : Gl X x) (ha : Wx X Θ j (e :: es) t) (hdb : (x == ("__debug__" : Str)) = false := by decide)
    (he : starEach (e :: es) X.env = (false, eval e X.env) :: starEach es X.env := by rfl) (hpl : (backTo pos (starEach es X.env)).any (·.1) = false := by rfl) : We X Θ (.Call (.Name x p) (e :: es) [] pos) (tCall sp [] E0 t) := by
  obtain ⟨f, fd, F, g, kp, b⟩ := D.ex
  refine ⟨fun pins s σ H Q I θ h => ?_⟩
  refine wpAny_Call_Name_kw (ld_glob I hg g ?_ hdb)
  refine PySem.W.callWith_K (h₀ := X.base) I.ok.mod.kin kp (thn (ha.run pos pins s σ H _ I θ h) fun us s1 hh => ?_) he hpl
  obtain ⟨⟨g1, tk⟩, vs, H1, I1, r, q⟩ := hh
  refine ⟨I1.kIn, ?_⟩
  rw [List.append_nil] at q
  have hl : us.length = ps.length := by rw [← r.length]; exact F.len _ _ _ _ q
  have bind := b s1 us I1.kIn (by rw [List.append_nil]; exact hl)
  rw [List.append_nil] at bind
  have called : wpAny (model X.prog X.w) X.A (call (.ref f) us) (fun u s' => (s1.toks ≤ s'.toks → Θ s') ∧ EP X pins σ Q u s') X.xe s1 := by
    refine wpAny_call (codeAny_mono (F.run X.A X.stack s1 H1 ⟨us, []⟩ us vs Q hr I1.env0 bind r tk q) fun r s' hq => ?_)
    match r, hq with
    | .ok (.ret u), hq =>
      have ce : CE X.stack X.prog X.w H1 s1 Q u s' := hq
      obtain ⟨_, _, _, _, un, _⟩ := id ce
      exact ⟨fun up => C.un0 I1 up un g1, I1.after ce⟩
  exact wpAny_mono (PySem.wpAny_toks called) (fun u s' z => ⟨z.2.1 z.1, z.2.2⟩) fun _ _ z => z.2
/-! ### keywords -/
theorem wk_nil : Wk X Θ [] tNil := ⟨fun _ _ _ _ H Q I θ h => wpAny_evalAll_nil ⟨θ, [], H, I, .nil, h⟩⟩
theorem wk_cons (ha : We X Θ e te) (hr : Wk X Θ kws t) : Wk X Θ (⟨nm, e, kpos⟩ :: kws) (tCons te t) := by
  refine ⟨fun pos pins s σ H Q I θ h => ?_⟩
  show wpAny _ _ (evalAll ((do let v ← eval e X.env; standAt pos; pure v) :: (backToKw pos (keywordEach kws X.env)).map (·.2))) _ _ s
  refine wpAny_evalAll_cons (wpAny_bind (thn (ha.run pins s σ H _ I θ h) fun u s1 hh => wpAny_bind (wpAny_standAt (wpAny_pure ?_))))
  obtain ⟨g1, v, H1, I1, r1, q1⟩ := hh
  exact thn (hr.run pos pins s1 σ H1 _ I1 g1 q1) fun us s2 ⟨g2, xs, H2, I2, r2, q2⟩ => ⟨g2, v :: xs, H2, I2, .cons r1 r2, q2⟩
theorem wy_skip (ha : We X Θ e te) (hr : Wy X Θ j kws t) : Wy X Θ (j + 1) (⟨nm, e, kpos⟩ :: kws) (tCons te t) := by
  refine ⟨fun pos pins s σ H Q I θ h => ?_⟩
  show wpAny _ _ (evalAll ((do let v ← eval e X.env; standAt pos; pure v) :: (backToKw pos (keywordEach kws X.env)).map (·.2))) _ _ s
  refine wpAny_evalAll_cons (wpAny_bind (thn (ha.run pins s σ H _ I θ h) fun u s1 hh => wpAny_bind (wpAny_standAt (wpAny_pure ?_))))
  obtain ⟨g1, v, H1, I1, r1, q1⟩ := hh
  exact thn (hr.run pos pins s1 σ H1 _ I1 g1 q1) fun us s2 ⟨g2, xs, H2, I2, r2, q2⟩ => ⟨g2, v :: xs, H2, I2, .cons r1 r2, q2⟩
theorem wy_name {i : Nat} (Kn : Known X Θ y) (hN : X.N[i]? = some y) (hv : Vis X.env.scope y) (hr : Wk X Θ kws t) (hd : (y == ("__debug__" : Str)) = false := by decide) :
    Wy X Θ 0 (⟨nm, .Name y p, kpos⟩ :: kws) (tCons (tVar i) t) := by
  refine ⟨fun pos pins s σ H Q I θ h => ?_⟩
  show wpAny _ _ (evalAll ((do let v ← eval (.Name y p) X.env; standAt pos; pure v) :: (backToKw pos (keywordEach kws X.env)).map (·.2))) _ _ s
  obtain ⟨v, e, q⟩ := h
  refine wpAny_evalAll_cons (wpAny_bind (known_eval Kn I θ hN hv e (fun u r good => wpAny_bind (wpAny_standAt (wpAny_pure ?_))) hd))
  refine wpAny_mono (PySem.wpAny_toks (hr.run pos pins s σ H _ I θ q)) (fun us s2 hh => ?_) fun _ _ z => z.2
  obtain ⟨up, g2, xs, H2, I2, r2, q2⟩ := hh
  exact ⟨⟨g2, fun b tk eb one => ⟨(good b tk eb one).1, Nat.lt_of_lt_of_le (good b tk eb one).2 up⟩⟩, v :: xs, H2, I2, .cons r r2, q2⟩
theorem we_callTK {k : Nat} {ps ks : List Str} {gV : List V → List V → List V} {j' : Nat} {sp : Sp} (C : Clo X ys Θ) (D : DkT X.prog X.w X.K X.mg X.base k x ps ks gV j j' sp) (hr : Room k X.A) (hg : Gl X x) (hkw : Wy X Θ j kws tk) (hall : (backToKw pos (keywordEach kws X.env)).all (·.1.isSome) = true := by rfl)
    (hks : (backToKw pos (keywordEach kws X.env)).filterMap (·.1) = ks := by rfl) (hdb : (x == ("__debug__" : Str)) = false := by decide)
    (hpl : ((backTo pos (starEach [] X.env)).any (·.1) || (backToKw pos (keywordEach kws X.env)).any (·.1.isNone)) = false := by rfl) :
    We X Θ (.Call (.Name x p) [] kws pos) (fun σ H Q => tk σ H fun zs H1 => zs.length = ks.length ∧ sp (gV [] zs) H1 Q E0) := by
  obtain ⟨f, fd, g, F, hm, kp, hb, hj⟩ := D.ex
  refine ⟨fun pins s σ H Q I θ h => ?_⟩
  refine wpAny_Call_Name_kw (ld_glob I hg hm ?_ hdb)
  refine PySem.W.callWith_KW0 (h₀ := X.base) I.ok.mod.kin kp hall (thn (hkw.run pos pins s σ H _ I θ h) fun ws s1 hh => ?_) hpl
  obtain ⟨⟨g1, tkn⟩, zs, H1, I1, rz, l2, q⟩ := hh
  refine ⟨I1.kIn, ?_⟩
  rw [hks]
  have lw : ws.length = ks.length := rz.length.symm.trans l2
  have r2 := hb.rel .nil rz
  have called : wpAny (model X.prog X.w) X.A (call (.ref f) ([] ++ []) (ks.zip ws)) (fun u s' => (s1.toks ≤ s'.toks → Θ s') ∧ EP X pins σ Q u s') X.xe s1 := by
    refine wpAny_call (codeAny_mono (F.run X.A X.stack s1 H1 ⟨[], ks.zip ws⟩ (g [] ws) (gV [] zs) Q hr I1.env0 (hb.to s1 [] ws I1.kIn rfl lw) r2 (hj ws _ lw tkn) q) fun r s' hq => ?_)
    match r, hq with
    | .ok (.ret u), hq =>
      have ce : CE X.stack X.prog X.w H1 s1 Q u s' := hq
      obtain ⟨_, _, _, _, un, _⟩ := id ce
      exact ⟨fun up => C.un0 I1 up un g1, I1.after ce⟩
  exact wpAny_mono (PySem.wpAny_toks called) (fun u s' z => ⟨z.2.1 z.1, z.2.2⟩) fun _ _ z => z.2
/-! ### tests -/
theorem wt_cmp {op : CmpOp} {r : R2} (ho : OpW X Θ (compareOp op) r) (ha : We X Θ e te) (hb : We X Θ e2 tf) (hm : behindInMarks op e2 = false) : Wt X Θ (.Compare e [op] [e2] pos) (tTest (tOp r te tf)) := by
  refine ⟨fun pins s σ H Q I θ h => ?_⟩
  refine wpAny_isTrue_Compare1 (thn (ha.run pins s σ H _ I θ h) fun v s1 hh => ?_) hm
  obtain ⟨g1, a, H1, I1, r1, q1⟩ := hh
  refine thn (hb.run pins s1 σ H1 _ I1 g1 q1) fun u s2 hh => ?_
  obtain ⟨g2, b, H2, I2, r2, q2⟩ := hh
  refine thn (ho pins s2 σ H2 a b v u _ I2 g2 r1 r2 q2) (fun w s3 z => ?_)
  obtain ⟨g3, b3, H3, I3, r3, k, e3, q3⟩ := z
  subst e3
  cases r3
  exact wpAny_truthy_bool ⟨g3, H3, I3, q3⟩
/-! ### statements -/
theorem wss_nil : Wss X Θ [] tNext := ⟨fun _ _ σ H _ I θ h => wpAny_execs_nil ⟨θ, σ, H, I, h⟩⟩
theorem wss_cons (h1 : Ws X Θ st ts) (h2 : Wss X Θ rest tr) : Wss X Θ (st :: rest) (tSeq ts tr) := by
  refine ⟨fun pins s σ H D I θ h => ?_⟩
  refine wpAny_execs_cons (thn (h1.run pins s σ H { D with nx := tr D } I θ h) fun f s1 hh => ?_)
  obtain ⟨g1, q⟩ := hh
  match f, q with
  | .next, ⟨σ', H', I', q⟩ => exact h2.run pins s1 σ' H' D I' g1 q
  | .ret v, q => exact ⟨g1, q⟩
  | .brk, q => exact ⟨g1, q⟩
  | .cont, q => exact ⟨g1, q⟩
theorem wss_one (h1 : Ws X Θ st ts) : Wss X Θ [st] ts := by
  refine ⟨fun pins s σ H D I θ h => ?_⟩
  refine wpAny_execs_cons (thn (h1.run pins s σ H D I θ h) fun f s1 hh => ?_)
  obtain ⟨g1, q⟩ := hh
  match f, q with
  | .next, q => exact wpAny_execs_nil ⟨g1, q⟩
  | .ret v, q => exact ⟨g1, q⟩
  | .brk, q => exact ⟨g1, q⟩
  | .cont, q => exact ⟨g1, q⟩
/-- never reached -/
theorem wss_no : Wss X Θ rest (fun _ _ _ => False) := ⟨fun _ _ _ _ _ _ _ h => h.elim⟩
theorem pss_no : PSs X rest (fun _ _ _ => False) := ⟨fun _ _ _ _ _ _ h => h.elim⟩
theorem wu_of (h : Wss X Θ rest tr) : Wu X Θ rest tr := ⟨fun pins s σ H D I θ q => wpAny_mono (h.run pins s σ H D I θ q) (fun _ _ z => z.2) fun _ _ z => z⟩
theorem wu_ps (h : PSs X rest tr) : Wu X Θ rest tr := ⟨fun pins s σ H D I θ q => h.run pins s σ H D I q⟩
theorem wu_cons (h1 : Ws X Θ st ts) (h2 : Wu X Θ rest tr) : Wu X Θ (st :: rest) (tSeq ts tr) := by
  refine ⟨fun pins s σ H D I θ h => ?_⟩
  refine wpAny_execs_cons (thn (h1.run pins s σ H { D with nx := tr D } I θ h) fun f s1 hh => ?_)
  obtain ⟨g1, q⟩ := hh
  match f, q with
  | .next, ⟨σ', H', I', q⟩ => exact h2.run pins s1 σ' H' D I' g1 q
  | .ret v, q => exact q
  | .brk, q => exact q
  | .cont, q => exact q
theorem ws_expr (he : We X Θ e te) (hs : swapsWith e none pos.line X.env = pure false := by rfl) : Ws X Θ (.Expr e pos) (tDrop te) := by
  refine ⟨fun pins s σ H D I θ h => ?_⟩
  refine wpAny_Expr_any (thn (he.run pins s σ H _ I θ h) fun v s1 hh => ?_) I.quiet hs
  obtain ⟨g1, x, H1, I1, r1, q1⟩ := hh
  exact ⟨g1, σ, H1, I1, q1⟩
theorem ws_set {i : Nat} {pos' : Pos} (C : Clo X ys Θ) (ne : x ∉ ys) (hN : X.N.Nodup) (hi : X.N[i]? = some x) (hx : Loc X.env.scope x) (he : We X Θ e te) (hs : swapsWith e (some (.Name x pos')) pos.line X.env = pure false := by rfl) (hf : X.fn x = true ∨ X.env.scope.names.lookup x = some .local := by first | exact .inl rfl | exact .inr rfl | assumption) :
    Ws X Θ (.Assign [.Name x pos'] e pos) (tAsg te (gName i)) := by
  refine ⟨fun pins s σ H D I θ h => ?_⟩
  refine wpAny_Assign_Name (thn (he.run pins s σ H _ I θ h) fun v s1 hh => ?_) hs
  obtain ⟨g1, z, H1, I1, r1, q1⟩ := hh
  exact put_ok I1 hN hi hx r1 (fun s2 I2 up pt => ⟨C.st I1 ne up pt g1, _, H1, I2, q1⟩) hf
theorem ws_if {ce : Expr} (hc : Wt X Θ ce tt) (ha : Wss X Θ a ts) (hb : Wss X Θ b tr) : Ws X Θ (.If ce a b pos) (tIfS tt ts tr) := by
  refine ⟨fun pins s σ H D I θ h => ?_⟩
  refine wpAny_If (thn (hc.run pins s σ H _ I θ h) fun d s1 hh => ?_)
  obtain ⟨g1, H1, I1, q1⟩ := hh
  cases d with
  | true => exact ha.run pins s1 σ H1 D I1 g1 q1
  | false => exact hb.run pins s1 σ H1 D I1 g1 q1
theorem ws_ret (he : We X Θ e te) : Ws X Θ (.Return (some e) pos) (tRet te) := by
  refine ⟨fun pins s σ H D I θ h => ?_⟩
  refine wpAny_Return_some (thn (he.run pins s σ H _ I θ h) fun v s1 hh => ?_)
  obtain ⟨g1, x, H1, I1, r1, q1⟩ := hh
  exact ⟨g1, x, σ, H1, I1, r1, q1⟩
/-- try: .. where nothing is raised -/
theorem ws_tryc {body : List Stmt} {hd : ExceptHandler} {hs : List ExceptHandler} {tb : TS} (tried : ∀ (pn : List (Addr × Obj)), Wss (X.tr pn fun _ _ => False) Θ body tb) : Ws X Θ (.Try body (hd :: hs) [] [] pos) tb := by
  refine ⟨fun pins s σ H D I θ h => ?_⟩
  have ok := I.ok
  refine wpAny_Try_except (wpAny_mono ((tried (X.pn ++ pins)).run [] s σ H D (I.toTry _) θ h) (fun f s1 done => ?_) (fun e s1 he => he.elim))
  obtain ⟨g1, q⟩ := done
  cases f with
  | next =>
    obtain ⟨σ2, H2, J, q⟩ := q
    exact wpAny_execs_nil ⟨g1, σ2, H2, J.ofTry ok, q⟩
  | brk =>
    obtain ⟨σ2, H2, J, q⟩ := q
    exact ⟨g1, σ2, H2, J.ofTry ok, q⟩
  | cont =>
    obtain ⟨σ2, H2, J, q⟩ := q
    exact ⟨g1, σ2, H2, J.ofTry ok, q⟩
  | ret u =>
    obtain ⟨v, σ2, H2, J, r, q⟩ := q
    exact ⟨g1, v, σ2, H2, J.ofTry ok, r, q⟩
end
/-- Known, of a local name -/
theorem known_local {X : Cx} {y : Str} {u : Value} {n : Nat} (hk : X.env.kindOf y = some .local) (good : Tkn 0 [u] n) : Known X (fun s => Raw X y u s ∧ n ≤ s.toks) y :=
  ⟨fun s h => ⟨u, fun b t e one => ⟨(good b t e one).1, Nat.lt_of_lt_of_le (good b t e one).2 h.2⟩, .inl ⟨hk, h.1⟩⟩⟩
theorem known_cell {X : Cx} {y : Str} {c : Addr} {u : Value} {n : Nat} (hk : X.env.kindOf y = some .cell) (hc : X.env.cells.lookup y = some c) (good : Tkn 0 [u] n) : Known X (fun s => RawC X c u s ∧ n ≤ s.toks) y :=
  ⟨fun s h => ⟨u, fun b t e one => ⟨(good b t e one).1, Nat.lt_of_lt_of_le (good b t e one).2 h.2⟩, .inr ⟨hk, c, hc, h.1⟩⟩⟩
end Sq

set_option Elab.async false
set_option linter.all false
set_option maxRecDepth 100000
set_option maxHeartbeats 4000000
/-! Promises that want one argument's token, from walks that know it. -/
namespace Sq
open PySem PySem.Spec PyProof.Rows L2 GenW
section
variable {P : Program} {w : World} {K : PySem.W.Frag} {mg : Str → Option Value} {base : Heap} {k j : Nat} {f : Addr} {fd : FuncData} {ps : List Str} {sp spA spB : Sp}
theorem FnT.of (F : FnOk P w K mg base CX0 k f fd ps sp) : FnT P w K mg base k f fd ps j sp :=
  ⟨F.len, fun A outer s H args us vs Q hr e0 hb r _ h => codeAny_mono (F.run A outer s H args us vs Q E0 hr e0 hb r h) fun r s' hq => by
    match r, hq with
    | .error e, hq => exact hq
    | .ok (.ret u), hq => exact hq
    | .ok .next, hq => exact hq
    | .ok .brk, hq => exact hq
    | .ok .cont, hq => exact hq⟩
theorem FnT.or (a : FnT P w K mg base k f fd ps j spA) (b : FnT P w K mg base k f fd ps j spB) (h : ∀ vs H Q E, sp vs H Q E → spA vs H Q E ∨ spB vs H Q E) : FnT P w K mg base k f fd ps j sp :=
  ⟨fun vs H Q E q => (h vs H Q E q).elim (a.len vs H Q E) (b.len vs H Q E), fun A outer s H args us vs Q hr e0 hb r tk q => (h vs H Q E0 q).elim (a.run A outer s H args us vs Q hr e0 hb r tk) (b.run A outer s H args us vs Q hr e0 hb r tk)⟩
theorem FnT.mono {k2 : Nat} (a : FnT P w K mg base k f fd ps j sp) (h : k ≤ k2) : FnT P w K mg base k2 f fd ps j sp :=
  ⟨a.len, fun A outer s H args us vs Q hr e0 hb r tk q => a.run A outer s H args us vs Q (hr.mono h) e0 hb r tk q⟩
/-- the argument is a plain local -/
theorem fnt_ofL {x qual y : Str} {st : Stmt} {N : List Str} (F : Fun K x qual st f fd) (S : FnScope N ps (defScope st)) (len : ∀ vs H Q E, sp vs H Q E → vs.length = ps.length)
    (hy : ps[j]? = some y) (hk : (defScope st).names.lookup y = some .local)
    (walk : ∀ (cdv : Value) (A : Around) (outer : List Env) (s : Shared) (H : Hp) (us : List Value) (vs : List V) (Q : VK) (u0 : Value), Room k (A.deeper (envOfC qual (defScope st) s.heap.objs.size f cdv)) → sp vs H Q E0 → Vals vs us → Tkn j us s.toks → us[j]? = some u0 →
      ∃ t, Wu (cxOf CX0 P w K mg base N qual (defScope st) f cdv A outer s H E0).nox (fun s' => Raw (cxOf CX0 P w K mg base N qual (defScope st) f cdv A outer s H E0).nox y u0 s' ∧ s.toks ≤ s'.toks) (defBody st) t ∧ t { nx := fun _ H' => Q .non H', rt := Q } (L2.start N vs) H) : FnT P w K mg base (k + 1) f fd ps j sp := by
  obtain ⟨oc, od, kV, doc, pm, an, cdv, ct, osl, rfl, lk, hcd⟩ := F.ex
  refine ⟨len, fun A outer s H args us vs Q hr e0 hb r tkn hsp => ?_⟩
  have hl := len _ _ _ _ hsp
  have KX : K.In s.heap := e0.mod.kin.keeps fun b o e => (e0.bs b o e).1
  have lim : s.heap.NoLimit := e0.mod.nolimit.keeps fun b o e => (e0.bs b o e).1
  have hkind : ∀ y ∈ ps.zip us, (defScope st).names.lookup y.1 = some .local ∨ ((defScope st).names.lookup y.1 = some .cell ∧ ((cellsFrom (s.heap.objs.size + 1) (defScope st).names []).lookup y.1).isSome = true) := fun ⟨n, v⟩ hy =>
    (S.par n (List.of_mem_zip hy).1).elim .inl fun z => .inr ⟨z, PySem.W.cellsFrom_some _ _ _ (.inl z)⟩
  refine codeAny_call_function hr.depth (KX _ _ lk) rfl S.co S.gen rfl (PySem.W.codeRec_of KX hcd) (hb _ _ _ _ ?_)
  refine PySem.wpAny_with_toks (Nat.le_refl s.toks) (wpAny_newFunctionEnv_cells S.kind hkind fun env he s1 made toks1 => ?_)
  subst he
  refine ⟨lim.keeps made.toInCall.keep, codeAny_func ?_⟩
  have jl : j < ps.length := (List.getElem?_eq_some_iff.mp hy).1
  obtain ⟨u0, hu⟩ : ∃ u0, us[j]? = some u0 := ⟨us[j]'(by rw [← r.length, hl]; exact jl), List.getElem?_eq_getElem _⟩
  have ndP : ps.Nodup := by rw [← S.pre]; exact S.nd.sublist (List.take_sublist _ _)
  have at1 := bindL_get (kindOf := (envOfC qual (defScope st) s.heap.objs.size f cdv).kindOf) (m := fun _ => none) ndP hy hu hk
  obtain ⟨t, ht, hq⟩ := walk cdv A outer s H us vs Q u0 (hr.deeper _) hsp r tkn hu
  have I : Inv (cxOf CX0 P w K mg base N qual (defScope st) f cdv A outer s H E0).nox [] (start N vs) H s1 := (inv_start S hr.hd e0 hl r made).wish _
  refine wpAny_mono (ht.run [] s1 (start N vs) H _ I ⟨⟨_, made.toInCall.ns, at1⟩, toks1⟩ hq) (fun fl s' hs => ?_) fun e s' hs => False.elim hs
  match fl, hs with
  | .ret u, ⟨v, σ', H', J, rv, q⟩ => exact ⟨v, H', J.os, J.bare, J.base, J.hok, rv, q⟩
  | .next, ⟨σ', H', J, q⟩ => exact ⟨V.non, H', J.os, J.bare, J.base, J.hok, rfl, q⟩
  | .brk, ⟨_, _, _, q⟩ => exact False.elim q
  | .cont, ⟨_, _, _, q⟩ => exact False.elim q
end
end Sq

set_option Elab.async false
set_option linter.all false
set_option maxRecDepth 100000
set_option maxHeartbeats 4000000
/-! A comprehension whose elements know what stands in a cell of the def. -/
namespace Sq
open PySem PySem.Spec PyProof.Rows L2 GenW
section
variable {X : Cx}
theorem lcK_core {y0 : Str} {c0 : Addr} {u0 : Value} {n0 : Nat} (Ce : Cel X y0 c0) {pins : List (Addr × Obj)} {s : Shared} {σ : L2.St} {H : Hp} {Q : VK} {elt tg iter : Expr} {ifs : List Expr} {scope : Scope} {own : List (Str × Nat)} {pos pos' : Pos} {wi : TI} {g : TG} {tt : TT} {te : TE} {use : Option (Value → Sem Unit)} {Qf : Value → Shared → Prop}
    (mood : X.calm = true) (nodupN : X.N.Nodup) (I : Inv X pins σ H s) (many : n0 ≤ s.toks) (there : s.heap.IsCell c0 (some u0)) (sourceA : JI X c0 tg iter wi) (ok : BlkOk X.N X.env.scope scope own)
    (targetA : ∀ (s : Shared) (H : Hp) (C : Addr) (cl : List (Str × Addr)) (fp : List Addr), PG (X.blk s H scope (compEnvC scope cl C X.env) fp) tg g) (testsA : ∀ (s : Shared) (H : Hp) (C : Addr) (cl : List (Str × Addr)) (fp : List Addr), PTs (X.blk s H scope (compEnvC scope cl C X.env) fp) ifs tt)
    (elemA : ∀ (s : Shared) (H : Hp) (C : Addr) (k : Nat) (fp : List Addr), We (X.blk s H scope (compEnvC scope (cellsFrom k scope.names (cloFrom X.env.cells scope.names [])) C X.env) fp) (fun s => RawC X c0 u0 s ∧ n0 ≤ s.toks) elt te) (plainA : ∀ x, foldedSetIterable iter X.env x = pure x)
    (h : tLc wi g tt te (own.map (·.2)) σ H Q)
    (back : ∀ D C s' m H', Inv X pins σ H' s' → Q (.ref D) H' → s'.heap.Ns C m → FpOk X pins H' C → compPost (model X.prog X.w) X.A X.xe use Qf (.ref D) C (.ok .next) s') :
    wpAny (model X.prog X.w) X.A (comprehension (.ListComp elt [⟨tg, iter, ifs, 0⟩] scope pos) scope X.env pos' (newList []) false (eval iter X.env) use) Qf X.xe s := by
  have captured : ∀ y ∈ scope.names, y.2 = .free → ∃ c, X.env.cells.lookup y.1 = some c := fun y hy e => by
    rcases ok.free y hy e with k | k
    · exact I.ok.has _ (.inl k)
    · exact I.ok.has _ (.inr k)
  refine wpAny_comprehension_free (use := use) rfl plainA (closure_ok captured) ok.kind (fun y hy e => by rw [ok.uniq y hy, e])
    (wpAny_mono (PySem.wpAny_toks_of many (sourceA.run pins s σ H _ I h)) (fun srcV sA gotX => wpAny_mono (PySem.wpAny_toks_of gotX.1 gotX.2) (fun itV sB hB2 => ?_) fun _ _ z => z.2) fun _ _ z => z.2)
  obtain ⟨manyB, kB, h2⟩ := hB2
  have thereB : sB.heap.IsCell c0 (some u0) := kB.cell there
  obtain ⟨it, fp, tn, J, HB, e, I2, T, st2, f2, q⟩ := h2
  subst e
  refine wpAny_newObj_type (newEnv_comp ?_) (Nat.zero_le _)
  generalize atD : sB.heap.objs.size = D
  have freshD : HB D = none := I2.hok.fresh (Nat.le_of_eq atD)
  obtain ⟨W, ⟨mes0, inv0⟩, walk0⟩ := q D freshD
  -- the new list
  generalize laid3 : ({ sB with heap := sB.heap.push { cls := .type "list", data := .seq ([] : List Value).toArray } } : Shared) = sC
  have J3 : Inv X pins σ (upd HB D (.lst [])) sC := by
    rw [← laid3]
    refine I2.laid (t' := sB.toks) (fun b o e => Heap.get?_push_of_some _ e) (Nat.le_of_eq atD) ⟨Nat.zero_le _, [], 0, .nil, ?_⟩
    rw [← atD]
    exact Heap.get?_push_size _ rfl
  have heap3 : sC.heap = sB.heap.push { cls := .type "list", data := .seq ([] : List Value).toArray } := by rw [← laid3]
  have below : ∀ b ∈ fp, b < sB.heap.objs.size := fun b hb => by
    obtain ⟨o, e, _⟩ := T.obj _ _ st2 b hb
    exact Heap.lt_size e
  have roam3 : ∀ b ∈ fp, FpOk X pins (upd HB D (.lst [])) b ∧ b < sC.heap.objs.size := fun b hb => by
    have hlt := below b hb
    refine ⟨⟨?_, (f2 b hb).2⟩, by rw [heap3, Heap.size_push]; exact Nat.lt_succ_of_lt hlt⟩
    rw [upd_ne (by rw [← atD]; exact Nat.ne_of_lt hlt)]
    exact (f2 b hb).1
  have turn3 : tn 0 sC.heap := T.keep _ _ _ st2 fun b _ o e => by rw [heap3]; exact Heap.get?_push_of_some _ e
  have J4 := block_start J3 ok nodupN roam3
  have tgt := targetA sC (upd HB D (.lst [])) sC.heap.objs.size (cellsFrom (sC.heap.objs.size + 1) scope.names (cloFrom X.env.cells scope.names [])) fp
  have tst := testsA sC (upd HB D (.lst [])) sC.heap.objs.size (cellsFrom (sC.heap.objs.size + 1) scope.names (cloFrom X.env.cells scope.names [])) fp
  have elm := elemA sC (upd HB D (.lst [])) sC.heap.objs.size (sC.heap.objs.size + 1) fp
  show codeAny _ _ (.compStart (.ListComp elt [⟨tg, iter, ifs, 0⟩] scope pos) 0 (.ref it) (.ref D) (compEnvC scope (cellsFrom (sC.heap.objs.size + 1) scope.names (cloFrom X.env.cells scope.names [])) sC.heap.objs.size X.env)) (compPost (model X.prog X.w) X.A X.xe use Qf (.ref D) sC.heap.objs.size) { sC with heap := pushCells (sC.heap.push { cls := .type "dict", data := .dict #[] }) scope.names }
  have manyC : n0 ≤ sC.toks := by
    rw [← laid3]
    exact manyB
  have thereC : sC.heap.IsCell c0 (some u0) := by
    obtain ⟨o, eo, d⟩ := thereB
    exact ⟨o, by rw [heap3]; exact Heap.get?_push_of_some _ eo, d⟩
  have untr : ∀ b ∈ fp, (upd HB D (.lst [])) b = none := fun b hb => (roam3 b hb).1.1
  generalize blkE : compEnvC scope (cellsFrom (sC.heap.objs.size + 1) scope.names (cloFrom X.env.cells scope.names [])) sC.heap.objs.size X.env = ce at J4 tgt tst elm ⊢
  have locE : ce.locals = sC.heap.objs.size := by subst blkE; rfl
  generalize heapE : upd HB D (.lst []) = HC at J3 J4 tgt tst elm inv0 untr roam3
  generalize laid4 : ({ sC with heap := pushCells (sC.heap.push { cls := .type "dict", data := .dict #[] }) scope.names } : Shared) = sD at J4 ⊢
  have turn4 : tn 0 sD.heap := T.keep _ _ _ turn3 fun b _ o e => by rw [← laid4]; exact pushCells_keeps _ _ _ _ (Heap.get?_push_of_some _ e)
  have roams : ∀ {σ' : L2.St} {H' : Hp} {s' : Shared}, Inv (X.blk sC HC scope ce fp) [] σ' H' s' → (∀ b ∈ fp, H' b = none) → ∀ b ∈ fp, FpOk (X.blk sC HC scope ce fp) [] H' b := fun {σ' H' s'} I' nsC b hb =>
    ⟨nsC b hb, (I'.ok.exf b hb).1, I'.ok.exfs b hb, .inl hb, fun x c e => (I'.ok.exf b hb).2 x c e, fun p hp => absurd (show p ∈ ([] : List (Addr × Obj)) ++ [] from hp) (by simp)⟩
  have outer0 : codeAny (model X.prog X.w) X.A (.compLoop (.ListComp elt [⟨tg, iter, ifs, 0⟩] scope pos) 0 (.ref it) (.ref D) ce) (compPost (model X.prog X.w) X.A X.xe use Qf (.ref D) sC.heap.objs.size) sD := by
    refine compLoop_any (fun n s' => ∃ i H', Inv (X.blk sC HC scope ce fp) [] (wipe σ (own.map (·.2))) H' s' ∧ tn i s'.heap ∧ (∀ b ∈ fp, H' b = none) ∧ W i n H' ∧ n0 ≤ s'.toks) ?_ mes0 ⟨0, HC, J4, turn4, untr, inv0, by rw [← laid4]; exact manyC⟩
    rintro n sE ⟨i, HE, J5, turn5, un5, inv5, manyE⟩
    rcases walk0 i n HE inv5 with ⟨atEnd, done0⟩ | ⟨more, NxA, reach, body0⟩
    · have ended := T.done (X.blk sC HC scope ce fp) rfl rfl rfl mood i [] sE _ HE (fun _ _ => False) J5 (roams J5 un5) turn5 atEnd
      refine thnF ended fun r sF ⟨hr, J6⟩ => ?_
      subst hr
      have J7 : Inv X pins σ HE sF := J3.call' (ch := fp) J6.os J6.base J6.hok J6.bare fun b hb => ⟨(roam3 b hb).1.2.2.2.1, (roam3 b hb).1.2.1, (roam3 b hb).1.2.2.2.2.1, (roam3 b hb).1.2.2.2.2.2⟩
      have freeC : HE sC.heap.objs.size = none := by
        have z : HE ce.locals = none := J6.free
        rw [locE] at z
        exact z
      obtain ⟨m, nsC, _⟩ := J6.loc
      have nsC : sF.heap.Ns ce.locals m := nsC
      rw [locE] at nsC
      exact back D sC.heap.objs.size sF m HE J7 done0 nsC (J3.fpOk (Nat.le_refl _) freeC)
    · have given := T.item (X.blk sC HC scope ce fp) rfl rfl rfl mood i [] sE _ HE (fun _ _ => False) J5 (roams J5 un5) turn5 more
      refine wpAny_mono (PySem.wpAny_toks_of manyE given) (fun r sF hh => ?_) fun _ _ z => False.elim z.2
      obtain ⟨manyF, u, hr, got6⟩ := hh
      subst hr
      refine wpAny_mono (PySem.wpAny_toks_of manyF got6) (fun _ sG hh => ?_) fun _ _ z => False.elim z.2
      obtain ⟨manyG, x, HG, J7, rel7, yld7, turn7, un7⟩ := hh
      have J7p := J7.pinned (roams J7 un7) (T.obj _ _ turn7)
      refine wpAny_mono (PySem.wpAny_toks_of manyG (tgt.run _ sG _ HG x u _ J7p rel7 (body0 x HG yld7))) (fun _ sH hh => ?_) fun _ _ z => False.elim z.2
      obtain ⟨manyH, τ, HH, J8, wip8, go8⟩ := hh
      refine wpAny_mono (PySem.wpAny_toks_of manyH (tst.run _ sH τ HH _ J8 go8)) (fun b sI hh => ?_) fun _ _ z => False.elim z.2
      obtain ⟨manyI, HI, J9, go9⟩ := hh
      have close : ∀ {s' : Shared} {H' : Hp}, n0 ≤ s'.toks → Inv (X.blk sC HC scope ce fp) ([] ++ pinsAt fp sG.heap) τ H' s' → NxA H' →
          ∃ m, m < n ∧ ∃ i H', Inv (X.blk sC HC scope ce fp) [] (wipe σ (own.map (·.2))) H' s' ∧ tn i s'.heap ∧ (∀ b ∈ fp, H' b = none) ∧ W i m H' ∧ n0 ≤ s'.toks := fun {s' H'} mn I' nextW => by
        obtain ⟨m', lessM, invM⟩ := reach H' nextW
        have kept : ∀ b ∈ fp, ∀ o, sG.heap.get? b = some o → s'.heap.get? b = some o ∧ H' b = none := fun b hb o e =>
          let z := I'.pin (b, o) (List.mem_append_right _ (List.mem_append_right _ (mem_pinsAt hb e)))
          ⟨z.1, z.2.1⟩
        refine ⟨m', lessM, i + 1, H', (I'.unpinned (pins := [])).weak (by rw [← wip8, wipe_length]) (fun j v e => by rw [← wip8] at e; exact (wipe_some e).1), T.keep _ _ _ turn7 fun b hb o e => (kept b hb o e).1, fun b hb => ?_, invM, mn⟩
        obtain ⟨o, e, _⟩ := T.obj _ _ turn7 b hb
        exact (kept b hb o e).2
      cases b with
      | false =>
        simp only [Bool.false_eq_true, if_false] at go9 ⊢
        exact close manyI J9 go9
      | true =>
        simp only [if_true] at go9 ⊢
        have thereI : RawC X c0 u0 sI := by
          obtain ⟨o, eo, d⟩ := thereC
          exact ⟨o, J9.base.keep c0 o eo (Ce.free J3) (Ce.nostk J3) (fun hb => (roam3 c0 hb).1.2.2.2.2.1 _ _ Ce.is rfl), d⟩
        refine thnF (elm.run _ sI τ HI _ J9 ⟨thereI, manyI⟩ go9) fun z sQ ⟨kn17, yv, HQ, J17, rel17, acc, acc17, room17, nextW⟩ => ?_
        refine wpAny_mono (PySem.wpAny_toks_of kn17.2 (app_ok (X := X.blk sC HC scope ce fp) (E := fun _ _ => False) (Q := fun _ s' => n0 ≤ s'.toks → ∃ m, m < n ∧ ∃ i H', Inv (X.blk sC HC scope ce fp) [] (wipe σ (own.map (·.2))) H' s' ∧ tn i s'.heap ∧ (∀ b ∈ fp, H' b = none) ∧ W i m H' ∧ n0 ≤ s'.toks) J17 acc17 room17 rel17 fun sR J18 mn => close mn J18 nextW)) (fun _ _ z => z.2 z.1) fun _ _ z => False.elim z.2
  exact codeAny_compStart_list outer0 (T.self X.A 0 _ _ _ turn4 outer0)
theorem jr_lcK {y0 : Str} {c0 : Addr} {u0 : Value} {n0 : Nat} (Ce : Cel X y0 c0) {elt tg iter : Expr} {ifs : List Expr} {scope : Scope} {own : List (Str × Nat)} {pos : Pos} {wi : TI} {g : TG} {tt : TT} {te : TE} (mood : X.calm = true) (nodupN : X.N.Nodup) (sourceA : JI X c0 tg iter wi) (ok : BlkOk X.N X.env.scope scope own)
    (targetA : ∀ (s : Shared) (H : Hp) (C : Addr) (cl : List (Str × Addr)) (fp : List Addr), PG (X.blk s H scope (compEnvC scope cl C X.env) fp) tg g) (testsA : ∀ (s : Shared) (H : Hp) (C : Addr) (cl : List (Str × Addr)) (fp : List Addr), PTs (X.blk s H scope (compEnvC scope cl C X.env) fp) ifs tt)
    (elemA : ∀ (s : Shared) (H : Hp) (C : Addr) (k : Nat) (fp : List Addr), We (X.blk s H scope (compEnvC scope (cellsFrom k scope.names (cloFrom X.env.cells scope.names [])) C X.env) fp) (fun s => RawC X c0 u0 s ∧ n0 ≤ s.toks) elt te) (plainA : ∀ x, foldedSetIterable iter X.env x = pure x := by intro _; rfl) :
    JR X c0 u0 n0 (.ListComp elt [⟨tg, iter, ifs, 0⟩] scope pos) (tLc wi g tt te (own.map (·.2))) := by
  refine ⟨fun pins s σ H Q I hn hc h => ?_⟩
  rw [arm_eval_ListComp]
  refine lcK_core Ce mood nodupN I hn hc sourceA ok targetA testsA elemA plainA h fun D C s' m H' I' q nsC f => ⟨m, nsC, fun h'' sb => ?_⟩
  obtain ⟨f0, f1, f2, roam3, f4, f5⟩ := f
  exact ⟨.ref D, H', I'.turned (t' := s'.toks) (fun b o hb e => (sb.2 b hb).trans e) f0 f1 roam3 f4 f5, rfl, q⟩
end
end Sq

set_option Elab.async false
set_option linter.all false
set_option maxRecDepth 100000
set_option maxHeartbeats 4000000
/-! More code that keeps a cell; a sign out of a written list. -/
namespace Sq
open PySem PySem.Spec PyProof.Rows L2 GenW
section
variable {X : Cx} {c : Addr} {u0 : Value} {n : Nat} {x y : Str} {p pos : Pos} {e e2 e3 : Expr} {es : List Expr} {te tf : TE} {t : TA} {a b rest : List Stmt} {ts tr : TS} {tt : TT} {st : Stmt}
theorem cj_reprV (hg : X.A.guards = some []) (hu : X.A.units + 64 < cLine) : CallJ X c (.builtin "repr") (rReprV X.K) := by
  intro pins s σ H xs us Q I r h
  obtain ⟨x, d, rfl, S, q⟩ := h
  obtain ⟨u, rfl, rv⟩ := vals1 r
  obtain ⟨dp, sh, nd, dep, fit⟩ := S
  cases dp with
  | non =>
    obtain rfl : u = Value.none := rv
    exact PySem.P.repr_of_none ⟨Kc.refl, .str _, H, I.tok _, ⟨_, rfl⟩, q⟩
  | bl b =>
    obtain rfl : u = Value.bool b := rv
    exact PySem.P.repr_of_bool ⟨Kc.refl, .str _, H, I.tok _, ⟨_, rfl⟩, q⟩
  | int i =>
    obtain ⟨t, rfl⟩ := rv
    exact PySem.P.repr_of_int (of_decide_eq_true sh) ⟨Kc.refl, .str _, H, I.tok _, ⟨_, rfl⟩, q⟩
  | str y =>
    obtain ⟨t, rfl⟩ := rv
    exact PySem.P.repr_of_str ⟨Kc.refl, .str _, H, I.tok _, ⟨_, rfl⟩, q⟩ fit
  | lst hs ha => exact cj_reprD hg hu pins s σ H _ _ Q I r ⟨_, _, rfl, .lst hs ha, sh, nd, dep, fit, q⟩
  | tup hs ha => exact cj_reprD hg hu pins s σ H _ _ Q I r ⟨_, _, rfl, .tup hs ha, sh, nd, dep, fit, q⟩
theorem oj_lt : OpJ X c (compareOp .Lt) (rI0 fun i j => .bl (decide (i < j))) := by
  intro pins s σ H x y v u Q I rx ry h
  obtain ⟨i, j, rfl, rfl, q⟩ := h
  obtain ⟨t1, rfl⟩ := rx
  obtain ⟨t2, rfl⟩ := ry
  exact lt_int ⟨Kc.refl, .bl _, H, I, rfl, q⟩
theorem oj_inD (hu : X.A.units + 65 < cLine) : OpJ X c (compareOp .In) (rInD X.K) := by
  intro pins s σ H x y v u Q I rx ry h
  obtain ⟨d, ds, hd, he, sd, se, q⟩ := h
  obtain ⟨as, r1⟩ := Dp.reads I d x v hd rx
  obtain ⟨bs, r2⟩ := Dp.reads I (.list ds) y u he ry
  exact SeqAt.in_list_reads r2 r1 (SeqAt.canLay_of_shaped se) (SeqAt.canLay_of_shaped sd) (room_in_shaped sd hu) ⟨Kc.refl, .bl _, H, I, rfl, q⟩
theorem je_non {k : Nat} : JE X c (.Constant .none k pos) (tC .non) :=
  ⟨fun pins s σ H Q I h => wpAny_Constant_none ⟨Kc.refl, .non, H, I, rfl, h⟩⟩
theorem je_lst (h : JA X c es t) : JE X c (.List es pos) (tLst t) := by
  refine ⟨fun pins s σ H Q I hq => ?_⟩
  refine wpAny_List_spliced (thn (h.run pos pins s σ H _ I hq) fun us s1 hh => ?_)
  obtain ⟨g1, xs, H1, I1, r, z, q⟩ := hh
  refine ⟨by rw [← r.length]; exact z, g1.trans fun o e => Heap.get?_push_of_some _ e, .ref s1.heap.objs.size, upd H1 s1.heap.objs.size (.lst xs), I1.laid (t' := s1.toks) (fun b u e => Heap.get?_push_of_some _ e) (Nat.le_refl _) ?_, rfl, q _ (I1.hok.fresh (Nat.le_refl _))⟩
  exact ⟨z, us, 0, r, Heap.get?_push_size _ rfl⟩
theorem jk_ifx {ce : Expr} (hc : JKT X c u0 n ce tt) (ha : JK X c u0 n e te) (hb : JK X c u0 n e2 tf) : JK X c u0 n (.IfExp ce e e2 pos) (tIf tt te tf) := by
  refine ⟨fun pins s σ H Q I hn hcell h => ?_⟩
  refine wpAny_IfExp (thn (hc.run pins s σ H _ I hn hcell h) fun d s1 hh => ?_)
  obtain ⟨g1, H1, I1, q1⟩ := hh
  cases d with
  | true => exact thn (ha.run pins s1 σ H1 Q I1 g1.2 (g1.1.cell hcell) q1) fun u s2 ⟨g2, q2⟩ => ⟨g1.trans g2, q2⟩
  | false => exact thn (hb.run pins s1 σ H1 Q I1 g1.2 (g1.1.cell hcell) q1) fun u s2 ⟨g2, q2⟩ => ⟨g1.trans g2, q2⟩
theorem ji_range1 {tg : Expr} (hg : Gl X "range") (hm : X.mg "range" = none) (ha : JA X c [e] t) (hs : starEach [e] X.env = [(false, eval e X.env)] := by rfl) : JI X c tg (.Call (.Name "range" p) [e] [] pos) (iRng1 t) := by
  refine ⟨fun pins s σ H R I h => ?_⟩
  refine Call_ (ld_blt I hg hm boot_range (PyProof.Rows.callWith_type1 (thn (ha.run pos pins s σ H _ I h) fun us s1 hh => ?_) hs rfl))
  obtain ⟨g1, vs, H1, I1, r1, j, ex, q1, q2, q⟩ := hh
  subst ex
  obtain ⟨u, rfl, tk, rfl⟩ := vals1 r1
  refine call_range_1 ?_
  generalize eh : s1.heap.push { cls := .type "range", data := .fields #[.int 0 s1.toks, .int j tk, .int 1 (s1.toks + 1)] } = h1
  have kept : ∀ b o, s1.heap.get? b = some o → h1.get? b = some o := fun b o e => by
    rw [← eh]
    exact Heap.get?_push_of_some _ e
  have isR : IsRange h1 s1.heap.objs.size 0 j 1 s1.toks tk (s1.toks + 1) := by
    rw [← eh]
    exact IsRange.new ..
  have I2 : Inv X pins σ H1 { s1 with heap := h1, toks := s1.toks + 1 + 1 } := I1.kept (t' := s1.toks + 1 + 1) kept
  refine wpAny_pyIter_range isR (small_one (by omega) (by omega) q1 q2) ⟨g1.trans fun o e => Heap.get?_push_of_some _ (kept _ _ e), ?_⟩
  refine ⟨h1.objs.size, [h1.objs.size], _, _, H1, rfl, I2.kept (t' := s1.toks + 1 + 1) (fun b o e => Heap.get?_push_of_some _ e), turn_range _ 0 j.toNat, ?_, fun b hb => ?_, q⟩
  · have first : (0 : Int) + ((0 : Nat) : Int) * 1 = 0 := by omega
    have left : ((j.toNat : Nat) : Int) - ((0 : Nat) : Int) = Builtin.Range.rangeSize 0 j 1 := by
      rw [rangeSize_one]
      split <;> omega
    show IsRangeIter _ _ ((0 : Int) + ((0 : Nat) : Int) * 1) (((j.toNat : Nat) : Int) - ((0 : Nat) : Int)) 1
    rw [first, left]
    exact Heap.get?_push_size _ rfl
  · rw [List.mem_singleton.mp hb]
    exact I2.fpOk (Nat.le_refl _) (I2.hok.fresh (Nat.le_refl _))
theorem ji_enum {pt : Pos} {elts : List Expr} {kk : Nat} (hg : Gl X "enumerate") (hm : X.mg "enumerate" = none) (ha : JA X c [e] t) (hs : starEach [e] X.env = [(false, eval e X.env)] := by rfl) :
    JI X c (.Tuple elts kk pt) (.Call (.Name "enumerate" p) [e] [] pos) (iEnum X.K t) := by
  refine ⟨fun pins s σ H R I h => ?_⟩
  refine Call_ (ld_blt I hg hm boot_enumerate (PyProof.Rows.callWith_type1 (thn (ha.run pos pins s σ H _ I h) fun us s1 hh => ?_) hs rfl))
  obtain ⟨g1, vs, H1, I1, r1, l, xs, ex, hq, q⟩ := hh
  subst ex
  obtain ⟨u, rfl, rfl⟩ := vals1 r1
  obtain ⟨its, rv, isL, hz⟩ := I1.list hq
  refine call_enumerate_list isL.isList fun g isE isI hsz hk => wpAny_pyIter_enum isE ⟨g1.trans fun o e => hk _ _ e, ?_⟩
  refine ⟨s1.heap.objs.size + 1, [s1.heap.objs.size + 1, s1.heap.objs.size], _, _, H1, rfl, I1.kept (t' := s1.toks) hk, turn_enum l (s1.heap.objs.size + 1) s1.heap.objs.size, ⟨⟨.none, isE⟩, isI, Nat.succ_ne_self _⟩, fun b hb => ?_, q⟩
  have up : s1.heap.objs.size ≤ b := by
    rcases List.mem_cons.mp hb with z | z
    · rw [z]
      exact Nat.le_add_right _ _
    · rw [List.mem_singleton.mp z]
      exact Nat.le_refl _
  exact I1.fpOk up (I1.hok.fresh up)
/-! ### where it is known before alone -/
theorem jrs_consK (h1 : JKS X c u0 n st ts) (h2 : JRs X c u0 n rest tr) : JRs X c u0 n (st :: rest) (tSeq ts tr) := by
  refine ⟨fun pins s σ H D I hn hc h => ?_⟩
  refine wpAny_execs_cons (thn (h1.run pins s σ H { D with nx := tr D } I hn hc h) fun f s1 hh => ?_)
  obtain ⟨g1, q⟩ := hh
  match f, q with
  | .next, ⟨σ', H', I', q⟩ => exact h2.run pins s1 σ' H' D I' g1.2 (g1.1.cell hc) q
  | .ret v, q => exact q
  | .brk, q => exact q
  | .cont, q => exact q
theorem jr_callB {id : String} {r : List V → Hp → VK → Prop} (hc : CallR X (.builtin id) r) (hg : Gl X x) (hm : X.mg x = none) (hv : bootBuiltins x = some (.builtin id)) (ha : JR X c u0 n e te) (hn : x ≠ "__name__" := by decide) (hdb : (x == ("__debug__" : Str)) = false := by decide)
    (he : starEach [e] X.env = (false, eval e X.env) :: starEach [] X.env := by rfl) (hpl : (backTo pos (starEach [] X.env)).any (·.1) = false := by rfl) : JR X c u0 n (.Call (.Name x p) [e] [] pos) (tCB r (tCons te tNil)) := by
  refine ⟨fun pins s σ H Q I hk hcell h => ?_⟩
  refine wpAny_Call_Name_kw (ld_blt I hg hm hv ?_ hn hdb)
  refine PyProof.Rows.callWith_builtin1 ?_ he hpl
  rw [he]
  show wpAny _ _ (spliced ((false, eval e X.env) :: backTo pos (starEach [] X.env))) _ _ s
  refine Calls.spliced_cons (thn (ha.run pins s σ H _ I hk hcell h) fun u s1 hh => ?_)
  obtain ⟨v, H1, I1, r1, q1⟩ := hh
  exact Calls.spliced_nil (hc pins s1 σ H1 [v] [u] Q I1 (.cons r1 .nil) q1)
/-- if e != e2: .. -/
theorem jrs_ifcmp {op : CmpOp} {r : R2} (ho : OpR X (compareOp op) r) (h1 : JR X c u0 n e te) (h2 : PE X e2 tf) (hm : behindInMarks op e2 = false) (ha : PSs X a ts) (hb : PSs X rest tr) {tn : TS} (hn : PSs X b tn) : JRs X c u0 n (.If (.Compare e [op] [e2] pos) a b p :: rest) (tSeq (tIfS (tTest (tOp r te tf)) ts tn) tr) := by
  refine ⟨fun pins s σ H D I hk hcell h => ?_⟩
  refine wpAny_execs_cons (wpAny_If (wpAny_isTrue_Compare1 (thn (h1.run pins s σ H _ I hk hcell h) fun v s1 hh => ?_) hm))
  obtain ⟨v1, H1, I1, r1, q1⟩ := hh
  refine thn (h2.run pins s1 σ H1 _ I1 q1) fun u s2 hh => ?_
  obtain ⟨v2, H2, I2, r2, q2⟩ := hh
  refine thn (ho pins s2 σ H2 v1 v2 v u _ I2 r1 r2 q2) fun w s3 hh => ?_
  obtain ⟨v3, H3, I3, r3, k, e3, q3⟩ := hh
  subst e3
  cases r3
  refine wpAny_truthy_bool ?_
  have go : ∀ (sts : List Stmt) (tx : TS), PSs X sts tx → tx { D with nx := tr D } σ H3 → wpAny (model X.prog X.w) X.A (execs sts X.env) (fun f s' => match f with | .next => wpAny (model X.prog X.w) X.A (execs rest X.env) (SP X pins D) X.xe s' | f => SP X pins D f s') X.xe s3 := fun sts tx hx hq =>
    thn (hx.run pins s3 σ H3 { D with nx := tr D } I3 hq) fun f s4 h4 => by
      match f, h4 with
      | .next, ⟨σ', H', I', q⟩ => exact hb.run pins s4 σ' H' D I' q
      | .ret v, q => exact q
      | .brk, q => exact q
      | .cont, q => exact q
  cases k with
  | true => exact go a ts ha q3
  | false => exact go b tn hn q3
end
end Sq

set_option Elab.async false
set_option linter.all false
set_option maxRecDepth 100000
set_option maxHeartbeats 4000000
/-! name = ['x', 'y', ..][e], the name in a cell: the rest knows it. -/
namespace Sq
open PySem PySem.Spec PyProof.Rows L2 GenW
/-- statements run where n tokens were given out -/
structure Pn (X : Cx) (n : Nat) (sts : List Stmt) (t : TS) : Prop where
  run : ∀ (pins : List (Addr × Obj)) (s : Shared) (σ : L2.St) (H : Hp) (D : Ends), Inv X pins σ H s → n ≤ s.toks → t D σ H → wpAny (model X.prog X.w) X.A (execs sts X.env) (SP X pins D) X.xe s
section
variable {X : Cx} {x y : Str} {p pos p1 p2 pc : Pos} {e a b : Expr} {es : List Expr} {te ta tb : TE} {t : TA} {rest : List Stmt} {tr : TS} {c : Addr}
theorem peg_ix {r : R2} (hr : IxR X r) (ha : PE X a ta) (hb : PEg X b tb) (hs : PlainIx b) : PEg X (.Subscript a b pos) (tOp r ta tb) := by
  refine ⟨fun pins s σ H Q I h => ?_⟩
  refine Subscript_ (thn (ha.run pins s σ H _ I h) fun v s1 hh => ?_)
  obtain ⟨z, H1, I1, r1, q1⟩ := hh
  refine thn (hb.run pins s1 σ H1 _ I1 q1) fun u s2 hh => ?_
  obtain ⟨up, w, H2, I2, r2, q2⟩ := hh
  exact wpAny_mono (PySem.wpAny_toks_of up (hr a b pins s2 σ H2 z w v u Q I2 r1 r2 q2 (hs _ _))) (fun _ _ z => z) fun _ _ z => z.2
/-- f(e, k) -/
theorem peg_call {k m : Nat} {i : Int} {ps : List Str} {sp : Sp} (D : Df X.prog X.w X.K X.mg X.base k x ps sp) (hr : Room k X.A) (hg : Gl X x) (ha : PE X e te) (hdb : (x == ("__debug__" : Str)) = false := by decide)
    (he : starEach [e, .Constant (.int i) m pc] X.env = (false, eval e X.env) :: starEach [.Constant (.int i) m pc] X.env := by rfl) (h2 : starEach [.Constant (.int i) m pc] X.env = [(false, eval (.Constant (.int i) m pc) X.env)] := by rfl) (hpl : (backTo pos (starEach [.Constant (.int i) m pc] X.env)).any (·.1) = false := by rfl) :
    PEg X (.Call (.Name x p) [e, .Constant (.int i) m pc] [] pos) (tCall sp [] E0 (tCons te (tCons (tC (.int i)) tNil))) := by
  obtain ⟨f, fd, F, g, kp, b⟩ := D.ex
  refine ⟨fun pins s σ H Q I h => ?_⟩
  refine wpAny_Call_Name_kw (ld_glob I hg g ?_ hdb)
  refine PySem.W.callWith_K (h₀ := X.base) I.ok.mod.kin kp ?_ he hpl
  rw [he, h2]
  show wpAny _ _ (spliced ((false, eval e X.env) :: [(false, eval (.Constant (.int i) m pc) X.env)])) _ _ s
  refine Calls.spliced_cons (thn (ha.run pins s σ H _ I h) fun u s1 hh => ?_)
  obtain ⟨v, H1, I1, r1, q1⟩ := hh
  refine Calls.spliced_cons (wpAny_Constant_int (Calls.spliced_nil ?_))
  have I2 : Inv X pins σ H1 { s1 with toks := s1.toks + 1 } := I1.tok _
  refine ⟨I2.kIn, ?_⟩
  have r : Vals [v, .int i] [u, .int i s1.toks] := .cons r1 (.cons ⟨_, rfl⟩ .nil)
  replace q1 : sp [v, .int i] H1 Q E0 := q1
  have hl : [u, Value.int i s1.toks].length = ps.length := by rw [← r.length]; exact F.len _ _ _ _ q1
  have bind := b { s1 with toks := s1.toks + 1 } [u, .int i s1.toks] I2.kIn (by rw [List.append_nil]; exact hl)
  rw [List.append_nil] at bind
  refine wpAny_mono (PySem.wpAny_toks_of (n := 1) (Nat.le_add_left 1 _) (wpAny_call (codeAny_mono (F.run X.A X.stack { s1 with toks := s1.toks + 1 } H1 ⟨[u, .int i s1.toks], []⟩ _ _ Q E0 hr I2.env0 bind r q1) fun r s' hq => ?_))) (fun _ _ z => z) fun _ _ z => z.2
  match r, hq with
  | .error e, hq => exact pass0 pins σ H1 _ e s' I2 hq
  | .ok (.ret u), hq => exact I2.after hq
theorem pss_gives {i : Nat} {pos' : Pos} (hN : X.N.Nodup) (hi : X.N[i]? = some x) (hx : Loc X.env.scope x) (he : PEg X e te) (hrest : Pn X 1 rest tr) (hs : swapsWith e (some (.Name x pos')) pos.line X.env = pure false := by rfl) (hf : X.fn x = true ∨ X.env.scope.names.lookup x = some .local := by first | exact .inl rfl | exact .inr rfl | assumption) :
    PSs X (.Assign [.Name x pos'] e pos :: rest) (tSeq (tAsg te (gName i)) tr) := by
  refine ⟨fun pins s σ H D I h => ?_⟩
  refine wpAny_execs_cons (wpAny_Assign_Name (thn (he.run pins s σ H _ I h) fun v s1 hh => ?_) hs)
  obtain ⟨up, z, H1, I1, r1, q1⟩ := hh
  exact put_ok I1 hN hi hx r1 (fun s2 I2 ups _ => hrest.run pins s2 _ H1 D I2 (Nat.le_trans up ups) q1) hf
/-- ['x', 'y', ..][e] -/
def tSignL (z1 z2 : Str) (ta : TA) (te : TE) : TE := fun σ H Q => ta σ H fun vs H1 => vs.length + 2 ≤ sizeLine ∧ te σ H1 fun y H2 => ∃ (j : Nat) (v : V), y = .int (j : Int) ∧ (V.str z1 :: V.str z2 :: vs)[j]? = some v ∧ (2 ≤ j → ∀ z : Str, v = .str z → z.length ≠ 1) ∧ Q v H2
theorem pn_signL {i k1 k2 : Nat} {z1 z2 : Str} {pos' pl ps : Pos} (hN : X.N.Nodup) (hi : X.N[i]? = some x) (hk : X.env.kindOf x = some .cell) (C : Cel X x c) (ha : PA X es t) (he : PE X e te) (hix : PlainIx e)
    (hrest : ∀ (u0 : Value) (n : Nat), Tkn 0 [u0] n → 1 ≤ n → JRs X c u0 n rest tr) (hs : swapsWith (.Subscript (.List (.Constant (.str z1) k1 p1 :: .Constant (.str z2) k2 p2 :: es) pl) e ps) (some (.Name x pos')) pos.line X.env = pure false := by rfl)
    (h1 : starEach (.Constant (.str z1) k1 p1 :: .Constant (.str z2) k2 p2 :: es) X.env = (false, eval (.Constant (.str z1) k1 p1) X.env) :: (false, eval (.Constant (.str z2) k2 p2) X.env) :: starEach es X.env := by rfl) :
    Pn X 1 (.Assign [.Name x pos'] (.Subscript (.List (.Constant (.str z1) k1 p1 :: .Constant (.str z2) k2 p2 :: es) pl) e ps) pos :: rest) (tSeq (tAsg (tSignL z1 z2 t te) (gName i)) tr) := by
  refine ⟨fun pins s σ H D I hn h => ?_⟩
  refine wpAny_execs_cons (wpAny_Assign_Name (Subscript_ (wpAny_List_spliced ?_)) hs)
  rw [h1]
  show wpAny _ _ (spliced ((false, eval (.Constant (.str z1) k1 p1) X.env) :: (false, eval (.Constant (.str z2) k2 p2) X.env) :: backTo pl (starEach es X.env))) _ _ s
  refine Calls.spliced_cons (Calls.Constant_str (Calls.spliced_cons (Calls.Constant_str ?_)))
  have I0 : Inv X pins σ H { s with toks := s.toks + 1 + 1 } := I.tok _
  refine wpAny_mono (PySem.wpAny_toks (ha.run pl pins _ σ H _ I0 h)) (fun us s1 hh => ?_) fun _ _ z => z.2
  obtain ⟨up1, vs, H1, I1, r1, few, q1⟩ := hh
  have up1' : s.toks + 1 + 1 ≤ s1.toks := up1
  refine ⟨by show us.length + 2 ≤ sizeLine; rw [← r1.length]; exact few, ?_⟩
  -- the list stands as a pin
  generalize eo : ({ cls := .type "list", data := .seq (Value.str z1 s.toks :: Value.str z2 (s.toks + 1) :: us).toArray } : Obj) = ob
  have hdat : ob.data = .seq (Value.str z1 s.toks :: Value.str z2 (s.toks + 1) :: us).toArray := by rw [← eo]
  have fp : FpOk X pins H1 s1.heap.objs.size := I1.fpOk (Nat.le_refl _) (I1.hok.fresh (Nat.le_refl _))
  have I2 : Inv X pins σ H1 { s1 with heap := s1.heap.push ob } := I1.kept (t' := s1.toks) fun b o e => Heap.get?_push_of_some _ e
  have at2 : (s1.heap.push ob).get? s1.heap.objs.size = some ob := Heap.get?_push_size _ (by rw [← eo]; rfl)
  have I3 := I2.pinned (fp := [s1.heap.objs.size]) (fun b hb => by rw [List.mem_singleton.mp hb]; exact fp) (fun b hb => by
    rw [List.mem_singleton.mp hb]
    exact ⟨ob, at2, fun v q => by rw [hdat] at q; cases q⟩)
  refine wpAny_mono (PySem.wpAny_toks (he.run _ _ σ H1 _ I3 q1)) (fun v s2 hh => ?_) fun _ _ z => z.2
  obtain ⟨up2, y, H2, I4, r2, j, v1, rfl, at3, short, q2⟩ := hh
  have up2' : s1.toks ≤ s2.toks := up2
  have pin := I4.pin (s1.heap.objs.size, ob) (List.mem_append_right _ (List.mem_append_right _ (mem_pinsAt (by simp) at2)))
  have I5 := I4.unpinned
  obtain ⟨tk, rfl⟩ := r2
  have rr : Vals (.str z1 :: .str z2 :: vs) (Value.str z1 s.toks :: Value.str z2 (s.toks + 1) :: us) := .cons ⟨_, rfl⟩ (.cons ⟨_, rfl⟩ r1)
  obtain ⟨w, ew, rw'⟩ := rr.get at3
  have isL : s2.heap.IsList s1.heap.objs.size (Value.str z1 s.toks :: Value.str z2 (s.toks + 1) :: us).toArray := ⟨ob, pin.1, by rw [← eo], 0, hdat⟩
  have il : j < (Value.str z1 s.toks :: Value.str z2 (s.toks + 1) :: us).length := (List.getElem?_eq_some_iff.mp ew).1
  have lr := r1.length
  have line := line63
  refine item_listR isL (Int.natCast_nonneg j) (by simp only [List.length_cons] at il; omega) (x := w) (by simpa using ew) ?_ (hix _ _)
  refine store_cellJ (v := v1) I5 hN hi hk C rw' fun h' I6 cell => ?_
  have good : Tkn 0 [w] s2.toks := fun b tb eb one => by
    have ewb : w = .str b tb := Option.some.inj eb
    have key : tb = s.toks ∨ tb = s.toks + 1 := by
      match j, ew, at3, short with
      | 0, ew, _, _ =>
        have e3 : Value.str z1 s.toks = w := Option.some.inj ew
        rw [ewb] at e3
        injection e3 with _ e4
        exact .inl e4.symm
      | 1, ew, _, _ =>
        have e3 : Value.str z2 (s.toks + 1) = w := Option.some.inj ew
        rw [ewb] at e3
        injection e3 with _ e4
        exact .inr e4.symm
      | j + 2, ew, _, short =>
        exfalso
        rw [ewb] at rw'
        cases v1 with
        | str z =>
          obtain ⟨t4, e4⟩ := rw'
          injection e4 with e5 _
          exact short (by omega) z rfl (by rw [← e5]; exact one)
        | non => cases rw'
        | bl _ => cases rw'
        | int _ => obtain ⟨_, e4⟩ := rw'; cases e4
        | byt _ => obtain ⟨_, e4⟩ := rw'; cases e4
        | flt _ => obtain ⟨_, e4⟩ := rw'; cases e4
        | ref _ => cases rw'
        | ty _ => cases rw'
    have h0 : tb ≠ 0 := by
      rcases key with z | z <;> rw [z]
      · exact Nat.ne_of_gt hn
      · exact Nat.succ_ne_zero _
    refine ⟨h0, ?_⟩
    rcases key with z | z <;> rw [z]
    · exact Nat.lt_of_lt_of_le (Nat.lt_of_lt_of_le (Nat.lt_succ_self _) (Nat.le_of_succ_le up1')) up2'
    · exact Nat.lt_of_lt_of_le up1' up2'
  exact (hrest w s2.toks good (Nat.le_trans hn (Nat.le_trans (Nat.le_of_succ_le (Nat.le_of_succ_le up1')) up2'))).run pins _ _ H2 D I6 (Nat.le_refl _) cell q2
end
end Sq

set_option Elab.async false
set_option linter.all false
set_option maxRecDepth 100000
set_option maxHeartbeats 1000000
/-! range(lo, hi) of ints of any size; order of lists; list(g(..)). -/
namespace L2
open PySem PySem.Spec PyProof.Rows
theorem turn_long {P : Program} {w : World} {K : PySem.W.Frag} {tg : Expr} (it : Addr) (lo : Int) (n : Nat) : Turn P w K tg (Itr lo n) [it] it (fun i h => IsLongIter h it (lo + (i : Nat) * 1) ((n : Int) - (i : Nat)) 1) where
  mem := by simp
  obj := fun i h st b hb => by
    have e : b = it := by simpa using hb
    subst e
    exact ⟨_, st, fun v z => by
      have z' : Data.fields _ = Data.cell v := z
      cases z'⟩
  keep := fun i h h' st k => k it (by simp) _ st
  item := by
    intro X hP hw hK hc i pins s σ H E I hf st hg
    subst hP hw hK
    obtain ⟨f0, f1, f2, f3, f4, f5⟩ := hf it (by simp)
    have W := Walks.longrange (prog := X.prog) (w := X.w) (I.ok.hd hc) it lo 1 n
    refine W.item i s _ _ hg st fun v h' tk hv st' kk => ?_
    obtain ⟨t, rfl⟩ := hv
    have I1 : Inv X pins σ H { s with heap := h', toks := tk } := I.turned (fun b o hb e => kk b o (by simpa using hb) e) f0 f1 f3 f4 f5
    refine ⟨_, rfl, go_of (s := { s with heap := h', toks := tk }) (n := "longrange_iterator") st' rfl rfl (by decide) ⟨.int (lo + i), H, I1, ⟨t, ?_⟩, ⟨rfl, rfl⟩, st', fun b hb => (hf b hb).1⟩⟩
    rw [Int.mul_one]
  done := by
    intro X hP hw hK hc i pins s σ H E I hf st hg
    subst hP hw hK
    obtain ⟨f0, f1, f2, f3, f4, f5⟩ := hf it (by simp)
    exact wpAny_pyNext_long_end (I.ok.hd hc) st (by have : n ≤ i := hg; omega) fun h' eb => ⟨rfl, I.turned (t' := s.toks) (fun b o hb e => eb b o hb e) f0 f1 f3 f4 f5⟩
  self := fun _ _ _ _ _ st h => wpAny_pyIter_longiter st h
section
variable {X : Cx} {tg : Expr}
theorem range_itW {pins : List (Addr × Obj)} {σ : St} {H : Hp} {s : Shared} {R : It → Hp → Prop} {E : Value → Shared → Prop} {lo hi : Int} {t u v : Tok} {tk : Nat} (I : Inv X pins σ H s)
    (q : R (Itr lo (hi - lo).toNat) H) : wpAny (model X.prog X.w) X.A (pyIter (.ref s.heap.objs.size)) (PIE X pins σ tg R) E { s with heap := s.heap.push { cls := .type "range", data := .fields #[.int lo t, .int hi u, .int 1 v] }, toks := tk } := by
  have I1 : Inv X pins σ H { s with heap := s.heap.push { cls := .type "range", data := .fields #[.int lo t, .int hi u, .int 1 v] }, toks := tk } := I.kept fun b o e => Heap.get?_push_of_some _ e
  have e1 : lo + ((0 : Nat) : Int) * 1 = lo := by simp
  have e2 : (((hi - lo).toNat : Nat) : Int) - ((0 : Nat) : Int) = Builtin.Range.rangeSize lo hi 1 := by rw [rangeSize_one]; split <;> omega
  by_cases hsm : Builtin.Range.small lo hi 1 = true
  · refine wpAny_pyIter_range (IsRange.new ..) hsm ?_
    refine ⟨(s.heap.push { cls := .type "range", data := .fields #[.int lo t, .int hi u, .int 1 v] }).objs.size, [(s.heap.push { cls := .type "range", data := .fields #[.int lo t, .int hi u, .int 1 v] }).objs.size], _, _, H, rfl,
      I1.kept (t' := tk) fun b o e => Heap.get?_push_of_some _ e, turn_range _ lo (hi - lo).toNat, ?_, fun b hb => ?_, q⟩
    · show IsRangeIter _ _ (lo + ((0 : Nat) : Int) * 1) ((((hi - lo).toNat : Nat) : Int) - ((0 : Nat) : Int)) 1
      rw [e1, e2]
      exact Heap.get?_push_size _ rfl
    · have e : b = (s.heap.push { cls := .type "range", data := .fields #[.int lo t, .int hi u, .int 1 v] }).objs.size := by simpa using hb
      subst e
      exact I1.fpOk (Nat.le_refl _) (I1.hok.fresh (Nat.le_refl _))
  · refine wpAny_pyIter_longrange (IsRange.new ..) (by simpa using hsm) ?_
    refine ⟨(s.heap.push { cls := .type "range", data := .fields #[.int lo t, .int hi u, .int 1 v] }).objs.size, [(s.heap.push { cls := .type "range", data := .fields #[.int lo t, .int hi u, .int 1 v] }).objs.size], _, _, H, rfl,
      I1.kept (t' := tk) fun b o e => Heap.get?_push_of_some _ e, turn_long _ lo (hi - lo).toNat, ?_, fun b hb => ?_, q⟩
    · show IsLongIter _ _ (lo + ((0 : Nat) : Int) * 1) ((((hi - lo).toNat : Nat) : Int) - ((0 : Nat) : Int)) 1
      rw [e1, e2]
      exact Heap.get?_push_size _ rfl
    · have e : b = (s.heap.push { cls := .type "range", data := .fields #[.int lo t, .int hi u, .int 1 v] }).objs.size := by simpa using hb
      subst e
      exact I1.fpOk (Nat.le_refl _) (I1.hok.fresh (Nat.le_refl _))
def iRng2W (ta : TA) : TI := fun σ H R => ta σ H fun vs H1 => ∃ i j : Int, vs = [.int i, .int j] ∧ R (Itr i (j - i).toNat) H1
theorem pi_range2W {a b : Expr} {ta : TA} {p pos : Pos} (hg : Gl X "range") (hm : X.mg "range" = none) (ha : PA X [a, b] ta) (hs : starEach [a, b] X.env = [(false, eval a X.env), (false, eval b X.env)] := by rfl) (hs2 : starEach [b] X.env = [(false, eval b X.env)] := by rfl) :
    PI X tg (.Call (.Name "range" p) [a, b] [] pos) (iRng2W ta) := by
  refine ⟨fun pins s σ H R I h => ?_⟩
  refine Call_ (ld_blt I hg hm boot_range (PyProof.Rows.callWith_type1 (thn (ha.run pos pins s σ H _ I h) fun us s1 ⟨vs, H1, I1, r1, q1⟩ => ?_) (by rw [hs, hs2]) (by rw [hs2]; rfl)))
  obtain ⟨i, j, e, q⟩ := q1
  subst e
  cases r1 with
  | cons r rr =>
    cases rr with
    | cons r' rr =>
      cases rr
      obtain ⟨t, rfl⟩ := r
      obtain ⟨t', rfl⟩ := r'
      exact call_range_2 (range_itW I1 q)
end
end L2

set_option Elab.async false
set_option linter.all false
set_option maxRecDepth 100000
set_option maxHeartbeats 8000000
set_option exponentiation.threshold 2000
namespace Sq
open PySem PySem.Spec PyProof.Rows L2
def topS (i : Nat) : Stmt := PySem.Challenge.pw_squeezelists_k04_errors_of_squeezing.main.body.getD i (.Pass ⟨0, 0, 0, 0⟩)
abbrev s_checklist : Stmt := topS 8
theorem sc_checklist : FnScope ["replacements", "index", "number"] ["replacements"] (defScope s_checklist) := ⟨rfl, rfl, rfl, by decide +kernel, rfl, by decide +kernel, by decide +kernel⟩
abbrev s_checknumber : Stmt := topS 9
theorem sc_checknumber : FnScope ["number", "least"] ["number", "least"] (defScope s_checknumber) := ⟨rfl, rfl, rfl, by decide +kernel, rfl, by decide +kernel, by decide +kernel⟩
abbrev s_checkcharacter : Stmt := topS 10
theorem sc_checkcharacter : FnScope ["character"] ["character"] (defScope s_checkcharacter) := ⟨rfl, rfl, rfl, by decide +kernel, rfl, by decide +kernel, by decide +kernel⟩
abbrev s_squeezed : Stmt := topS 12
theorem sc_squeezed : FnScope ["length", "replacements"] ["length", "replacements"] (defScope s_squeezed) := ⟨rfl, rfl, rfl, by decide +kernel, rfl, by decide +kernel, by decide +kernel⟩
abbrev s_squeezetext : Stmt := topS 13
theorem sc_squeezetext : FnScope ["text", "character", "replacements", "lengths", "after", "others", "length", "other"] ["text", "character", "replacements"] (defScope s_squeezetext) := ⟨rfl, rfl, rfl, by decide +kernel, rfl, by decide +kernel, by decide +kernel⟩
abbrev s_lengthsbetween : Stmt := topS 17
theorem sc_lengthsbetween : FnScope ["text", "character", "lengths", "run", "sign"] ["text", "character"] (defScope s_lengthsbetween) := ⟨rfl, rfl, rfl, by decide +kernel, rfl, by decide +kernel, by decide +kernel⟩
abbrev s_lengthafter : Stmt := topS 15
theorem sc_lengthafter : FnScope ["length", "replacements", "present", "number"] ["length", "replacements"] (defScope s_lengthafter) := ⟨rfl, rfl, rfl, by decide +kernel, rfl, by decide +kernel, by decide +kernel⟩
abbrev s_lengthafterone : Stmt := topS 16
theorem sc_lengthafterone : FnScope ["length", "number", "groups", "left"] ["length", "number"] (defScope s_lengthafterone) := ⟨rfl, rfl, rfl, by decide +kernel, rfl, by decide +kernel, by decide +kernel⟩
abbrev s_lawrng : Stmt := topS 19
theorem sc_lawrng : FnScope ["script", "digits", "seed", "cell", "far"] ["script"] (defScope s_lawrng) := ⟨rfl, rfl, rfl, by decide +kernel, rfl, by decide +kernel, by decide +kernel⟩
abbrev s_lawdraw : Stmt := topS 20
theorem sc_lawdraw : FnScope ["rng", "limit", "found", "mixed"] ["rng", "limit"] (defScope s_lawdraw) := ⟨rfl, rfl, rfl, by decide +kernel, rfl, by decide +kernel, by decide +kernel⟩
abbrev s_lawlist : Stmt := topS 21
theorem sc_lawlist : FnScope ["rng", "most", "greatest", "found", "kind", "turn", "some"] ["rng", "most", "greatest"] (defScope s_lawlist) := ⟨rfl, rfl, rfl, by decide +kernel, rfl, by decide +kernel, by decide +kernel⟩
abbrev s_lawtold : Stmt := topS 22
theorem sc_lawtold : FnScope ["way", "many", "some", "sign", "caught", "one", "e", "flags"] ["way", "many", "some", "sign"] (defScope s_lawtold) := ⟨rfl, rfl, rfl, by decide +kernel, rfl, by decide +kernel, by decide +kernel⟩
abbrev s_law : Stmt := topS 23
theorem sc_law : FnScope ["script", "rng", "lap", "some", "turn", "many", "sign", "kept", "low", "wrong", "first", "late", "spot", "one", "way"] ["script"] (defScope s_law) := ⟨rfl, rfl, rfl, by decide +kernel, rfl, by decide +kernel, by decide +kernel⟩
abbrev s_stages : Stmt := topS 14
theorem sc_stages : GScope ["length", "replacements", "present", "number"] ["length", "replacements"] (defScope s_stages) := ⟨rfl, rfl, rfl, by decide +kernel, rfl, by decide +kernel, by decide +kernel⟩
/-! ### the draws -/
structure Rng (H : Hp) (l : Addr) (seed cnt : Int) : Prop where
  ob : ∃ dg, H l = some (.lst [.int dg, .int seed, .int cnt])
  s0 : 0 ≤ seed
  s1 : seed < 2305843009213693951
  c0 : 0 ≤ cnt
theorem Rng.same {H H' : Hp} {l : Addr} {seed cnt : Int} (S : Rng H l seed cnt) (s : Same H H') : Rng H' l seed cnt :=
  let ⟨dg, h⟩ := S.ob
  ⟨⟨dg, s _ _ h⟩, S.s0, S.s1, S.c0⟩
/-- all but the object at l is as it was -/
def Keep1 (H H' : Hp) (l : Addr) : Prop := ∀ b o, H b = some o → b ≠ l → H' b = some o
theorem Keep1.trans {H H1 H2 : Hp} {l : Addr} (a : Keep1 H H1 l) (b : Keep1 H1 H2 l) : Keep1 H H2 l := fun c o h n => b c o (a c o h n) n
theorem Keep1.of {H H' : Hp} {l : Addr} (s : Same H H') : Keep1 H H' l := fun b o h _ => s b o h
theorem Keep1.set {H : Hp} {l : Addr} {o : HO} : Keep1 H (upd H l o) l := fun c x h n => by
  rw [upd_ne n]
  exact h
theorem growD {D r T : Int} {a : Nat} (h0 : 0 ≤ D) (h1 : D.natAbs < 2 ^ a) (r0 : 0 ≤ r) (r1 : r < T) (hT : T.natAbs ≤ 2 ^ 200) : 0 ≤ D * T + r ∧ (D * T + r).natAbs < 2 ^ (a + 200) := by
  have t0 : 0 ≤ T := by omega
  have p := Int.mul_nonneg h0 t0
  obtain ⟨d, rfl⟩ := Int.eq_ofNat_of_zero_le h0
  obtain ⟨t, rfl⟩ := Int.eq_ofNat_of_zero_le t0
  refine ⟨by omega, ?_⟩
  have h1' : d < 2 ^ a := by simpa using h1
  have hT' : t ≤ 2 ^ 200 := by simpa using hT
  have m : (d + 1) * t ≤ 2 ^ a * 2 ^ 200 := Nat.mul_le_mul h1' hT'
  rw [Nat.pow_add]
  have e : ((d : Int) * (t : Int)) = ((d * t : Nat) : Int) := by simp
  have e2 : (d + 1) * t = d * t + t := by rw [Nat.add_mul, Nat.one_mul]
  rw [e]
  omega
theorem p10_60 : ((10 : Int) ^ (60 : Int).toNat).natAbs ≤ 2 ^ 200 := by decide
theorem cut63 {xs : List V} (h : xs.length ≤ 63) : cutV xs none (some 63) = xs := by
  unfold cutV
  rw [HT.sIx_none, show HT.sIx xs.length xs.length (some 63) = min 63 xs.length from HT.sIx_nat xs.length xs.length 63, Nat.min_eq_right h]
  show List.take (xs.length - 0) (List.drop 0 xs) = xs
  rw [List.drop_zero, Nat.sub_zero, List.take_length]
section
variable {P : Program} {w : World} {K : PySem.W.Frag} {mg : Str → Option Value} {base : Heap}
def spRng (K : PySem.W.Frag) : Sp := fun vs H Q _ => ∃ (a : Addr) (ns : List Int), vs = [.ref a] ∧ SqL K H a (ns.map V.int) ∧ ns.length ≤ 63 ∧ ∀ l seed H', H l = none → Same H H' → Rng H' l seed 0 → Q (.ref l) H'
theorem ok_lawrng {f : Addr} {fd : FuncData} (F : Fun K "_law_rng" "_law_rng" s_lawrng f fd) (B : Bi mg) : FnOk P w K mg base CX0 1 f fd ["script"] (spRng K) := by
  refine F.ok sc_lawrng (fun vs H Q E h => ?_) (fun cdv A outer s H vs Q E hr h => ?_)
  · obtain ⟨a, ns, rfl, _⟩ := h
    rfl
  · obtain ⟨a, ns, rfl, hS, hn, q⟩ := h
    refine ⟨_, (pss_cons (ps_asg (pe_tup (pa_cons pe_int (pa_cons pe_int pa_nil))) (pg_tup rfl (pgs_cons (pg_name (i := 1) sc_lawrng.nd rfl (Or.inl rfl)) (pgs_cons (pg_name (i := 2) sc_lawrng.nd rfl (Or.inl rfl)) pgs_nil))))
 (pss_cons (ps_for PassesOwn.never rfl (pi_list (pe_slice sl_list (pv 0) po_none (po_some pe_int))) (pg_name (i := 3) sc_lawrng.nd rfl (Or.inl rfl))
 (pss_cons (ps_set (i := 4) sc_lawrng.nd rfl (Or.inl rfl) (pe_callB (id := "abs") call_abs (by rfl) B.n_abs (by decide +kernel) (pa_cons (pv 3) pa_nil)))
 (pss_cons (ps_if (pt_cmpR op_ge (pv 4) (pe_op op_pow pe_int pe_int) (nomark _))
 (pss_one (ps_set (i := 1) sc_lawrng.nd rfl (Or.inl rfl) (pe_op op_add (pe_op op_mulW (pv 1) (pe_op op_pow pe_int pe_int)) (pe_op op_mod (pv 4) (pe_op op_pow pe_int pe_int)))))
 pss_nil)
 (pss_one (ps_set (i := 2) sc_lawrng.nd rfl (Or.inl rfl) (pe_op op_mod (pe_op op_add (pe_op op_add (pe_op op_mul (pv 2) pe_int) (pe_op op_mod (pv 3) pe_int)) pe_int) pe_int))))))
 (pss_one (ps_ret (pe_lst (pa_cons (pv 1) (pa_cons (pv 2) (pa_cons pe_int pa_nil)))))))), ?_⟩
    refine ⟨(by show 2 ≤ sizeLine; exact Nat.le_of_lt (small1000 (by decide))), fun t0 ht0 => ⟨t0, [.int 0, .int 88675123], rfl, .inl (.inl upd_same), rfl, _, _, rfl, _, _, rfl, rfl, ?_⟩⟩
    have sm0 := same_new (o := .tup [.int 0, .int 88675123]) ht0
    refine ⟨_, rfl, 63, rfl, a, _, rfl, sm0.seq hS, fun p hp => ?_⟩
    rw [cut63 (by rw [List.length_map]; exact hn)]
    refine ⟨p, rfl, ⟨_, SqL.of upd_same⟩, for_list (K := K) (a := p) (xs := ns.map V.int) (fun i σ H' => Same (upd (upd H t0 (.tup [.int 0, .int 88675123])) p (.lst (ns.map V.int))) H' ∧ i ≤ 63 ∧ ∃ dg seed y3 y4, σ = [some (.ref a), some (.int dg), some (.int seed), y3, y4] ∧ 0 ≤ dg ∧ dg.natAbs < 2 ^ (200 * i + 1) ∧ 0 ≤ seed ∧ seed < 2305843009213693951)
      ⟨Same.refl _, by decide, 0, 88675123, none, none, rfl, by decide, by decide, by decide, by decide⟩ (fun i σ H' _ h => SqL.of (h.1 _ _ upd_same)) ?_ ?_⟩
    · rintro i x σ H' hi ⟨sm, h63, dg, seed, y3, y4, rfl, d0, d1, s0, s1⟩
      have hil : i < ns.length := by
        have := (List.getElem?_eq_some_iff.mp hi).1
        rwa [List.length_map] at this
      obtain ⟨c, hc, rfl⟩ := map_at hi
      refine ⟨_, rfl, c, rfl, ?_⟩
      generalize (if c < 0 then -c else c) = far
      have t0 : 0 ≤ (seed * 1000003 + c % 2305843009213693921 + 7) % 2305843009213693951 := Int.emod_nonneg _ (by decide)
      have t1 : (seed * 1000003 + c % 2305843009213693921 + 7) % 2305843009213693951 < 2305843009213693951 := Int.emod_lt_of_pos _ (by decide)
      have r0 : 0 ≤ far % 10 ^ (60 : Int).toNat := Int.emod_nonneg _ (by decide)
      have r1 : far % 10 ^ (60 : Int).toNat < 10 ^ (60 : Int).toNat := Int.emod_lt_of_pos _ (by decide)
      obtain ⟨g0, g1⟩ := growD d0 d1 r0 r1 p10_60
      refine ⟨_, rfl, 10, 18, rfl, rfl, ⟨by decide, by decide, by decide⟩, _, _, rfl, rfl, _, rfl, ite2 (fun _ => ?_) (fun _ => ?_)⟩
      · refine ⟨_, rfl, 10, 60, rfl, rfl, ⟨by decide, by decide, by decide⟩, dg, _, rfl, rfl, wide_mul d1 (show ((10 : Int) ^ (60 : Int).toNat).natAbs < 2 ^ 200 by decide) (by omega) (by decide) (by omega), _, rfl, 10, 60, rfl, rfl, ⟨by decide, by decide, by decide⟩, far, _, rfl, rfl, (by decide : (0 : Int) < 10 ^ (60 : Int).toNat), _, _, rfl, rfl, ?_⟩
        refine ⟨_, rfl, seed, 1000003, rfl, rfl, .inr ⟨by decide, by decide⟩, _, rfl, c, _, rfl, rfl, (by decide : (0 : Int) < 2305843009213693921), _, _, rfl, rfl, _, 7, rfl, rfl, _, _, rfl, rfl, (by decide : (0 : Int) < 2305843009213693951), ?_⟩
        exact ⟨sm, by omega, _, _, _, _, rfl, g0, g1, t0, t1⟩
      · refine ⟨_, rfl, seed, 1000003, rfl, rfl, .inr ⟨by decide, by decide⟩, _, rfl, c, _, rfl, rfl, (by decide : (0 : Int) < 2305843009213693921), _, _, rfl, rfl, _, 7, rfl, rfl, _, _, rfl, rfl, (by decide : (0 : Int) < 2305843009213693951), ?_⟩
        exact ⟨sm, by omega, _, _, _, _, rfl, d0, Nat.lt_of_lt_of_le d1 (Nat.pow_le_pow_right (by decide) (by omega)), t0, t1⟩
    · rintro σ H' ⟨sm, h63, dg, seed, y3, y4, rfl, d0, d1, s0, s1⟩
      refine ⟨_, rfl, _, rfl, (by show 3 ≤ sizeLine; exact Nat.le_of_lt (small1000 (by decide))), fun l hl => ?_⟩
      have s2 := (sm0.trans (same_new (o := .lst (ns.map V.int)) hp)).trans sm
      exact q l seed _ (s2.free hl) (s2.trans (same_new hl)) ⟨⟨dg, upd_same⟩, s0, s1, Int.le_refl 0⟩
end
section
variable {P : Program} {w : World} {K : PySem.W.Frag} {mg : Str → Option Value} {base : Heap}
def spDraw : Sp := fun vs H Q _ => ∃ (l : Addr) (seed cnt limit : Int), vs = [.ref l, .int limit] ∧ Rng H l seed cnt ∧ cnt < 1000000 ∧ 0 < limit ∧ limit.natAbs < 2 ^ 700 ∧
  ∀ z cnt' H', 0 ≤ z → z < limit → Rng H' l seed cnt' → cnt' ≤ cnt + 1 → Keep1 H H' l → Q (.int z) H'
theorem ok_lawdraw {f : Addr} {fd : FuncData} (F : Fun K "_law_draw" "_law_draw" s_lawdraw f fd) : FnOk P w K mg base CX0 1 f fd ["rng", "limit"] spDraw := by
  refine F.ok sc_lawdraw (fun vs H Q E h => ?_) (fun cdv A outer s H vs Q E hr h => ?_)
  · obtain ⟨l, seed, cnt, limit, rfl, _⟩ := h
    rfl
  · obtain ⟨l, seed, cnt, limit, rfl, S, hc, hm, hw, q⟩ := h
    refine ⟨_, (pss_cons (ps_if (pt_cmpR op_gt (pe_ix (r := rIxL K) ix_list (pv 0) pe_int (fun _ _ => rfl)) pe_int (nomark _))
 (pss_cons (ps_set (i := 2) sc_lawdraw.nd rfl (Or.inl rfl) (pe_op op_mod (pe_ix (r := rIxL K) ix_list (pv 0) pe_int (fun _ _ => rfl)) (pv 1)))
 (pss_cons (ps_asg (pe_op op_fdivW (pe_ix (r := rIxL K) ix_list (pv 0) pe_int (fun _ _ => rfl)) (pv 1)) (pg_sub (pv 0) pe_int set_list))
 (pss_one (ps_ret (pv 2)))))
 pss_nil)
 (pss_cons (ps_asg (pe_op op_add (pe_ix (r := rIxL K) ix_list (pv 0) pe_int (fun _ _ => rfl)) pe_int) (pg_sub (pv 0) pe_int set_list))
 (pss_cons (ps_set (i := 3) sc_lawdraw.nd rfl (Or.inl rfl) (pe_op op_mod (pe_op op_powW (pe_op op_add (pe_ix (r := rIxL K) ix_list (pv 0) pe_int (fun _ _ => rfl)) (pe_op op_mul pe_int (pe_ix (r := rIxL K) ix_list (pv 0) pe_int (fun _ _ => rfl)))) pe_int) pe_int))
 (pss_cons (ps_set (i := 3) sc_lawdraw.nd rfl (Or.inl rfl) (pe_op op_mod (pe_op op_powW (pe_op op_add (pv 3) (pe_op op_mul pe_int (pe_ix (r := rIxL K) ix_list (pv 0) pe_int (fun _ _ => rfl)))) pe_int) pe_int))
 (pss_one (ps_ret (pe_op op_mod (pe_op op_fdiv (pv 3) pe_int) (pv 1)))))))), ?_⟩
    have s0 := S.s0
    have s1 := S.s1
    have c0 := S.c0
    obtain ⟨dg, hl⟩ := S.ob
    refine ⟨_, rfl, l, _, 0, _, rfl, rfl, SqL.of hl, rfl, dg, 0, rfl, rfl, _, rfl, ite2 (fun c1 => ?_) (fun c1 => ?_)⟩
    · refine ⟨_, rfl, l, _, 0, _, rfl, rfl, SqL.of hl, rfl, _, rfl, dg, limit, rfl, rfl, hm, ?_⟩
      refine ⟨_, rfl, l, _, 0, _, rfl, rfl, SqL.of hl, rfl, _, rfl, dg, limit, rfl, rfl, wide_div hm hw (by decide) (by decide), ?_⟩
      refine ⟨_, rfl, l, _, 0, 0, rfl, rfl, hl, rfl, _, rfl, ?_⟩
      exact q _ cnt _ (Int.emod_nonneg _ (by omega)) (Int.emod_lt_of_pos _ hm) ⟨⟨dg / limit, upd_same⟩, s0, s1, c0⟩ (by omega) Keep1.set
    · refine ⟨_, rfl, l, _, 2, _, rfl, rfl, SqL.of hl, rfl, cnt, 1, rfl, rfl, _, rfl, l, _, 2, 2, rfl, rfl, hl, rfl, ?_⟩
      have hl3 : (upd H l (.lst [.int dg, .int seed, .int (cnt + 1)])) l = some (.lst [.int dg, .int seed, .int (cnt + 1)]) := upd_same
      have b1 : (seed + 998244353 * (cnt + 1)).natAbs < 2 ^ 63 := by omega
      refine ⟨_, rfl, l, _, 1, _, rfl, rfl, SqL.of hl3, rfl, _, rfl, l, _, 2, _, rfl, rfl, SqL.of hl3, rfl, 998244353, cnt + 1, rfl, rfl, .inl ⟨by decide, by decide⟩, seed, _, rfl, rfl, _, 3, rfl, rfl, powW_of (by decide) b1 (by decide) (by decide), _, _, rfl, rfl, (by decide : (0 : Int) < 162259276829213363391578010288127), ?_⟩
      have p0 : 0 ≤ (seed + 998244353 * (cnt + 1)) ^ (3 : Int).toNat % 162259276829213363391578010288127 := Int.emod_nonneg _ (by decide)
      have p1 : (seed + 998244353 * (cnt + 1)) ^ (3 : Int).toNat % 162259276829213363391578010288127 < 162259276829213363391578010288127 := Int.emod_lt_of_pos _ (by decide)
      have b2 : ((seed + 998244353 * (cnt + 1)) ^ (3 : Int).toNat % 162259276829213363391578010288127 + 32452843 * (cnt + 1)).natAbs < 2 ^ 110 := by
        generalize (seed + 998244353 * (cnt + 1)) ^ (3 : Int).toNat % 162259276829213363391578010288127 = y at p0 p1
        omega
      refine ⟨_, rfl, _, rfl, l, _, 2, _, rfl, rfl, SqL.of hl3, rfl, 32452843, cnt + 1, rfl, rfl, .inl ⟨by decide, by decide⟩, _, _, rfl, rfl, _, 3, rfl, rfl, powW_of (by decide) b2 (by decide) (by decide), _, _, rfl, rfl, (by decide : (0 : Int) < 170141183460469231731687303715884105727), ?_⟩
      refine ⟨_, rfl, _, 1048576, rfl, rfl, ⟨by decide, by decide⟩, _, rfl, _, limit, rfl, rfl, hm, ?_⟩
      exact q _ (cnt + 1) _ (Int.emod_nonneg _ (by omega)) (Int.emod_lt_of_pos _ hm) ⟨⟨dg, hl3⟩, s0, s1, by omega⟩ (by omega) Keep1.set
end
theorem Rng.free {H H' : Hp} {l p : Addr} {seed cnt : Int} (k : Keep1 H H' l) (S : Rng H' l seed cnt) (h : H' p = none) : H p = none := by
  obtain ⟨dg, hl⟩ := S.ob
  cases e : H p with
  | none => rfl
  | some o =>
    have := k p o e (fun z => by rw [z, hl] at h; cases h)
    rw [h] at this
    cases this
theorem Rng.ne {H : Hp} {l p : Addr} {seed cnt : Int} (S : Rng H l seed cnt) (h : H p = none) : p ≠ l := fun z => by
  obtain ⟨dg, hl⟩ := S.ob
  rw [z, hl] at h
  cases h
theorem Rng.upd {H : Hp} {l p : Addr} {seed cnt : Int} {o : HO} (S : Rng H l seed cnt) (h : p ≠ l) : Rng (upd H p o) l seed cnt :=
  let ⟨dg, hl⟩ := S.ob
  ⟨⟨dg, by rw [upd_ne h.symm]; exact hl⟩, S.s0, S.s1, S.c0⟩
theorem nth_of {xs : List Int} {z : Int} (h0 : 0 ≤ z) (h : z < xs.length) : ∃ k, k ∈ xs ∧ atI (xs.map V.int) z = some (.int k) := by
  have lt : z.toNat < xs.length := by omega
  refine ⟨xs[z.toNat], List.getElem_mem lt, at_of (j := z.toNat) (by omega) ?_⟩
  rw [List.getElem?_map, List.getElem?_eq_getElem lt]
  rfl

theorem lim10 {i : Int} (h : i.natAbs ≤ 10 ^ 31) : i.natAbs < 2 ^ 700 := Nat.lt_of_le_of_lt h (by decide)
section
variable {P : Program} {w : World} {K : PySem.W.Frag} {mg : Str → Option Value} {base : Heap} {c fI : Nat → Addr} {qn : Nat → Str} {cB : Addr}
def spList : Sp := fun vs H Q _ => ∃ (l : Addr) (seed cnt M g : Int), vs = [.ref l, .int M, .int g] ∧ 0 ≤ M ∧ M ≤ 12 ∧ 3 ≤ g ∧ g ≤ 1000000 ∧ Rng H l seed cnt ∧ cnt < 500000 ∧
  ∀ p ks cnt' H', H p = none → Rng H' l seed cnt' → cnt' ≤ cnt + 80 → Keep1 H H' l → H' p = some (.lst (List.map V.int ks)) → ks.length ≤ 12 → (∀ k ∈ ks, 2 ≤ k ∧ k ≤ 1000000) → Q (.ref p) H'
theorem ok_lawlist {f : Addr} {fd : FuncData} (F : Fun K "_law_list" "_law_list" s_lawlist f fd) (B : Bi mg) (D_lawdraw : Df P w K mg base 1 "_law_draw" ["rng", "limit"] spDraw) : FnOk P w K mg base CX0 2 f fd ["rng", "most", "greatest"] spList := by
  refine F.ok sc_lawlist (fun vs H Q E h => ?_) (fun cdv A outer s H vs Q E hr h => ?_)
  · obtain ⟨l, seed, cnt, M, g, rfl, _⟩ := h
    rfl
  · obtain ⟨l, seed, cnt, M, g, rfl, M0, M1, g0, g1, S, hc, q⟩ := h
    refine ⟨_, (pss_cons (ps_par (i := 3) (j := 4) (by rfl) sc_lawlist.nd rfl rfl (by decide) rfl rfl (pa_cons (pe_lst pa_nil) (pa_cons (pe_callD D_lawdraw (hr.mono (by omega)) (by rfl) (pa_cons (pv 0) (pa_cons pe_int pa_nil))) pa_nil)) (by rfl))
 (pss_cons (ps_for PassesOwn.never rfl (pi_range1 (by rfl) B.n_range (pa_cons (pe_callD D_lawdraw (hr.mono (by omega)) (by rfl) (pa_cons (pv 0) (pa_cons (pe_op op_add (pv 1) pe_int) pa_nil))) pa_nil)) (pg_name (i := 5) sc_lawlist.nd rfl (Or.inl rfl))
 (pss_cons (ps_set (i := 6) sc_lawlist.nd rfl (Or.inl rfl) (pe_lst (pa_cons (pe_op op_add pe_int (pe_callD D_lawdraw (hr.mono (by omega)) (by rfl) (pa_cons (pv 0) (pa_cons pe_int pa_nil)))) (pa_cons (pe_ix (r := rIxL K) ix_list (pe_op op_cat (pv 3) (pe_lst (pa_cons pe_int pa_nil))) pe_int (fun _ _ => rfl)) (pa_cons (pe_callB (id := "max") (call_max2 rfl) (by rfl) B.n_max (by decide +kernel) (pa_cons pe_int (pa_cons (pe_op op_sub (pv 2) (pe_callD D_lawdraw (hr.mono (by omega)) (by rfl) (pa_cons (pv 0) (pa_cons pe_int pa_nil)))) pa_nil))) pa_nil)))))
 (pss_cons (ps_expr (pe_bm PySem.F.plainAttrs_list PySem.F.slot_list_append PySem.F.type_list_append mt_append (pv 6) (pa_cons (pe_op op_add pe_int (pe_callD D_lawdraw (hr.mono (by omega)) (by rfl) (pa_cons (pv 0) (pa_cons (pe_op op_sub (pv 2) pe_int) pa_nil)))) pa_nil)))
 (pss_one (ps_expr (pe_bm PySem.F.plainAttrs_list PySem.F.slot_list_insert PySem.F.type_list_insert mt_insert (pv 3) (pa_cons pe_int (pa_cons (pe_ix (r := rIxL K) ix_list (pv 6) (pe_ix (r := rIxL K) ix_list (pe_lst (pa_cons (pv 4) (pa_cons (pe_callD D_lawdraw (hr.mono (by omega)) (by rfl) (pa_cons (pv 0) (pa_cons pe_int pa_nil))) pa_nil))) (pe_callD D_lawdraw (hr.mono (by omega)) (by rfl) (pa_cons (pv 0) (pa_cons pe_int pa_nil))) (fun _ _ => rfl)) (fun _ _ => rfl)) pa_nil))))))))
 (pss_one (ps_ret (pv 3))))), ?_⟩
    refine ⟨Nat.zero_le _, fun p hp => ⟨_, rfl, l, seed, cnt, 4, rfl, S.same (same_new hp), by omega, by decide, by decide, fun kind cnt1 H1 d0 d1 S1 hc1 k1 => ⟨_, _, rfl, ?_⟩⟩⟩
    have npl := S.ne hp
    have gp1 := k1 _ _ upd_same npl
    have k01 : Keep1 H H1 l := (Keep1.of (same_new hp)).trans k1
    refine ⟨_, rfl, _, rfl, M, 1, rfl, rfl, l, seed, cnt1, M + 1, rfl, S1, by omega, by omega, lim10 (by omega), fun m cnt2 H2 m0 m1 S2 hc2 k2 => ?_⟩
    refine ⟨m, rfl, by omega, by omega, for_range (lo := 0) (n := m.toNat) (fun i σ H' => ∃ ks cnt' y5 y6, σ = [some (.ref l), some (.int M), some (.int g), some (.ref p), some (.int kind), y5, y6] ∧ Rng H' l seed cnt' ∧ cnt' ≤ cnt + 2 + 6 * i ∧ Keep1 H H' l ∧ H' p = some (.lst (List.map V.int ks)) ∧ ks.length = i ∧ ∀ k ∈ ks, 2 ≤ k ∧ k ≤ 1000000)
      ⟨[], cnt2, none, none, rfl, S2, by omega, k01.trans k2, k2 _ _ gp1 npl, rfl, fun k z => nomatch z⟩ ?_ ?_⟩
    · rintro i σ H3 hi ⟨ks, cnt3, y5, y6, rfl, S3, hc3, k3, gp3, lk, hk⟩
      -- some
      refine ⟨_, rfl, l, seed, cnt3, 4, rfl, S3, by omega, by decide, by decide, fun z4 cnt4 H4 z40 z41 S4 hc4 k4 => ⟨2, z4, rfl, rfl, ?_⟩⟩
      have gp4 := k4 _ _ gp3 npl
      refine ⟨_, rfl, Nat.le_of_lt (small1000 (show 1 ≤ 1000 by decide)), fun t5 ht5 => ?_⟩
      have gp5 := same_new (o := .lst [.int 2]) ht5 _ _ gp4
      obtain ⟨fst, fm, fa⟩ := nth_of (xs := ks ++ [2]) (z := 0) (Int.le_refl 0) (by rw [List.length_append]; show (0 : Int) < ((ks.length + 1 : Nat) : Int); omega)
      rw [List.map_append] at fa
      have fb : 2 ≤ fst ∧ fst ≤ 1000000 := by
        rcases List.mem_append.mp fm with z | z
        · exact hk fst z
        · rw [List.mem_singleton.mp z]
          decide
      refine ⟨p, t5, _, _, rfl, rfl, gp5, upd_same, Nat.le_of_lt (small1000 (by rw [List.length_map]; show ks.length + 1 ≤ 1000; omega)), fun t6 ht6 => ⟨t6, _, 0, .int fst, rfl, rfl, SqL.of upd_same, fa, ?_⟩⟩
      have s46 := (same_new (o := .lst [.int 2]) ht5).trans (same_new (o := .lst (ks.map V.int ++ [.int 2])) ht6)
      generalize (upd (upd H4 t5 (.lst [.int 2])) t6 (.lst (ks.map V.int ++ [.int 2]))) = H6 at s46 ⊢
      have S6 := S4.same s46
      refine ⟨_, rfl, _, rfl, l, seed, cnt4, 3, rfl, S6, by omega, by decide, by decide, fun z7 cnt7 H7 z70 z71 S7 hc7 k7 => ⟨g, z7, rfl, rfl, 2, g - z7, rfl, ?_⟩⟩
      obtain ⟨mx, emx⟩ : ∃ mx, mx = (if g - z7 > 2 then g - z7 else 2) := ⟨_, rfl⟩
      have mb : 2 ≤ mx ∧ mx ≤ 1000000 := by
        subst emx
        split <;> omega
      rw [← emx]
      refine ⟨Nat.le_of_lt (small1000 (show 3 ≤ 1000 by decide)), fun t8 ht8 => ?_⟩
      have n8l := S7.ne ht8
      have S8 := S7.same (same_new (o := .lst [.int (2 + z4), .int fst, .int mx]) ht8)
      refine ⟨_, rfl, .inl ⟨rfl, _, SqL.of upd_same⟩, _, rfl, _, rfl, g, 1, rfl, rfl, l, seed, cnt7, g - 1, rfl, S8, by omega, by omega, lim10 (by omega), fun z9 cnt9 H9 z90 z91 S9 hc9 k9 => ?_⟩
      have g89 := k9 _ _ upd_same n8l
      refine ⟨2, z9, rfl, rfl, t8, _, _, rfl, rfl, g89, small1000 (show 3 ≤ 1000 by decide), ?_⟩
      have np8 : p ≠ t8 := ne_of_none (k7 _ _ (s46 _ _ gp4) npl) ht8
      have gp9 := k9 _ _ (same_new ht8 _ _ (k7 _ _ (s46 _ _ gp4) npl)) npl
      have gp10 : (upd H9 t8 (.lst ([.int (2 + z4), .int fst, .int mx] ++ [.int (2 + z9)]))) p = some (.lst (ks.map V.int)) := by rw [upd_ne np8]; exact gp9
      have g810 : (upd H9 t8 (.lst ([.int (2 + z4), .int fst, .int mx] ++ [.int (2 + z9)]))) t8 = some (.lst ([2 + z4, fst, mx, 2 + z9].map V.int)) := upd_same
      have S10 := S9.upd (o := .lst ([.int (2 + z4), .int fst, .int mx] ++ [.int (2 + z9)])) n8l
      have hp8 : H t8 = none := Rng.free ((k3.trans k4).trans ((Keep1.of s46).trans k7)) S7 ht8
      have k10 : Keep1 H (upd H9 t8 (.lst ([.int (2 + z4), .int fst, .int mx] ++ [.int (2 + z9)]))) l := fun b o e nb => by
        rw [upd_ne (ne_of_none e hp8)]
        exact k9 _ _ (same_new ht8 _ _ (k7 _ _ (s46 _ _ (k4 _ _ (k3 _ _ e nb) nb)) nb)) nb
      generalize (upd H9 t8 (.lst ([.int (2 + z4), .int fst, .int mx] ++ [.int (2 + z9)]))) = H10 at gp10 g810 S10 k10 ⊢
      -- found.insert(0, ..)
      refine ⟨_, rfl, .inl ⟨rfl, _, SqL.of gp10⟩, _, rfl, _, rfl, _, rfl, l, seed, cnt9, 4, rfl, S10, by omega, by decide, by decide, fun z11 cnt11 H11 z110 z111 S11 hc11 k11 => ?_⟩
      refine ⟨Nat.le_of_lt (small1000 (show 2 ≤ 1000 by decide)), fun t12 ht12 => ?_⟩
      have n12 := S11.ne ht12
      refine ⟨_, rfl, l, seed, cnt11, 2, rfl, S11.same (same_new ht12), by omega, by decide, by decide, fun z13 cnt13 H13 z130 z131 S13 hc13 k13 => ?_⟩
      obtain ⟨j, jm, ja⟩ := nth_of (xs := [kind, z11]) (z := z13) z130 z131
      have jb : 0 ≤ j ∧ j < 4 := by
        rcases List.mem_cons.mp jm with z | z
        · omega
        · have := List.mem_singleton.mp z
          omega
      obtain ⟨k, km, ka⟩ := nth_of (xs := [2 + z4, fst, mx, 2 + z9]) (z := j) jb.1 jb.2
      have kb : 2 ≤ k ∧ k ≤ 1000000 := by
        simp at km
        omega
      have k1013 := (k11.trans (Keep1.of (same_new (o := .lst [.int kind, .int z11]) ht12))).trans k13
      have gp13 := k1013 _ _ gp10 npl
      refine ⟨t12, _, z13, .int j, rfl, rfl, SqL.of (k13 _ _ upd_same n12), ja, t8, _, j, .int k, rfl, rfl, SqL.of (k1013 _ _ g810 n8l), ka, p, _, 0, .int k, rfl, rfl, gp13, (by rw [List.length_map]; exact small1000 (by omega)), Int.le_refl 0, by decide, ?_⟩
      refine ⟨k :: ks, cnt13, _, _, rfl, S13.upd npl, by omega, fun b o e nb => ?_, ?_, by rw [List.length_cons, lk], fun x hx => ?_⟩
      · rw [upd_ne (ne_of_none e hp)]
        exact k1013 _ _ (k10 _ _ e nb) nb
      · rw [upd_same]
        rfl
      · rcases List.mem_cons.mp hx with z | z
        · rw [z]
          exact kb
        · exact hk x z
    · rintro σ H3 ⟨ks, cnt3, y5, y6, rfl, S3, hc3, k3, gp3, lk, hk⟩
      exact ⟨_, rfl, q p ks cnt3 H3 hp S3 (by omega) k3 gp3 (by omega) hk⟩
end

end Sq

set_option Elab.async false
set_option linter.all false
set_option maxRecDepth 100000
set_option maxHeartbeats 8000000
set_option exponentiation.threshold 2000
namespace Sq
open PySem PySem.Spec PyProof.Rows L2
section
variable {P : Program} {w : World} {K : PySem.W.Frag} {mg : Str → Option Value} {base : Heap}
/-! ### the checks -/
def spCheckList (K : PySem.W.Frag) : Sp := fun vs H Q _ => ∃ (a : Addr) (ks : List Int), vs = [.ref a] ∧ SqL K H a (ks.map V.int) ∧ (∀ k ∈ ks, 2 ≤ k) ∧ ∀ H', Same H H' → Q .non H'
theorem ok_checklist {f : Addr} {fd : FuncData} (F : Fun K "check_list" "check_list" s_checklist f fd) (B : Bi mg) : FnOk P w K mg base CX0 1 f fd ["replacements"] (spCheckList K) := by
  refine F.ok sc_checklist (fun vs H Q E h => ?_) (fun cdv A outer s H vs Q E hr h => ?_)
  · obtain ⟨a, ks, rfl, _⟩ := h
    rfl
  · obtain ⟨a, ks, rfl, hS, hk, q⟩ := h
    refine ⟨_, (pss_one (ps_for PassesOwn.never rfl (pi_enum (by rfl) B.n_enumerate (pa_cons (pv 0) pa_nil)) (pg_tup rfl (pgs_cons (pg_name (i := 1) sc_checklist.nd rfl (Or.inl rfl)) (pgs_cons (pg_name (i := 2) sc_checklist.nd rfl (Or.inl rfl)) pgs_nil)))
 (pss_one (ps_if (pt_cmpR op_lt (pv 2) pe_int (nomark _))
 (pss_one ps_never)
 pss_nil)))), ?_⟩
    refine ⟨_, rfl, a, ks.map V.int, rfl, hS, for_it walk_enum (fun i σ H' => Same H H' ∧ ∃ y z, σ = [some (.ref a), y, z]) ⟨Same.refl H, none, none, rfl⟩ (fun i σ H' _ h => h.1.seq hS) ?_ ?_⟩
    · rintro i σ H' v H2 hi ⟨sm, y, z, rfl⟩ ⟨T, x1, x2, rfl, nT, rfl, e1, e2⟩
      obtain ⟨k, hk', rfl⟩ := map_at e2
      cases e1
      refine ⟨T, _, rfl, .inl (.inl upd_same), rfl, _, _, rfl, _, _, rfl, rfl, ?_⟩
      refine ⟨_, rfl, _, _, rfl, rfl, _, rfl, ite2 (fun c => ?_) (fun c => ?_)⟩
      · have := hk k (List.mem_of_getElem? hk')
        have c' : k < 2 := of_decide_eq_true c
        omega
      · exact ⟨sm.trans (same_new nT), _, _, rfl⟩
    · rintro σ H' ⟨sm, y, z, rfl⟩
      exact q H' sm
def spCheckNumber : Sp := fun vs H Q _ => ∃ (n l : Int), vs = [.int n, .int l] ∧ l ≤ n ∧ Q .non H
theorem ok_checknumber {f : Addr} {fd : FuncData} (F : Fun K "check_number" "check_number" s_checknumber f fd) : FnOk P w K mg base CX0 1 f fd ["number", "least"] spCheckNumber := by
  refine F.ok sc_checknumber (fun vs H Q E h => ?_) (fun cdv A outer s H vs Q E hr h => ?_)
  · obtain ⟨n, l, rfl, _⟩ := h
    rfl
  · obtain ⟨n, l, rfl, hl, q⟩ := h
    refine ⟨_, (pss_one (ps_if (pt_cmpR op_lt (pv 0) (pv 1) (nomark _))
 (pss_one ps_never)
 pss_nil)), ?_⟩
    refine ⟨_, rfl, _, rfl, _, _, rfl, rfl, _, rfl, ite2 (fun c => ?_) (fun c => q)⟩
    have c' : n < l := of_decide_eq_true c
    omega
end

section
variable {P : Program} {w : World} {K : PySem.W.Frag} {mg : Str → Option Value} {base : Heap} {c fI : Nat → Addr} {qn : Nat → Str} {cB : Addr}
def spOnceS : Sp := fun vs H Q _ => ∃ (n k : Int), vs = [.int n, .int k] ∧ 2 ≤ k ∧ k < 1073741824 ∧ ∀ H', Same H H' → Q (.int (once n k)) H'
theorem ok_lengthafterone {f : Addr} {fd : FuncData} (F : Fun K "length_after_one" "length_after_one" s_lengthafterone f fd) (B : Bi mg) : FnOk P w K mg base CX0 1 f fd ["length", "number"] spOnceS := by
  refine F.ok sc_lengthafterone (fun vs H Q E h => ?_) (fun cdv A outer s H vs Q E hr h => ?_)
  · obtain ⟨n, k, rfl, _⟩ := h
    rfl
  · obtain ⟨n, k, rfl, k1, k2, q⟩ := h
    refine ⟨_, (pss_cons (ps_asg (pe_callB (id := "divmod") call_divmod (by rfl) B.n_divmod (by decide +kernel) (pa_cons (pv 0) (pa_cons (pv 1) pa_nil))) (pg_tup rfl (pgs_cons (pg_name (i := 2) sc_lengthafterone.nd rfl (Or.inl rfl)) (pgs_cons (pg_name (i := 3) sc_lengthafterone.nd rfl (Or.inl rfl)) pgs_nil))))
 (pss_one (ps_ret (pe_op op_add (pv 2) (pv 3))))), ?_⟩
    refine ⟨_, rfl, _, rfl, n, k, rfl, ⟨by omega, k2⟩, fun p hp => ?_⟩
    exact ⟨p, _, rfl, .inl (.inl upd_same), rfl, _, _, rfl, _, _, rfl, rfl, _, rfl, _, rfl, _, _, rfl, rfl, q _ (same_new hp)⟩
def spSqzS (K : PySem.W.Frag) : Sp := fun vs H Q _ => ∃ (n : Int) (a : Addr) (ks : List Int), vs = [.int n, .ref a] ∧ SqL K H a (ks.map V.int) ∧ Rpl ks ∧ ∀ H', Same H H' → Q (.int (sq n ks)) H'
theorem ok_lengthafter {f : Addr} {fd : FuncData} (F : Fun K "length_after" "length_after" s_lengthafter f fd) (D_lengthafterone : Df P w K mg base 1 "length_after_one" ["length", "number"] spOnceS) : FnOk P w K mg base CX0 2 f fd ["length", "replacements"] (spSqzS K) := by
  refine F.ok sc_lengthafter (fun vs H Q E h => ?_) (fun cdv A outer s H vs Q E hr h => ?_)
  · obtain ⟨n, a, ks, rfl, _⟩ := h
    rfl
  · obtain ⟨n, a, ks, rfl, hS, hk, q⟩ := h
    refine ⟨_, (pss_cons (ps_set (i := 2) sc_lengthafter.nd rfl (Or.inl rfl) (pv 0))
 (pss_cons (ps_for PassesOwn.never rfl (pi_list (pv 1)) (pg_name (i := 3) sc_lengthafter.nd rfl (Or.inl rfl))
 (pss_one (ps_set (i := 2) sc_lengthafter.nd rfl (Or.inl rfl) (pe_callD D_lengthafterone (hr.mono (by omega)) (by rfl) (pa_cons (pv 2) (pa_cons (pv 3) pa_nil))))))
 (pss_one (ps_ret (pv 2))))), ?_⟩
    refine ⟨_, rfl, _, rfl, a, rfl, ⟨_, hS⟩, for_list (K := K) (a := a) (xs := ks.map V.int) (fun i σ H' => Same H H' ∧ ∃ y, σ = [some (.int n), some (.ref a), some (.int (sq n (ks.take i))), y]) ⟨Same.refl H, none, rfl⟩ (fun i σ H' _ h => h.1.seq hS) ?_ ?_⟩
    · rintro i x σ H' hi ⟨sm, y, rfl⟩
      obtain ⟨k, e, rfl⟩ := map_at hi
      have hm := hk k (List.mem_of_getElem? e)
      refine ⟨_, rfl, _, rfl, _, k, rfl, hm.1, hm.2, fun H'' s2 => ⟨sm.trans s2, some (.int k), ?_⟩⟩
      rw [List.take_add_one, e]
      show _ = [_, _, some (V.int (sq n (ks.take i ++ [k]))), _]
      rw [sq_concat]
      rfl
    · rintro σ H' ⟨sm, y, rfl⟩
      rw [List.length_map, List.take_length]
      exact ⟨_, rfl, q _ sm⟩
end

theorem z1 : 1 ≤ sizeLine := Nat.le_of_lt (small1000 (by decide))
section
variable {P : Program} {w : World} {K : PySem.W.Frag} {mg : Str → Option Value} {base : Heap}
def spCheckChr : Sp := fun vs H Q _ => ∃ b : Str, vs = [.str b] ∧ b.length = 1 ∧ Q .non H
theorem ok_checkcharacter {f : Addr} {fd : FuncData} (F : Fun K "check_character" "check_character" s_checkcharacter f fd) (B : Bi mg) : FnOk P w K mg base CX0 1 f fd ["character"] spCheckChr := by
  refine F.ok sc_checkcharacter (fun vs H Q E h => ?_) (fun cdv A outer s H vs Q E hr h => ?_)
  · obtain ⟨b, rfl, _⟩ := h
    rfl
  · obtain ⟨b, rfl, hb, q⟩ := h
    refine ⟨_, (pss_one (ps_if (PW.pt (pw_or (pt_not (pt_val (pe_callB (id := "isinstance") call_isi (by rfl) B.n_isinstance (by decide +kernel) (pa_cons (pv 0) (pa_cons (pe_bltn (v := .ty "str") (by rfl) B.n_str (by decide +kernel) rfl) pa_nil))))) (pw_or1 (pt_cmpR op_ne (pe_callB (id := "len") call_len_str (by rfl) B.n_len (by decide +kernel) (pa_cons (pv 0) pa_nil)) pe_int (nomark _)))))
 (pss_one ps_never)
 pss_nil)), ?_⟩
    have h1 : (b.length : Int) = 1 := by omega
    refine ⟨_, rfl, _, _, _, _, true, rfl, .ty _, (.base (.str b)), kit_ty (by decide +kernel), _, rfl, iteF ?_⟩
    refine ⟨_, rfl, b, rfl, by rw [hb]; exact z1, rfl, _, rfl, ?_⟩
    rw [h1, show (!decide (V.int 1 = V.int 1)) = false by rw [decide_eq_true rfl]; rfl]
    exact iteF q
/-- how often a character stands before each other one, and at the end -/
def lbw (b : Nat) : List Nat → Int → List Int
  | [], r => [r]
  | x :: xs, r => if x = b then lbw b xs (r + 1) else r :: lbw b xs 0
theorem lbw_cons (b x : Nat) (xs : List Nat) (r : Int) : lbw b (x :: xs) r = if x = b then lbw b xs (r + 1) else r :: lbw b xs 0 := rfl
theorem lbw_len (b : Nat) : ∀ (xs : List Nat) (r : Int), (lbw b xs r).length = (xs.filter fun x => decide (x ≠ b)).length + 1
  | [], _ => rfl
  | x :: xs, r => by
    unfold lbw
    by_cases c : x = b
    · rw [if_pos c, lbw_len b xs, List.filter_cons, if_neg (by rw [decide_eq_false (fun z => z c)]; exact Bool.false_ne_true)]
    · rw [if_neg c, List.length_cons, lbw_len b xs, List.filter_cons, if_pos (decide_eq_true c)]
      rfl
theorem lbw_mem (b : Nat) : ∀ (xs : List Nat) (r : Int), 0 ≤ r → ∀ k ∈ lbw b xs r, 0 ≤ k ∧ k ≤ r + xs.length
  | [], r, h, k, hk => by
    rw [List.mem_singleton.mp hk]
    exact ⟨h, by simp⟩
  | x :: xs, r, h, k, hk => by
    unfold lbw at hk
    rw [List.length_cons]
    by_cases c : x = b
    · rw [if_pos c] at hk
      have := lbw_mem b xs (r + 1) (by omega) k hk
      omega
    · rw [if_neg c] at hk
      rcases List.mem_cons.mp hk with e | hk
      · omega
      · have := lbw_mem b xs 0 (by decide) k hk
        omega
def spBetween : Sp := fun vs H Q _ => ∃ (x : Str) (b : Nat), vs = [.str x, .str ⟨#[b]⟩] ∧ x.length ≤ 4000 ∧ ∀ p H', H p = none → Same H H' → H' p = some (.lst ((lbw b x.cps.toList 0).map V.int)) → Q (.ref p) H'
theorem ok_between {f : Addr} {fd : FuncData} (F : Fun K "lengths_between" "lengths_between" s_lengthsbetween f fd) (B : Bi mg) : FnOk P w K mg base CX0 1 f fd ["text", "character"] spBetween := by
  refine F.ok sc_lengthsbetween (fun vs H Q E h => ?_) (fun cdv A outer s H vs Q E hr h => ?_)
  · obtain ⟨x, b, rfl, _⟩ := h
    rfl
  · obtain ⟨x, b, rfl, hx, q⟩ := h
    refine ⟨_, (pss_cons (ps_set (i := 2) sc_lengthsbetween.nd rfl (Or.inl rfl) (pe_lst pa_nil))
 (pss_cons (ps_set (i := 3) sc_lengthsbetween.nd rfl (Or.inl rfl) pe_int)
 (pss_cons (ps_for PassesOwn.never rfl (pi_str (pv 0)) (pg_name (i := 4) sc_lengthsbetween.nd rfl (Or.inl rfl))
 (pss_one (ps_if (pt_cmpR op_eq (pv 4) (pv 1) (nomark _))
 (pss_one (ps_aug (i := 3) sc_lengthsbetween.nd rfl (Or.inl rfl) pe_int ip_add))
 (pss_cons (ps_expr (pe_bm PySem.F.plainAttrs_list PySem.F.slot_list_append PySem.F.type_list_append mt_append (pv 2) (pa_cons (pv 3) pa_nil)))
 (pss_one (ps_set (i := 3) sc_lengthsbetween.nd rfl (Or.inl rfl) pe_int))))))
 (pss_cons (ps_expr (pe_bm PySem.F.plainAttrs_list PySem.F.slot_list_append PySem.F.type_list_append mt_append (pv 2) (pa_cons (pv 3) pa_nil)))
 (pss_one (ps_ret (pv 2))))))), ?_⟩
    have szl : sizeLine = 16777216 := sizeLine_eq
    refine ⟨Nat.zero_le _, fun p hp => ?_⟩
    have tl : x.cps.toList.length = x.length := rfl
    have fin : ∀ (H' : Hp) (acc : List Int) (r : Int) (rest : List Nat), Same H (wo H' p) → H' p = some (.lst (acc.map V.int)) → acc ++ lbw b rest r = lbw b x.cps.toList 0 → rest = [] → acc.length < sizeLine ∧ Q (.ref p) (upd H' p (.lst (acc.map V.int ++ [.int r]))) := fun H' acc r rest s1 g e er => by
      subst er
      have e' : acc ++ [r] = lbw b x.cps.toList 0 := e
      have l1 := congrArg List.length e'
      have l2 := lbw_len b x.cps.toList 0
      have l3 := List.length_filter_le (fun x => decide (x ≠ b)) x.cps.toList
      rw [List.length_append, List.length_singleton] at l1
      refine ⟨by omega, q p _ hp (fun a o e => ?_) ?_⟩
      · have ne : a ≠ p := fun z => by rw [z, hp] at e; cases e
        rw [upd_ne ne]
        exact wo_same _ _ (s1 _ _ e)
      · rw [upd_same, ← e', List.map_append]
        rfl
    refine ⟨_, rfl, x, rfl, for_it walk_str (fun i σ H' => ∃ acc r y, σ = [some (.str x), some (.str ⟨#[b]⟩), some (.ref p), some (.int r), y] ∧ Same H (wo H' p) ∧ H' p = some (.lst (acc.map V.int)) ∧ acc ++ lbw b (x.cps.toList.drop i) r = lbw b x.cps.toList 0)
      ⟨[], 0, none, rfl, by rw [wo_upd]; exact same_wo (Same.refl _) hp, upd_same, rfl⟩ (fun _ _ _ _ _ => trivial) ?_ ?_⟩
    · rintro i v σ H1 H2 hi ⟨acc, r, y, rfl, s1, g, e⟩ ⟨rfl, ch, ec, rfl⟩
      have ec' : x.cps.toList[i]? = some ch := by rw [Array.getElem?_toList]; exact ec
      have ed : x.cps.toList.drop i = ch :: x.cps.toList.drop (i + 1) := by
        obtain ⟨_, ee⟩ := List.getElem?_eq_some_iff.mp ec'
        rw [List.drop_eq_getElem_cons (by exact hi), ee]
      rw [ed] at e
      refine ⟨_, rfl, _, rfl, rfl, _, rfl, ite2 (fun c1 => ?_) (fun c1 => ?_)⟩
      · have cb : ch = b := by
          have h := of_decide_eq_true c1
          injection h with h
          injection h with h
          injection h with h
          injection h
        rw [lbw_cons, if_pos cb] at e
        exact ⟨_, rfl, _, _, rfl, rfl, acc, r + 1, _, rfl, s1, g, e⟩
      · have cb : ch ≠ b := fun z => c1 (by rw [z]; exact decide_eq_true rfl)
        rw [lbw_cons, if_neg cb] at e
        have l1 := congrArg List.length e
        rw [List.length_append, List.length_cons, lbw_len, lbw_len] at l1
        have l3 := List.length_filter_le (fun x => decide (x ≠ b)) x.cps.toList
        refine ⟨_, rfl, .inl ⟨rfl, _, SqL.of g⟩, _, rfl, p, _, _, rfl, rfl, g, by rw [List.length_map]; omega, acc ++ [r], 0, _, rfl, ?_, ?_, ?_⟩
        · rw [wo_upd]
          exact s1
        · rw [upd_same, List.map_append]
          rfl
        · rw [List.append_assoc]
          exact e
    · rintro σ H' ⟨acc, r, y, rfl, s1, g, e⟩
      obtain ⟨l, q1⟩ := fin H' acc r _ s1 g e (by simp)
      exact ⟨_, rfl, .inl ⟨rfl, _, SqL.of g⟩, _, rfl, p, _, _, rfl, rfl, g, by rw [List.length_map]; exact l, _, rfl, q1⟩
end

open StrLaws (replL replL_nil replL_hit replL_miss replace_list)
def kvF (xs : List Int) (f : Int → Int) : List (Key × V) := xs.map fun x => (.inl x, .int (f x))
theorem valV_kvF (f : Int → Int) (k : Int) : ∀ xs : List Int, valV (kvF xs f) (.inl k) = if k ∈ xs then some (.int (f k)) else none
  | [] => rfl
  | x :: xs => by
    show valV ((.inl x, .int (f x)) :: kvF xs f) (.inl k) = _
    by_cases c : x = k
    · subst c
      rw [valV_pos rfl, if_pos (List.mem_cons_self ..)]
    · rw [valV_neg (by intro z; cases z; exact c rfl), valV_kvF f k xs]
      by_cases m : k ∈ xs
      · rw [if_pos m, if_pos (List.mem_cons_of_mem _ m)]
      · rw [if_neg m, if_neg (by
          intro z
          rcases List.mem_cons.mp z with z | z
          · exact c z.symm
          · exact m z)]
theorem kvF_put (f : Int → Int) {xs : List Int} {y : Int} (h : y ∉ xs) : putK (kvF xs f) (.inl y) (.int (f y)) = kvF (xs ++ [y]) f := by
  rw [putK_new _ (by rw [valV_kvF, if_neg h])]
  unfold kvF
  rw [List.map_append]
  rfl
theorem nodup_take {xs : List Int} (h : xs.Nodup) {i : Nat} {y : Int} (e : xs[i]? = some y) : y ∉ xs.take i := fun z => by
  have h2 : (xs.take i ++ xs.drop i).Nodup := by rw [List.take_append_drop]; exact h
  have m : y ∈ xs.drop i := by
    obtain ⟨hi, ei⟩ := List.getElem?_eq_some_iff.mp e
    rw [List.drop_eq_getElem_cons hi, ei]
    exact List.mem_cons_self ..
  exact (List.nodup_append.mp h2).2.2 y z y m rfl

theorem once_le_self {k n : Int} (hk : 2 ≤ k) (h0 : 0 ≤ n) : once n k ≤ n := by
  unfold once
  have a := Int.mul_ediv_add_emod n k
  have b : 0 ≤ n / k := Int.ediv_nonneg h0 (by omega)
  have d : n / k ≤ k * (n / k) := by
    have := Int.mul_le_mul_of_nonneg_right (show (1 : Int) ≤ k by omega) b
    omega
  omega
theorem sq_le_self : ∀ (ks : List Int) (n : Int), (∀ k ∈ ks, 2 ≤ k) → 0 ≤ n → sq n ks ≤ n
  | [], n, _, _ => Int.le_refl n
  | k :: r, n, h, h0 => by
    have h2 := h k List.mem_cons_self
    have i := sq_le_self r (once n k) (fun x hx => h x (List.mem_cons_of_mem _ hx)) (once_nonneg h2 h0)
    have j := once_le_self h2 h0
    show sq (once n k) r ≤ n
    omega

/-- a text with all runs of b squeezed; r: how many of b stand before -/
def sqT (b : Nat) (ks : List Int) : List Nat → Int → List Nat
  | [], r => List.replicate (sq r ks).toNat b
  | x :: xs, r => if x = b then sqT b ks xs (r + 1) else List.replicate (sq r ks).toNat b ++ x :: sqT b ks xs 0
theorem sqT_cons (b : Nat) (ks : List Int) (x : Nat) (xs : List Nat) (r : Int) : sqT b ks (x :: xs) r = if x = b then sqT b ks xs (r + 1) else List.replicate (sq r ks).toNat b ++ x :: sqT b ks xs 0 := rfl
/-- the others, each as a text, and an empty one -/
def oth (b : Nat) (xs : List Nat) : List (List Nat) := (xs.filter fun x => decide (x ≠ b)).map (fun c => [c]) ++ [[]]
theorem oth_len (b : Nat) (xs : List Nat) : (oth b xs).length = (xs.filter fun x => decide (x ≠ b)).length + 1 := by
  unfold oth
  rw [List.length_append, List.length_map]
  rfl
theorem sqT_zip (b : Nat) (ks : List Int) : ∀ (xs : List Nat) (r : Int), (((lbw b xs r).zip (oth b xs)).map fun p => List.replicate (sq p.1 ks).toNat b ++ p.2).flatten = sqT b ks xs r
  | [], r => by
    show (List.replicate (sq r ks).toNat b ++ []) ++ [] = List.replicate (sq r ks).toNat b
    rw [List.append_nil, List.append_nil]
  | x :: xs, r => by
    rw [lbw_cons, sqT_cons]
    by_cases c : x = b
    · rw [if_pos c, if_pos c]
      have e : oth b (x :: xs) = oth b xs := by
        unfold oth
        rw [List.filter_cons, if_neg (by rw [decide_eq_false (fun z => z c)]; exact Bool.false_ne_true)]
      rw [e]
      exact sqT_zip b ks xs (r + 1)
    · rw [if_neg c, if_neg c]
      have e : oth b (x :: xs) = [x] :: oth b xs := by
        unfold oth
        rw [List.filter_cons, if_pos (decide_eq_true c)]
        rfl
      rw [e, List.zip_cons_cons, List.map_cons, List.flatten_cons, sqT_zip b ks xs 0, List.append_assoc]
      rfl
theorem repl_one (b : Nat) : ∀ l : List Nat, replL [b] [] l = l.filter fun x => decide (x ≠ b)
  | [] => replL_nil
  | x :: l => by
    by_cases c : x = b
    · rw [replL_hit (List.cons_ne_nil b []) (by rw [c]; rfl), List.filter_cons, if_neg (by rw [decide_eq_false (fun z => z c)]; exact Bool.false_ne_true)]
      exact repl_one b l
    · rw [replL_miss (y := [b]) (z := []) (c := x) (r := l) (fun z => c (Option.some.inj (congrArg List.head? z))), List.filter_cons, if_pos (decide_eq_true c), repl_one b l]
theorem repl_chr (x : Str) (b : Nat) : (Txt.replace x ⟨#[b]⟩ "").cps.toList = x.cps.toList.filter fun y => decide (y ≠ b) := by
  rw [replace_list (by exact Nat.le_refl 1)]
  exact repl_one b _
theorem oth_short {b : Nat} {xs o : List Nat} (h : o ∈ oth b xs) : o.length ≤ 1 := by
  unfold oth at h
  rcases List.mem_append.mp h with z | z
  · obtain ⟨c, _, rfl⟩ := List.mem_map.mp z
    exact Nat.le_refl _
  · rw [List.mem_singleton.mp z]
    exact Nat.zero_le _
theorem joinL_flat : ∀ ps : List (List Nat), TL.joinL [] ps = ps.flatten
  | [] => rfl
  | [p] => (List.append_nil p).symm
  | p :: q :: r => by
    show p ++ ([] ++ TL.joinL [] (q :: r)) = p ++ (q :: r).flatten
    rw [joinL_flat (q :: r), List.nil_append]
theorem mul_fold (b : Nat) : ∀ (k : Nat) (acc : Array Nat), ((List.replicate k #[b]).foldl (· ++ ·) acc).toList = acc.toList ++ List.replicate k b
  | 0, acc => (List.append_nil _).symm
  | k + 1, acc => by
    rw [List.replicate_succ, List.foldl_cons, mul_fold b k, Array.toList_append, List.append_assoc]
    rfl
theorem mul_chr (b : Nat) {n : Int} (h0 : 0 ≤ n) : _root_.PySem.Txt.mul ⟨#[b]⟩ n = SX.S (List.replicate n.toNat b) := by
  unfold _root_.PySem.Txt.mul
  split
  · rw [show n.toNat = 0 by omega]
    rfl
  · split
    · rename_i h1 h2
      have e : n = 1 := by
        rcases Bool.or_eq_true_iff.mp h2 with z | z
        · exact eq_of_beq z
        · cases z
      rw [e]
      rfl
    · refine TL.ext_tl ?_
      show ((List.replicate n.toNat #[b]).foldl (· ++ ·) #[]).toList = _
      rw [mul_fold]
      rfl
theorem mul_chr_ok (b : Nat) {n : Int} (h0 : 0 ≤ n) (h1 : n ≤ 4000) : _root_.PySem.MulOk ⟨#[b]⟩ n := by
  have l1 : (⟨#[b]⟩ : Str).length = 1 := rfl
  unfold _root_.PySem.MulOk
  rw [l1]
  refine ⟨?_, fun c _ => ?_, fun c _ => ?_⟩
  · rw [decide_eq_false (by omega), decide_eq_false (by omega)]
    rfl
  · have : (1 : Int) ≤ (2 ^ 63 - 1) / n := Int.le_ediv_of_mul_le (by omega) (by omega)
    show ¬ ((1 : Int) > (2 ^ 63 - 1) / n)
    omega
  · have szl : sizeLine = 16777216 := sizeLine_eq
    exact decide_eq_false (by omega)
theorem sqT_len {b : Nat} {ks : List Int} (h : ∀ k ∈ ks, 2 ≤ k) : ∀ (xs : List Nat) (r : Int), 0 ≤ r → ((sqT b ks xs r).length : Int) ≤ r + xs.length
  | [], r, h0 => by
    show ((List.replicate (sq r ks).toNat b).length : Int) ≤ r + 0
    rw [List.length_replicate]
    have := sq_le_self ks r h h0
    omega
  | x :: xs, r, h0 => by
    rw [sqT_cons, List.length_cons]
    by_cases c : x = b
    · rw [if_pos c]
      have := sqT_len (b := b) h xs (r + 1) (by omega)
      omega
    · rw [if_neg c, List.length_append, List.length_replicate, List.length_cons]
      have a := sq_le_self ks r h h0
      have b := sqT_len (b := b) h xs 0 (by decide)
      omega
theorem sq_low : ∀ {ks : List Int} (n : Int), (∀ k ∈ ks, 2 ≤ k) → 0 ≤ n → 0 ≤ sq n ks
  | [], n, _, h0 => h0
  | k :: r, n, h, h0 => sq_low (ks := r) (once n k) (fun x hx => h x (List.mem_cons_of_mem _ hx)) (once_nonneg (h k List.mem_cons_self) h0)
section
variable {P : Program} {w : World} {K : PySem.W.Frag} {mg : Str → Option Value} {base : Heap}
def spSqT (K : PySem.W.Frag) : Sp := fun vs H Q _ => ∃ (x : Str) (b : Nat) (a : Addr) (ks : List Int), vs = [.str x, .str ⟨#[b]⟩, .ref a] ∧ SqL K H a (ks.map V.int) ∧ Rpl ks ∧ x.length ≤ 3000 ∧ ∀ H', Same H H' → Q (.str ⟨(sqT b ks x.cps.toList 0).toArray⟩) H'
theorem ok_squeezetext {f : Addr} {fd : FuncData} (F : Fun K "squeeze_text" "squeeze_text" s_squeezetext f fd) (B : Bi mg) (D_checkcharacter : Df P w K mg base 1 "check_character" ["character"] spCheckChr) (D_checklist : Df P w K mg base 1 "check_list" ["replacements"] (spCheckList K))
    (D_lengthsbetween : Df P w K mg base 1 "lengths_between" ["text", "character"] spBetween) (D_lengthafter : Df P w K mg base 2 "length_after" ["length", "replacements"] (spSqzS K)) : FnT P w K mg base 4 f fd ["text", "character", "replacements"] 1 (spSqT K) := by
  refine fnt_of F sc_squeezetext (fun vs H Q E h => ?_) (y := "character") rfl rfl (fun cdv A outer s H us vs Q c u0 hr h rv tkn hu Ce => ?_)
  · obtain ⟨x, b, a, ks, rfl, _⟩ := h
    rfl
  · obtain ⟨x, b, a, ks, rfl, hS, hk, hx, q⟩ := h
    obtain ⟨tb, rfl⟩ : ∃ tb, u0 = .str ⟨#[b]⟩ tb := by
      obtain ⟨u, e, t, et⟩ := rv.get (i := 1) rfl
      rw [e] at hu
      exact ⟨t, (Option.some.inj hu).symm.trans et⟩
    have good := tkn _ _ hu rfl
    refine ⟨_, jrs_cons (jst_expr (je_callD Ce D_checkcharacter (hr.mono (by omega)) (by rfl) (ja_cons (jv 1) ja_nil)))
      (jrs_cons (jst_expr (je_callD Ce D_checklist (hr.mono (by omega)) (by rfl) (ja_cons (jv 2) ja_nil)))
      (jrs_cons (jst_set (i := 3) Ce (by decide) sc_squeezetext.nd rfl (Or.inl rfl) (je_callD Ce D_lengthsbetween (hr.mono (by omega)) (by rfl) (ja_cons (jv 0) (ja_cons (jv 1) ja_nil))))
      (jrs_cons (jst_set (i := 4) Ce (by decide) sc_squeezetext.nd rfl (Or.inr rfl) (je_dc Ce (own := [("length", 6)]) (g := gName 6) rfl sc_squeezetext.nd (ji_list (je_callB (id := "sorted") (r := rSortedSetI w) (cj_sortedSetI rfl) (by rfl) B.n_sorted (by decide +kernel) (ja_cons (je_callTy (T := "set") (r := rSetL K w) (cj_setL rfl) (by rfl) B.n_set (by decide +kernel) (ja_cons (jv 3) ja_nil)) ja_nil)))
        (blkOk_by (own := [("length", 6)]) (N := ["text", "character", "replacements", "lengths", "after", "others", "length", "other"]) (sc := defScope s_squeezetext) (by decide +kernel)) (fun _ _ _ _ _ => (pg_name (i := 6) sc_squeezetext.nd rfl (Or.inl rfl))) (fun _ _ _ _ _ => pts_nil) (fun _ _ _ _ _ => (pv 6)) (fun _ _ _ _ _ => (pe_callD D_lengthafter (hr.mono (by omega)) (by rfl) (pa_cons (pv 6) (pa_cons (pv 2) pa_nil))))))
      (jrs_set (i := 5) sc_squeezetext.nd rfl (Or.inl rfl) (jr_op op_cat (jr_callTy (T := "list") (call_listStr rfl) (by rfl) B.n_list (by decide +kernel) (jr_rep (i := 0) rfl (Or.inl rfl) rfl Ce.is good rfl)) (pe_lst (pa_cons pe_str pa_nil)))
      (pss_one (ps_ret (pe_join pe_str (pe_lc (own := [("length", 6), ("other", 7)]) (g := gTup K 2 (gCons (gName 6) (gCons (gName 7) gNil))) rfl sc_squeezetext.nd (pi_zip (by rfl) B.n_zip (pa_cons (pv 3) (pa_cons (pv 5) pa_nil))) (blkOk_by (own := [("length", 6), ("other", 7)]) (N := ["text", "character", "replacements", "lengths", "after", "others", "length", "other"]) (sc := defScope s_squeezetext) (by decide +kernel)) (fun _ _ _ _ _ => (pg_tup rfl (pgs_cons (pg_name (i := 6) sc_squeezetext.nd rfl (Or.inl rfl)) (pgs_cons (pg_name (i := 7) sc_squeezetext.nd rfl (Or.inl rfl)) pgs_nil)))) (fun _ _ _ _ _ => pts_nil) (fun _ _ _ _ _ => (pe_op op_add_str (pe_op op_mulS (pv 1) (pe_dget (hu_of hr) (pv 4) (pv 6) (fun _ _ => rfl))) (pv 7))))))))))), ?_⟩
    have szl : sizeLine = 16777216 := sizeLine_eq
    have xl : x.cps.toList.length = x.length := rfl
    obtain ⟨ls, els⟩ : ∃ ls, ls = lbw b x.cps.toList 0 := ⟨_, rfl⟩
    have lsl : ls.length = (x.cps.toList.filter fun x => decide (x ≠ b)).length + 1 := by rw [els, lbw_len]
    have fl := List.length_filter_le (fun x => decide (x ≠ b)) x.cps.toList
    have lsm : ∀ k ∈ ls, 0 ≤ k ∧ k ≤ x.length := fun k hk => by
      rw [els] at hk
      have := lbw_mem b _ 0 (by decide) k hk
      omega
    refine ⟨_, rfl, ⟨#[b]⟩, rfl, rfl, ?_⟩
    refine ⟨_, rfl, a, ks, rfl, hS, hk.two, fun H1 s1 => ?_⟩
    refine ⟨_, rfl, _, rfl, x, b, rfl, by omega, fun p H2 hp s2 gp => ?_⟩
    rw [← els] at gp
    refine ⟨_, rfl, p, ls, rfl, SqL.of gp, by omega, fun ps m hps lm im => ?_⟩
    refine ⟨ps, _, m, rfl, upd_same, by omega, fun ns pl asc mem len hpl => ?_⟩
    have s3 := (same_new (o := SetO w ps (fun j => decide (j ∈ ls)) m) hps).trans (same_new (o := .lst (ns.map V.int)) hpl)
    have hS3 := s3.seq (s2.seq (s1.seq hS))
    have gpl := upd_same (H := upd H2 ps (SetO w ps (fun j => decide (j ∈ ls)) m)) (a := pl) (o := .lst (ns.map V.int))
    have gp3 := s3 _ _ gp
    generalize upd (upd H2 ps (SetO w ps (fun j => decide (j ∈ ls)) m)) pl (.lst (ns.map V.int)) = H3 at s3 hS3 gpl gp3
    refine ⟨pl, rfl, ⟨_, SqL.of gpl⟩, fun D hD => walkL (K := K) (a := pl) (xs := ns.map V.int) (fun i H' => Same H3 H' ∧ H' D = some (.dK (kvF (ns.take i) fun l => sq l ks))) ⟨same_new hD, upd_same⟩ (fun i H' _ h => SqL.of (h.1 _ _ gpl)) ?_ ?_⟩
    · rintro i v H4 hi ⟨s4, gD⟩
      obtain ⟨y, hy, rfl⟩ := map_at hi
      have il := (List.getElem?_eq_some_iff.mp hy).1
      refine ⟨rfl, _, rfl, _, rfl, _, rfl, y, a, ks, rfl, s4.seq hS3, hk, fun H5 s5 => ⟨_, .inl y, rfl, s5 _ _ gD, ?_, fun c o e => ?_, ?_⟩⟩
      · unfold kvF
        rw [List.length_map, List.length_take]
        omega
      · rw [upd_ne (ne_of_none e hD)]
        exact s5 _ _ (s4 _ _ e)
      · rw [upd_same, kvF_put (fun l => sq l ks) (nodup_take (asc_nodup asc) hy), List.take_add_one, hy]
        rfl
    · rintro H4 ⟨s4, gD⟩
      rw [List.length_map, List.take_length] at gD
      have gp4 := s4 _ _ gp3
      have look : ∀ l ∈ ls, valV (kvF ns fun l => sq l ks) (.inl l) = some (.int (sq l ks)) := fun l hl => by
        rw [valV_kvF, if_pos ((mem l).mpr (decide_eq_true hl))]
      obtain ⟨os, eos⟩ : ∃ os, os = oth b x.cps.toList := ⟨_, rfl⟩
      have osl : os.length = ls.length := by rw [eos, oth_len, lsl]
      refine ⟨x, rfl, by show x.length + (x.length + 1) * 0 ≤ 16777216; omega, ?_⟩
      have er := repl_chr x b
      refine ⟨_, rfl, ?_, fun q1 hq1 => ?_⟩
      · show (Txt.replace x ⟨#[b]⟩ "").cps.toList.length ≤ sizeLine
        exact Nat.le_trans (Nat.le_of_eq (congrArg List.length er)) (Nat.le_trans fl (by omega))
      have sg : signsV (Txt.replace x ⟨#[b]⟩ "") = (x.cps.toList.filter fun y => decide (y ≠ b)).map fun c => V.str ⟨#[c]⟩ := by
        unfold signsV
        rw [← er]
      have sl : (x.cps.toList.filter fun y => decide (y ≠ b)).length + 1 ≤ sizeLine := by
        have := fl
        omega
      have eo : ((x.cps.toList.filter fun y => decide (y ≠ b)).map fun c => V.str ⟨#[c]⟩) ++ [V.str ""] = (os.map SX.S).map V.str := by
        rw [eos]
        unfold oth
        rw [List.map_append, List.map_append, List.map_map, List.map_map]
        rfl
      refine ⟨z1, fun q2 hq2 => ⟨q1, q2, (x.cps.toList.filter fun y => decide (y ≠ b)).map fun c => V.str ⟨#[c]⟩, [V.str ""], rfl, rfl, ?_, upd_same, by rw [List.length_map]; exact sl, fun r hr => ?_⟩⟩
      · refine same_new hq2 _ _ ?_
        rw [upd_same, sg]
      have s5 := ((same_new (o := .lst (signsV (Txt.replace x ⟨#[b]⟩ ""))) hq1).trans (same_new (o := .lst [V.str ""]) hq2)).trans (same_new (o := .lst (((x.cps.toList.filter fun y => decide (y ≠ b)).map fun c => V.str ⟨#[c]⟩) ++ [V.str ""])) hr)
      have gr := upd_same (H := upd (upd H4 q1 (.lst (signsV (Txt.replace x ⟨#[b]⟩ "")))) q2 (.lst [V.str ""])) (a := r) (o := .lst (((x.cps.toList.filter fun y => decide (y ≠ b)).map fun c => V.str ⟨#[c]⟩) ++ [V.str ""]))
      generalize upd (upd (upd H4 q1 (.lst (signsV (Txt.replace x ⟨#[b]⟩ "")))) q2 (.lst [V.str ""])) r (.lst (((x.cps.toList.filter fun y => decide (y ≠ b)).map fun c => V.str ⟨#[c]⟩) ++ [V.str ""])) = H5 at s5 gr
      rw [eo] at gr
      have gp5 := s5 _ _ gp4
      have gD5 := s5 _ _ gD
      obtain ⟨f, ef⟩ : ∃ f : Int × List Nat → List Nat, f = fun p => List.replicate (sq p.1 ks).toNat b ++ p.2 := ⟨_, rfl⟩
      have zl : (ls.zip os).length = ls.length := by rw [List.length_zip, osl, Nat.min_self]
      refine ⟨⟨_, rfl⟩, _, rfl, _, rfl, p, r, ls.map V.int, (os.map SX.S).map V.str, rfl, SqL.of gp5, SqL.of gr, fun E hE => lc_it (walk_zip (K := K) (a := p) (b := r) (xs := ls.map V.int) (ys := (os.map SX.S).map V.str) (n := ls.length) (by rw [List.length_map, List.length_map, List.length_map, osl, Nat.min_self]))
        (fun i H' => Same H5 (wo H' E) ∧ H' E = some (.lst (((((ls.zip os).take i).map f).map SX.S).map V.str)))
        ⟨by rw [wo_upd]; exact same_wo (Same.refl _) hE, upd_same⟩ (fun i H' _ h => ⟨SqL.of (wo_same _ _ (h.1 _ _ gp5)), SqL.of (wo_same _ _ (h.1 _ _ gr))⟩) ?_ ?_⟩
      · rintro i v H6 H7 hi ⟨s6, gE⟩ ⟨T, x1, x2, rfl, nT, rfl, e1, e2⟩
        have e1' : (ls.map V.int)[i]? = some x1 := e1
        have e2' : ((os.map SX.S).map V.str)[i]? = some x2 := e2
        obtain ⟨l, hl, rfl⟩ := map_at e1'
        obtain ⟨o, ho, rfl⟩ : ∃ o, os[i]? = some o ∧ x2 = .str (SX.S o) := by
          rw [List.getElem?_map, List.getElem?_map] at e2'
          cases z : os[i]? with
          | none => rw [z] at e2'; cases e2'
          | some o => rw [z] at e2'; exact ⟨o, rfl, (Option.some.inj e2').symm⟩
        have lm := lsm l (List.mem_of_getElem? hl)
        have sl0 := sq_low l hk.two lm.1
        have sl1 := sq_le_self ks l hk.two lm.1
        have ol : o.length ≤ 1 := oth_short (by rw [← eos]; exact List.mem_of_getElem? ho)
        have s6' : Same H5 H6 := s6.trans wo_same
        have gD7 := same_new (o := .tup [V.int l, .str (SX.S o)]) nT _ _ (s6' _ _ gD5)
        have gE7 := same_new (o := .tup [V.int l, .str (SX.S o)]) nT _ _ gE
        have nTE : E ≠ T := ne_of_none gE nT
        have dg := DGet.k (k := .inl l) gD7
        rw [look l (List.mem_of_getElem? hl)] at dg
        have mc := mul_chr b sl0
        refine ⟨T, _, rfl, .inl (.inl upd_same), rfl, _, _, rfl, _, _, rfl, rfl, rfl, _, rfl, _, rfl, _, rfl, D, _, rfl, dg, ⟨#[b]⟩, sq l ks, rfl, rfl, mul_chr_ok b sl0 (by omega), _, rfl, _, _, rfl, rfl, ?_, _, gE7, ?_, ?_, ?_⟩
        · rw [mc, SX.S_len, SX.S_len, List.length_replicate]
          omega
        · rw [List.length_map, List.length_map, List.length_map, List.length_take]
          omega
        · rw [wo_upd]
          intro z o' e
          have g := s6 z o' e
          have nz : z ≠ E := fun y => by rw [y, wo_self] at g; cases g
          rw [wo_ne nz] at g ⊢
          exact same_new nT _ _ g
        · rw [upd_same, mc, SX.S_cat, List.take_add_one]
          have ez : (ls.zip os)[i]? = some (l, o) := List.getElem?_zip_eq_some.mpr ⟨hl, ho⟩
          rw [ez, List.map_append, List.map_append, List.map_append, ef]
          rfl
      · rintro H6 ⟨s6, gE⟩
        rw [show (ls.zip os).take ls.length = ls.zip os from List.take_of_length_le (by rw [zl]; exact Nat.le_refl _)] at gE
        have fz : ((ls.zip os).map f).flatten = sqT b ks x.cps.toList 0 := by rw [ef, els, eos]; exact sqT_zip b ks _ 0
        have tl := sqT_len (b := b) hk.two x.cps.toList 0 (by decide)
        refine ⟨"", E, ((ls.zip os).map f).map SX.S, rfl, rfl, .inl (SqL.of gE), ?_, ?_⟩
        · have e : ((((ls.zip os).map f).map SX.S).map fun y => y.length) = ((ls.zip os).map f).map List.length := by
            rw [List.map_map]
            exact List.map_congr_left fun y _ => SX.S_len y
          show _ + _ * 0 ≤ 16777216
          rw [e, ← List.length_flatten, fz]
          omega
        · have ej : Txt.join "" (((ls.zip os).map f).map SX.S) = ⟨(sqT b ks x.cps.toList 0).toArray⟩ := by
            have j := SX.join_S [] ((ls.zip os).map f)
            rw [joinL_flat, fz] at j
            exact j
          rw [ej]
          exact q _ ((((s1.trans s2).trans s3).trans s4).trans (s5.trans (s6.trans wo_same)))
end

end Sq

set_option Elab.async false
set_option linter.all false
set_option maxRecDepth 100000
set_option maxHeartbeats 8000000
set_option exponentiation.threshold 2000
namespace Sq
open PySem PySem.Spec PyProof.Rows L2
section
variable {P : Program} {w : World} {K : PySem.W.Frag} {mg : Str → Option Value} {base : Heap} {c fI : Nat → Addr} {qn : Nat → Str} {cB : Addr}
/-! ### the checks that raise -/
def spCheckNumberX (c : Nat → Addr) : Sp := fun vs H Q E => ∃ (n l : Int), vs = [.int n, .int l] ∧ (l ≤ n → Q .non H) ∧ (n < l → Wish E (c 1) (.int n) H)
theorem ok_xchecknumber {f : Addr} {fd : FuncData} (F : Fun K "check_number" "check_number" s_checknumber f fd) (Z : Errs P K mg c fI qn cB) : FnOk P w K mg base (L2.CX P w) 1 f fd ["number", "least"] (spCheckNumberX c) := by
  refine F.okX sc_checknumber (fun vs H Q E h => ?_) (fun cdv A outer s H vs Q E hr h => ?_)
  · obtain ⟨n, l, rfl, _⟩ := h
    rfl
  · obtain ⟨n, l, rfl, q, e⟩ := h
    refine ⟨_, (pss_one (ps_if (pt_cmpR op_lt (pv 0) (pv 1) (nomark _))
 (pss_one (ps_raise rfl takesX (pmk_er (Z.er 1 (by decide)).2 Z.g1 hr (by rfl) (pv 0))))
 pss_nil)), ?_⟩
    refine ⟨_, rfl, _, rfl, _, _, rfl, rfl, _, rfl, ite2 (fun c => ?_) (fun c => ?_)⟩
    · exact ⟨_, rfl, e (of_decide_eq_true c)⟩
    · exact q (by have : ¬ n < l := fun z => c (decide_eq_true z); omega)
def spCheckListX (K : PySem.W.Frag) (c : Nat → Addr) : Sp := fun vs H Q E => ∃ (a : Addr) (ks : List Int), vs = [.ref a] ∧ SqL K H a (ks.map V.int) ∧ (lowAt ks = none → ∀ H', Same H H' → Q .non H') ∧ (∀ j : Nat, lowAt ks = some j → ∀ H', Same H H' → Wish E (c 0) (.int (j : Int)) H')
theorem ok_xchecklist {f : Addr} {fd : FuncData} (F : Fun K "check_list" "check_list" s_checklist f fd) (B : Bi mg) (Z : Errs P K mg c fI qn cB) : FnOk P w K mg base (L2.CX P w) 1 f fd ["replacements"] (spCheckListX K c) := by
  refine F.okX sc_checklist (fun vs H Q E h => ?_) (fun cdv A outer s H vs Q E hr h => ?_)
  · obtain ⟨a, ks, rfl, _⟩ := h
    rfl
  · obtain ⟨a, ks, rfl, hS, q, e⟩ := h
    refine ⟨_, (pss_one (ps_for ownsX rfl (pi_enum (by rfl) B.n_enumerate (pa_cons (pv 0) pa_nil)) (pg_tup rfl (pgs_cons (pg_name (i := 1) sc_checklist.nd rfl (Or.inl rfl)) (pgs_cons (pg_name (i := 2) sc_checklist.nd rfl (Or.inl rfl)) pgs_nil)))
 (pss_one (ps_if (pt_cmpR op_lt (pv 2) pe_int (nomark _))
 (pss_one (ps_raise rfl takesX (pmk_er (Z.er 0 (by decide)).2 Z.g0 hr (by rfl) (pv 1))))
 pss_nil)))), ?_⟩
    refine ⟨_, rfl, a, _, rfl, hS, for_it walk_enum (fun i σ H' => Same H H' ∧ (∀ k ∈ ks.take i, 2 ≤ k) ∧ ∃ y1 y2, σ = [some (.ref a), y1, y2]) ⟨Same.refl H, (fun k z => by simp at z), none, none, rfl⟩ (fun i σ H' _ h => h.1.seq hS) ?_ ?_⟩
    · rintro i x σ H' H2 hi ⟨sm, up, y1, y2, rfl⟩ ⟨T, u, v, rfl, hT, rfl, e1, e2⟩
      cases e1
      obtain ⟨k, hk, rfl⟩ := map_at e2
      have sm2 := sm.trans (same_new (o := .tup [.int (i : Int), .int k]) hT)
      obtain ⟨la, lb⟩ := lowAt_take ks i up
      refine ⟨T, _, rfl, .inl (.inl upd_same), rfl, _, _, rfl, _, _, rfl, rfl, ?_⟩
      refine ⟨_, rfl, _, 2, rfl, rfl, _, rfl, ite2 (fun c => ?_) (fun c => ?_)⟩
      · exact ⟨_, rfl, e i (la k hk (of_decide_eq_true c)) _ sm2⟩
      · refine ⟨sm2, fun x hx => ?_, _, _, rfl⟩
        rw [List.take_add_one, hk] at hx
        rcases List.mem_append.mp hx with z | z
        · exact up x z
        · have := List.mem_singleton.mp z
          have : ¬ k < 2 := fun z => c (decide_eq_true z)
          omega
    · rintro σ H' ⟨sm, up, y1, y2, rfl⟩
      exact q ((lowAt_take ks ks.length (by rw [List.length_map] at up; exact up)).2 (Nat.le_refl _)) H' sm
end

section
variable {P : Program} {w : World} {K : PySem.W.Frag} {mg : Str → Option Value} {base : Heap} {c fI : Nat → Addr} {qn : Nat → Str} {cB : Addr}
def spSqueezedX (K : PySem.W.Frag) (c : Nat → Addr) : Sp := fun vs H Q E => ∃ (n : Int) (a : Addr) (ks : List Int), vs = [.int n, .ref a] ∧ SqL K H a (ks.map V.int) ∧ (0 ≤ n → lowAt ks = none → Rpl ks ∧ ∀ H', Same H H' → Q (.int (sq n ks)) H') ∧
  (n < 0 → Wish E (c 1) (.int n) H) ∧ (0 ≤ n → ∀ j : Nat, lowAt ks = some j → ∀ H', Same H H' → Wish E (c 0) (.int (j : Int)) H')
theorem ok_xsqueezed {f : Addr} {fd : FuncData} (F : Fun K "squeezed" "squeezed" s_squeezed f fd) (X_checknumber : Dx P w K mg base 1 "check_number" ["number", "least"] (spCheckNumberX c)) (X_checklist : Dx P w K mg base 1 "check_list" ["replacements"] (spCheckListX K c))
    (D_lengthafter : Df P w K mg base 2 "length_after" ["length", "replacements"] (spSqzS K)) : FnOk P w K mg base (L2.CX P w) 3 f fd ["length", "replacements"] (spSqueezedX K c) := by
  refine F.okX sc_squeezed (fun vs H Q E h => ?_) (fun cdv A outer s H vs Q E hr h => ?_)
  · obtain ⟨n, a, ks, rfl, _⟩ := h
    rfl
  · obtain ⟨n, a, ks, rfl, hS, q, e1, e2⟩ := h
    refine ⟨_, (pss_cons (ps_expr (pe_callX X_checknumber takesX (hr.mono (by omega)) (by rfl) (pa_cons (pv 0) (pa_cons pe_int pa_nil))))
 (pss_cons (ps_expr (pe_callX X_checklist takesX (hr.mono (by omega)) (by rfl) (pa_cons (pv 1) pa_nil)))
 (pss_one (ps_ret (pe_callD D_lengthafter (hr.mono (by omega)) (by rfl) (pa_cons (pv 0) (pa_cons (pv 1) pa_nil))))))), ?_⟩
    refine ⟨_, rfl, n, 0, rfl, fun h0 => ?_, e1⟩
    refine ⟨_, rfl, a, ks, rfl, hS, fun ok H1 s1 => ?_, e2 h0⟩
    obtain ⟨rk, q2⟩ := q h0 ok
    exact ⟨_, rfl, _, rfl, n, a, ks, rfl, s1.seq hS, rk, fun H2 s2 => q2 _ (s1.trans s2)⟩
end

section
variable {P : Program} {w : World} {K : PySem.W.Frag} {mg : Str → Option Value} {base : Heap} {c fI : Nat → Addr} {qn : Nat → Str} {cB : Addr}
def oneSign : V → Bool
  | .str z => decide (z.length = 1)
  | _ => false
/-- what kinds of values are passed as a character -/
inductive SignV (H : Hp) : V → Prop where
  | str (z : Str) : z.length ≤ 1000 → SignV H (.str z)
  | non : SignV H .non
  | int (i : Int) : SignV H (.int i)
  | bl (b : Bool) : SignV H (.bl b)
  | lst (a : Addr) (xs : List V) : H a = some (.lst xs) → SignV H (.ref a)
  | tup (a : Addr) (xs : List V) : H a = some (.tup xs) → SignV H (.ref a)
def spCheckChar (c : Nat → Addr) : Sp := fun vs H Q E => ∃ x : V, vs = [x] ∧ SignV H x ∧ (oneSign x = true → Q .non H) ∧ (oneSign x = false → Wish E (c 2) x H)
theorem ok_xcheckcharacter {f : Addr} {fd : FuncData} (F : Fun K "check_character" "check_character" s_checkcharacter f fd) (B : Bi mg) (Z : Errs P K mg c fI qn cB) : FnOk P w K mg base (L2.CX P w) 1 f fd ["character"] (spCheckChar c) := by
  refine F.okX sc_checkcharacter (fun vs H Q E h => ?_) (fun cdv A outer s H vs Q E hr h => ?_)
  · obtain ⟨x, rfl, _⟩ := h
    rfl
  · obtain ⟨x, rfl, hk, q, e⟩ := h
    refine ⟨_, (pss_one (ps_if (PW.pt (pw_or (pt_not (pt_val (pe_callB (id := "isinstance") call_isi (by rfl) B.n_isinstance (by decide +kernel) (pa_cons (pv 0) (pa_cons (pe_bltn (v := .ty "str") (by rfl) B.n_str (by decide +kernel) rfl) pa_nil))))) (pw_or1 (pt_cmpR op_ne (pe_callB (id := "len") call_len_str (by rfl) B.n_len (by decide +kernel) (pa_cons (pv 0) pa_nil)) pe_int (nomark _)))))
 (pss_one (ps_raise rfl takesX (pmk_er (Z.er 2 (by decide)).2 Z.g2 hr (by rfl) (pv 0))))
 pss_nil)), ?_⟩
    cases hk with
    | str z hz =>
      refine ⟨_, rfl, _, _, _, _, true, rfl, .ty _, (.base (.str z)), kit_ty (by decide +kernel), _, rfl, iteF ?_⟩
      refine ⟨_, rfl, z, rfl, Nat.le_of_lt (small1000 hz), rfl, _, rfl, ?_⟩
      by_cases o : z.length = 1
      · exact iteNS (congrArg V.int (by omega)) (q (decide_eq_true o))
      · rw [decide_eq_false (fun z' => o (by injection z' with z'; omega))]
        exact iteT ⟨_, rfl, e (decide_eq_false o)⟩
    | non => exact ⟨_, rfl, _, _, _, _, false, rfl, .ty _, (.base .non), kit_ty (by decide +kernel), _, rfl, iteT ⟨_, rfl, e rfl⟩⟩
    | int i => exact ⟨_, rfl, _, _, _, _, false, rfl, .ty _, (.base (.int i)), kit_ty (by decide +kernel), _, rfl, iteT ⟨_, rfl, e rfl⟩⟩
    | bl b => exact ⟨_, rfl, _, _, _, _, false, rfl, .ty _, (.base (.bl b)), kit_ty (by decide +kernel), _, rfl, iteT ⟨_, rfl, e rfl⟩⟩
    | lst a xs ha => exact ⟨_, rfl, _, _, _, _, false, rfl, .ty _, (.base (.lst ha)), kit_ty (by decide +kernel), _, rfl, iteT ⟨_, rfl, e rfl⟩⟩
    | tup a xs ha => exact ⟨_, rfl, _, _, _, _, false, rfl, .ty _, (.base (.tup ha)), kit_ty (by decide +kernel), _, rfl, iteT ⟨_, rfl, e rfl⟩⟩
end
section
variable {P : Program} {w : World} {K : PySem.W.Frag} {mg : Str → Option Value} {base : Heap} {c fI : Nat → Addr} {qn : Nat → Str} {cB : Addr}
/-- where the arguments are wrong -/
def spSqueezeBad (K : PySem.W.Frag) (c : Nat → Addr) : Sp := fun vs H Q E => ∃ (t : Str) (x : V) (a : Addr) (ks : List Int), vs = [.str t, x, .ref a] ∧ SignV H x ∧ SqL K H a (ks.map V.int) ∧ (oneSign x = false → Wish E (c 2) x H) ∧
  (oneSign x = true → ∀ j : Nat, lowAt ks = some j → ∀ H', Same H H' → Wish E (c 0) (.int (j : Int)) H') ∧ (oneSign x = true → lowAt ks = none → False)
theorem ok_squeezebad {f : Addr} {fd : FuncData} (F : Fun K "squeeze_text" "squeeze_text" s_squeezetext f fd) (X_checkcharacter : Dx P w K mg base 1 "check_character" ["character"] (spCheckChar c)) (X_checklist : Dx P w K mg base 1 "check_list" ["replacements"] (spCheckListX K c)) : FnOk P w K mg base (L2.CX P w) 3 f fd ["text", "character", "replacements"] (spSqueezeBad K c) := by
  refine F.okX sc_squeezetext (fun vs H Q E h => ?_) (fun cdv A outer s H vs Q E hr h => ?_)
  · obtain ⟨t, x, a, ks, rfl, _⟩ := h
    rfl
  · obtain ⟨t, x, a, ks, rfl, hx, hS, e1, e2, no⟩ := h
    refine ⟨_, (pss_cons (ps_expr (pe_callX X_checkcharacter takesX (hr.mono (by omega)) (by rfl) (pa_cons (pv 1) pa_nil))) (pss_cons (ps_expr (pe_callX X_checklist takesX (hr.mono (by omega)) (by rfl) (pa_cons (pv 2) pa_nil))) pss_no)), ?_⟩
    refine ⟨_, rfl, x, rfl, hx, fun one => ?_, e1⟩
    exact ⟨_, rfl, a, ks, rfl, hS, fun ok H1 s1 => no one ok, e2 one⟩
end
section
variable {P : Program} {w : World} {K : PySem.W.Frag} {mg : Str → Option Value} {base : Heap} {c fI : Nat → Addr} {qn : Nat → Str} {cB : Addr}
def spStages (K : PySem.W.Frag) (c : Nat → Addr) : SpF := fun vs H Q E => ∃ (n : Int) (a : Addr) (ks : List Int), vs = [.int n, .ref a] ∧ SqL K H a (ks.map V.int) ∧ (0 ≤ n → lowAt ks = none → ∀ H', Same H H' → Q (.int n) H') ∧
  (n < 0 → Wish E (c 1) (.int n) H) ∧ (0 ≤ n → ∀ j : Nat, lowAt ks = some j → ∀ H', Same H H' → Wish E (c 0) (.int (j : Int)) H')
theorem ok_stages {f : Addr} {fd : FuncData} (F : Fun K "stages" "stages" s_stages f fd) (X_checknumber : Dx P w K mg base 1 "check_number" ["number", "least"] (spCheckNumberX c)) (X_checklist : Dx P w K mg base 1 "check_list" ["replacements"] (spCheckListX K c)) :
    GFn1 P w K mg base 2 f fd ["length", "replacements"] (spStages K c) := by
  obtain ⟨oc, od, kV, doc, pm, an, cdv, ct, osl, rfl, lk, hcd⟩ := F.ex
  refine gfn1_of (k := 1) (name := "stages") (qual := "stages") lk hcd sc_stages (fun vs H Q E h => ?_) (fun _ => rfl) (fun A outer s H vs Q E pn hr h => ?_)
  · obtain ⟨n, a, ks, rfl, _⟩ := h
    rfl
  · obtain ⟨n, a, ks, rfl, hS, q, e1, e2⟩ := h
    refine ⟨_, _, _, (ps_expr (pe_callX X_checknumber takes_gcx (hr.mono (by omega)) (by rfl) (pa_cons (pv 0) (pa_cons pe_int pa_nil)))), (ps_expr (pe_callX X_checklist takes_gcx (hr.mono (by omega)) (by rfl) (pa_cons (pv 1) pa_nil))), (pv 0), ?_⟩
    refine ⟨_, rfl, n, 0, rfl, fun h0 => ?_, e1⟩
    refine ⟨_, rfl, a, ks, rfl, hS, fun ok H1 s1 => ?_, e2 h0⟩
    exact ⟨_, rfl, q h0 ok H1 s1⟩
end
end Sq

set_option Elab.async false
set_option linter.all false
set_option maxRecDepth 100000
set_option maxHeartbeats 8000000
set_option exponentiation.threshold 2000
namespace Sq
open PySem PySem.Spec PyProof.Rows L2
/-- what error is due: its class, its value -/
def dueN (many : Int) (ks : List Int) : Option (Nat × V) := if many < 0 then some (1, .int many) else (lowAt ks).map fun j => (0, .int (j : Int))
def dueC (x : V) (ks : List Int) : Option (Nat × V) := if oneSign x = false then some (2, x) else (lowAt ks).map fun j => (0, .int (j : Int))
def nmK (i : Nat) : Str := ["list", "number", "character"].getD i "list"
theorem dueN_neg {many : Int} {ks : List Int} (h : many < 0) : dueN many ks = some (1, .int many) := if_pos h
theorem dueN_low {many : Int} {ks : List Int} {j : Nat} (h : 0 ≤ many) (e : lowAt ks = some j) : dueN many ks = some (0, .int (j : Int)) := by
  unfold dueN
  rw [if_neg (by omega), e]
  rfl
theorem dueN_ok {many : Int} {ks : List Int} (h : 0 ≤ many) (e : lowAt ks = none) : dueN many ks = none := by
  unfold dueN
  rw [if_neg (by omega), e]
  rfl
theorem dueC_chr {x : V} {ks : List Int} (h : oneSign x = false) : dueC x ks = some (2, x) := if_pos h
theorem dueC_low {x : V} {ks : List Int} {j : Nat} (h : oneSign x = true) (e : lowAt ks = some j) : dueC x ks = some (0, .int (j : Int)) := by
  unfold dueC
  rw [if_neg (by rw [h]; exact fun z => nomatch z), e]
  rfl
theorem dueC_ok {x : V} {ks : List Int} (h : oneSign x = true) (e : lowAt ks = none) : dueC x ks = none := by
  unfold dueC
  rw [if_neg (by rw [h]; exact fun z => nomatch z), e]
  rfl
def bsK (i : Nat) : List Bool := [decide (i = 1), decide (i = 0), decide (i = 2)]
theorem bsK_one {i : Nat} (h : i < 3) : (bsK i).count true = 1 := by
  have : i = 0 ∨ i = 1 ∨ i = 2 := by omega
  rcases this with rfl | rfl | rfl <;> decide
theorem bsK_at {i : Nat} (h : i < 3) : ∃ j : Nat, ((bsK i).map V.bl)[j]? = some (.bl true) ∧ (∀ (m : Nat) (z : V), m < j → ((bsK i).map V.bl)[m]? = some z → eqV z (.bl true) = false) ∧ ([V.str "number", V.str "list", V.str "character"])[j]? = some (.str (nmK i)) := by
  have : i = 0 ∨ i = 1 ∨ i = 2 := by omega
  rcases this with rfl | rfl | rfl
  · exact ⟨1, rfl, fun m z hm e => by
      have : m = 0 := by omega
      subst this
      cases e
      rfl, rfl⟩
  · exact ⟨0, rfl, fun m z hm e => absurd hm (Nat.not_lt_zero _), rfl⟩
  · exact ⟨2, rfl, fun m z hm e => by
      have : m = 0 ∨ m = 1 := by omega
      rcases this with rfl | rfl <;> cases e <;> rfl, rfl⟩
theorem wish_keep {K : PySem.W.Frag} {cBv : Value} {i : Nat} {ts : Addr → Value → Option Addr → TS} {Wout : WX} {D : Ends} {C : Addr} {v : V} {Hc : Hp} {σ : L2.St} (m : PySem.W.exmOne K (.ref C) cBv = some true)
    (h : ∀ p d, Hc d = none → (upd Hc d (exd d [(("value" : Str), v)])) p = none → ts p (.ref C) (some d) { nx := fun σ' H' => D.nx (σ'.set i none) (upd H' p (exq p C (some d))), rt := fun v' H' => D.rt v' (upd H' p (exq p C (some d))), bk := fun σ' H' => D.bk (σ'.set i none) (upd H' p (exq p C (some d))), ct := fun σ' H' => D.ct (σ'.set i none) (upd H' p (exq p C (some d))) } (σ.set i (some (.ref p))) (upd Hc d (exd d [(("value" : Str), v)]))) :
    Wish (WE (wKeep K cBv i ts Wout D) σ) C v Hc := fun d hd => ⟨true, m, fun _ => ⟨C, rfl, fun p hp => h p d hd hp⟩, fun z => nomatch z⟩
section
variable {P : Program} {w : World} {K : PySem.W.Frag} {mg : Str → Option Value} {base : Heap} {c fI : Nat → Addr} {qn : Nat → Str} {cB : Addr}
def FewK (ks : List Int) : Prop := ∀ k ∈ ks, k < 1073741824
/-- squeeze_text isn't called with good arguments, it is -/
def Away (way : Int) (x : V) (ks : List Int) : Prop := (0 ≤ way ∧ way < 3) ∨ oneSign x = false ∨ lowAt ks ≠ none
def Near (way : Int) (x : V) (ks : List Int) : Prop := ¬ (0 ≤ way ∧ way < 3) ∧ oneSign x = true ∧ lowAt ks = none
def spToldG (K : PySem.W.Frag) (G : Int → V → List Int → Prop) : Sp := fun vs H Q _ => ∃ (way many : Int) (a : Addr) (ks : List Int) (x : V), vs = [.int way, .int many, .ref a, x] ∧ SqL K H a (ks.map V.int) ∧ FewK ks ∧ SignV H x ∧ G way x ks ∧
  ((if 0 ≤ way ∧ way < 3 then dueN many ks else dueC x ks) = none → ∀ H', Same H H' → Q .non H') ∧
  (∀ i v, (if 0 ≤ way ∧ way < 3 then dueN many ks else dueC x ks) = some (i, v) → ∀ p H', H p = none → Same H H' → H' p = some (.lst [.str (nmK i), v]) → Q (.ref p) H')
abbrev spTold (K : PySem.W.Frag) : Sp := spToldG K fun _ _ _ => True
theorem told_or {K : PySem.W.Frag} {vs : List V} {H : Hp} {Q : VK} {E : XK} (h : spTold K vs H Q E) : spToldG K Away vs H Q E ∨ spToldG K Near vs H Q E := by
  obtain ⟨way, many, a, ks, x, rfl, hS, sm, hx, _, q0, q1⟩ := h
  by_cases c : Away way x ks
  · exact .inl ⟨way, many, a, ks, x, rfl, hS, sm, hx, c, q0, q1⟩
  · refine .inr ⟨way, many, a, ks, x, rfl, hS, sm, hx, ⟨fun z => c (.inl z), ?_, ?_⟩, q0, q1⟩
    · cases e : oneSign x with
      | true => rfl
      | false => exact absurd (.inr (.inl e)) c
    · cases e : lowAt ks with
      | none => rfl
      | some j => exact absurd (.inr (.inr (by rw [e]; exact fun z => nomatch z))) c
theorem ok_lawtold {f : Addr} {fd : FuncData} (F : Fun K "_law_told" "_law_told" s_lawtold f fd) (B : Bi mg) (Z : Errs P K mg c fI qn cB) (Z2 : Errs2 K c cB)
    (X_squeezed : Dx P w K mg base 3 "squeezed" ["length", "replacements"] (spSqueezedX K c)) {g1 g2 : List Value → List Value → List Value} (XK_squeezed : Dxk P w K mg base 3 "squeezed" ["length", "replacements"] ["replacements", "length"] g1 (fun _ zs => zs.reverse) (spSqueezedX K c))
    (X1_stages : Dx1 P w K mg base 2 "stages" ["length", "replacements"] (spStages K c)) (X_squeezetext : Dx P w K mg base 3 "squeeze_text" ["text", "character", "replacements"] (spSqueezeBad K c))
    (XK_squeezetext : Dxk P w K mg base 3 "squeeze_text" ["text", "character", "replacements"] ["character", "replacements", "text"] g2 (fun _ zs => match zs with | [x, y, z] => [z, x, y] | _ => []) (spSqueezeBad K c)) :
    FnOk P w K mg base CX0 5 f fd ["way", "many", "some", "sign"] (spToldG K Away) := by
  refine F.ok sc_lawtold (fun vs H Q E h => ?_) (fun cdv A outer s H vs Q E hr h => ?_)
  · obtain ⟨way, many, a, ks, x, rfl, _⟩ := h
    rfl
  · obtain ⟨way, many, a, ks, x, rfl, hS, sm, hx, away, q0, q1⟩ := h
    refine ⟨_, (pss_cons (ps_set (i := 4) sc_lawtold.nd rfl (Or.inl rfl) pe_non)
 (pss_cons (ps_try_keep (i := 6) rfl rfl rfl sc_lawtold.nd rfl rfl ⟨by rfl, by decide, .inl Z.g5⟩ takes0 (fun W_ pn_ xe_ tk_ own_ => (pss_one (ps_if (pt_cmpR op_eq (pv 0) pe_int (nomark _))
 (pss_one (ps_expr (pe_callX X_squeezed tk_ (hr.mono (by omega)) (by rfl) (pa_cons (pv 1) (pa_cons (pv 2) pa_nil)))))
 (pss_one (ps_if (pt_cmpR op_eq (pv 0) pe_int (nomark _))
 (pss_one (ps_expr (pe_callXK XK_squeezed tk_ (hr.mono (by omega)) (by rfl) (pk_cons (pv 2) (pk_cons (pv 1) pk_nil)))))
 (pss_one (ps_if (pt_cmpR op_eq (pv 0) pe_int (nomark _))
 (pss_one (ps_firstD (i := 5) (K0 := K) rfl X1_stages tk_ (hr.mono (by omega)) (by rfl) (pa_cons (pv 1) (pa_cons (pv 2) pa_nil)) own_ sc_lawtold.nd rfl (Or.inl rfl) (Or.inr rfl)))
 (pss_one (ps_if (pt_cmpR op_eq (pv 0) pe_int (nomark _))
 (pss_one (ps_expr (pe_callX X_squeezetext tk_ (hr.mono (by omega)) (by rfl) (pa_cons pe_str (pa_cons (pv 3) (pa_cons (pv 2) pa_nil))))))
 (pss_one (ps_expr (pe_callXK XK_squeezetext tk_ (hr.mono (by omega)) (by rfl) (pk_cons (pv 3) (pk_cons (pv 2) (pk_cons pe_str pk_nil)))))))))))))))
 (fun a_ oe_ cls_ d_ pn_ hz_ hf_ => (pss_one (ps_set (i := 4) sc_lawtold.nd rfl (Or.inl rfl) (pv 6)))))
 (pss_cons (ps_if (pt_cmpR op_isN (pv 4) pe_non (nomark _))
 (pss_one (ps_ret pe_non))
 pss_nil)
 (pss_cons (ps_set (i := 7) sc_lawtold.nd rfl (Or.inl rfl) (pe_lst (pa_cons (pe_callB (id := "isinstance") call_isiQ (by rfl) B.n_isinstance (by decide +kernel) (pa_cons (pv 4) (pa_cons (pe_glob (v := .ref _) (by rfl) Z.g1 rfl) pa_nil))) (pa_cons (pe_callB (id := "isinstance") call_isiQ (by rfl) B.n_isinstance (by decide +kernel) (pa_cons (pv 4) (pa_cons (pe_glob (v := .ref _) (by rfl) Z.g0 rfl) pa_nil))) pa_nil))))
 (pss_cons (ps_expr (pe_bm PySem.F.plainAttrs_list PySem.F.slot_list_append PySem.F.type_list_append mt_append (pv 7) (pa_cons (pe_callB (id := "isinstance") call_isiQ (by rfl) B.n_isinstance (by decide +kernel) (pa_cons (pv 4) (pa_cons (pe_glob (v := .ref _) (by rfl) Z.g2 rfl) pa_nil))) pa_nil)))
 (pss_cons (ps_if (PW.pt (pw_or (pt_val (pe_callB (id := "isinstance") call_isiQT (by rfl) B.n_isinstance (by decide +kernel) (pa_cons (pv 4) (pa_cons (pe_tup (pa_cons (pe_glob (v := .ref _) (by rfl) Z.g3 rfl) (pa_cons (pe_glob (v := .ref _) (by rfl) Z.g4 rfl) pa_nil))) pa_nil)))) (pw_or1 (pt_not (pt_val (pe_callB (id := "isinstance") call_isiQ (by rfl) B.n_isinstance (by decide +kernel) (pa_cons (pv 4) (pa_cons (pe_bltn (v := .ty "ValueError") (by rfl) B.n_ValueError (by decide +kernel) rfl) pa_nil))))))))
 (pss_one (ps_ret pe_str))
 pss_nil)
 (pss_one (ps_ret (pe_ifExp (pt_cmpR op_eq (pe_bm PySem.F.plainAttrs_list PySem.F.slot_list_count PySem.F.type_list_count mt_countB (pv 7) (pa_cons pe_bl pa_nil)) pe_int (nomark _)) (pe_lst (pa_cons (pe_ix (r := rIxL K) ix_list (pe_lst (pa_cons pe_str (pa_cons pe_str (pa_cons pe_str pa_nil)))) (pe_bm PySem.F.plainAttrs_list PySem.F.slot_list_index PySem.F.type_list_index mt_index (pv 7) (pa_cons pe_bl pa_nil)) (fun _ _ => rfl)) (pa_cons (pe_qv (pv 4)) pa_nil))) pe_str))))))))), ?_⟩
    obtain ⟨ex, eex⟩ : ∃ ex, ex = (if 0 ≤ way ∧ way < 3 then dueN many ks else dueC x ks) := ⟨_, rfl⟩
    rw [← eex] at q0 q1
    refine tellSeq (fun σ2 H2 => σ2 = [some (.int way), some (.int many), some (.ref a), some x, some .non, none, none, none] ∧ H = H2) (fun N hN => hN _ _ ⟨rfl, rfl⟩) (fun σ0 H0 h0 => ?_)
    obtain ⟨rfl, rfl⟩ := h0
    refine tellSeq (fun σ2 H2 => (ex = none ∧ ∃ y5, σ2 = [some (.int way), some (.int many), some (.ref a), some x, some .non, y5, none, none] ∧ Same H H2) ∨
      (∃ (i : Nat) (v : V) (p d : Addr) (y5 : Option V), ex = some (i, v) ∧ i < 3 ∧ σ2 = [some (.int way), some (.int many), some (.ref a), some x, some (.ref p), y5, none, none] ∧ CaughtAt H2 p d (c i) v ∧ Same H H2)) (fun N hN => ?_) (fun σ2 H2 h => ?_)
    · have er : ∀ (i : Nat) (v : V) (Hc : Hp) (p d : Addr) (y5 : Option V), ex = some (i, v) → i < 3 → Same H Hc → Hc d = none → (upd Hc d (exd d [(("value" : Str), v)])) p = none →
          N [some (.int way), some (.int many), some (.ref a), some x, some (.ref p), y5, none, none] (upd (upd Hc d (exd d [(("value" : Str), v)])) p (exq p (c i) (some d))) := fun i v Hc p d y5 e1 e2 s1 hd hp => by
        have ndp : d ≠ p := ne_of_none upd_same hp
        exact hN _ _ (.inr ⟨i, v, p, d, y5, e1, e2, rfl, ⟨upd_same, by rw [upd_ne ndp, upd_same]⟩, (s1.trans (same_new hd)).trans (same_new hp)⟩)
      have okN : ∀ (H' : Hp) (y5 : Option V), ex = none → Same H H' → N [some (.int way), some (.int many), some (.ref a), some x, some .non, y5, none, none] H' := fun H' y5 e1 s1 => hN _ _ (.inl ⟨e1, y5, rfl, s1⟩)
      refine ⟨_, rfl, rfl, _, rfl, ite2 (fun cw => ?_) (fun cw => ?_)⟩
      · have ew : way = 0 := V.int.inj (of_decide_eq_true cw)
        have e : ex = dueN many ks := by rw [eex, if_pos (by omega)]
        refine ⟨_, rfl, _, rfl, many, a, ks, rfl, hS, fun h0 ok => ⟨fun k hk => ⟨lowAt_none ok k hk, sm k hk⟩, fun H' s' => okN _ _ (e.trans (dueN_ok h0 ok)) s'⟩, fun hneg => wish_keep (Z2.ma 1 (by decide)) fun p d hd hp => ⟨_, rfl, er 1 _ H p d _ (e.trans (dueN_neg hneg)) (by decide) (Same.refl _) hd hp⟩,
          fun h0 j hj H' s' => wish_keep (Z2.ma 0 (by decide)) fun p d hd hp => ⟨_, rfl, er 0 _ H' p d _ (e.trans (dueN_low h0 hj)) (by decide) s' hd hp⟩⟩
      refine ⟨_, rfl, rfl, _, rfl, ite2 (fun cw1 => ?_) (fun cw1 => ?_)⟩
      · have ew : way = 1 := V.int.inj (of_decide_eq_true cw1)
        have e : ex = dueN many ks := by rw [eex, if_pos (by omega)]
        refine ⟨_, rfl, _, rfl, rfl, many, a, ks, rfl, hS, fun h0 ok => ⟨fun k hk => ⟨lowAt_none ok k hk, sm k hk⟩, fun H' s' => okN _ _ (e.trans (dueN_ok h0 ok)) s'⟩, fun hneg => wish_keep (Z2.ma 1 (by decide)) fun p d hd hp => ⟨_, rfl, er 1 _ H p d _ (e.trans (dueN_neg hneg)) (by decide) (Same.refl _) hd hp⟩,
          fun h0 j hj H' s' => wish_keep (Z2.ma 0 (by decide)) fun p d hd hp => ⟨_, rfl, er 0 _ H' p d _ (e.trans (dueN_low h0 hj)) (by decide) s' hd hp⟩⟩
      refine ⟨_, rfl, rfl, _, rfl, ite2 (fun cw2 => ?_) (fun cw2 => ?_)⟩
      · have ew : way = 2 := V.int.inj (of_decide_eq_true cw2)
        have e : ex = dueN many ks := by rw [eex, if_pos (by omega)]
        refine ⟨_, rfl, _, rfl, many, a, ks, rfl, hS, fun h0 ok H' s' => okN _ _ (e.trans (dueN_ok h0 ok)) s', fun hneg d hd => ⟨wish_keep (Z2.ma 1 (by decide)) (fun p d hd hp => ⟨_, rfl, er 1 _ H p d _ (e.trans (dueN_neg hneg)) (by decide) (Same.refl _) hd hp⟩) d hd, Z2.st 1 (by decide)⟩,
          fun h0 j hj H' s' d hd => ⟨wish_keep (Z2.ma 0 (by decide)) (fun p d hd hp => ⟨_, rfl, er 0 _ H' p d _ (e.trans (dueN_low h0 hj)) (by decide) s' hd hp⟩) d hd, Z2.st 0 (by decide)⟩⟩
      have nw : ¬ (0 ≤ way ∧ way < 3) := fun z => by
        have a0 : way ≠ 0 := fun e => cw (decide_eq_true (congrArg V.int e))
        have a1 : way ≠ 1 := fun e => cw1 (decide_eq_true (congrArg V.int e))
        have a2 : way ≠ 2 := fun e => cw2 (decide_eq_true (congrArg V.int e))
        omega
      have e : ex = dueC x ks := by rw [eex, if_neg nw]
      have far : oneSign x = true → lowAt ks = none → False := fun h1 h2 => by
        rcases away with z | z | z
        · exact nw z
        · rw [h1] at z
          cases z
        · exact z h2
      refine ⟨_, rfl, rfl, _, rfl, ite2 (fun cw3 => ?_) (fun cw3 => ?_)⟩
      · refine ⟨_, rfl, _, rfl, "a   b", x, a, ks, rfl, hx, hS, fun ho => wish_keep (Z2.ma 2 (by decide)) fun p d hd hp => ⟨_, rfl, er 2 _ H p d _ (e.trans (dueC_chr ho)) (by decide) (Same.refl _) hd hp⟩,
          fun ho j hj H' s' => wish_keep (Z2.ma 0 (by decide)) fun p d hd hp => ⟨_, rfl, er 0 _ H' p d _ (e.trans (dueC_low ho hj)) (by decide) s' hd hp⟩, fun ho ok => far ho ok⟩
      · refine ⟨_, rfl, _, rfl, rfl, "", x, a, ks, rfl, hx, hS, fun ho => wish_keep (Z2.ma 2 (by decide)) fun p d hd hp => ⟨_, rfl, er 2 _ H p d _ (e.trans (dueC_chr ho)) (by decide) (Same.refl _) hd hp⟩,
          fun ho j hj H' s' => wish_keep (Z2.ma 0 (by decide)) fun p d hd hp => ⟨_, rfl, er 0 _ H' p d _ (e.trans (dueC_low ho hj)) (by decide) s' hd hp⟩, fun ho ok => far ho ok⟩
    · rcases h with ⟨e0, y5, rfl, s2⟩ | ⟨i, v, p, d, y5, e0, hi, rfl, at_, s2⟩
      · exact ⟨_, rfl, rfl, _, rfl, ite2 (fun _ => q0 e0 _ s2) (fun c => absurd (decide_eq_true rfl) c)⟩
      have hi5 : i < 5 := by omega
      have T := Z.ex i hi5
      refine ⟨_, rfl, rfl, _, rfl, ite2 (fun c => by cases of_decide_eq_true c) (fun _ => ?_)⟩
      refine ⟨_, rfl, p, d, c i, v, _, _, _, rfl, .own _, at_, T, Z.is i 1 hi5 (by decide), ?_⟩
      refine ⟨_, rfl, p, d, c i, v, _, _, _, rfl, .own _, at_, T, Z.is i 0 hi5 (by decide), Nat.le_of_lt (small1000 (show 2 ≤ 1000 by decide)), fun r hr0 => ?_⟩
      have npr := ne_of_none at_.1 hr0
      have ndr := ne_of_none at_.2 hr0
      have at3 := at_.same (same_new (o := .lst [.bl (decide (i = 1)), .bl (decide (i = 0))]) hr0)
      refine ⟨_, rfl, .inl ⟨rfl, _, SqL.of upd_same⟩, _, rfl, p, d, c i, v, _, _, _, rfl, .own _, at3, T, Z.is i 2 hi5 (by decide), r, _, _, rfl, rfl, upd_same, small1000 (show 2 ≤ 1000 by decide), ?_⟩
      obtain ⟨H4, eH4⟩ : ∃ H4, H4 = upd (upd H2 r (.lst [.bl (decide (i = 1)), .bl (decide (i = 0))])) r (.lst ([.bl (decide (i = 1)), .bl (decide (i = 0))] ++ [.bl (decide (i = 2))])) := ⟨_, rfl⟩
      have at4 : CaughtAt H4 p d (c i) v := by
        subst eH4
        exact ⟨by rw [upd_ne npr, upd_ne npr]; exact at_.1, by rw [upd_ne ndr, upd_ne ndr]; exact at_.2⟩
      have g4 : H4 r = some (.lst ((bsK i).map V.bl)) := by
        subst eH4
        exact upd_same
      have s4 : Same H2 H4 := fun b o e => by
        subst eH4
        rw [upd_ne (ne_of_none e hr0), upd_ne (ne_of_none e hr0)]
        exact e
      rw [← eH4]
      clear eH4
      refine ⟨_, rfl, Nat.le_of_lt (small1000 (show 2 ≤ 1000 by decide)), fun tp htp => ⟨p, d, c i, tp, v, [.ref (c 3), .ref (c 4)], [.ref (c 3), .ref (c 4)], false, rfl, upd_same, .cons (.own _) (.cons (.own _) .nil), at4.same (same_new htp), T, ?_, _, rfl, iteF ?_⟩⟩
      · have k3 := Z.is i 3 hi5 (by decide)
        have k4 := Z.is i 4 hi5 (by decide)
        rw [decide_eq_false (by omega)] at k3 k4
        show PySem.W.kitAny K (.ref (c i)) [.ref (c 3), .ref (c 4)] = some false
        unfold PySem.W.kitAny
        rw [k3]
        show PySem.W.kitAny K (.ref (c i)) [.ref (c 4)] = some false
        unfold PySem.W.kitAny
        rw [k4]
        rfl
      have at5 := at4.same (same_new (o := .tup [.ref (c 3), .ref (c 4)]) htp)
      have g5 := same_new (o := .tup [.ref (c 3), .ref (c 4)]) htp _ _ g4
      have s5 := (s2.trans s4).trans (same_new (o := .tup [.ref (c 3), .ref (c 4)]) htp)
      generalize (upd H4 tp (.tup [.ref (c 3), .ref (c 4)])) = H5 at at5 g5 s5 ⊢
      refine ⟨_, rfl, p, d, c i, v, _, _, _, rfl, .ty _, at5, T, Z.isV i hi5, _, rfl, iteF ?_⟩
      obtain ⟨j, j1, j2, j3⟩ := bsK_at hi
      refine ⟨_, rfl, .inl ⟨rfl, _, SqL.of g5⟩, r, bsK i, true, rfl, rfl, SqL.of g5, rfl, _, rfl, ite2 (fun _ => ?_) (fun c => ?_)⟩
      · refine ⟨Nat.le_of_lt (small1000 (show 3 ≤ 1000 by decide)), fun t ht => ?_⟩
        refine ⟨_, rfl, .inl ⟨rfl, _, SqL.of (same_new ht _ _ g5)⟩, r, _, .bl true, j, .bl true, rfl, rfl, SqL.of (same_new ht _ _ g5), rfl, rfl, j1, rfl, j2, ?_⟩
        refine ⟨t, _, (j : Int), .str (nmK i), rfl, rfl, SqL.of upd_same, at_of rfl j3, ?_⟩
        refine ⟨_, rfl, p, d, c i, v, rfl, at5.same (same_new ht), Z.xf i hi5, Z2.nv i hi5, Nat.le_of_lt (small1000 (show 2 ≤ 1000 by decide)), fun u hu => ?_⟩
        exact q1 i v e0 u _ ((s5.trans (same_new ht)).free hu) ((s5.trans (same_new ht)).trans (same_new hu)) upd_same
      · exact absurd (decide_eq_true (congrArg V.int (by rw [bsK_one hi]; rfl))) c
end
end Sq

set_option Elab.async false
set_option linter.all false
set_option maxRecDepth 100000
set_option maxHeartbeats 8000000
set_option exponentiation.threshold 2000
namespace Sq
open PySem PySem.Spec PyProof.Rows L2
def dN (many : Int) (ks : List Int) : PyData := if many < 0 then .list [.str "number", .int many] else match lowAt ks with
  | some j => .list [.str "list", .int (j : Int)]
  | none => .none
def dC (x : V) (dx : PyData) (ks : List Int) : PyData := if oneSign x = false then .list [.str "character", dx] else match lowAt ks with
  | some j => .list [.str "list", .int (j : Int)]
  | none => .none
def dW (ks : List Int) : PyData := match lowAt ks with
  | some j => .list [.str "list", .int (j : Int)]
  | none => .none
theorem dN_neg {many : Int} {ks : List Int} (h : many < 0) : dN many ks = .list [.str "number", .int many] := if_pos h
theorem dN_pos {many : Int} {ks : List Int} (h : ¬ many < 0) : dN many ks = dW ks := if_neg h
theorem dC_chr {x : V} {dx : PyData} {ks : List Int} (h : oneSign x = false) : dC x dx ks = .list [.str "character", dx] := if_pos h
theorem dC_one {x : V} {dx : PyData} {ks : List Int} (h : oneSign x = true) : dC x dx ks = dW ks := if_neg (by rw [h]; exact fun z => nomatch z)
theorem dW_none {ks : List Int} (h : lowAt ks = none) : dW ks = .none := by
  unfold dW
  rw [h]
theorem dW_some {ks : List Int} {j : Nat} (h : lowAt ks = some j) : dW ks = .list [.str "list", .int (j : Int)] := by
  unfold dW
  rw [h]
end Sq

set_option Elab.async false
set_option linter.all false
set_option maxRecDepth 100000
set_option maxHeartbeats 8000000
set_option exponentiation.threshold 2000
namespace Sq
open PySem PySem.Spec PyProof.Rows L2
theorem due_dN {K : PySem.W.Frag} {H : Hp} {many : Int} {ks : List Int} : match dueN many ks with
    | none => dN many ks = .none
    | some (i, v) => ∃ dv, dN many ks = .list [.str (nmK i), dv] ∧ Dp K H v dv := by
  by_cases h : many < 0
  · rw [dueN_neg h, dN_neg h]
    exact ⟨_, rfl, .int _⟩
  · rw [dN_pos h]
    cases e : lowAt ks with
    | none =>
      rw [dueN_ok (by omega) e, dW_none e]
    | some j =>
      rw [dueN_low (by omega) e, dW_some e]
      exact ⟨_, rfl, .int _⟩
theorem due_dC {K : PySem.W.Frag} {H : Hp} {x : V} {dx : PyData} {ks : List Int} (hx : Dp K H x dx) : match dueC x ks with
    | none => dC x dx ks = .none
    | some (i, v) => ∃ dv, dC x dx ks = .list [.str (nmK i), dv] ∧ Dp K H v dv := by
  cases h : oneSign x with
  | false =>
    rw [dueC_chr h, dC_chr h]
    exact ⟨_, rfl, hx⟩
  | true =>
    rw [dC_one h]
    cases e : lowAt ks with
    | none =>
      rw [dueC_ok h e, dW_none e]
    | some j =>
      rw [dueC_low h e, dW_some e]
      exact ⟨_, rfl, .int _⟩
def dsT (many : Int) (x : V) (dx : PyData) (ks : List Int) : List PyData := [dN many ks, dN many ks, dN many ks, dC x dx ks, dC x dx ks]
theorem due_all {K : PySem.W.Frag} {H : Hp} {many : Int} {x : V} {dx : PyData} {ks : List Int} {j : Nat} (hx : Dp K H x dx) (hj : j < 5) : ∃ d, (dsT many x dx ks)[j]? = some d ∧
    match (if 0 ≤ (0 + (j : Int)) ∧ (0 + (j : Int)) < 3 then dueN many ks else dueC x ks) with
    | none => d = .none
    | some (i, v) => ∃ dv, d = .list [.str (nmK i), dv] ∧ Dp K H v dv := by
  have : j = 0 ∨ j = 1 ∨ j = 2 ∨ j = 3 ∨ j = 4 := by omega
  rcases this with e | e | e | e | e <;> subst e
  · exact ⟨_, rfl, due_dN⟩
  · exact ⟨_, rfl, due_dN⟩
  · exact ⟨_, rfl, due_dN⟩
  · exact ⟨_, rfl, due_dC hx⟩
  · exact ⟨_, rfl, due_dC hx⟩
theorem gd_list : Gd 60 (.str "list") := ⟨rfl, rfl, by decide, by decide +kernel, by decide +kernel⟩
theorem gd_number : Gd 60 (.str "number") := ⟨rfl, rfl, by decide, by decide +kernel, by decide +kernel⟩
theorem gd_character : Gd 60 (.str "character") := ⟨rfl, rfl, by decide, by decide +kernel, by decide +kernel⟩
theorem gd_non : Gd 60 .none := ⟨rfl, rfl, by decide, by decide +kernel, by decide +kernel⟩
theorem gdW {ks : List Int} (h : ks.length ≤ 20) : Gd 200 (dW ks) ∧ (dW ks).depth ≤ 1 := by
  cases e : lowAt ks with
  | none =>
    rw [dW_none e]
    exact ⟨gd_non.le (by decide), Nat.zero_le _⟩
  | some j =>
    rw [dW_some e]
    have := (lowAt_some e).1
    exact ⟨(GdA.cons gd_list (Nat.zero_le _) (GdA.cons (gd_int (i := (j : Int)) (by omega)) (Nat.zero_le _) GdA.nil)).list.le (by decide), Nat.le_refl _⟩
theorem gdN {many : Int} {ks : List Int} (h : ks.length ≤ 20) (hm : many.natAbs < 10 ^ 31) : Gd 200 (dN many ks) ∧ (dN many ks).depth ≤ 3 := by
  by_cases c : many < 0
  · rw [dN_neg c]
    exact ⟨(GdA.cons gd_number (Nat.zero_le _) (GdA.cons (gd_int hm) (Nat.zero_le _) GdA.nil)).list.le (by decide), (by decide : 1 ≤ 3)⟩
  · rw [dN_pos c]
    exact ⟨(gdW h).1, Nat.le_trans (gdW h).2 (by decide)⟩
theorem gdC {x : V} {dx : PyData} {ks : List Int} (h : ks.length ≤ 20) (g : Gd 60 dx) (d : dx.depth ≤ 1) : Gd 200 (dC x dx ks) ∧ (dC x dx ks).depth ≤ 3 := by
  cases c : oneSign x with
  | false =>
    rw [dC_chr c]
    refine ⟨(GdA.cons gd_character (Nat.zero_le _) (GdA.cons g (Nat.le_trans d (by decide)) GdA.nil)).list.le (by decide), ?_⟩
    exact Nat.succ_le_succ (Nat.max_le.mpr ⟨Nat.zero_le _, Nat.max_le.mpr ⟨Nat.le_trans d (by decide), Nat.zero_le _⟩⟩)
  | true =>
    rw [dC_one c]
    exact ⟨(gdW h).1, Nat.le_trans (gdW h).2 (by decide)⟩
theorem gdT {many : Int} {x : V} {dx : PyData} {ks : List Int} (h : ks.length ≤ 20) (hm : many.natAbs < 10 ^ 31) (g : Gd 60 dx) (d : dx.depth ≤ 1) : Gd 100000 (.list (dsT many x dx ks)) := by
  have n := gdN (many := many) h hm
  have c := gdC (x := x) h g d
  exact (GdA.cons n.1 n.2 (GdA.cons n.1 n.2 (GdA.cons n.1 n.2 (GdA.cons c.1 c.2 (GdA.cons c.1 c.2 GdA.nil))))).list.le (by decide)
end Sq

set_option Elab.async false
set_option linter.all false
set_option maxRecDepth 100000
set_option maxHeartbeats 8000000
set_option exponentiation.threshold 2000
namespace Sq
open PySem PySem.Spec PyProof.Rows L2
section
variable {P : Program} {w : World} {K : PySem.W.Frag} {mg : Str → Option Value} {base : Heap}
/-- two numbers are compared -/
def rEqI : R2 := fun x y H Q => ∃ i j : Int, x = .int i ∧ y = .int j ∧ Q (.bl (i == j)) H
theorem ow_eqI {X : Cx} {Θ : Shared → Prop} : OpW X Θ (compareOp .Eq) rEqI := by
  intro pins s σ H x y v u Q I θ rx ry h
  obtain ⟨i, j, rfl, rfl, q⟩ := h
  obtain ⟨t1, rfl⟩ := rx
  obtain ⟨t2, rfl⟩ := ry
  exact eq_int ⟨θ, .bl _, H, I, rfl, q⟩
theorem perm_tkn : ∀ (ws : List Value) (m : Nat), ws.length = (["character", "replacements", "text"] : List Str).length → Tkn 0 ws m → Tkn 1 ((fun _ (ws : List Value) => match ws with | [x, y, z] => [z, x, y] | _ => []) ([] : List Value) ws) m := fun ws m hl h => by
  match ws, hl with
  | [a, b, c], _ => exact h
theorem ok_toldgood {f : Addr} {fd : FuncData} (F : Fun K "_law_told" "_law_told" s_lawtold f fd)
    (T_squeezetext : DfT P w K mg base 4 "squeeze_text" ["text", "character", "replacements"] 1 (spSqT K))
    (K_squeezetext : DkT P w K mg base 4 "squeeze_text" ["text", "character", "replacements"] ["character", "replacements", "text"] (fun _ zs => match zs with | [x, y, z] => [z, x, y] | _ => []) 0 1 (spSqT K)) :
    FnT P w K mg base 5 f fd ["way", "many", "some", "sign"] 3 (spToldG K Near) := by
  refine fnt_ofL F sc_lawtold (fun vs H Q E h => ?_) (y := "sign") rfl rfl (fun cdv A outer s H us vs Q u0 hr h rv tkn hu => ?_)
  · obtain ⟨way, many, a, ks, x, rfl, _⟩ := h
    rfl
  · obtain ⟨way, many, a, ks, x, rfl, hS, sm, hx, near, q0, q1⟩ := h
    have good : Tkn 0 [u0] s.toks := fun b t e one => tkn b t (hu.trans e) one
    have cl : ∀ pn, Clo ((cxOf CX0 P w K mg base ["way", "many", "some", "sign", "caught", "one", "e", "flags"] "_law_told" (defScope s_lawtold) f cdv A outer s H E0).nox.tr pn fun _ _ => False) ["sign"] (fun s' => Raw (cxOf CX0 P w K mg base ["way", "many", "some", "sign", "caught", "one", "e", "flags"] "_law_told" (defScope s_lawtold) f cdv A outer s H E0).nox "sign" u0 s' ∧ s.toks ≤ s'.toks) := fun pn => (clo_raw (X := (cxOf CX0 P w K mg base ["way", "many", "some", "sign", "caught", "one", "e", "flags"] "_law_told" (defScope s_lawtold) f cdv A outer s H E0).nox.tr pn fun _ _ => False) rfl).and clo_n
    have cl0 : Clo (cxOf CX0 P w K mg base ["way", "many", "some", "sign", "caught", "one", "e", "flags"] "_law_told" (defScope s_lawtold) f cdv A outer s H E0).nox ["sign"] (fun s' => Raw (cxOf CX0 P w K mg base ["way", "many", "some", "sign", "caught", "one", "e", "flags"] "_law_told" (defScope s_lawtold) f cdv A outer s H E0).nox "sign" u0 s' ∧ s.toks ≤ s'.toks) := (clo_raw rfl).and clo_n
    have kn : ∀ pn, Known ((cxOf CX0 P w K mg base ["way", "many", "some", "sign", "caught", "one", "e", "flags"] "_law_told" (defScope s_lawtold) f cdv A outer s H E0).nox.tr pn fun _ _ => False) (fun s' => Raw (cxOf CX0 P w K mg base ["way", "many", "some", "sign", "caught", "one", "e", "flags"] "_law_told" (defScope s_lawtold) f cdv A outer s H E0).nox "sign" u0 s' ∧ s.toks ≤ s'.toks) "sign" := fun pn => known_local (X := (cxOf CX0 P w K mg base ["way", "many", "some", "sign", "caught", "one", "e", "flags"] "_law_told" (defScope s_lawtold) f cdv A outer s H E0).nox.tr pn fun _ _ => False) rfl good
    refine ⟨_, (wu_cons (ws_set (i := 4) cl0 (by decide) sc_lawtold.nd rfl (Or.inl rfl) we_non) (wu_cons (ws_tryc (fun pn => (wss_one (ws_if (wt_cmp ow_eqI (wv 0) (we_int (cl pn)) (by rfl)) wss_no (wss_one (ws_if (wt_cmp ow_eqI (wv 0) (we_int (cl pn)) (by rfl)) wss_no (wss_one (ws_if (wt_cmp ow_eqI (wv 0) (we_int (cl pn)) (by rfl)) wss_no (wss_one (ws_if (wt_cmp ow_eqI (wv 0) (we_int (cl pn)) (by rfl)) (wss_one (ws_expr (we_callT (cl pn) T_squeezetext (hr.mono (by omega)) (by rfl) (wx_skip (we_str (cl pn)) (wx_name (i := 3) (kn pn) rfl (Or.inl rfl) (wa_cons (wv 2) wa_nil)))))) (wss_one (ws_expr (we_callTK (cl pn) K_squeezetext (hr.mono (by omega)) (by rfl) (wy_name (i := 3) (kn pn) rfl (Or.inl rfl) (wk_cons (wv 2) (wk_cons (we_str (cl pn)) wk_nil)))))))))))))))) (wu_ps (pss_cons (ps_if (pt_cmpR op_isN (pv 4) pe_non (nomark _)) (pss_one (ps_ret pe_non)) pss_nil) pss_no)))), ?_⟩
    obtain ⟨z, rfl, hz⟩ : ∃ z : Str, x = .str z ∧ z.length = 1 := by
      cases x with
      | str z => exact ⟨z, rfl, of_decide_eq_true near.2.1⟩
      | _ => cases near.2.1
    obtain ⟨b, rfl⟩ : ∃ b, z = ⟨#[b]⟩ := by
      obtain ⟨⟨l⟩⟩ := z
      match l, hz with
      | [b], _ => exact ⟨b, rfl⟩
    have rk : Rpl ks := fun k hk => ⟨lowAt_none near.2.2 k hk, sm k hk⟩
    have e0 : (if 0 ≤ way ∧ way < 3 then dueN many ks else dueC (.str ⟨#[b]⟩) ks) = none := by
      rw [if_neg near.1]
      exact dueC_ok near.2.1 near.2.2
    have n0 : way ≠ 0 := fun e => near.1 (by omega)
    have n1 : way ≠ 1 := fun e => near.1 (by omega)
    have n2 : way ≠ 2 := fun e => near.1 (by omega)
    have no : ∀ {k : Int}, way ≠ k → (way == k) = false := fun {k} h => by
      rw [beq_eq_false_iff_ne]
      exact h
    refine ⟨_, rfl, _, _, rfl, rfl, _, rfl, ?_⟩
    rw [no n0]
    refine iteF ⟨_, rfl, _, _, rfl, rfl, _, rfl, ?_⟩
    rw [no n1]
    refine iteF ⟨_, rfl, _, _, rfl, rfl, _, rfl, ?_⟩
    rw [no n2]
    refine iteF ⟨_, rfl, _, _, rfl, rfl, _, rfl, ite2 (fun _ => ?_) (fun _ => ?_)⟩
    · refine ⟨_, rfl, _, rfl, "a   b", b, a, ks, rfl, hS, rk, by decide +kernel, fun H' s' => ?_⟩
      exact ⟨_, rfl, rfl, _, rfl, iteT (q0 e0 _ s')⟩
    · refine ⟨_, rfl, _, rfl, rfl, "", b, a, ks, rfl, hS, rk, by decide +kernel, fun H' s' => ?_⟩
      exact ⟨_, rfl, rfl, _, rfl, iteT (q0 e0 _ s')⟩
end
end Sq

set_option Elab.async false
set_option linter.all false
set_option maxRecDepth 100000
set_option maxHeartbeats 8000000
set_option exponentiation.threshold 2000
namespace Sq
open PySem PySem.Spec PyProof.Rows L2
/-- what a drawn sign is -/
structure Sg (K : PySem.W.Frag) (H : Hp) (x : V) (dx : PyData) : Prop where
  v : SignV H x
  dp : Dp K H x dx
  gd : Gd 60 dx
  dep : dx.depth ≤ 1
  shp : SeqAt.shaped dx = true
  one : (([PyData.str " ", PyData.str "a"]).any fun z => PyData.eqv z dx) = oneSign x
theorem SignV.same {H H' : Hp} {x : V} (s : Same H H') (h : SignV H x) : SignV H' x := by
  cases h with
  | str z hz => exact .str z hz
  | non => exact .non
  | int i => exact .int i
  | bl b => exact .bl b
  | lst a xs ha => exact .lst a xs (s _ _ ha)
  | tup a xs ha => exact .tup a xs (s _ _ ha)
theorem Sg.same {K : PySem.W.Frag} {H H' : Hp} {x : V} {dx : PyData} (s : Same H H') (h : Sg K H x dx) : Sg K H' x dx := ⟨h.v.same s, Dp.same s h.dp, h.gd, h.dep, h.shp, h.one⟩
theorem sign_at {K : PySem.W.Frag} {H : Hp} {tl tt : Addr} {z : Nat} (hl : H tl = some (.lst [.str "a"])) (ht : H tt = some (.tup [.str "a"])) (h1 : z < 10) :
    ∃ x dx, (([.str " ", .str "a", .str "", .str "ab", .str "  ", .non, .int 3, .ref tl, .ref tt, .bl true] : List V))[z]? = some x ∧ Sg K H x dx ∧ (2 ≤ z → ∀ y : Str, x = .str y → y.length ≠ 1) := by
  have : z = 0 ∨ z = 1 ∨ z = 2 ∨ z = 3 ∨ z = 4 ∨ z = 5 ∨ z = 6 ∨ z = 7 ∨ z = 8 ∨ z = 9 := by omega
  rcases this with e | e | e | e | e | e | e | e | e | e <;> subst e
  · exact ⟨_, .str " ", rfl, ⟨.str _ (by decide), .str _, ⟨rfl, rfl, by decide, by decide +kernel, by decide +kernel⟩, by decide, by decide +kernel, by decide +kernel⟩, fun z => absurd z (by decide)⟩
  · exact ⟨_, .str "a", rfl, ⟨.str _ (by decide), .str _, ⟨rfl, rfl, by decide, by decide +kernel, by decide +kernel⟩, by decide, by decide +kernel, by decide +kernel⟩, fun z => absurd z (by decide)⟩
  · exact ⟨_, .str "", rfl, ⟨.str _ (by decide), .str _, ⟨rfl, rfl, by decide, by decide +kernel, by decide +kernel⟩, by decide, by decide +kernel, by decide +kernel⟩, fun _ y e => by injection e with e; rw [← e]; decide +kernel⟩
  · exact ⟨_, .str "ab", rfl, ⟨.str _ (by decide), .str _, ⟨rfl, rfl, by decide, by decide +kernel, by decide +kernel⟩, by decide, by decide +kernel, by decide +kernel⟩, fun _ y e => by injection e with e; rw [← e]; decide +kernel⟩
  · exact ⟨_, .str "  ", rfl, ⟨.str _ (by decide), .str _, ⟨rfl, rfl, by decide, by decide +kernel, by decide +kernel⟩, by decide, by decide +kernel, by decide +kernel⟩, fun _ y e => by injection e with e; rw [← e]; decide +kernel⟩
  · exact ⟨_, .none, rfl, ⟨.non, .non, ⟨rfl, rfl, by decide, by decide +kernel, by decide +kernel⟩, by decide, by decide +kernel, by decide +kernel⟩, fun _ y e => nomatch e⟩
  · exact ⟨_, .int 3, rfl, ⟨.int _, .int _, ⟨by decide +kernel, rfl, by decide, by decide +kernel, by decide +kernel⟩, by decide, by decide +kernel, by decide +kernel⟩, fun _ y e => nomatch e⟩
  · exact ⟨_, .list [.str "a"], rfl, ⟨.lst _ _ hl, .lst (SqL.of hl) (.cons (.str _) .nil), ⟨by decide +kernel, rfl, by decide, by decide +kernel, by decide +kernel⟩, by decide, by decide +kernel, by show _ = false; decide +kernel⟩, fun _ y e => nomatch e⟩
  · exact ⟨_, .tuple [.str "a"], rfl, ⟨.tup _ _ ht, .tup (.inl (.inl ht)) (.cons (.str _) .nil), ⟨by decide +kernel, rfl, by decide, by decide +kernel, by decide +kernel⟩, by decide, by decide +kernel, by show _ = false; decide +kernel⟩, fun _ y e => nomatch e⟩
  · exact ⟨_, .bool true, rfl, ⟨.bl _, .bl _, ⟨by decide +kernel, rfl, by decide, by decide +kernel, by decide +kernel⟩, by decide, by decide +kernel, by decide +kernel⟩, fun _ y e => nomatch e⟩
section
variable {P : Program} {w : World} {K : PySem.W.Frag} {mg : Str → Option Value} {base : Heap} {c fI : Nat → Addr} {qn : Nat → Str} {cB : Addr}
abbrev lawN : List Str := ["script", "rng", "lap", "some", "turn", "many", "sign", "kept", "low", "wrong", "first", "late", "spot", "one", "way"]
def spLaw (K : PySem.W.Frag) : Sp := fun vs H Q _ => ∃ (a : Addr) (ns : List Int), vs = [.ref a] ∧ SqL K H a (ns.map V.int) ∧ ns.length ≤ 63 ∧ ∀ H', Q (.bl true) H'
theorem ok_law {f : Addr} {fd : FuncData} (F : Fun K "law" "law" s_law f fd) (B : Bi mg) (D_lawrng : Df P w K mg base 1 "_law_rng" ["script"] (spRng K)) (D_lawdraw : Df P w K mg base 1 "_law_draw" ["rng", "limit"] spDraw)
    (D_lawlist : Df P w K mg base 2 "_law_list" ["rng", "most", "greatest"] spList) (D_lawtold : Df P w K mg base 5 "_law_told" ["way", "many", "some", "sign"] (spToldG K Away)) (T_lawtold : DfT P w K mg base 5 "_law_told" ["way", "many", "some", "sign"] 3 (spTold K)) : Top P w K mg base 8 f fd "script" (spLaw K) := by
  refine atTop F sc_law ⟨rfl, by decide, by decide⟩ (fun vs H Q E h => ?_) (fun cdv outer s0_ H vs Q E hr h => ?_)
  · obtain ⟨a, ns, rfl, _⟩ := h
    rfl
  · obtain ⟨a, ns, rfl, hS, hn, q⟩ := h
    obtain ⟨c, hc⟩ := cell_has (n := s0_.heap.objs.size + 1) (x := "sign") (show (defScope s_law).names.lookup ("sign" : Str) = some NameKind.cell from rfl)
    have Ce : Cel (cxOf CX0 P w K mg base lawN "law" (defScope s_law) f cdv callerA outer s0_ H E).nox "sign" c := ⟨hc, rfl⟩
    have quiet : (cxOf CX0 P w K mg base lawN "law" (defScope s_law) f cdv callerA outer s0_ H E).nox.A.guards = some [] := rfl
    refine ⟨_, (pss_cons (ps_set (i := 1) sc_law.nd rfl (Or.inl rfl) (pe_callD D_lawrng (hr.mono (by omega)) (by rfl) (pa_cons (pv 0) pa_nil)))
 (pss_cons (ps_for PassesOwn.never rfl (pi_range1 (by rfl) B.n_range (pa_cons (pe_op op_add pe_int (pe_callB (id := "min") (call_min2 rfl) (by rfl) B.n_min (by decide +kernel) (pa_cons pe_int (pa_cons (pe_callB (id := "len") (r := rLenK K) call_lenK (by rfl) B.n_len (by decide +kernel) (pa_cons (pv 0) pa_nil)) pa_nil)))) pa_nil)) (pg_name (i := 2) sc_law.nd rfl (Or.inl rfl))
 (pss_cons (ps_set (i := 3) sc_law.nd rfl (Or.inr rfl) (pe_callD D_lawlist (hr.mono (by omega)) (by rfl) (pa_cons (pv 1) (pa_cons pe_int (pa_cons pe_int pa_nil)))))
 (pss_cons (ps_for PassesOwn.never rfl (pi_range1 (by rfl) B.n_range (pa_cons (pe_ix (r := rIxL K) ix_list (pe_lst (pa_cons pe_int (pa_cons pe_int (pa_cons pe_int (pa_cons pe_int pa_nil))))) (pe_callD D_lawdraw (hr.mono (by omega)) (by rfl) (pa_cons (pv 1) (pa_cons pe_int pa_nil))) (fun _ _ => rfl)) pa_nil)) (pg_name (i := 4) sc_law.nd rfl (Or.inl rfl))
 (pss_one (ps_expr (pe_bm PySem.F.plainAttrs_list PySem.F.slot_list_insert PySem.F.type_list_insert mt_insert (pv 3) (pa_cons (pe_callD D_lawdraw (hr.mono (by omega)) (by rfl) (pa_cons (pv 1) (pa_cons (pe_op op_add (pe_callB (id := "len") (r := rLenK K) call_lenK (by rfl) B.n_len (by decide +kernel) (pa_cons (pv 3) pa_nil)) pe_int) pa_nil))) (pa_cons (pe_ix (r := rIxL K) ix_list (pe_lst (pa_cons pe_int (pa_cons pe_int (pa_cons (pe_un un_neg pe_int) (pa_cons (pe_op op_sub pe_int (pe_callD D_lawdraw (hr.mono (by omega)) (by rfl) (pa_cons (pv 1) (pa_cons (pe_op op_pow pe_int pe_int) pa_nil)))) pa_nil))))) (pe_callD D_lawdraw (hr.mono (by omega)) (by rfl) (pa_cons (pv 1) (pa_cons pe_int pa_nil))) (fun _ _ => rfl)) pa_nil))))))
 (pss_gives (i := 5) sc_law.nd rfl (Or.inr rfl) (peg_ix (r := rIxL K) ix_list (pe_lst (pa_cons (pe_callD D_lawdraw (hr.mono (by omega)) (by rfl) (pa_cons (pv 1) (pa_cons pe_int pa_nil))) (pa_cons (pe_un un_neg pe_int) (pa_cons (pe_op op_sub pe_int (pe_callD D_lawdraw (hr.mono (by omega)) (by rfl) (pa_cons (pv 1) (pa_cons (pe_op op_pow pe_int pe_int) pa_nil)))) (pa_cons pe_int pa_nil))))) (peg_call D_lawdraw (hr.mono (by omega)) (by rfl) (pv 1)) (fun _ _ => rfl))
 (pn_signL (i := 6) sc_law.nd rfl rfl Ce (pa_cons pe_str (pa_cons pe_str (pa_cons pe_str (pa_cons pe_non (pa_cons pe_int (pa_cons (pe_lst (pa_cons pe_str pa_nil)) (pa_cons (pe_tup (pa_cons pe_str pa_nil)) (pa_cons pe_bl pa_nil)))))))) (pe_callD D_lawdraw (hr.mono (by omega)) (by rfl) (pa_cons (pv 1) (pa_cons pe_int pa_nil))) (fun _ _ => rfl) (fun u0 n good n1 =>
 (jrs_consK (jks_of (jst_par (i := 7) (j := 8) Ce (by decide) (by decide) rfl sc_law.nd rfl rfl (by decide) rfl rfl (ja_cons (je_callB (id := "repr") (cj_reprV quiet hr.units) (by rfl) B.n_repr (by decide +kernel) (ja_cons (je_lst (ja_cons (jv 3) (ja_cons (jv 6) ja_nil))) ja_nil)) (ja_cons (je_lc Ce (own := [("spot", 12), ("one", 13)]) (g := gTup K 2 (gCons (gName 12) (gCons (gName 13) gNil))) rfl sc_law.nd (ji_enum (by rfl) B.n_enumerate (ja_cons (jv 3) ja_nil)) (blkOk_by (own := [("spot", 12), ("one", 13)]) (N := lawN) (sc := defScope s_law) (by decide +kernel)) (fun _ _ _ _ _ => (pg_tup rfl (pgs_cons (pg_name (i := 12) sc_law.nd rfl (Or.inl rfl)) (pgs_cons (pg_name (i := 13) sc_law.nd rfl (Or.inl rfl)) pgs_nil)))) (fun _ _ _ _ _ => pts_one (pt_cmpR op_lt (pv 13) pe_int (nomark _))) (fun _ _ _ _ _ => (pv 12))) ja_nil)) (by rfl)))
 (jrs_consK (jks_set (i := 9) Ce (by decide) sc_law.nd rfl (Or.inl rfl) (jk_ifx (jkt_cmp (oj_neD hr.units) (jk_of (jv 8)) (jk_lst jka_nil) (by rfl)) (jk_lst (jka_cons (jk_of je_str) (jka_cons (jk_ixP (jk_of (jv 8)) (jk_of je_int) (fun _ _ => rfl)) jka_nil))) (jk_of je_non)))
 (jrs_consK (jks_set (i := 10) Ce (by decide) sc_law.nd rfl (Or.inl rfl) (jk_ifx (jkt_cmp oj_lt (jk_of (jv 5)) (jk_of je_int) (by rfl)) (jk_lst (jka_cons (jk_of je_str) (jka_cons (jk_of (jv 5)) jka_nil))) (jk_of (jv 9))))
 (jrs_consK (jks_set (i := 11) Ce (by decide) sc_law.nd rfl (Or.inl rfl) (jk_ifx (jkt_cmp (r := rInD K) (oj_inD (room65 hr)) (jk_of (jv 6)) (jk_lst (jka_cons (jk_of je_str) (jka_cons (jk_of je_str) jka_nil))) (by rfl)) (jk_of (jv 9)) (jk_lst (jka_cons (jk_of je_str) (jka_cons (jk_of (jv 6)) jka_nil)))))
 (jrs_ifcmp op_ne (jr_callB (id := "repr") (call_reprV rfl hr.units) (by rfl) B.n_repr (by decide +kernel) (jr_lcK Ce (own := [("way", 14)]) (g := gName 14) rfl sc_law.nd (ji_range1 (by rfl) B.n_range (ja_cons je_int ja_nil)) (blkOk_by (own := [("way", 14)]) (N := lawN) (sc := defScope s_law) (by decide +kernel)) (fun _ _ _ _ _ => (pg_name (i := 14) sc_law.nd rfl (Or.inl rfl))) (fun _ _ _ _ _ => pts_nil) (fun s H C k fp =>
   we_callT ((clo_cell (y := "sign") (by show some ((List.lookup ("sign" : Str) (cellsFrom (s0_.heap.objs.size + 1) (defScope s_law).names [])).getD 0) = some c; rw [hc]; rfl)).and clo_n) T_lawtold (hr.mono (by omega)) (by rfl) (wx_skip (wv 14) (wx_skip (wv 5) (wx_skip (wv 3) (wx_name (i := 6) (known_cell (y := "sign") rfl (by show some ((List.lookup ("sign" : Str) (cellsFrom (s0_.heap.objs.size + 1) (defScope s_law).names [])).getD 0) = some c; rw [hc]; rfl) good) rfl (by first | exact Or.inl rfl | exact Or.inr (Or.inl rfl) | exact Or.inr (Or.inr rfl)) wa_nil)))))))
   (pe_callB (id := "repr") (call_reprV rfl hr.units) (by rfl) B.n_repr (by decide +kernel) (pa_cons (pe_op op_cat (pe_op op_rep (pe_lst (pa_cons (pv 10) pa_nil)) pe_int) (pe_op op_rep (pe_lst (pa_cons (pv 11) pa_nil)) pe_int)) pa_nil)) (nomark _)
   (pss_one (ps_ret pe_bl))
   (pss_one (ps_if (pt_cmpR op_ne (pe_callB (id := "repr") (call_reprV rfl hr.units) (by rfl) B.n_repr (by decide +kernel) (pa_cons (pe_lst (pa_cons (pv 3) (pa_cons (pv 6) pa_nil))) pa_nil)) (pv 7) (nomark _)) (pss_one (ps_ret pe_bl)) pss_nil))
   pss_nil)))))))))))
 (pss_one (ps_ret (pe_and (pe_cmpR (op_eqD hr.units) (pe_callD D_lawtold (hr.mono (by omega)) (by rfl) (pa_cons pe_int (pa_cons (pe_un un_neg pe_int) (pa_cons (pe_lst (pa_cons pe_int pa_nil)) (pa_cons pe_str pa_nil))))) (pe_lst (pa_cons pe_str (pa_cons (pe_un un_neg pe_int) pa_nil))) (nomark _)) (pe_one (pe_cmpR (op_eqD hr.units) (pe_callD D_lawtold (hr.mono (by omega)) (by rfl) (pa_cons pe_int (pa_cons pe_int (pa_cons (pe_lst (pa_cons pe_int pa_nil)) (pa_cons pe_str pa_nil))))) (pe_lst (pa_cons pe_str (pa_cons pe_str pa_nil))) (nomark _)))))))), ?_⟩
    refine ⟨_, rfl, a, ns, rfl, hS, hn, fun l seed H1 hl s1 S1 => ?_⟩
    refine ⟨_, rfl, a, _, rfl, .inl (s1.seq hS), 12, _, rfl, 6, _, rfl, rfl, ?_⟩
    rw [List.length_map]
    have hN : 6 + (if (ns.length : Int) < 12 then (ns.length : Int) else 12) ≤ 18 ∧ 0 ≤ 6 + (if (ns.length : Int) < 12 then (ns.length : Int) else 12) := by
      split <;> omega
    obtain ⟨N, eN⟩ : ∃ N, N = 6 + (if (ns.length : Int) < 12 then (ns.length : Int) else 12) := ⟨_, rfl⟩
    rw [← eN] at hN
    have z2 : 2 ≤ sizeLine := Nat.le_of_lt (small1000 (by decide))
    have z1 : 1 ≤ sizeLine := Nat.le_of_lt (small1000 (by decide))
    refine ⟨N, by subst eN; rfl, by omega, by omega, for_range (lo := 0) (n := N.toNat) (fun i σ H' => ∃ cnt y2 y3 y4 y5 y6 y7 y8 y9 y10 y11 y12 y13 y14, σ = [some (.ref a), some (.ref l), y2, y3, y4, y5, y6, y7, y8, y9, y10, y11, y12, y13, y14] ∧ Rng H' l seed cnt ∧ cnt ≤ 120 * i)
      ⟨0, none, none, none, none, none, none, none, none, none, none, none, none, none, rfl, S1, by omega⟩ ?_ ?_⟩
    · rintro i σ H2 hi ⟨cnt, y2, y3, y4, y5, y6, y7, y8, y9, y10, y11, y12, y13, y14, rfl, S2, hc2⟩
      -- some
      refine ⟨_, rfl, l, seed, cnt, 8, 60, rfl, by decide, by decide, by decide, by decide, S2, by omega, fun p ks cnt1 H3 hp S3 hc3 k3 gp lk hk => ?_⟩
      have npl : p ≠ l := S2.ne hp
      -- low ones put in
      refine ⟨Nat.le_of_lt (small1000 (show 4 ≤ 1000 by decide)), fun t ht => ?_⟩
      refine ⟨_, rfl, l, seed, cnt1, 4, rfl, S3.same (same_new ht), by omega, by decide, by decide, fun z cnt4 H4 z0 z1' S4 hc4 k4 => ?_⟩
      have gp4 := k4 _ _ (same_new ht _ _ gp) npl
      obtain ⟨m, mm, ma⟩ := nth_of (xs := [0, 0, 1, 2]) (z := z) z0 z1'
      have mb : 0 ≤ m ∧ m ≤ 2 := by
        simp at mm
        omega
      refine ⟨t, _, z, .int m, rfl, rfl, SqL.of (k4 _ _ upd_same (S3.ne ht)), ma, m, rfl, by omega, by omega, ?_⟩
      refine for_range (lo := 0) (n := m.toNat) (fun j σ H' => ∃ ks cnt' y4, σ = [some (.ref a), some (.ref l), some (.int (0 + (i : Int))), some (.ref p), y4, y5, y6, y7, y8, y9, y10, y11, y12, y13, y14] ∧ Rng H' l seed cnt' ∧ cnt' ≤ cnt + 81 + 4 * j ∧ H' p = some (.lst (List.map V.int ks)) ∧ ks.length ≤ 12 + j ∧ ∀ k ∈ ks, -1000000000000000000000000000000 < k ∧ k ≤ 1000000)
        ⟨ks, cnt4, y4, rfl, S4, by omega, gp4, by omega, fun k h => by have := hk k h; omega⟩ ?_ ?_
      · clear lk hk gp gp4 S4 hc4 k4 y4 ks
        rintro j σ H5 hj ⟨ks, cnt5, y4, rfl, S5, hc5, gp5, lk, hk⟩
        have j2 : j < 2 := by omega
        refine ⟨_, rfl, .inl ⟨rfl, _, SqL.of gp5⟩, _, rfl, _, rfl, p, _, rfl, .inl (SqL.of gp5), _, 1, rfl, rfl, l, seed, cnt5, _, rfl, S5, by omega, by rw [List.length_map]; omega, by rw [List.length_map]; omega, fun za cnt6 H6 za0 za1 S6 hc6 k6 => ?_⟩
        have gp6 := k6 _ _ gp5 npl
        refine ⟨1, rfl, _, rfl, 10, 29, rfl, rfl, ⟨by decide, by decide, by decide⟩, l, seed, cnt6, _, rfl, S6, by omega, by decide, by decide, fun zb cnt7 H7 zb0 zb1 S7 hc7 k7 => ⟨0, zb, rfl, rfl, Nat.le_of_lt (small1000 (show 4 ≤ 1000 by decide)), fun t8 ht8 => ?_⟩⟩
        refine ⟨_, rfl, l, seed, cnt7, 4, rfl, S7.same (same_new ht8), by omega, by decide, by decide, fun zc cnt8 H8 zc0 zc1 S8 hc8 k8 => ?_⟩
        have e29 : (10 : Int) ^ (29 : Int).toNat = 100000000000000000000000000000 := by decide
        obtain ⟨y, ym, ya⟩ := nth_of (xs := [1, 0, -1, 0 - zb]) (z := zc) zc0 zc1
        have yb : -1000000000000000000000000000000 < y ∧ y ≤ 1000000 := by
          rw [e29] at zb1
          simp at ym
          omega
        have gp8 := k8 _ _ (same_new ht8 _ _ (k7 _ _ gp6 npl)) npl
        refine ⟨t8, _, zc, .int y, rfl, rfl, SqL.of (k8 _ _ upd_same (S7.ne ht8)), ya, p, _, za, .int y, rfl, rfl, gp8, (by rw [List.length_map]; exact small1000 (by omega)), za0, (by rw [List.length_map] at za1; omega), ?_⟩
        refine ⟨ks.take za.toNat ++ [y] ++ ks.drop za.toNat, cnt8, _, rfl, S8.upd npl, by omega, ?_, ?_, fun k h => ?_⟩
        · rw [upd_same, List.map_append, List.map_append, List.map_take, List.map_drop]
          rfl
        · rw [List.length_append, List.length_append, List.length_take, List.length_drop]
          show min za.toNat ks.length + 1 + (ks.length - za.toNat) ≤ 12 + (j + 1)
          omega
        · rcases List.mem_append.mp h with h | h
          · rcases List.mem_append.mp h with h | h
            · exact hk k (List.mem_of_mem_take h)
            · rw [List.mem_singleton.mp h]
              exact yb
          · exact hk k (List.mem_of_mem_drop h)
      · clear lk hk gp gp4 S4 hc4 k4 y4 ks
        rintro σ H5 ⟨ks, cnt5, y4, rfl, S5, hc5, gp5, lk, hk⟩
        have hc5' : cnt5 ≤ cnt + 89 := by omega
        have lk' : ks.length ≤ 20 := by omega
        -- many
        refine ⟨_, rfl, l, seed, cnt5, 99, rfl, S5, by omega, by decide, by decide, fun za cnt6 H6 za0 za1 S6 hc6 k6 => ⟨1, rfl, _, rfl, 10, 30, rfl, rfl, ⟨by decide, by decide, by decide⟩, l, seed, cnt6, _, rfl, S6, by omega, by decide, by decide, fun zb cnt7 H7 zb0 zb1 S7 hc7 k7 => ⟨0, zb, rfl, rfl, Nat.le_of_lt (small1000 (show 4 ≤ 1000 by decide)), fun t8 ht8 => ?_⟩⟩⟩
        refine ⟨_, rfl, l, seed, cnt7, 4, rfl, S7.same (same_new ht8), by omega, by decide, by decide, fun zc cnt8 H8 zc0 zc1 S8 hc8 k8 => ?_⟩
        have e30 : (10 : Int) ^ (30 : Int).toNat = 1000000000000000000000000000000 := by decide
        obtain ⟨many, mm2, ma2⟩ := nth_of (xs := [za, -1, 0 - zb, 0]) (z := zc) zc0 zc1
        have mb2 : many.natAbs < 10 ^ 31 := by
          rw [e30] at zb1
          simp at mm2
          omega
        refine ⟨t8, _, zc, .int many, rfl, rfl, SqL.of (k8 _ _ upd_same (S7.ne ht8)), ma2, ?_⟩
        have gp8 := k8 _ _ (same_new ht8 _ _ (k7 _ _ (k6 _ _ gp5 npl) npl)) npl
        -- sign
        refine ⟨z1, fun tl htl => ⟨z1, fun tt htt => ⟨Nat.le_of_lt (small1000 (show 10 ≤ 1000 by decide)), ?_⟩⟩⟩
        have s89 := (same_new (o := .lst [.str "a"]) htl).trans (same_new (o := .tup [.str "a"]) htt)
        refine ⟨_, rfl, l, seed, cnt8, 10, rfl, S8.same s89, by omega, by decide, by decide, fun zd cnt9 H9 zd0 zd1 S9 hc9 k9 => ?_⟩
        obtain ⟨jd, rfl⟩ := Int.eq_ofNat_of_zero_le zd0
        have nl : tl ≠ l := S8.ne htl
        have ntt : tt ≠ l := (S8.same (same_new (o := .lst [.str "a"]) htl)).ne htt
        obtain ⟨x, dx, xa, sg, short⟩ := sign_at (K := K) (H := H9) (k9 _ _ (same_new htt _ _ upd_same) nl) (k9 _ _ upd_same ntt) (show jd < 10 by omega)
        refine ⟨jd, x, rfl, xa, short, ?_⟩
        have gp9 := k9 _ _ (s89 _ _ gp8) npl
        -- kept, low
        have hk31 : ∀ k ∈ ks, k.natAbs < 10 ^ 31 := fun k h => by
          have := hk k h
          omega
        obtain ⟨gi, di⟩ := gda_ints ks hk31
        have gKS : Gd (122 * ks.length) (.list (ks.map PyData.int)) := gi.list
        have dKS : (PyData.list (ks.map PyData.int)).depth ≤ 3 := Nat.le_trans (Nat.add_le_add_right di 1) (by decide)
        have gPair := (GdA.cons gKS dKS (GdA.cons sg.gd (Nat.le_trans sg.dep (by decide)) GdA.nil)).list
        have wPair : 122 * ks.length + 1 + (60 + 1 + 0) ≤ 100000 := by omega
        have shPair : ∀ H' t', Same H9 H' → H' t' = some (.lst [.ref p, x]) → Shown K H' (.ref t') (.list [.list (ks.map PyData.int), dx]) := fun H' t' s' e' => gPair.shown wPair (.lst (SqL.of e') (.cons (.lst (SqL.of (s' _ _ gp9)) (dp_ints ks)) (.cons (Dp.same s' sg.dp) .nil)))
        refine ⟨_, rfl, _, rfl, z2, fun t ht => ⟨.ref t, .list [.list (ks.map PyData.int), dx], rfl, shPair _ _ (same_new ht) upd_same, ?_⟩⟩
        have gpt := same_new (o := .lst [.ref p, x]) ht _ _ gp9
        have sgt := sg.same (same_new (o := .lst [.ref p, x]) ht)
        have St := S9.same (same_new (o := .lst [.ref p, x]) ht)
        have s9t := same_new (o := .lst [.ref p, x]) ht
        generalize upd H9 t (.lst [.ref p, x]) = Ht at gpt sgt St s9t ⊢
        refine ⟨_, rfl, p, _, rfl, SqL.of gpt, fun D hD => lc_it walk_enum (fun i H' => Same Ht H' ∧ H' D = some (.lst ((lowIx ks i).map V.int))) ⟨same_new hD, upd_same⟩ (fun i H' _ h => h.1.seq (SqL.of gpt)) ?_ ?_⟩
        · rintro m v H' H2 hm ⟨sm, hDD⟩ ⟨T, x1, x2, rfl, nT, rfl, e1, e2⟩
          obtain ⟨k, hk', rfl⟩ := map_at e2
          cases e1
          have nDT : D ≠ T := ne_of_none hDD nT
          refine ⟨T, _, rfl, .inl (.inl upd_same), rfl, _, _, rfl, _, _, rfl, rfl, rfl, ?_⟩
          have em : ks.getD m 2 = k := by rw [List.getD_eq_getElem?_getD, hk']; rfl
          refine ⟨_, rfl, _, _, rfl, rfl, _, rfl, ite2 (fun c => ?_) (fun c => ?_)⟩
          · have c' : k < 2 := of_decide_eq_true c
            refine ⟨_, rfl, _, same_new nT _ _ hDD, by rw [List.length_map]; exact small1000 (by have := lowIx_len ks m; rw [List.length_map] at hm; omega), fun b o z => ?_, ?_⟩
            · rw [upd_ne (ne_of_none z hD)]
              exact same_new nT _ _ (sm _ _ z)
            · rw [upd_same, lowIx_succ, if_pos (by rw [em]; exact c'), List.map_append]
              rfl
          · refine ⟨sm.trans (same_new nT), ?_⟩
            rw [lowIx_succ, if_neg (by rw [em]; exact fun z => c (decide_eq_true z))]
            exact same_new nT _ _ hDD
        · rintro Hc ⟨sc, hDD⟩
          rw [List.length_map] at hDD
          have gpc := sc _ _ gpt
          have sgc := sgt.same sc
          have Sc := St.same sc
          have s9c := s9t.trans sc
          clear gpt sgt St s9t sc
          -- wrong
          refine ⟨_, _, rfl, ?_⟩
          obtain ⟨KS, eKS⟩ : ∃ KS, KS = (PyData.list [.list (ks.map PyData.int), dx]).shown := ⟨_, rfl⟩
          rw [← eKS]
          refine tellNx (fun σ2 H2 => ∃ v, σ2 = [some (.ref a), some (.ref l), some (.int (0 + (i : Int))), some (.ref p), y4, some (.int many), some x, some (.str KS), some (.ref D), some v, y10, y11, y12, y13, y14] ∧ Same Hc H2 ∧ Dp K H2 v (dW ks)) (fun N hN => ?_) (fun σ2 H2 h => ?_)
          · refine ⟨_, rfl, Nat.zero_le _, fun t6 ht6 => ⟨.list ((lowIx ks ks.length).map PyData.int), .list [], .lst (SqL.of (same_new ht6 _ _ hDD)) (dp_ints _), .lst (SqL.of upd_same) .nil, shaped_ints _, rfl, _, rfl, ?_⟩⟩
            cases eL : lowAt ks with
            | none =>
              rw [low_none eL]
              exact iteF (hN _ _ ⟨.non, rfl, same_new ht6, by rw [dW_none eL]; exact .non⟩)
            | some j =>
              obtain ⟨r, er⟩ := low_some eL
              rw [er] at hDD ⊢
              refine iteT ⟨_, rfl, D, _, 0, .int (j : Int), rfl, rfl, SqL.of (same_new ht6 _ _ hDD), rfl, z2, fun u hu => hN _ _ ⟨.ref u, rfl, (same_new ht6).trans (same_new hu), by rw [dW_some eL]; exact .lst (SqL.of upd_same) (.cons (.str _) (.cons (.int _) .nil))⟩⟩
          · obtain ⟨w, rfl, s2, dw⟩ := h
            have gpc := s2 _ _ gpc
            have sgc := sgc.same s2
            have Sc := Sc.same s2
            have s9c := s9c.trans s2
            clear hDD s2
            -- first
            refine tellSeq (fun σ3 H3 => ∃ v, σ3 = [some (.ref a), some (.ref l), some (.int (0 + (i : Int))), some (.ref p), y4, some (.int many), some x, some (.str KS), some (.ref D), some w, some v, y11, y12, y13, y14] ∧ Same H2 H3 ∧ Dp K H3 v (dN many ks)) (fun N hN => ?_) (fun σ3 H3 h => ?_)
            · refine ⟨_, rfl, _, _, rfl, rfl, _, rfl, ite2 (fun c => ?_) (fun c => ?_)⟩
              · have c' : many < 0 := of_decide_eq_true c
                exact ⟨_, rfl, z2, fun u hu => hN _ _ ⟨.ref u, rfl, same_new hu, by rw [dN_neg c']; exact .lst (SqL.of upd_same) (.cons (.str _) (.cons (.int _) .nil))⟩⟩
              · have c' : ¬ many < 0 := fun z => c (decide_eq_true z)
                exact ⟨_, rfl, hN _ _ ⟨w, rfl, Same.refl _, by rw [dN_pos c']; exact dw⟩⟩
            obtain ⟨vf, rfl, s3, df⟩ := h
            have gpc := s3 _ _ gpc
            have sgc := sgc.same s3
            have Sc := Sc.same s3
            have s9c := s9c.trans s3
            have dw := Dp.same s3 dw
            clear s3
            -- late
            refine tellSeq (fun σ4 H4 => ∃ v, σ4 = [some (.ref a), some (.ref l), some (.int (0 + (i : Int))), some (.ref p), y4, some (.int many), some x, some (.str KS), some (.ref D), some w, some vf, some v, y12, y13, y14] ∧ Same H3 H4 ∧ Dp K H4 v (dC x dx ks)) (fun N hN => ?_) (fun σ4 H4 h => ?_)
            · refine ⟨_, rfl, z2, fun t8 ht8 => ⟨dx, [.str " ", .str "a"], Dp.same (same_new ht8) sgc.dp, .lst (SqL.of upd_same) (.cons (.str _) (.cons (.str _) .nil)), sgc.shp, by decide +kernel, _, rfl, ?_⟩⟩
              rw [sgc.one]
              cases eO : oneSign x with
              | true => exact iteT ⟨_, rfl, hN _ _ ⟨w, rfl, same_new ht8, by rw [dC_one eO]; exact Dp.same (same_new ht8) dw⟩⟩
              | false => exact iteF ⟨_, rfl, z2, fun u hu => hN _ _ ⟨.ref u, rfl, (same_new ht8).trans (same_new hu), by rw [dC_chr eO]; exact .lst (SqL.of upd_same) (.cons (.str _) (.cons (Dp.same ((same_new ht8).trans (same_new hu)) sgc.dp) .nil))⟩⟩
            obtain ⟨vl, rfl, s4, dl⟩ := h
            have gpc := s4 _ _ gpc
            have sgc := sgc.same s4
            have Sc := Sc.same s4
            have s9c := s9c.trans s4
            have df := Dp.same s4 df
            clear s4 dw
            have sm : FewK ks := fun k h => by
              have := (hk k h).2
              omega
            refine ⟨5, rfl, by decide, by decide, fun D2 hD2 => lc_range (lo := 0) (n := 5) (fun j H' => Same H4 (wo H' D2) ∧ ∃ vs, H' D2 = some (.lst vs) ∧ vs.length ≤ j ∧ DpAll K (wo H' D2) vs ((dsT many x dx ks).take j)) ⟨by rw [wo_upd]; exact same_wo (Same.refl _) hD2, [], upd_same, Nat.le_refl _, .nil⟩ ?_ ?_⟩
            · rintro j Hj hj ⟨sj, vs, hv, vl_, dv⟩
              have s4j := sj.trans wo_same
              obtain ⟨d, hd, hm⟩ := due_all (K := K) (many := many) (ks := ks) (Dp.same sj sgc.dp) hj
              have et : (dsT many x dx ks).take (j + 1) = (dsT many x dx ks).take j ++ [d] := by rw [List.take_add_one, hd]; rfl
              have fin : ∀ H2 y, Same Hj H2 → Dp K (wo H2 D2) y d → ∃ acc, H2 D2 = some (.lst acc) ∧ acc.length < sizeLine ∧ Same H4 (wo (upd H2 D2 (.lst (acc ++ [y]))) D2) ∧ ∃ vs, upd H2 D2 (.lst (acc ++ [y])) D2 = some (.lst vs) ∧ vs.length ≤ j + 1 ∧ DpAll K (wo (upd H2 D2 (.lst (acc ++ [y]))) D2) vs ((dsT many x dx ks).take (j + 1)) := fun H2 y s2 dy => by
                refine ⟨vs, s2 _ _ hv, small1000 (by omega), ?_, vs ++ [y], upd_same, by rw [List.length_append]; exact Nat.succ_le_succ vl_, ?_⟩
                · rw [wo_upd]
                  exact sj.trans (same_wo (wo_same.trans s2) wo_self)
                · rw [wo_upd, et]
                  exact dp_snoc dy (DpAll.same (same_wo (wo_same.trans s2) wo_self) dv)
              refine ⟨rfl, _, rfl, _, rfl, _, rfl, _, rfl, 0 + (j : Int), many, p, ks, x, rfl, SqL.of (s4j _ _ gpc), sm, SignV.same s4j sgc.v, trivial, fun e H2 s2 => ?_, fun ii v e p2 H2 hp2 s2 g2 => ?_⟩
              · rw [e] at hm
                exact fin H2 _ s2 (by rw [hm]; exact .non)
              · rw [e] at hm
                obtain ⟨dv, rfl, h2⟩ := hm
                have np : p2 ≠ D2 := fun z => by
                  subst z
                  rw [hv] at hp2
                  cases hp2
                exact fin H2 _ s2 (.lst (SqL.of (by rw [wo_ne np]; exact g2)) (.cons (.str _) (.cons (Dp.same (same_wo (wo_same.trans s2) wo_self) h2) .nil)))
            · rintro H5 ⟨s5, vs, hv, _, dv⟩
              have s45 := s5.trans wo_same
              have dvs := DpAll.same wo_same dv
              have gT := gdT (x := x) lk' mb2 sgc.gd sgc.dep
              refine ⟨.ref D2, .list (dsT many x dx ks), rfl, gT.shown (Nat.le_refl _) (.lst (SqL.of hv) dvs), ?_⟩
              refine ⟨_, rfl, z1, fun u hu => ⟨u, 3, _, rfl, rfl, upd_same, by decide, by decide, Nat.le_of_lt (small1000 (show 3 ≤ 1000 by decide)), fun u2 hu2 => ?_⟩⟩
              refine ⟨_, rfl, z1, fun u3 hu3 => ⟨u3, 2, _, rfl, rfl, upd_same, by decide, by decide, Nat.le_of_lt (small1000 (show 2 ≤ 1000 by decide)), fun u4 hu4 => ?_⟩⟩
              refine ⟨u2, u4, _, _, rfl, rfl, same_new hu4 _ _ (same_new hu3 _ _ upd_same), upd_same, Nat.le_of_lt (small1000 (show 5 ≤ 1000 by decide)), fun u5 hu5 => ?_⟩
              have s5u := (((((s45.trans (same_new hu)).trans (same_new hu2)).trans (same_new hu3)).trans (same_new hu4)).trans (same_new (o := .lst ((List.replicate (Int.toNat 3) [vf]).flatten ++ (List.replicate (Int.toNat 2) [vl]).flatten)) hu5))
              refine ⟨.ref u5, .list (dsT many x dx ks), rfl, gT.shown (Nat.le_refl _) (.lst (SqL.of upd_same) (.cons (Dp.same s5u df) (.cons (Dp.same s5u df) (.cons (Dp.same s5u df) (.cons (Dp.same s5u dl) (.cons (Dp.same s5u dl) .nil)))))), ?_⟩
              refine ⟨rfl, _, rfl, iteNS rfl ?_⟩
              have s9u := s9c.trans s5u
              have Su := Sc.same s5u
              refine ⟨_, rfl, _, rfl, z2, fun t7 ht7 => ⟨.ref t7, .list [.list (ks.map PyData.int), dx], rfl, shPair _ _ (s9u.trans (same_new ht7)) upd_same, _, rfl, ?_⟩⟩
              rw [← eKS]
              refine ⟨rfl, _, rfl, iteNS rfl ?_⟩
              exact ⟨cnt9, _, _, _, _, _, _, _, _, _, _, _, _, _, rfl, Su.same (same_new ht7), by omega⟩
    · rintro σ H2 ⟨cnt, y2, y3, y4, y5, y6, y7, y8, y9, y10, y11, y12, y13, y14, rfl, S2, hc2⟩
      have w1 : (if (0 : Int) ≤ 0 ∧ (0 : Int) < 3 then dueN (-1) [1] else dueC (.str "") [1]) = some (1, .int (-1)) := by
        rw [if_pos (by decide)]
        exact dueN_neg (by decide)
      have w2 : (if (0 : Int) ≤ 3 ∧ (3 : Int) < 3 then dueN 0 [1] else dueC (.str "xx") [1]) = some (2, .str "xx") := by
        rw [if_neg (by decide)]
        exact dueC_chr (by decide +kernel)
      have sm1 : FewK [1] := fun k h => by
        rw [List.mem_singleton.mp h]
        decide
      refine ⟨1, rfl, z1, fun u hu => ⟨0, -1, u, [1], .str "", rfl, SqL.of upd_same, sm1, .str _ (by decide), .inl ⟨by decide, by decide⟩, fun e => (by rw [w1] at e; cases e), fun i v e p H3 hp s3 g3 => ?_⟩⟩
      rw [w1] at e
      cases e
      refine ⟨1, rfl, z2, fun u2 hu2 => ⟨.list [.str "number", .int (-1)], .list [.str "number", .int (-1)], .lst (SqL.of (same_new hu2 _ _ g3)) (.cons (.str _) (.cons (.int _) .nil)), .lst (SqL.of upd_same) (.cons (.str _) (.cons (.int _) .nil)), by decide +kernel, by decide +kernel, _, rfl, ?_⟩⟩
      rw [show PyData.eqv (.list [.str "number", .int (-1)]) (.list [.str "number", .int (-1)]) = true by decide +kernel]
      refine iteT ⟨z1, fun u3 hu3 => ⟨3, 0, u3, [1], .str "xx", rfl, SqL.of upd_same, sm1, .str _ (by decide), .inr (.inl (by decide +kernel)), fun e => (by rw [w2] at e; cases e), fun i v e p4 H4 hp4 s4 g4 => ?_⟩⟩
      rw [w2] at e
      cases e
      refine ⟨z2, fun u5 hu5 => ⟨.list [.str "character", .str "xx"], .list [.str "character", .str "xx"], .lst (SqL.of (same_new hu5 _ _ g4)) (.cons (.str _) (.cons (.str _) .nil)), .lst (SqL.of upd_same) (.cons (.str _) (.cons (.str _) .nil)), by decide +kernel, by decide +kernel, ?_⟩⟩
      rw [show PyData.eqv (.list [.str "character", .str "xx"]) (.list [.str "character", .str "xx"]) = true by decide +kernel]
      exact q _
end
end Sq

set_option Elab.async false
set_option linter.all false
set_option maxRecDepth 100000
set_option maxHeartbeats 2000000
namespace Sq
open PySem PySem.Spec PyProof.Rows L2
theorem kb_squeezed {K : PySem.W.Frag} {f : Addr} {fd : FuncData} (F : Fun K "squeezed" "squeezed" s_squeezed f fd) : KBn K fd ["length", "replacements"] 0 ["replacements", "length"] (fun _ ws => ws.reverse) (fun _ zs => zs.reverse) :=
  kbn_mk F _ _ _ (fun _ h => vals_rev h) fun _ _ _ _ _ _ ws hl => match ws, hl with | [_, _], _ => rfl
theorem kb_squeezetext {K : PySem.W.Frag} {f : Addr} {fd : FuncData} (F : Fun K "squeeze_text" "squeeze_text" s_squeezetext f fd) : KBn K fd ["text", "character", "replacements"] 0 ["character", "replacements", "text"] (fun _ ws => match ws with | [x, y, z] => [z, x, y] | _ => []) (fun _ zs => match zs with | [x, y, z] => [z, x, y] | _ => []) :=
  kbn_mk F _ _ _ (fun _ h => by
    cases h with
    | nil => exact .nil
    | cons a h =>
      cases h with
      | nil => exact .nil
      | cons b h =>
        cases h with
        | nil => exact .nil
        | cons c h =>
          cases h with
          | nil => exact .cons c (.cons a (.cons b .nil))
          | cons d h => exact .nil) fun _ _ _ _ _ _ ws hl => match ws, hl with | [_, _, _], _ => rfl
end Sq

set_option Elab.async false
set_option linter.all false
set_option maxRecDepth 100000
set_option maxHeartbeats 4000000
namespace Sq
open PySem PySem.Spec PyProof.Rows L2
theorem all_mk {l : PySem.W.OpenLaw} {w : World} {K : PySem.W.Frag} {h : Heap} {mg : Str → Option Value} {fa : Addr} (X : K.In h) (G : h.Ns mainGlobals mg) (hfa : mg "law" = some (.ref fa))
    {f_checklist : Addr} {od_checklist an_checklist : Option Addr} {sl_checklist : Array (Option Value)} {oc_checklist kV_checklist dc_checklist pm_checklist cd_checklist ct_checklist : Value}
    (a_checklist : PySem.W.nsIn K mainGlobals "check_list" = some (some (.ref f_checklist)))
    (l_checklist : K.lookup f_checklist = some ⟨oc_checklist, od_checklist, .func (PySem.W.fnOf "check_list" "check_list" (defArgs s_checklist) (defBody s_checklist) (defScope s_checklist) .none kV_checklist dc_checklist pm_checklist an_checklist cd_checklist ct_checklist), sl_checklist⟩)
    (c_checklist : PySem.W.codeIn K cd_checklist "check_list" = true) (k_checklist : PySem.W.keepIn K (.ref f_checklist) = true)
    {f_checknumber : Addr} {od_checknumber an_checknumber : Option Addr} {sl_checknumber : Array (Option Value)} {oc_checknumber kV_checknumber dc_checknumber pm_checknumber cd_checknumber ct_checknumber : Value}
    (a_checknumber : PySem.W.nsIn K mainGlobals "check_number" = some (some (.ref f_checknumber)))
    (l_checknumber : K.lookup f_checknumber = some ⟨oc_checknumber, od_checknumber, .func (PySem.W.fnOf "check_number" "check_number" (defArgs s_checknumber) (defBody s_checknumber) (defScope s_checknumber) .none kV_checknumber dc_checknumber pm_checknumber an_checknumber cd_checknumber ct_checknumber), sl_checknumber⟩)
    (c_checknumber : PySem.W.codeIn K cd_checknumber "check_number" = true) (k_checknumber : PySem.W.keepIn K (.ref f_checknumber) = true)
    {f_checkcharacter : Addr} {od_checkcharacter an_checkcharacter : Option Addr} {sl_checkcharacter : Array (Option Value)} {oc_checkcharacter kV_checkcharacter dc_checkcharacter pm_checkcharacter cd_checkcharacter ct_checkcharacter : Value}
    (a_checkcharacter : PySem.W.nsIn K mainGlobals "check_character" = some (some (.ref f_checkcharacter)))
    (l_checkcharacter : K.lookup f_checkcharacter = some ⟨oc_checkcharacter, od_checkcharacter, .func (PySem.W.fnOf "check_character" "check_character" (defArgs s_checkcharacter) (defBody s_checkcharacter) (defScope s_checkcharacter) .none kV_checkcharacter dc_checkcharacter pm_checkcharacter an_checkcharacter cd_checkcharacter ct_checkcharacter), sl_checkcharacter⟩)
    (c_checkcharacter : PySem.W.codeIn K cd_checkcharacter "check_character" = true) (k_checkcharacter : PySem.W.keepIn K (.ref f_checkcharacter) = true)
    {f_squeezed : Addr} {od_squeezed an_squeezed : Option Addr} {sl_squeezed : Array (Option Value)} {oc_squeezed kV_squeezed dc_squeezed pm_squeezed cd_squeezed ct_squeezed : Value}
    (a_squeezed : PySem.W.nsIn K mainGlobals "squeezed" = some (some (.ref f_squeezed)))
    (l_squeezed : K.lookup f_squeezed = some ⟨oc_squeezed, od_squeezed, .func (PySem.W.fnOf "squeezed" "squeezed" (defArgs s_squeezed) (defBody s_squeezed) (defScope s_squeezed) .none kV_squeezed dc_squeezed pm_squeezed an_squeezed cd_squeezed ct_squeezed), sl_squeezed⟩)
    (c_squeezed : PySem.W.codeIn K cd_squeezed "squeezed" = true) (k_squeezed : PySem.W.keepIn K (.ref f_squeezed) = true)
    {f_squeezetext : Addr} {od_squeezetext an_squeezetext : Option Addr} {sl_squeezetext : Array (Option Value)} {oc_squeezetext kV_squeezetext dc_squeezetext pm_squeezetext cd_squeezetext ct_squeezetext : Value}
    (a_squeezetext : PySem.W.nsIn K mainGlobals "squeeze_text" = some (some (.ref f_squeezetext)))
    (l_squeezetext : K.lookup f_squeezetext = some ⟨oc_squeezetext, od_squeezetext, .func (PySem.W.fnOf "squeeze_text" "squeeze_text" (defArgs s_squeezetext) (defBody s_squeezetext) (defScope s_squeezetext) .none kV_squeezetext dc_squeezetext pm_squeezetext an_squeezetext cd_squeezetext ct_squeezetext), sl_squeezetext⟩)
    (c_squeezetext : PySem.W.codeIn K cd_squeezetext "squeeze_text" = true) (k_squeezetext : PySem.W.keepIn K (.ref f_squeezetext) = true)
    {f_stages : Addr} {od_stages an_stages : Option Addr} {sl_stages : Array (Option Value)} {oc_stages kV_stages dc_stages pm_stages cd_stages ct_stages : Value}
    (a_stages : PySem.W.nsIn K mainGlobals "stages" = some (some (.ref f_stages)))
    (l_stages : K.lookup f_stages = some ⟨oc_stages, od_stages, .func (PySem.W.fnOf "stages" "stages" (defArgs s_stages) (defBody s_stages) (defScope s_stages) .none kV_stages dc_stages pm_stages an_stages cd_stages ct_stages), sl_stages⟩)
    (c_stages : PySem.W.codeIn K cd_stages "stages" = true) (k_stages : PySem.W.keepIn K (.ref f_stages) = true)
    {f_lengthafter : Addr} {od_lengthafter an_lengthafter : Option Addr} {sl_lengthafter : Array (Option Value)} {oc_lengthafter kV_lengthafter dc_lengthafter pm_lengthafter cd_lengthafter ct_lengthafter : Value}
    (a_lengthafter : PySem.W.nsIn K mainGlobals "length_after" = some (some (.ref f_lengthafter)))
    (l_lengthafter : K.lookup f_lengthafter = some ⟨oc_lengthafter, od_lengthafter, .func (PySem.W.fnOf "length_after" "length_after" (defArgs s_lengthafter) (defBody s_lengthafter) (defScope s_lengthafter) .none kV_lengthafter dc_lengthafter pm_lengthafter an_lengthafter cd_lengthafter ct_lengthafter), sl_lengthafter⟩)
    (c_lengthafter : PySem.W.codeIn K cd_lengthafter "length_after" = true) (k_lengthafter : PySem.W.keepIn K (.ref f_lengthafter) = true)
    {f_lengthafterone : Addr} {od_lengthafterone an_lengthafterone : Option Addr} {sl_lengthafterone : Array (Option Value)} {oc_lengthafterone kV_lengthafterone dc_lengthafterone pm_lengthafterone cd_lengthafterone ct_lengthafterone : Value}
    (a_lengthafterone : PySem.W.nsIn K mainGlobals "length_after_one" = some (some (.ref f_lengthafterone)))
    (l_lengthafterone : K.lookup f_lengthafterone = some ⟨oc_lengthafterone, od_lengthafterone, .func (PySem.W.fnOf "length_after_one" "length_after_one" (defArgs s_lengthafterone) (defBody s_lengthafterone) (defScope s_lengthafterone) .none kV_lengthafterone dc_lengthafterone pm_lengthafterone an_lengthafterone cd_lengthafterone ct_lengthafterone), sl_lengthafterone⟩)
    (c_lengthafterone : PySem.W.codeIn K cd_lengthafterone "length_after_one" = true) (k_lengthafterone : PySem.W.keepIn K (.ref f_lengthafterone) = true)
    {f_lengthsbetween : Addr} {od_lengthsbetween an_lengthsbetween : Option Addr} {sl_lengthsbetween : Array (Option Value)} {oc_lengthsbetween kV_lengthsbetween dc_lengthsbetween pm_lengthsbetween cd_lengthsbetween ct_lengthsbetween : Value}
    (a_lengthsbetween : PySem.W.nsIn K mainGlobals "lengths_between" = some (some (.ref f_lengthsbetween)))
    (l_lengthsbetween : K.lookup f_lengthsbetween = some ⟨oc_lengthsbetween, od_lengthsbetween, .func (PySem.W.fnOf "lengths_between" "lengths_between" (defArgs s_lengthsbetween) (defBody s_lengthsbetween) (defScope s_lengthsbetween) .none kV_lengthsbetween dc_lengthsbetween pm_lengthsbetween an_lengthsbetween cd_lengthsbetween ct_lengthsbetween), sl_lengthsbetween⟩)
    (c_lengthsbetween : PySem.W.codeIn K cd_lengthsbetween "lengths_between" = true) (k_lengthsbetween : PySem.W.keepIn K (.ref f_lengthsbetween) = true)
    {f_lawrng : Addr} {od_lawrng an_lawrng : Option Addr} {sl_lawrng : Array (Option Value)} {oc_lawrng kV_lawrng dc_lawrng pm_lawrng cd_lawrng ct_lawrng : Value}
    (a_lawrng : PySem.W.nsIn K mainGlobals "_law_rng" = some (some (.ref f_lawrng)))
    (l_lawrng : K.lookup f_lawrng = some ⟨oc_lawrng, od_lawrng, .func (PySem.W.fnOf "_law_rng" "_law_rng" (defArgs s_lawrng) (defBody s_lawrng) (defScope s_lawrng) .none kV_lawrng dc_lawrng pm_lawrng an_lawrng cd_lawrng ct_lawrng), sl_lawrng⟩)
    (c_lawrng : PySem.W.codeIn K cd_lawrng "_law_rng" = true) (k_lawrng : PySem.W.keepIn K (.ref f_lawrng) = true)
    {f_lawdraw : Addr} {od_lawdraw an_lawdraw : Option Addr} {sl_lawdraw : Array (Option Value)} {oc_lawdraw kV_lawdraw dc_lawdraw pm_lawdraw cd_lawdraw ct_lawdraw : Value}
    (a_lawdraw : PySem.W.nsIn K mainGlobals "_law_draw" = some (some (.ref f_lawdraw)))
    (l_lawdraw : K.lookup f_lawdraw = some ⟨oc_lawdraw, od_lawdraw, .func (PySem.W.fnOf "_law_draw" "_law_draw" (defArgs s_lawdraw) (defBody s_lawdraw) (defScope s_lawdraw) .none kV_lawdraw dc_lawdraw pm_lawdraw an_lawdraw cd_lawdraw ct_lawdraw), sl_lawdraw⟩)
    (c_lawdraw : PySem.W.codeIn K cd_lawdraw "_law_draw" = true) (k_lawdraw : PySem.W.keepIn K (.ref f_lawdraw) = true)
    {f_lawlist : Addr} {od_lawlist an_lawlist : Option Addr} {sl_lawlist : Array (Option Value)} {oc_lawlist kV_lawlist dc_lawlist pm_lawlist cd_lawlist ct_lawlist : Value}
    (a_lawlist : PySem.W.nsIn K mainGlobals "_law_list" = some (some (.ref f_lawlist)))
    (l_lawlist : K.lookup f_lawlist = some ⟨oc_lawlist, od_lawlist, .func (PySem.W.fnOf "_law_list" "_law_list" (defArgs s_lawlist) (defBody s_lawlist) (defScope s_lawlist) .none kV_lawlist dc_lawlist pm_lawlist an_lawlist cd_lawlist ct_lawlist), sl_lawlist⟩)
    (c_lawlist : PySem.W.codeIn K cd_lawlist "_law_list" = true) (k_lawlist : PySem.W.keepIn K (.ref f_lawlist) = true)
    {f_lawtold : Addr} {od_lawtold an_lawtold : Option Addr} {sl_lawtold : Array (Option Value)} {oc_lawtold kV_lawtold dc_lawtold pm_lawtold cd_lawtold ct_lawtold : Value}
    (a_lawtold : PySem.W.nsIn K mainGlobals "_law_told" = some (some (.ref f_lawtold)))
    (l_lawtold : K.lookup f_lawtold = some ⟨oc_lawtold, od_lawtold, .func (PySem.W.fnOf "_law_told" "_law_told" (defArgs s_lawtold) (defBody s_lawtold) (defScope s_lawtold) .none kV_lawtold dc_lawtold pm_lawtold an_lawtold cd_lawtold ct_lawtold), sl_lawtold⟩)
    (c_lawtold : PySem.W.codeIn K cd_lawtold "_law_told" = true) (k_lawtold : PySem.W.keepIn K (.ref f_lawtold) = true)
    {f_law : Addr} {od_law an_law : Option Addr} {sl_law : Array (Option Value)} {oc_law kV_law dc_law pm_law cd_law ct_law : Value}
    (a_law : PySem.W.nsIn K mainGlobals "law" = some (some (.ref f_law)))
    (l_law : K.lookup f_law = some ⟨oc_law, od_law, .func (PySem.W.fnOf "law" "law" (defArgs s_law) (defBody s_law) (defScope s_law) .none kV_law dc_law pm_law an_law cd_law ct_law), sl_law⟩)
    (c_law : PySem.W.codeIn K cd_law "law" = true) (k_law : PySem.W.keepIn K (.ref f_law) = true)
    (z_len : PySem.W.nsIn K mainGlobals "len" = some none)
    (z_min : PySem.W.nsIn K mainGlobals "min" = some none)
    (z_max : PySem.W.nsIn K mainGlobals "max" = some none)
    (z_abs : PySem.W.nsIn K mainGlobals "abs" = some none)
    (z_range : PySem.W.nsIn K mainGlobals "range" = some none)
    (z_isinstance : PySem.W.nsIn K mainGlobals "isinstance" = some none)
    (z_repr : PySem.W.nsIn K mainGlobals "repr" = some none)
    (z_enumerate : PySem.W.nsIn K mainGlobals "enumerate" = some none)
    (z_reversed : PySem.W.nsIn K mainGlobals "reversed" = some none)
    (z_sorted : PySem.W.nsIn K mainGlobals "sorted" = some none)
    (z_bool : PySem.W.nsIn K mainGlobals "bool" = some none)
    (z_int : PySem.W.nsIn K mainGlobals "int" = some none)
    (z_str : PySem.W.nsIn K mainGlobals "str" = some none)
    (z_list : PySem.W.nsIn K mainGlobals "list" = some none)
    (z_tuple : PySem.W.nsIn K mainGlobals "tuple" = some none)
    (z_set : PySem.W.nsIn K mainGlobals "set" = some none)
    (z_sum : PySem.W.nsIn K mainGlobals "sum" = some none)
    (z_zip : PySem.W.nsIn K mainGlobals "zip" = some none)
    (z_all : PySem.W.nsIn K mainGlobals "all" = some none)
    (z_any : PySem.W.nsIn K mainGlobals "any" = some none)
    (z_ValueError : PySem.W.nsIn K mainGlobals "ValueError" = some none)
    (z_divmod : PySem.W.nsIn K mainGlobals "divmod" = some none)
    {CB : Addr} (aCB : PySem.W.nsIn K mainGlobals "SqueezeError" = some (some (.ref CB))) (iCB : PySem.W.isClsIn K CB = true) (tCB : PySem.W.typeIn K (.ref CB) = some (.type "type"))
    (third : PySem.W.nsIn K cStatics "thirdparty.any" = some none) (zSup : PySem.W.nsIn K mainGlobals "super" = some none) (hTop : (l.prog.main.scope.names.lookup ("super" : Str)).isSome = false)
    (spC : PySem.W.specialIn K (.builtin "object.__class__") "__get__" = some (some (.builtin "getset_descriptor.__get__"))) (tkC : PySem.W.takesIn K (.builtin "object.__class__") = some true)
    {C0 I0 N0 cda0 cc0 : Addr} {nm0 qn0 msg0 file0 : Str} {bs0 sub0 : List Value} {sn0 : List Str} {ab0 : Bool} {col0 : Option Bool} {dd0 od0 an0 cdd0 cld0 : Option Addr} {ka0 kb0 kc0 kd0 ke0 : Option Value}
    {oc0 doc0 pm0 ct0 ccl0 cl0 : Value} {osl0 ccs0 csl0 : Array (Option Value)} {vs0 : Array Value} {tf0 : Tok} {j0 : Nat} {p0_1 p0_2 q0_0 q0_1 q0_2 q0_3 q0_4 q0_5 r0_1 r0_2 r0_3 r0_4 : Pos}
    (aC0 : PySem.W.nsIn K mainGlobals "InvalidList" = some (some (.ref C0)))
    (xL0 : K.lookup C0 = some (excClassObj nm0 qn0 C0 N0 bs0 [.ref CB, .type "ValueError", .type "Exception", .type "BaseException", .type "object"] true sn0 sub0 ab0 col0 dd0 ka0 kb0 kc0 kd0 ke0 "ValueError.__new__"))
    (sa0 : PySem.W.findIn K (.ref C0) "__setattr__" = some (some (.builtin "object.__setattr__")))
    (nv0 : PySem.W.findIn K (.ref C0) "value" = some none)
    (iC0 : PySem.W.findIn K (.ref C0) "__init__" = some (some (.ref I0)))
    (tI0 : PySem.W.typeIn K (.ref I0) = some (.type "function"))
    (kC0 : PySem.W.keepIn K (.ref C0) = true)
    (eC0 : PySem.W.subIn K (.ref C0) (.type "BaseException") = some true)
    (vC0 : PySem.W.subIn K (.ref C0) (.type "ValueError") = some true)
    (tC0 : PySem.W.typeIn K (.ref C0) = some (.type "type"))
    (mC0 : PySem.W.mroIn K C0 (.ref C0) = some true)
    (su0 : PySem.W.ks_superIn K C0 C0 "__init__" = some (some (.builtin "ValueError.__init__")))
    (fI0 : K.lookup I0 = some ⟨oc0, od0, .func (PySem.W.ksFn "__init__" "InvalidList.__init__" (SqX.xA p0_1 p0_2) (SqX.xB msg0 j0 q0_0 q0_1 q0_2 q0_3 q0_4 q0_5 r0_1 r0_2 r0_3 r0_4) SqX.xS .none .none doc0 pm0 an0 (.ref cda0) ct0 cc0), osl0⟩)
    (cI0 : PySem.W.codeIn K (.ref cda0) "InvalidList.__init__" = true)
    (lc0 : K.lookup cda0 = some ⟨ccl0, cdd0, .fields vs0, ccs0⟩)
    (vf0 : vs0[2]? = some (.str file0 tf0))
    (mf0 : ((l.prog.main.file : Str) == file0) = true)
    (lk0 : K.lookup cc0 = some ⟨cl0, cld0, .cell (some (.ref C0)), csl0⟩)
    (ln0 : (q0_2.endLine == q0_4.line) = true)
    (ga0 : PySem.W.findIn K (.ref C0) "__getattribute__" = some (some (.builtin "BaseException.__getattribute__")))
    (gg0 : PySem.W.findIn K (.ref C0) "__getattr__" = some none)
    (hd0 : PySem.W.hasDictIn K C0 = true)
    (ha0 : PySem.W.findIn K (.ref C0) "__class__" = some (some (.builtin "object.__class__")))
    (mo0 : PySem.W.mroIn K C0 (.type "object") = some true)
    (ic0 : PySem.W.isClsIn K C0 = true)
    (sB0 : PySem.W.subIn K (.ref C0) (.ref CB) = some true)
    {C1 I1 N1 cda1 cc1 : Addr} {nm1 qn1 msg1 file1 : Str} {bs1 sub1 : List Value} {sn1 : List Str} {ab1 : Bool} {col1 : Option Bool} {dd1 od1 an1 cdd1 cld1 : Option Addr} {ka1 kb1 kc1 kd1 ke1 : Option Value}
    {oc1 doc1 pm1 ct1 ccl1 cl1 : Value} {osl1 ccs1 csl1 : Array (Option Value)} {vs1 : Array Value} {tf1 : Tok} {j1 : Nat} {p1_1 p1_2 q1_0 q1_1 q1_2 q1_3 q1_4 q1_5 r1_1 r1_2 r1_3 r1_4 : Pos}
    (aC1 : PySem.W.nsIn K mainGlobals "InvalidNumber" = some (some (.ref C1)))
    (xL1 : K.lookup C1 = some (excClassObj nm1 qn1 C1 N1 bs1 [.ref CB, .type "ValueError", .type "Exception", .type "BaseException", .type "object"] true sn1 sub1 ab1 col1 dd1 ka1 kb1 kc1 kd1 ke1 "ValueError.__new__"))
    (sa1 : PySem.W.findIn K (.ref C1) "__setattr__" = some (some (.builtin "object.__setattr__")))
    (nv1 : PySem.W.findIn K (.ref C1) "value" = some none)
    (iC1 : PySem.W.findIn K (.ref C1) "__init__" = some (some (.ref I1)))
    (tI1 : PySem.W.typeIn K (.ref I1) = some (.type "function"))
    (kC1 : PySem.W.keepIn K (.ref C1) = true)
    (eC1 : PySem.W.subIn K (.ref C1) (.type "BaseException") = some true)
    (vC1 : PySem.W.subIn K (.ref C1) (.type "ValueError") = some true)
    (tC1 : PySem.W.typeIn K (.ref C1) = some (.type "type"))
    (mC1 : PySem.W.mroIn K C1 (.ref C1) = some true)
    (su1 : PySem.W.ks_superIn K C1 C1 "__init__" = some (some (.builtin "ValueError.__init__")))
    (fI1 : K.lookup I1 = some ⟨oc1, od1, .func (PySem.W.ksFn "__init__" "InvalidNumber.__init__" (SqX.xA p1_1 p1_2) (SqX.xB msg1 j1 q1_0 q1_1 q1_2 q1_3 q1_4 q1_5 r1_1 r1_2 r1_3 r1_4) SqX.xS .none .none doc1 pm1 an1 (.ref cda1) ct1 cc1), osl1⟩)
    (cI1 : PySem.W.codeIn K (.ref cda1) "InvalidNumber.__init__" = true)
    (lc1 : K.lookup cda1 = some ⟨ccl1, cdd1, .fields vs1, ccs1⟩)
    (vf1 : vs1[2]? = some (.str file1 tf1))
    (mf1 : ((l.prog.main.file : Str) == file1) = true)
    (lk1 : K.lookup cc1 = some ⟨cl1, cld1, .cell (some (.ref C1)), csl1⟩)
    (ln1 : (q1_2.endLine == q1_4.line) = true)
    (ga1 : PySem.W.findIn K (.ref C1) "__getattribute__" = some (some (.builtin "BaseException.__getattribute__")))
    (gg1 : PySem.W.findIn K (.ref C1) "__getattr__" = some none)
    (hd1 : PySem.W.hasDictIn K C1 = true)
    (ha1 : PySem.W.findIn K (.ref C1) "__class__" = some (some (.builtin "object.__class__")))
    (mo1 : PySem.W.mroIn K C1 (.type "object") = some true)
    (ic1 : PySem.W.isClsIn K C1 = true)
    (sB1 : PySem.W.subIn K (.ref C1) (.ref CB) = some true)
    {C2 I2 N2 cda2 cc2 : Addr} {nm2 qn2 msg2 file2 : Str} {bs2 sub2 : List Value} {sn2 : List Str} {ab2 : Bool} {col2 : Option Bool} {dd2 od2 an2 cdd2 cld2 : Option Addr} {ka2 kb2 kc2 kd2 ke2 : Option Value}
    {oc2 doc2 pm2 ct2 ccl2 cl2 : Value} {osl2 ccs2 csl2 : Array (Option Value)} {vs2 : Array Value} {tf2 : Tok} {j2 : Nat} {p2_1 p2_2 q2_0 q2_1 q2_2 q2_3 q2_4 q2_5 r2_1 r2_2 r2_3 r2_4 : Pos}
    (aC2 : PySem.W.nsIn K mainGlobals "InvalidCharacter" = some (some (.ref C2)))
    (xL2 : K.lookup C2 = some (excClassObj nm2 qn2 C2 N2 bs2 [.ref CB, .type "ValueError", .type "Exception", .type "BaseException", .type "object"] true sn2 sub2 ab2 col2 dd2 ka2 kb2 kc2 kd2 ke2 "ValueError.__new__"))
    (sa2 : PySem.W.findIn K (.ref C2) "__setattr__" = some (some (.builtin "object.__setattr__")))
    (nv2 : PySem.W.findIn K (.ref C2) "value" = some none)
    (iC2 : PySem.W.findIn K (.ref C2) "__init__" = some (some (.ref I2)))
    (tI2 : PySem.W.typeIn K (.ref I2) = some (.type "function"))
    (kC2 : PySem.W.keepIn K (.ref C2) = true)
    (eC2 : PySem.W.subIn K (.ref C2) (.type "BaseException") = some true)
    (vC2 : PySem.W.subIn K (.ref C2) (.type "ValueError") = some true)
    (tC2 : PySem.W.typeIn K (.ref C2) = some (.type "type"))
    (mC2 : PySem.W.mroIn K C2 (.ref C2) = some true)
    (su2 : PySem.W.ks_superIn K C2 C2 "__init__" = some (some (.builtin "ValueError.__init__")))
    (fI2 : K.lookup I2 = some ⟨oc2, od2, .func (PySem.W.ksFn "__init__" "InvalidCharacter.__init__" (SqX.xA p2_1 p2_2) (SqX.xB msg2 j2 q2_0 q2_1 q2_2 q2_3 q2_4 q2_5 r2_1 r2_2 r2_3 r2_4) SqX.xS .none .none doc2 pm2 an2 (.ref cda2) ct2 cc2), osl2⟩)
    (cI2 : PySem.W.codeIn K (.ref cda2) "InvalidCharacter.__init__" = true)
    (lc2 : K.lookup cda2 = some ⟨ccl2, cdd2, .fields vs2, ccs2⟩)
    (vf2 : vs2[2]? = some (.str file2 tf2))
    (mf2 : ((l.prog.main.file : Str) == file2) = true)
    (lk2 : K.lookup cc2 = some ⟨cl2, cld2, .cell (some (.ref C2)), csl2⟩)
    (ln2 : (q2_2.endLine == q2_4.line) = true)
    (ga2 : PySem.W.findIn K (.ref C2) "__getattribute__" = some (some (.builtin "BaseException.__getattribute__")))
    (gg2 : PySem.W.findIn K (.ref C2) "__getattr__" = some none)
    (hd2 : PySem.W.hasDictIn K C2 = true)
    (ha2 : PySem.W.findIn K (.ref C2) "__class__" = some (some (.builtin "object.__class__")))
    (mo2 : PySem.W.mroIn K C2 (.type "object") = some true)
    (ic2 : PySem.W.isClsIn K C2 = true)
    (sB2 : PySem.W.subIn K (.ref C2) (.ref CB) = some true)
    {C3 I3 N3 cda3 cc3 : Addr} {nm3 qn3 msg3 file3 : Str} {bs3 sub3 : List Value} {sn3 : List Str} {ab3 : Bool} {col3 : Option Bool} {dd3 od3 an3 cdd3 cld3 : Option Addr} {ka3 kb3 kc3 kd3 ke3 : Option Value}
    {oc3 doc3 pm3 ct3 ccl3 cl3 : Value} {osl3 ccs3 csl3 : Array (Option Value)} {vs3 : Array Value} {tf3 : Tok} {j3 : Nat} {p3_1 p3_2 q3_0 q3_1 q3_2 q3_3 q3_4 q3_5 r3_1 r3_2 r3_3 r3_4 : Pos}
    (aC3 : PySem.W.nsIn K mainGlobals "NothingToUndo" = some (some (.ref C3)))
    (xL3 : K.lookup C3 = some (excClassObj nm3 qn3 C3 N3 bs3 [.ref CB, .type "ValueError", .type "Exception", .type "BaseException", .type "object"] true sn3 sub3 ab3 col3 dd3 ka3 kb3 kc3 kd3 ke3 "ValueError.__new__"))
    (sa3 : PySem.W.findIn K (.ref C3) "__setattr__" = some (some (.builtin "object.__setattr__")))
    (nv3 : PySem.W.findIn K (.ref C3) "value" = some none)
    (iC3 : PySem.W.findIn K (.ref C3) "__init__" = some (some (.ref I3)))
    (tI3 : PySem.W.typeIn K (.ref I3) = some (.type "function"))
    (kC3 : PySem.W.keepIn K (.ref C3) = true)
    (eC3 : PySem.W.subIn K (.ref C3) (.type "BaseException") = some true)
    (vC3 : PySem.W.subIn K (.ref C3) (.type "ValueError") = some true)
    (tC3 : PySem.W.typeIn K (.ref C3) = some (.type "type"))
    (mC3 : PySem.W.mroIn K C3 (.ref C3) = some true)
    (su3 : PySem.W.ks_superIn K C3 C3 "__init__" = some (some (.builtin "ValueError.__init__")))
    (fI3 : K.lookup I3 = some ⟨oc3, od3, .func (PySem.W.ksFn "__init__" "NothingToUndo.__init__" (SqX.xA p3_1 p3_2) (SqX.xB msg3 j3 q3_0 q3_1 q3_2 q3_3 q3_4 q3_5 r3_1 r3_2 r3_3 r3_4) SqX.xS .none .none doc3 pm3 an3 (.ref cda3) ct3 cc3), osl3⟩)
    (cI3 : PySem.W.codeIn K (.ref cda3) "NothingToUndo.__init__" = true)
    (lc3 : K.lookup cda3 = some ⟨ccl3, cdd3, .fields vs3, ccs3⟩)
    (vf3 : vs3[2]? = some (.str file3 tf3))
    (mf3 : ((l.prog.main.file : Str) == file3) = true)
    (lk3 : K.lookup cc3 = some ⟨cl3, cld3, .cell (some (.ref C3)), csl3⟩)
    (ln3 : (q3_2.endLine == q3_4.line) = true)
    (ga3 : PySem.W.findIn K (.ref C3) "__getattribute__" = some (some (.builtin "BaseException.__getattribute__")))
    (gg3 : PySem.W.findIn K (.ref C3) "__getattr__" = some none)
    (hd3 : PySem.W.hasDictIn K C3 = true)
    (ha3 : PySem.W.findIn K (.ref C3) "__class__" = some (some (.builtin "object.__class__")))
    (mo3 : PySem.W.mroIn K C3 (.type "object") = some true)
    (ic3 : PySem.W.isClsIn K C3 = true)
    (sB3 : PySem.W.subIn K (.ref C3) (.ref CB) = some true)
    {C4 I4 N4 cda4 cc4 : Addr} {nm4 qn4 msg4 file4 : Str} {bs4 sub4 : List Value} {sn4 : List Str} {ab4 : Bool} {col4 : Option Bool} {dd4 od4 an4 cdd4 cld4 : Option Addr} {ka4 kb4 kc4 kd4 ke4 : Option Value}
    {oc4 doc4 pm4 ct4 ccl4 cl4 : Value} {osl4 ccs4 csl4 : Array (Option Value)} {vs4 : Array Value} {tf4 : Tok} {j4 : Nat} {p4_1 p4_2 q4_0 q4_1 q4_2 q4_3 q4_4 q4_5 r4_1 r4_2 r4_3 r4_4 : Pos}
    (aC4 : PySem.W.nsIn K mainGlobals "Unreadable" = some (some (.ref C4)))
    (xL4 : K.lookup C4 = some (excClassObj nm4 qn4 C4 N4 bs4 [.ref CB, .type "ValueError", .type "Exception", .type "BaseException", .type "object"] true sn4 sub4 ab4 col4 dd4 ka4 kb4 kc4 kd4 ke4 "ValueError.__new__"))
    (sa4 : PySem.W.findIn K (.ref C4) "__setattr__" = some (some (.builtin "object.__setattr__")))
    (nv4 : PySem.W.findIn K (.ref C4) "value" = some none)
    (iC4 : PySem.W.findIn K (.ref C4) "__init__" = some (some (.ref I4)))
    (tI4 : PySem.W.typeIn K (.ref I4) = some (.type "function"))
    (kC4 : PySem.W.keepIn K (.ref C4) = true)
    (eC4 : PySem.W.subIn K (.ref C4) (.type "BaseException") = some true)
    (vC4 : PySem.W.subIn K (.ref C4) (.type "ValueError") = some true)
    (tC4 : PySem.W.typeIn K (.ref C4) = some (.type "type"))
    (mC4 : PySem.W.mroIn K C4 (.ref C4) = some true)
    (su4 : PySem.W.ks_superIn K C4 C4 "__init__" = some (some (.builtin "ValueError.__init__")))
    (fI4 : K.lookup I4 = some ⟨oc4, od4, .func (PySem.W.ksFn "__init__" "Unreadable.__init__" (SqX.xA p4_1 p4_2) (SqX.xB msg4 j4 q4_0 q4_1 q4_2 q4_3 q4_4 q4_5 r4_1 r4_2 r4_3 r4_4) SqX.xS .none .none doc4 pm4 an4 (.ref cda4) ct4 cc4), osl4⟩)
    (cI4 : PySem.W.codeIn K (.ref cda4) "Unreadable.__init__" = true)
    (lc4 : K.lookup cda4 = some ⟨ccl4, cdd4, .fields vs4, ccs4⟩)
    (vf4 : vs4[2]? = some (.str file4 tf4))
    (mf4 : ((l.prog.main.file : Str) == file4) = true)
    (lk4 : K.lookup cc4 = some ⟨cl4, cld4, .cell (some (.ref C4)), csl4⟩)
    (ln4 : (q4_2.endLine == q4_4.line) = true)
    (ga4 : PySem.W.findIn K (.ref C4) "__getattribute__" = some (some (.builtin "BaseException.__getattribute__")))
    (gg4 : PySem.W.findIn K (.ref C4) "__getattr__" = some none)
    (hd4 : PySem.W.hasDictIn K C4 = true)
    (ha4 : PySem.W.findIn K (.ref C4) "__class__" = some (some (.builtin "object.__class__")))
    (mo4 : PySem.W.mroIn K C4 (.type "object") = some true)
    (ic4 : PySem.W.isClsIn K C4 = true)
    (sB4 : PySem.W.subIn K (.ref C4) (.ref CB) = some true)
    (s0_0 : PySem.W.subIn K (.ref C0) (.ref C0) = some true)
    (s0_1 : PySem.W.subIn K (.ref C0) (.ref C1) = some false)
    (s0_2 : PySem.W.subIn K (.ref C0) (.ref C2) = some false)
    (s0_3 : PySem.W.subIn K (.ref C0) (.ref C3) = some false)
    (s0_4 : PySem.W.subIn K (.ref C0) (.ref C4) = some false)
    (s1_0 : PySem.W.subIn K (.ref C1) (.ref C0) = some false)
    (s1_1 : PySem.W.subIn K (.ref C1) (.ref C1) = some true)
    (s1_2 : PySem.W.subIn K (.ref C1) (.ref C2) = some false)
    (s1_3 : PySem.W.subIn K (.ref C1) (.ref C3) = some false)
    (s1_4 : PySem.W.subIn K (.ref C1) (.ref C4) = some false)
    (s2_0 : PySem.W.subIn K (.ref C2) (.ref C0) = some false)
    (s2_1 : PySem.W.subIn K (.ref C2) (.ref C1) = some false)
    (s2_2 : PySem.W.subIn K (.ref C2) (.ref C2) = some true)
    (s2_3 : PySem.W.subIn K (.ref C2) (.ref C3) = some false)
    (s2_4 : PySem.W.subIn K (.ref C2) (.ref C4) = some false)
    (s3_0 : PySem.W.subIn K (.ref C3) (.ref C0) = some false)
    (s3_1 : PySem.W.subIn K (.ref C3) (.ref C1) = some false)
    (s3_2 : PySem.W.subIn K (.ref C3) (.ref C2) = some false)
    (s3_3 : PySem.W.subIn K (.ref C3) (.ref C3) = some true)
    (s3_4 : PySem.W.subIn K (.ref C3) (.ref C4) = some false)
    (s4_0 : PySem.W.subIn K (.ref C4) (.ref C0) = some false)
    (s4_1 : PySem.W.subIn K (.ref C4) (.ref C1) = some false)
    (s4_2 : PySem.W.subIn K (.ref C4) (.ref C2) = some false)
    (s4_3 : PySem.W.subIn K (.ref C4) (.ref C3) = some false)
    (s4_4 : PySem.W.subIn K (.ref C4) (.ref C4) = some true)
    (eCB : PySem.W.subIn K (.ref CB) (.type "BaseException") = some true) (hdB : PySem.W.hasDictIn K CB = true)
    (st0 : PySem.W.subIn K (.ref C0) (.type "StopIteration") = some false)
    (st1 : PySem.W.subIn K (.ref C1) (.type "StopIteration") = some false)
    (st2 : PySem.W.subIn K (.ref C2) (.type "StopIteration") = some false)
    (st3 : PySem.W.subIn K (.ref C3) (.type "StopIteration") = some false)
    (st4 : PySem.W.subIn K (.ref C4) (.type "StopIteration") = some false)
    : ∃ fd : FuncData, (∀ (s : Shared) (v : Value), BindsTo s fd ⟨[v], []⟩ [("script", v)]) ∧ ∀ base : Heap, K.In base → base.Ns mainGlobals mg → Top l.prog w K mg base 8 fa fd "script" (spLaw K) := by
  have e := hfa.symm.trans (PySem.W.mg_of X G a_law)
  cases e
  have B : Bi mg := ⟨PySem.W.mg_none_of X G z_len, PySem.W.mg_none_of X G z_min, PySem.W.mg_none_of X G z_max, PySem.W.mg_none_of X G z_abs, PySem.W.mg_none_of X G z_range, PySem.W.mg_none_of X G z_isinstance, PySem.W.mg_none_of X G z_repr, PySem.W.mg_none_of X G z_enumerate, PySem.W.mg_none_of X G z_reversed, PySem.W.mg_none_of X G z_sorted, PySem.W.mg_none_of X G z_bool, PySem.W.mg_none_of X G z_int, PySem.W.mg_none_of X G z_str, PySem.W.mg_none_of X G z_list, PySem.W.mg_none_of X G z_tuple, PySem.W.mg_none_of X G z_set, PySem.W.mg_none_of X G z_sum, PySem.W.mg_none_of X G z_zip, PySem.W.mg_none_of X G z_all, PySem.W.mg_none_of X G z_any, PySem.W.mg_none_of X G z_ValueError, PySem.W.mg_none_of X G z_divmod⟩
  have F_checklist := fun_mk (st := s_checklist) l_checklist c_checklist k_checklist
  have b_checklist := F_checklist.binds (ps := ["replacements"]) fun _ _ _ _ _ _ us hl => match us, hl with | [_], _ => rfl
  have g_checklist := PySem.W.mg_of X G a_checklist
  have F_checknumber := fun_mk (st := s_checknumber) l_checknumber c_checknumber k_checknumber
  have b_checknumber := F_checknumber.binds (ps := ["number", "least"]) fun _ _ _ _ _ _ us hl => match us, hl with | [_, _], _ => rfl
  have g_checknumber := PySem.W.mg_of X G a_checknumber
  have F_checkcharacter := fun_mk (st := s_checkcharacter) l_checkcharacter c_checkcharacter k_checkcharacter
  have b_checkcharacter := F_checkcharacter.binds (ps := ["character"]) fun _ _ _ _ _ _ us hl => match us, hl with | [_], _ => rfl
  have g_checkcharacter := PySem.W.mg_of X G a_checkcharacter
  have F_squeezed := fun_mk (st := s_squeezed) l_squeezed c_squeezed k_squeezed
  have b_squeezed := F_squeezed.binds (ps := ["length", "replacements"]) fun _ _ _ _ _ _ us hl => match us, hl with | [_, _], _ => rfl
  have g_squeezed := PySem.W.mg_of X G a_squeezed
  have F_squeezetext := fun_mk (st := s_squeezetext) l_squeezetext c_squeezetext k_squeezetext
  have b_squeezetext := F_squeezetext.binds (ps := ["text", "character", "replacements"]) fun _ _ _ _ _ _ us hl => match us, hl with | [_, _, _], _ => rfl
  have g_squeezetext := PySem.W.mg_of X G a_squeezetext
  have F_stages := fun_mk (st := s_stages) l_stages c_stages k_stages
  have b_stages := F_stages.binds (ps := ["length", "replacements"]) fun _ _ _ _ _ _ us hl => match us, hl with | [_, _], _ => rfl
  have g_stages := PySem.W.mg_of X G a_stages
  have F_lengthafter := fun_mk (st := s_lengthafter) l_lengthafter c_lengthafter k_lengthafter
  have b_lengthafter := F_lengthafter.binds (ps := ["length", "replacements"]) fun _ _ _ _ _ _ us hl => match us, hl with | [_, _], _ => rfl
  have g_lengthafter := PySem.W.mg_of X G a_lengthafter
  have F_lengthafterone := fun_mk (st := s_lengthafterone) l_lengthafterone c_lengthafterone k_lengthafterone
  have b_lengthafterone := F_lengthafterone.binds (ps := ["length", "number"]) fun _ _ _ _ _ _ us hl => match us, hl with | [_, _], _ => rfl
  have g_lengthafterone := PySem.W.mg_of X G a_lengthafterone
  have F_lengthsbetween := fun_mk (st := s_lengthsbetween) l_lengthsbetween c_lengthsbetween k_lengthsbetween
  have b_lengthsbetween := F_lengthsbetween.binds (ps := ["text", "character"]) fun _ _ _ _ _ _ us hl => match us, hl with | [_, _], _ => rfl
  have g_lengthsbetween := PySem.W.mg_of X G a_lengthsbetween
  have F_lawrng := fun_mk (st := s_lawrng) l_lawrng c_lawrng k_lawrng
  have b_lawrng := F_lawrng.binds (ps := ["script"]) fun _ _ _ _ _ _ us hl => match us, hl with | [_], _ => rfl
  have g_lawrng := PySem.W.mg_of X G a_lawrng
  have F_lawdraw := fun_mk (st := s_lawdraw) l_lawdraw c_lawdraw k_lawdraw
  have b_lawdraw := F_lawdraw.binds (ps := ["rng", "limit"]) fun _ _ _ _ _ _ us hl => match us, hl with | [_, _], _ => rfl
  have g_lawdraw := PySem.W.mg_of X G a_lawdraw
  have F_lawlist := fun_mk (st := s_lawlist) l_lawlist c_lawlist k_lawlist
  have b_lawlist := F_lawlist.binds (ps := ["rng", "most", "greatest"]) fun _ _ _ _ _ _ us hl => match us, hl with | [_, _, _], _ => rfl
  have g_lawlist := PySem.W.mg_of X G a_lawlist
  have F_lawtold := fun_mk (st := s_lawtold) l_lawtold c_lawtold k_lawtold
  have b_lawtold := F_lawtold.binds (ps := ["way", "many", "some", "sign"]) fun _ _ _ _ _ _ us hl => match us, hl with | [_, _, _, _], _ => rfl
  have g_lawtold := PySem.W.mg_of X G a_lawtold
  have F_law := fun_mk (st := s_law) l_law c_law k_law
  exact ⟨_, fun s v => .of_eq rfl, fun base _ _ => by
    have bmV : PySem.HandSPX.refsVE [.ref CB, .type "ValueError", .type "Exception", .type "BaseException", .type "object"] = true := (show PySem.HandSPX.refsVE [.type "ValueError", .type "Exception", .type "BaseException", .type "object"] = true by decide +kernel)
    have neB : ∀ C : Addr, PySem.W.subIn K (.ref C) (.ref CB) = some true → C = CB → true = true := fun _ _ _ => rfl
    have Er0 : SqX.Er K l.prog C0 I0 "InvalidList.__init__" := ⟨⟨_, _, _, _, _, _, _, _, _, _, _, _, _, _, _, xL0, bmV⟩, sa0, nv0, iC0, tI0, kC0, eC0, vC0, tC0, mC0, su0, third, zSup, hTop, ⟨_, _, _, _, _, _, _, _, _, _, _, _, _, _, _, _, _, _, _, _, _, _, _, _, _, _, _, _, _, _, _, _, fI0, cI0, lc0, vf0, mf0, lk0, ln0⟩⟩
    have Ex0 : ExcC K C0 := ⟨ga0, gg0, eC0, hd0, ha0, spC, tkC, mo0⟩
    have Xf0 : XfC K C0 := ⟨ga0, gg0, eC0, hd0⟩
    have Er1 : SqX.Er K l.prog C1 I1 "InvalidNumber.__init__" := ⟨⟨_, _, _, _, _, _, _, _, _, _, _, _, _, _, _, xL1, bmV⟩, sa1, nv1, iC1, tI1, kC1, eC1, vC1, tC1, mC1, su1, third, zSup, hTop, ⟨_, _, _, _, _, _, _, _, _, _, _, _, _, _, _, _, _, _, _, _, _, _, _, _, _, _, _, _, _, _, _, _, fI1, cI1, lc1, vf1, mf1, lk1, ln1⟩⟩
    have Ex1 : ExcC K C1 := ⟨ga1, gg1, eC1, hd1, ha1, spC, tkC, mo1⟩
    have Xf1 : XfC K C1 := ⟨ga1, gg1, eC1, hd1⟩
    have Er2 : SqX.Er K l.prog C2 I2 "InvalidCharacter.__init__" := ⟨⟨_, _, _, _, _, _, _, _, _, _, _, _, _, _, _, xL2, bmV⟩, sa2, nv2, iC2, tI2, kC2, eC2, vC2, tC2, mC2, su2, third, zSup, hTop, ⟨_, _, _, _, _, _, _, _, _, _, _, _, _, _, _, _, _, _, _, _, _, _, _, _, _, _, _, _, _, _, _, _, fI2, cI2, lc2, vf2, mf2, lk2, ln2⟩⟩
    have Ex2 : ExcC K C2 := ⟨ga2, gg2, eC2, hd2, ha2, spC, tkC, mo2⟩
    have Xf2 : XfC K C2 := ⟨ga2, gg2, eC2, hd2⟩
    have Er3 : SqX.Er K l.prog C3 I3 "NothingToUndo.__init__" := ⟨⟨_, _, _, _, _, _, _, _, _, _, _, _, _, _, _, xL3, bmV⟩, sa3, nv3, iC3, tI3, kC3, eC3, vC3, tC3, mC3, su3, third, zSup, hTop, ⟨_, _, _, _, _, _, _, _, _, _, _, _, _, _, _, _, _, _, _, _, _, _, _, _, _, _, _, _, _, _, _, _, fI3, cI3, lc3, vf3, mf3, lk3, ln3⟩⟩
    have Ex3 : ExcC K C3 := ⟨ga3, gg3, eC3, hd3, ha3, spC, tkC, mo3⟩
    have Xf3 : XfC K C3 := ⟨ga3, gg3, eC3, hd3⟩
    have Er4 : SqX.Er K l.prog C4 I4 "Unreadable.__init__" := ⟨⟨_, _, _, _, _, _, _, _, _, _, _, _, _, _, _, xL4, bmV⟩, sa4, nv4, iC4, tI4, kC4, eC4, vC4, tC4, mC4, su4, third, zSup, hTop, ⟨_, _, _, _, _, _, _, _, _, _, _, _, _, _, _, _, _, _, _, _, _, _, _, _, _, _, _, _, _, _, _, _, fI4, cI4, lc4, vf4, mf4, lk4, ln4⟩⟩
    have Ex4 : ExcC K C4 := ⟨ga4, gg4, eC4, hd4, ha4, spC, tkC, mo4⟩
    have Xf4 : XfC K C4 := ⟨ga4, gg4, eC4, hd4⟩
    have ne : ∀ {i j : Nat} {A B : Addr}, PySem.W.subIn K (.ref A) (.ref A) = some true → PySem.W.subIn K (.ref A) (.ref B) = some false → A = B → false = true := fun a b e => by subst e; rw [a] at b; cases b
    have Z : Errs l.prog K mg (fun n => [C0, C1, C2, C3, C4].getD n C0) (fun n => [I0, I1, I2, I3, I4].getD n I0) (fun n => (["InvalidList.__init__", "InvalidNumber.__init__", "InvalidCharacter.__init__", "NothingToUndo.__init__", "Unreadable.__init__"] : List Str).getD n "InvalidList.__init__") CB := {
      er := fun n hn => match n, hn with | 0, _ => ⟨trivial, Er0⟩ | 1, _ => ⟨trivial, Er1⟩ | 2, _ => ⟨trivial, Er2⟩ | 3, _ => ⟨trivial, Er3⟩ | 4, _ => ⟨trivial, Er4⟩
      g0 := PySem.W.mg_of X G aC0
      g1 := PySem.W.mg_of X G aC1
      g2 := PySem.W.mg_of X G aC2
      g3 := PySem.W.mg_of X G aC3
      g4 := PySem.W.mg_of X G aC4
      g5 := PySem.W.mg_of X G aCB
      is := fun n m hn hm => match n, m, hn, hm with | 0, 0, _, _ => kit_own ic0 tC0 s0_0 (fun _ => rfl) | 0, 1, _, _ => kit_own ic1 tC1 s0_1 (ne (i := 0) (j := 0) s0_0 s0_1) | 0, 2, _, _ => kit_own ic2 tC2 s0_2 (ne (i := 0) (j := 0) s0_0 s0_2) | 0, 3, _, _ => kit_own ic3 tC3 s0_3 (ne (i := 0) (j := 0) s0_0 s0_3) | 0, 4, _, _ => kit_own ic4 tC4 s0_4 (ne (i := 0) (j := 0) s0_0 s0_4) | 1, 0, _, _ => kit_own ic0 tC0 s1_0 (ne (i := 0) (j := 0) s1_1 s1_0) | 1, 1, _, _ => kit_own ic1 tC1 s1_1 (fun _ => rfl) | 1, 2, _, _ => kit_own ic2 tC2 s1_2 (ne (i := 0) (j := 0) s1_1 s1_2) | 1, 3, _, _ => kit_own ic3 tC3 s1_3 (ne (i := 0) (j := 0) s1_1 s1_3) | 1, 4, _, _ => kit_own ic4 tC4 s1_4 (ne (i := 0) (j := 0) s1_1 s1_4) | 2, 0, _, _ => kit_own ic0 tC0 s2_0 (ne (i := 0) (j := 0) s2_2 s2_0) | 2, 1, _, _ => kit_own ic1 tC1 s2_1 (ne (i := 0) (j := 0) s2_2 s2_1) | 2, 2, _, _ => kit_own ic2 tC2 s2_2 (fun _ => rfl) | 2, 3, _, _ => kit_own ic3 tC3 s2_3 (ne (i := 0) (j := 0) s2_2 s2_3) | 2, 4, _, _ => kit_own ic4 tC4 s2_4 (ne (i := 0) (j := 0) s2_2 s2_4) | 3, 0, _, _ => kit_own ic0 tC0 s3_0 (ne (i := 0) (j := 0) s3_3 s3_0) | 3, 1, _, _ => kit_own ic1 tC1 s3_1 (ne (i := 0) (j := 0) s3_3 s3_1) | 3, 2, _, _ => kit_own ic2 tC2 s3_2 (ne (i := 0) (j := 0) s3_3 s3_2) | 3, 3, _, _ => kit_own ic3 tC3 s3_3 (fun _ => rfl) | 3, 4, _, _ => kit_own ic4 tC4 s3_4 (ne (i := 0) (j := 0) s3_3 s3_4) | 4, 0, _, _ => kit_own ic0 tC0 s4_0 (ne (i := 0) (j := 0) s4_4 s4_0) | 4, 1, _, _ => kit_own ic1 tC1 s4_1 (ne (i := 0) (j := 0) s4_4 s4_1) | 4, 2, _, _ => kit_own ic2 tC2 s4_2 (ne (i := 0) (j := 0) s4_4 s4_2) | 4, 3, _, _ => kit_own ic3 tC3 s4_3 (ne (i := 0) (j := 0) s4_4 s4_3) | 4, 4, _, _ => kit_own ic4 tC4 s4_4 (fun _ => rfl)
      isB := fun n hn => match n, hn with | 0, _ => kit_own iCB tCB sB0 (fun _ => rfl) | 1, _ => kit_own iCB tCB sB1 (fun _ => rfl) | 2, _ => kit_own iCB tCB sB2 (fun _ => rfl) | 3, _ => kit_own iCB tCB sB3 (fun _ => rfl) | 4, _ => kit_own iCB tCB sB4 (fun _ => rfl)
      isV := fun n hn => match n, hn with | 0, _ => kit_base (by decide +kernel) vC0 | 1, _ => kit_base (by decide +kernel) vC1 | 2, _ => kit_base (by decide +kernel) vC2 | 3, _ => kit_base (by decide +kernel) vC3 | 4, _ => kit_base (by decide +kernel) vC4
      ex := fun n hn => match n, hn with | 0, _ => Ex0 | 1, _ => Ex1 | 2, _ => Ex2 | 3, _ => Ex3 | 4, _ => Ex4
      xf := fun n hn => match n, hn with | 0, _ => Xf0 | 1, _ => Xf1 | 2, _ => Xf2 | 3, _ => Xf3 | 4, _ => Xf4 }
    have Z2 : Errs2 K (fun n => [C0, C1, C2, C3, C4].getD n C0) CB := {
      ma := fun n hn => match n, hn with | 0, _ => PySem.W.exm_ref eCB hdB tCB sB0 | 1, _ => PySem.W.exm_ref eCB hdB tCB sB1 | 2, _ => PySem.W.exm_ref eCB hdB tCB sB2 | 3, _ => PySem.W.exm_ref eCB hdB tCB sB3 | 4, _ => PySem.W.exm_ref eCB hdB tCB sB4
      st := fun n hn => match n, hn with | 0, _ => st0 | 1, _ => st1 | 2, _ => st2 | 3, _ => st3 | 4, _ => st4
      nv := fun n hn => match n, hn with | 0, _ => nv0 | 1, _ => nv1 | 2, _ => nv2 | 3, _ => nv3 | 4, _ => nv4 }
    have D_checklist : Df l.prog w K mg base 1 "check_list" ["replacements"] (spCheckList K) := .mk' F_checklist (ok_checklist F_checklist B) g_checklist b_checklist
    have D_checkcharacter : Df l.prog w K mg base 1 "check_character" ["character"] spCheckChr := .mk' F_checkcharacter (ok_checkcharacter F_checkcharacter B) g_checkcharacter b_checkcharacter
    have D_lengthsbetween : Df l.prog w K mg base 1 "lengths_between" ["text", "character"] spBetween := .mk' F_lengthsbetween (ok_between F_lengthsbetween B) g_lengthsbetween b_lengthsbetween
    have D_lengthafterone : Df l.prog w K mg base 1 "length_after_one" ["length", "number"] spOnceS := .mk' F_lengthafterone (ok_lengthafterone F_lengthafterone B) g_lengthafterone b_lengthafterone
    have D_lengthafter : Df l.prog w K mg base 2 "length_after" ["length", "replacements"] (spSqzS K) := .mk' F_lengthafter (ok_lengthafter F_lengthafter D_lengthafterone) g_lengthafter b_lengthafter
    have Y_squeezetext := ok_squeezetext (P := l.prog) (w := w) (mg := mg) (base := base) F_squeezetext B D_checkcharacter D_checklist D_lengthsbetween D_lengthafter
    have T_squeezetext : DfT l.prog w K mg base 4 "squeeze_text" ["text", "character", "replacements"] 1 (spSqT K) := ⟨⟨_, _, Y_squeezetext, g_squeezetext, k_squeezetext, b_squeezetext⟩⟩
    have K_squeezetext : DkT l.prog w K mg base 4 "squeeze_text" ["text", "character", "replacements"] ["character", "replacements", "text"] (fun _ zs => match zs with | [x, y, z] => [z, x, y] | _ => []) 0 1 (spSqT K) := ⟨⟨_, _, _, Y_squeezetext, g_squeezetext, k_squeezetext, kb_squeezetext F_squeezetext, perm_tkn⟩⟩
    have X_checknumber : Dx l.prog w K mg base 1 "check_number" ["number", "least"] (spCheckNumberX (fun n => [C0, C1, C2, C3, C4].getD n C0)) := .mk' F_checknumber (ok_xchecknumber F_checknumber Z) g_checknumber b_checknumber
    have X_checklist : Dx l.prog w K mg base 1 "check_list" ["replacements"] (spCheckListX K (fun n => [C0, C1, C2, C3, C4].getD n C0)) := .mk' F_checklist (ok_xchecklist F_checklist B Z) g_checklist b_checklist
    have X_checkcharacter : Dx l.prog w K mg base 1 "check_character" ["character"] (spCheckChar (fun n => [C0, C1, C2, C3, C4].getD n C0)) := .mk' F_checkcharacter (ok_xcheckcharacter F_checkcharacter B Z) g_checkcharacter b_checkcharacter
    have O_squeezed := ok_xsqueezed (P := l.prog) (w := w) (mg := mg) (base := base) F_squeezed X_checknumber X_checklist D_lengthafter
    have O_squeezetext := ok_squeezebad (P := l.prog) (w := w) (mg := mg) (base := base) F_squeezetext X_checkcharacter X_checklist
    have O_stages := ok_stages (P := l.prog) (w := w) (mg := mg) (base := base) F_stages X_checknumber X_checklist
    have D_lawrng : Df l.prog w K mg base 1 "_law_rng" ["script"] (spRng K) := .mk' F_lawrng (ok_lawrng F_lawrng B) g_lawrng b_lawrng
    have D_lawdraw : Df l.prog w K mg base 1 "_law_draw" ["rng", "limit"] spDraw := .mk' F_lawdraw (ok_lawdraw F_lawdraw) g_lawdraw b_lawdraw
    have D_lawlist : Df l.prog w K mg base 2 "_law_list" ["rng", "most", "greatest"] spList := .mk' F_lawlist (ok_lawlist F_lawlist B D_lawdraw) g_lawlist b_lawlist
    have O_lawtold := ok_lawtold (P := l.prog) (w := w) (mg := mg) (base := base) F_lawtold B Z Z2 (.mk' F_squeezed O_squeezed g_squeezed b_squeezed) ⟨⟨_, _, O_squeezed, g_squeezed, F_squeezed.kp, kb_squeezed F_squeezed⟩⟩ ⟨⟨_, _, O_stages, g_stages, F_stages.kp, b_stages⟩⟩ (.mk' F_squeezetext O_squeezetext g_squeezetext b_squeezetext) ⟨⟨_, _, O_squeezetext, g_squeezetext, F_squeezetext.kp, kb_squeezetext F_squeezetext⟩⟩
    have D_lawtold : Df l.prog w K mg base 5 "_law_told" ["way", "many", "some", "sign"] (spToldG K Away) := .mk' F_lawtold O_lawtold g_lawtold b_lawtold
    have Y_lawtold := FnT.or (sp := spTold K) (FnT.of (j := 3) O_lawtold) (ok_toldgood (P := l.prog) (w := w) (mg := mg) (base := base) F_lawtold T_squeezetext K_squeezetext) (fun _ _ _ _ h => told_or h)
    have T_lawtold : DfT l.prog w K mg base 5 "_law_told" ["way", "many", "some", "sign"] 3 (spTold K) := ⟨⟨_, _, Y_lawtold, g_lawtold, k_lawtold, b_lawtold⟩⟩
    exact ok_law F_law B D_lawrng D_lawdraw D_lawlist D_lawtold T_lawtold⟩
end Sq
open PySem PySem.W PyProof.Rows
set_option maxRecDepth 100000 in
set_option maxHeartbeats 0 in
theorem PySem.Challenge.cw_squeezelists_k04_errors_of_squeezing_holds : PySem.Challenge.rw_squeezelists_k04_errors_of_squeezing.Holds := by
  w_on; o_law; k_head; (case hw => w_witness2)
  k_fill
  refine Sq.walkAt (l := PySem.Challenge.rw_squeezelists_k04_errors_of_squeezing) (n := 63) (k := 8) (x := "script") (sp := fun w => Sq.spLaw _) rfl (by decide) rfl (fun w h Y => PySem.W.kIn_of Y) ?F (fun _ _ a ns hl _ hS => ⟨a, ns, rfl, hS, hl, fun _ => rfl⟩)
  case F =>
    intro w mg fa h KX G hmg
    refine' Sq.all_mk KX G hmg ?a_checklist ?l_checklist ?c_checklist ?k_checklist ?a_checknumber ?l_checknumber ?c_checknumber ?k_checknumber ?a_checkcharacter ?l_checkcharacter ?c_checkcharacter ?k_checkcharacter ?a_squeezed ?l_squeezed ?c_squeezed ?k_squeezed ?a_squeezetext ?l_squeezetext ?c_squeezetext ?k_squeezetext ?a_stages ?l_stages ?c_stages ?k_stages ?a_lengthafter ?l_lengthafter ?c_lengthafter ?k_lengthafter ?a_lengthafterone ?l_lengthafterone ?c_lengthafterone ?k_lengthafterone ?a_lengthsbetween ?l_lengthsbetween ?c_lengthsbetween ?k_lengthsbetween ?a_lawrng ?l_lawrng ?c_lawrng ?k_lawrng ?a_lawdraw ?l_lawdraw ?c_lawdraw ?k_lawdraw ?a_lawlist ?l_lawlist ?c_lawlist ?k_lawlist ?a_lawtold ?l_lawtold ?c_lawtold ?k_lawtold ?a_law ?l_law ?c_law ?k_law ?z_len ?z_min ?z_max ?z_abs ?z_range ?z_isinstance ?z_repr ?z_enumerate ?z_reversed ?z_sorted ?z_bool ?z_int ?z_str ?z_list ?z_tuple ?z_set ?z_sum ?z_zip ?z_all ?z_any ?z_ValueError ?z_divmod ?aCB ?iCB ?tCB ?third ?zSup ?hTop ?spC ?tkC ?aC0 ?xL0 ?sa0 ?nv0 ?iC0 ?tI0 ?kC0 ?eC0 ?vC0 ?tC0 ?mC0 ?su0 ?fI0 ?cI0 ?lc0 ?vf0 ?mf0 ?lk0 ?ln0 ?ga0 ?gg0 ?hd0 ?ha0 ?mo0 ?ic0 ?sB0 ?aC1 ?xL1 ?sa1 ?nv1 ?iC1 ?tI1 ?kC1 ?eC1 ?vC1 ?tC1 ?mC1 ?su1 ?fI1 ?cI1 ?lc1 ?vf1 ?mf1 ?lk1 ?ln1 ?ga1 ?gg1 ?hd1 ?ha1 ?mo1 ?ic1 ?sB1 ?aC2 ?xL2 ?sa2 ?nv2 ?iC2 ?tI2 ?kC2 ?eC2 ?vC2 ?tC2 ?mC2 ?su2 ?fI2 ?cI2 ?lc2 ?vf2 ?mf2 ?lk2 ?ln2 ?ga2 ?gg2 ?hd2 ?ha2 ?mo2 ?ic2 ?sB2 ?aC3 ?xL3 ?sa3 ?nv3 ?iC3 ?tI3 ?kC3 ?eC3 ?vC3 ?tC3 ?mC3 ?su3 ?fI3 ?cI3 ?lc3 ?vf3 ?mf3 ?lk3 ?ln3 ?ga3 ?gg3 ?hd3 ?ha3 ?mo3 ?ic3 ?sB3 ?aC4 ?xL4 ?sa4 ?nv4 ?iC4 ?tI4 ?kC4 ?eC4 ?vC4 ?tC4 ?mC4 ?su4 ?fI4 ?cI4 ?lc4 ?vf4 ?mf4 ?lk4 ?ln4 ?ga4 ?gg4 ?hd4 ?ha4 ?mo4 ?ic4 ?sB4 ?s0_0 ?s0_1 ?s0_2 ?s0_3 ?s0_4 ?s1_0 ?s1_1 ?s1_2 ?s1_3 ?s1_4 ?s2_0 ?s2_1 ?s2_2 ?s2_3 ?s2_4 ?s3_0 ?s3_1 ?s3_2 ?s3_3 ?s3_4 ?s4_0 ?s4_1 ?s4_2 ?s4_3 ?s4_4 ?eCB ?hdB ?st0 ?st1 ?st2 ?st3 ?st4
    (case a_checklist => k_is); (case l_checklist => k_is); (case c_checklist => k_is); (case k_checklist => k_is); (case a_checknumber => k_is); (case l_checknumber => k_is); (case c_checknumber => k_is); (case k_checknumber => k_is); (case a_checkcharacter => k_is); (case l_checkcharacter => k_is); (case c_checkcharacter => k_is); (case k_checkcharacter => k_is); (case a_squeezed => k_is); (case l_squeezed => k_is); (case c_squeezed => k_is); (case k_squeezed => k_is); (case a_squeezetext => k_is); (case l_squeezetext => k_is); (case c_squeezetext => k_is); (case k_squeezetext => k_is); (case a_stages => k_is); (case l_stages => k_is); (case c_stages => k_is); (case k_stages => k_is); (case a_lengthafter => k_is); (case l_lengthafter => k_is); (case c_lengthafter => k_is); (case k_lengthafter => k_is); (case a_lengthafterone => k_is); (case l_lengthafterone => k_is); (case c_lengthafterone => k_is); (case k_lengthafterone => k_is); (case a_lengthsbetween => k_is); (case l_lengthsbetween => k_is); (case c_lengthsbetween => k_is); (case k_lengthsbetween => k_is); (case a_lawrng => k_is); (case l_lawrng => k_is); (case c_lawrng => k_is); (case k_lawrng => k_is); (case a_lawdraw => k_is); (case l_lawdraw => k_is); (case c_lawdraw => k_is); (case k_lawdraw => k_is); (case a_lawlist => k_is); (case l_lawlist => k_is); (case c_lawlist => k_is); (case k_lawlist => k_is); (case a_lawtold => k_is); (case l_lawtold => k_is); (case c_lawtold => k_is); (case k_lawtold => k_is); (case a_law => k_is); (case l_law => k_is); (case c_law => k_is); (case k_law => k_is); (case z_len => k_is); (case z_min => k_is); (case z_max => k_is); (case z_abs => k_is); (case z_range => k_is); (case z_isinstance => k_is); (case z_repr => k_is); (case z_enumerate => k_is); (case z_reversed => k_is); (case z_sorted => k_is); (case z_bool => k_is); (case z_int => k_is); (case z_str => k_is); (case z_list => k_is); (case z_tuple => k_is); (case z_set => k_is); (case z_sum => k_is); (case z_zip => k_is); (case z_all => k_is); (case z_any => k_is); (case z_ValueError => k_is); (case z_divmod => k_is); (case aCB => k_is); (case iCB => k_is); (case tCB => k_is); (case third => k_is); (case zSup => k_is); (case hTop => decide +kernel); (case spC => k_is); (case tkC => k_is); (case aC0 => k_is); (case xL0 => k_is); (case sa0 => k_is); (case nv0 => k_is); (case iC0 => k_is); (case tI0 => k_is); (case kC0 => k_is); (case eC0 => k_is); (case vC0 => k_is); (case tC0 => k_is); (case mC0 => k_is); (case su0 => ks_is); (case fI0 => k_is); (case cI0 => k_is); (case lc0 => k_is); (case vf0 => rfl); (case mf0 => decide +kernel); (case lk0 => k_is); (case ln0 => rfl); (case ga0 => k_is); (case gg0 => k_is); (case hd0 => k_is); (case ha0 => k_is); (case mo0 => k_is); (case ic0 => k_is); (case sB0 => k_is); (case aC1 => k_is); (case xL1 => k_is); (case sa1 => k_is); (case nv1 => k_is); (case iC1 => k_is); (case tI1 => k_is); (case kC1 => k_is); (case eC1 => k_is); (case vC1 => k_is); (case tC1 => k_is); (case mC1 => k_is); (case su1 => ks_is); (case fI1 => k_is); (case cI1 => k_is); (case lc1 => k_is); (case vf1 => rfl); (case mf1 => decide +kernel); (case lk1 => k_is); (case ln1 => rfl); (case ga1 => k_is); (case gg1 => k_is); (case hd1 => k_is); (case ha1 => k_is); (case mo1 => k_is); (case ic1 => k_is); (case sB1 => k_is); (case aC2 => k_is); (case xL2 => k_is); (case sa2 => k_is); (case nv2 => k_is); (case iC2 => k_is); (case tI2 => k_is); (case kC2 => k_is); (case eC2 => k_is); (case vC2 => k_is); (case tC2 => k_is); (case mC2 => k_is); (case su2 => ks_is); (case fI2 => k_is); (case cI2 => k_is); (case lc2 => k_is); (case vf2 => rfl); (case mf2 => decide +kernel); (case lk2 => k_is); (case ln2 => rfl); (case ga2 => k_is); (case gg2 => k_is); (case hd2 => k_is); (case ha2 => k_is); (case mo2 => k_is); (case ic2 => k_is); (case sB2 => k_is); (case aC3 => k_is); (case xL3 => k_is); (case sa3 => k_is); (case nv3 => k_is); (case iC3 => k_is); (case tI3 => k_is); (case kC3 => k_is); (case eC3 => k_is); (case vC3 => k_is); (case tC3 => k_is); (case mC3 => k_is); (case su3 => ks_is); (case fI3 => k_is); (case cI3 => k_is); (case lc3 => k_is); (case vf3 => rfl); (case mf3 => decide +kernel); (case lk3 => k_is); (case ln3 => rfl); (case ga3 => k_is); (case gg3 => k_is); (case hd3 => k_is); (case ha3 => k_is); (case mo3 => k_is); (case ic3 => k_is); (case sB3 => k_is); (case aC4 => k_is); (case xL4 => k_is); (case sa4 => k_is); (case nv4 => k_is); (case iC4 => k_is); (case tI4 => k_is); (case kC4 => k_is); (case eC4 => k_is); (case vC4 => k_is); (case tC4 => k_is); (case mC4 => k_is); (case su4 => ks_is); (case fI4 => k_is); (case cI4 => k_is); (case lc4 => k_is); (case vf4 => rfl); (case mf4 => decide +kernel); (case lk4 => k_is); (case ln4 => rfl); (case ga4 => k_is); (case gg4 => k_is); (case hd4 => k_is); (case ha4 => k_is); (case mo4 => k_is); (case ic4 => k_is); (case sB4 => k_is); (case s0_0 => k_is); (case s0_1 => k_is); (case s0_2 => k_is); (case s0_3 => k_is); (case s0_4 => k_is); (case s1_0 => k_is); (case s1_1 => k_is); (case s1_2 => k_is); (case s1_3 => k_is); (case s1_4 => k_is); (case s2_0 => k_is); (case s2_1 => k_is); (case s2_2 => k_is); (case s2_3 => k_is); (case s2_4 => k_is); (case s3_0 => k_is); (case s3_1 => k_is); (case s3_2 => k_is); (case s3_3 => k_is); (case s3_4 => k_is); (case s4_0 => k_is); (case s4_1 => k_is); (case s4_2 => k_is); (case s4_3 => k_is); (case s4_4 => k_is); (case eCB => k_is); (case hdB => k_is); (case st0 => k_is); (case st1 => k_is); (case st2 => k_is); (case st3 => k_is); (case st4 => k_is)


