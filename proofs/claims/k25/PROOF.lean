import PyProof.Rows.All
import Wide.All
import OpenK.AllK
import Wide.FinOn
import HandS.ForMost
import HandS.IsInst
import HandS.Walk
import HandS.Defaults
import HandS.RaiseMore
import HandS.Wide
import HandS.Exc
import HandS.ExcOwn
import HandS.ExcInit
import HandS.ExcSuper
import KE.KExcSuper
import HandS.ExcValue
import HandS.ExcIs
import HandS.ExcField
import HandS.GenList
import HandS.WordsExc
import HandS.HotCalls
import HandS.Comp
import HandS.Deep
import HandS.GenBody
import HandS.GenYield
import PyProof.GenComp
import PyProof.ForAny
import HandS.Strs
import HandS.SetBool
import HandS.More
import HandS.Style
import HandS.DictComp
import HandS.RevRange
import HandS.Conv
import HandS.Flow
import HandS.SortInts
import HandS.Set
import HandS.NoneIn
import HandS.DictTup
import HandS.Dict
import PySem.Challenge.RW_squeezelists_k25_whole_longer_lists_numb
set_option Elab.async false
set_option linter.all false
set_option maxRecDepth 100000
set_option maxHeartbeats 2000000
/-! The layer for the laws: a def of the law run at the outermost call (where no repr is under way), repr of data, calls by keywords alone. -/
namespace Sq
open PySem PySem.Spec PyProof.Rows L2

/-! ### the law's own def, at one given surrounding -/
theorem fnAt {CX : CXT} {P : Program} {w : World} {K : PySem.W.Frag} {mg : Str → Option Value} {base : Heap} {k : Nat} {f : Addr} {nmF qualF : Str} {prm : Arguments} {bd : List Stmt} {scp : Scope}
    {dflt kwd docv pmv cdv ctv ocv : Value} {anv odv : Option Addr} {slv : Array (Option Value)} {names prs : List Str} {sp : Sp} {A : Around}
    (stands : K.lookup f = some ⟨ocv, odv, .func (PySem.W.fnOf nmF qualF prm bd scp dflt kwd docv pmv anv cdv ctv), slv⟩)
    (code : PySem.W.codeIn K cdv qualF = true) (sc : FnScope names prs scp)
    (count : ∀ vs H Q E, sp vs H Q E → vs.length = prs.length)
    (inner : ∀ (outer : List Env) (s : Shared) (H : Hp) (vs : List V) (Q : VK) (E : XK), Room k (A.deeper (envOfC qualF scp s.heap.objs.size f cdv)) → sp vs H Q E →
      ∃ t, PSs (cxOf CX P w K mg base names qualF scp f cdv A outer s H E) bd t ∧ t { nx := fun _ H' => Q .non H', rt := Q } (start names vs) H)
    {outer : List Env} {s : Shared} {H : Hp} {ag : Args} {us : List Value} {vs : List V} {Q : VK} {E : XK}
    (room : Room (k + 1) A) (entry : Env0 P w K mg base A outer s H)
    (bound : BindsTo s (PySem.W.fnOf nmF qualF prm bd scp dflt kwd docv pmv anv cdv ctv) ag (prs.zip us)) (rel : Vals vs us) (wish : sp vs H Q E) :
    codeAny (model P w) A (.call (.ref f) ag) (CR CX outer P w H s Q E) s := by
  have written : K.In s.heap := entry.mod.kin.keeps (fun b o e => (entry.bs b o e).1)
  have roomy : s.heap.NoLimit := entry.mod.nolimit.keeps (fun b o e => (entry.bs b o e).1)
  refine codeAny_call_function room.depth (written _ _ stands) rfl sc.co sc.gen rfl (PySem.W.codeRec_of written code) (bound _ _ _ _ ?_)
  refine wpAny_newFunctionEnv_cells sc.kind ?kinds ?body
  case kinds =>
    rintro ⟨n, v⟩ hn
    have inP := (List.of_mem_zip hn).1
    cases sc.par n inP with
    | inl q => exact Or.inl q
    | inr q => exact Or.inr ⟨q, PySem.W.cellsFrom_some _ _ _ (Or.inl q)⟩
  case body =>
    intro env eqn s1 fresh
    subst eqn
    refine ⟨roomy.keeps fresh.toInCall.keep, codeAny_func ?_⟩
    obtain ⟨t, steps, holds⟩ := inner outer s H vs Q E (room.deeper _) wish
    have inv := inv_start (CX := CX) (mg := mg) (base := base) (E := E) sc room.hd entry (count _ _ _ _ wish) rel fresh
    refine wpAny_mono (steps.run [] s1 (start names vs) H _ inv holds) ?_ (fun _ _ q => q)
    intro flow s' got
    cases flow with
    | ret u =>
      obtain ⟨v, σ', H', J, rv, q⟩ := got
      exact ⟨v, H', J.os, J.bare, J.base, J.hok, rv, q⟩
    | next =>
      obtain ⟨σ', H', J, q⟩ := got
      exact ⟨V.non, H', J.os, J.bare, J.base, J.hok, rfl, q⟩
    | brk => exact got.elim fun _ h => h.elim fun _ h => False.elim h.2
    | cont => exact got.elim fun _ h => h.elim fun _ h => False.elim h.2

/-- what the top's def promises at the outermost call alone -/
def Top (P : Program) (w : World) (K : PySem.W.Frag) (mg : Str → Option Value) (base : Heap) (k : Nat) (f : Addr) (fd : FuncData) (x : Str) (sp : Sp) : Prop :=
  ∀ (s : Shared) (H : Hp) (ag : Args) (u : Value) (v : V) (Q : VK), Env0 P w K mg base callerA [] s H → BindsTo s fd ag [(x, u)] → RelV v u → sp [v] H Q (fun _ _ _ => False) →
    codeAny (model P w) callerA (.call (.ref f) ag) (CR CX0 [] P w H s Q (fun _ _ _ => False)) s

theorem atTop {P : Program} {w : World} {K : PySem.W.Frag} {mg : Str → Option Value} {base : Heap} {k : Nat} {f : Addr} {fd : FuncData} {x y qual : Str} {st : Stmt} {names : List Str} {sp : Sp}
    (F : Fun K y qual st f fd) (sc : FnScope names [x] (defScope st)) (room : Room (k + 1) callerA) (count : ∀ vs H Q E, sp vs H Q E → vs.length = 1)
    (inner : ∀ (cdv : Value) (outer : List Env) (s : Shared) (H : Hp) (vs : List V) (Q : VK) (E : XK), Room k (callerA.deeper (envOfC qual (defScope st) s.heap.objs.size f cdv)) → sp vs H Q E →
      ∃ t, PSs (cxOf CX0 P w K mg base names qual (defScope st) f cdv callerA outer s H E).nox (defBody st) t ∧ t { nx := fun _ H' => Q .non H', rt := Q } (start names vs) H) :
    Top P w K mg base k f fd x sp := by
  intro s H ag u v Q e0 hb hv hs
  obtain ⟨oc, od, kV, doc, pm, an, cdv, ct, osl, rfl, lk, hcd⟩ := F.ex
  refine fnAt (us := [u]) (vs := [v]) lk hcd sc count (fun outer s' H' vs' Q' E' room' wish => ?_) room e0 hb (.cons hv .nil) hs
  obtain ⟨t, h, q⟩ := inner cdv outer s' H' vs' Q' E' room' wish
  exact ⟨t, h.nox, q⟩

/-- from the def's promise at the outermost call to the row's claim about that call -/
theorem lawAt {P : Program} {w : World} {K : PySem.W.Frag} {mg mb : Str → Option Value} {k : Nat} {fa a : Addr} {fd : FuncData} {x : Str} {sp : Sp} {s₁ : Shared} {cells : List Value} {nums : List Int}
    (inK : K.In s₁.heap) (nsM : s₁.heap.Ns mainGlobals mg) (nsB : s₁.heap.Ns builtinsNs mb) (boot : ∀ y : Str, y ≠ "__name__" → mb y = bootBuiltins y) (lim : s₁.heap.NoLimit) (gens : s₁.gens = #[])
    (script : s₁.heap.get? a = some { cls := .type "list", data := .seq cells.toArray }) (are : IntsAre cells nums) (few : nums.length ≤ sizeLine)
    (main : ∀ base : Heap, K.In base → base.Ns mainGlobals mg → Top P w K mg base k fa fd x sp) (binds : ∀ (s : Shared) (u : Value), BindsTo s fd ⟨[u], []⟩ [(x, u)])
    (told : ∀ H : Hp, Only H → SqL K H a (nums.map V.int) → sp [.ref a] H (fun v _ => v = .bl true) fun _ _ _ => False) :
    codeAny (model P w) callerA (.call (.ref fa) ⟨[.ref a], []⟩) (fun r s' => r = .ok (.ret (.bool true)) ∧ OldK s₁.heap s'.heap ∧ s'.os = s₁.os ∧ AllBare s'.gens) s₁ := by
  have rel := vals_ints are
  have same := are.length
  suffices goal : ∀ H : Hp, Only H → SqL K H a (nums.map V.int) → HOk P w H s₁.heap → (∀ b o, H b = some o → b = a ∧ K.lookup a = none) →
      codeAny (model P w) callerA (.call (.ref fa) ⟨[.ref a], []⟩) (fun r s' => r = .ok (.ret (.bool true)) ∧ OldK s₁.heap s'.heap ∧ s'.os = s₁.os ∧ AllBare s'.gens) s₁ by
    cases look : K.lookup a with
    | some o =>
      have here := inK a o look
      rw [script] at here
      cases here
      exact goal (fun _ => none) (fun _ => Or.inl rfl) (Or.inr ⟨_, cells.toArray, _, look, rfl, rfl, rfl, (by rw [List.size_toArray, same]; exact few), (by simpa using rel)⟩) (fun b u z => by cases (show (none : Option HO) = some u from z)) (fun b o z => by cases (show (none : Option HO) = some o from z))
    | none =>
      let Ha : Hp := fun b => if b = a then some (.frz { cls := .type "list", data := .seq cells.toArray } (.lst (nums.map V.int))) else none
      have at_a : Ha a = some (.frz { cls := .type "list", data := .seq cells.toArray } (.lst (nums.map V.int))) := if_pos rfl
      have off : ∀ b o, Ha b = some o → b = a := fun b o z => by
        by_cases hb : b = a
        · exact hb
        · rw [show Ha b = none from if_neg hb] at z
          cases z
      refine goal Ha (fun b => ?_) (Or.inl (Or.inr ⟨_, at_a⟩)) (fun b u z => ?_) (fun b o z => ⟨off b o z, look⟩)
      · by_cases hb : b = a
        · exact Or.inr ⟨_, _, if_pos hb⟩
        · exact Or.inl (if_neg hb)
      · obtain rfl := off b u z
        rw [at_a] at z
        cases z
        exact ⟨script, by rw [List.length_map]; exact few, cells, _, rel, script⟩
  intro H only seq hok apart
  have free : ∀ {b : Addr} {o : Obj}, s₁.heap.get? b = some o → (∀ u, H b = some u → False) → (hidT s₁.heap H).get? b = some o := fun {b o} e n =>
    hidT_get e (by
      cases q : H b with
      | none => rfl
      | some u => exact (n u q).elim)
  have nsH : ∀ {b : Addr} {m : Str → Option Value}, s₁.heap.Ns b m → (hidT s₁.heap H).Ns b m := by
    rintro b m ⟨o, es, ep, e, d, r⟩
    refine ⟨o, es, ep, free e fun u z => ?_, d, r⟩
    obtain ⟨rfl, _⟩ := apart b u z
    rw [script] at e
    cases e
    cases (show Data.seq cells.toArray _ = Data.dict es ep from d)
  have kH : K.In (hidT s₁.heap H) := fun b o e => free (inK b o e) fun u z => by
    obtain ⟨rfl, n⟩ := apart b u z
    rw [n] at e
    cases e
  have mod : Mod K mg (hidT s₁.heap H) := ⟨kH, nsH nsM, ⟨mb, nsH nsB, boot⟩, let ⟨mc, h1, h2⟩ := lim; ⟨mc, nsH h1, h2⟩⟩
  have entry : Env0 P w K mg (hidT s₁.heap H) callerA [] s₁ H :=
    ⟨rfl, mod, fun b o e => of_hidT e, Nat.le_of_eq (hidT_size _ _), trivial, fun b hb => absurd (show b ∈ ([] : List Addr) from hb) (by simp), hok, .of_eq gens⟩
  refine codeAny_mono (main _ kH (nsH nsM) s₁ H ⟨[.ref a], []⟩ (.ref a) (.ref a) _ entry (binds s₁ (.ref a)) rfl (told H only seq)) ?_
  intro r s' got
  match r, got with
  | .ok (.ret u), got =>
    obtain ⟨v, H', os, bare, un, hok', rv, q⟩ := got
    obtain rfl : v = .bl true := q
    obtain rfl : u = Value.bool true := rv
    refine ⟨rfl, OldK.of_keep fun b o e => ?_, os, bare⟩
    rcases only b with z | ⟨ob, xs, z⟩
    · exact un.keep b o e z (by intro y; exact absurd (show b ∈ ([] : List Addr) from y) (by simp)) (by simp)
    · obtain ⟨e1, _⟩ := hok b _ z
      obtain ⟨e2, _⟩ := hok' b _ (un.frzs b ob _ z)
      rw [e] at e1
      cases e1
      exact e2

/-- the goal that k_head leaves, from the law's promise at the outermost call -/
theorem walkAt {l : PySem.W.OpenLaw} {n k : Nat} {q : Program} {loose : List Str} {XP : (Str → Option Value) → Heap → Prop} {YP : World → Heap → Prop} {d : DefRec} {K : Params → PySem.W.Frag} {sp : World → Sp} {x : Str}
    (most : l.most = some n) (line : n ≤ sizeLine) (plain : d.params.defaults = []) (inK : ∀ (w : World) (h : Heap), YP w h → (K w.params).In h)
    (F : ∀ (w : World) (mg : Str → Option Value) (fa : Addr) (h : Heap), (K w.params).In h → h.Ns mainGlobals mg → mg d.name = some (.ref fa) →
      ∃ fd : FuncData, (∀ (s : Shared) (u : Value), BindsTo s fd ⟨[u], []⟩ [(x, u)]) ∧ ∀ base : Heap, (K w.params).In base → base.Ns mainGlobals mg → Top l.prog w (K w.params) mg base k fa fd x (sp w))
    (told : ∀ (w : World) (H : Hp) (a : Addr) (ns : List Int), ns.length ≤ n → Only H → SqL (K w.params) H a (ns.map V.int) → sp w [.ref a] H (fun v _ => v = .bl true) fun _ _ _ => False) :
    PySem.W.WalkO q loose XP YP l.row.toRowW d [] (fun f vs => PySem.call f vs) := by
  refine Att.attach_call most plain ?_
  intro w s₀ s₁ mg mb fa o pm cd doc a vs ns G Y ho hd hcd hmg hobj hints hlen hg
  obtain ⟨fd, hb, hF⟩ := F w mg fa _ (inK w _ Y) G.T.g hmg
  exact lawAt (inK w _ Y) G.T.g G.T.b G.T.builtins G.T.nolimit hg hobj hints (Nat.le_trans hlen line) hF hb fun H hO hS => told w H a ns hlen hO hS

/-! ### repr of data, where no repr is under way -/
def rReprD (K : PySem.W.Frag) : List V → Hp → VK → Prop := fun xs H Q => ∃ a d, xs = [.ref a] ∧ Dp K H (.ref a) d ∧ d.showable = true ∧ d.hasDict = false ∧ d.depth ≤ 40 ∧ d.shown.length ≤ sizeLine ∧ Q (.str d.shown) H
theorem call_reprD {X : Cx} (hg : X.A.guards = some []) (hu : X.A.units + 64 < cLine) : CallR X (.builtin "repr") (rReprD X.K) := by
  intro pins s σ H xs us Q I r h
  obtain ⟨a, d, rfl, hd, sh, nd, dep, sz, q⟩ := h
  obtain ⟨u, rfl, rv⟩ := vals1 r
  obtain rfl : u = Value.ref a := rv
  obtain ⟨as, rd⟩ := Dp.reads I d _ _ hd (show RelV (.ref a) (.ref a) from rfl)
  refine repr_of_reads' rd sh (by rw [nd]; exact fun z => nomatch z) hg (by omega) (fun b o e => e) (fun h' u tk keep => ?_) sz
  exact ⟨.str _, H, I.kept keep, ⟨_, rfl⟩, q⟩

/-! ### f(k = v, ..): keywords alone -/
section
variable {X : Cx} {CX : CXT} {k : Nat} {f : Addr} {fd : FuncData} {ps ks : List Str} {sp : Sp} {E : XK} {x : Str} {p pos : Pos} {kws : List Keyword} {tk : TA} {g : List Value → List Value → List Value} {gV : List V → List V → List V}
theorem pe_callK0 (F : FnOk X.prog X.w X.K X.mg X.base CX k f fd ps sp) (hr : Room k X.A) (hg : Gl X x) (hm : X.mg x = some (.ref f)) (hk : PySem.W.keepIn X.K (.ref f) = true) (hb : KBn X.K fd ps 0 ks g gV) (hx : Passes CX X E) (hkw : PK X kws tk)
    (hall : (backToKw pos (keywordEach kws X.env)).all (·.1.isSome) = true := by rfl) (hks : (backToKw pos (keywordEach kws X.env)).filterMap (·.1) = ks := by rfl) (hdb : (x == ("__debug__" : Str)) = false := by decide)
    (hpl : ((backTo pos (starEach [] X.env)).any (·.1) || (backToKw pos (keywordEach kws X.env)).any (·.1.isNone)) = false := by rfl) :
    PE X (.Call (.Name x p) [] kws pos) (tCallN 0 ks.length sp gV E tNil tk) := by
  refine ⟨fun pins s σ H Q I h => ?_⟩
  refine wpAny_Call_Name_kw (ld_glob I hg hm ?_ hdb)
  refine PySem.W.callWith_KW0 (h₀ := X.base) I.ok.mod.kin hk hall ?_ hpl
  refine thn (hkw.run pos pins s σ H _ I h) ?_
  rintro ws s2 ⟨zs, H2, I2, rz, l1, l2, q2⟩
  refine ⟨I2.kIn, ?_⟩
  rw [hks]
  exact run_fnN F hr hb hx I2 (.nil) rz l1 l2 q2
end
end Sq

namespace Sq
open PySem PySem.Spec PyProof.Rows L2
/-- what a caller wants of a def of the text: it stands at its name and keeps its promise -/
structure Df (P : Program) (w : World) (K : PySem.W.Frag) (mg : Str → Option Value) (base : Heap) (k : Nat) (x : Str) (ps : List Str) (sp : Sp) : Prop where
  ex : ∃ f fd, FnOk P w K mg base CX0 k f fd ps sp ∧ mg x = some (.ref f) ∧ PySem.W.keepIn K (.ref f) = true ∧ Binds K fd ps []
section
variable {X : Cx} {k : Nat} {ps : List Str} {sp : Sp} {x : Str} {p pos : Pos} {e : Expr} {es : List Expr} {t : TA}
theorem pe_callD (D : Df X.prog X.w X.K X.mg X.base k x ps sp) (hr : Room k X.A) (hg : Gl X x) (ha : PA X (e :: es) t) (hdb : (x == ("__debug__" : Str)) = false := by decide)
    (he : starEach (e :: es) X.env = (false, eval e X.env) :: starEach es X.env := by rfl) (hpl : (backTo pos (starEach es X.env)).any (·.1) = false := by rfl) :
    PE X (.Call (.Name x p) (e :: es) [] pos) (tCall sp [] E0 t) := by
  obtain ⟨f, fd, F, g, kp, b⟩ := D.ex
  exact pe_call F hr hg g kp b .nil pass0 ha hdb he hpl
end
section
variable {P : Program} {w : World} {K : PySem.W.Frag} {mg : Str → Option Value} {base : Heap}
/-- a def without defaults, from its place in the text and its promise -/
theorem Df.mk' {k : Nat} {x : Str} {st : Stmt} {ps : List Str} {sp : Sp} {f : Addr} {fd : FuncData} (F : Fun K x x st f fd) (G : FnOk P w K mg base CX0 k f fd ps sp) (g : mg x = some (.ref f)) (b : Binds K fd ps []) : Df P w K mg base k x ps sp :=
  ⟨⟨f, fd, G, g, F.kp, b⟩⟩
end
end Sq

namespace Sq
open PySem PySem.Spec PyProof.Rows L2
/-- a def with defaults, no error leaves it -/
theorem okD {P : Program} {w : World} {K : PySem.W.Frag} {mg : Str → Option Value} {base : Heap} {x qual : Str} {prm : Arguments} {bd : List Stmt} {scp : Scope} {dvs : List V} {kws : List (Str × V)} {f : Addr} {fd : FuncData} {names ps : List Str} {k : Nat} {sp : Sp}
    (F : FunD K x qual prm bd scp dvs kws f fd) (sc : FnScope names ps scp) (count : ∀ vs H Q E, sp vs H Q E → vs.length = ps.length)
    (inner : ∀ (cdv : Value) (A : Around) (outer : List Env) (s : Shared) (H : Hp) (vs : List V) (Q : VK) (E : XK), Room k (A.deeper (envOfC qual scp s.heap.objs.size f cdv)) → sp vs H Q E →
      ∃ t, PSs (cxOf CX0 P w K mg base names qual scp f cdv A outer s H E).nox bd t ∧ t { nx := fun _ H' => Q .non H', rt := Q } (start names vs) H) : FnOk P w K mg base CX0 (k + 1) f fd ps sp :=
  F.ok sc count fun cdv A outer s H vs Q E hr h => let ⟨t, a, b⟩ := inner cdv A outer s H vs Q E hr h; ⟨t, a.nox, b⟩

/-- the same as Df for a call that leaves the last ones to their defaults dvs -/
structure Dv (P : Program) (w : World) (K : PySem.W.Frag) (mg : Str → Option Value) (base : Heap) (k : Nat) (x : Str) (ps : List Str) (dvs : List V) (sp : Sp) : Prop where
  ex : ∃ f fd ds, FnOk P w K mg base CX0 k f fd ps sp ∧ mg x = some (.ref f) ∧ PySem.W.keepIn K (.ref f) = true ∧ Vals dvs ds ∧ Binds K fd ps ds
/-- .. by keywords alone -/
structure Dk (P : Program) (w : World) (K : PySem.W.Frag) (mg : Str → Option Value) (base : Heap) (k : Nat) (x : Str) (ps ks : List Str) (gV : List V → List V → List V) (sp : Sp) : Prop where
  ex : ∃ f fd g, FnOk P w K mg base CX0 k f fd ps sp ∧ mg x = some (.ref f) ∧ PySem.W.keepIn K (.ref f) = true ∧ KBn K fd ps 0 ks g gV
section
variable {X : Cx} {k : Nat} {ps ks : List Str} {sp : Sp} {x : Str} {p pos : Pos} {e : Expr} {es : List Expr} {t tk : TA} {dvs : List V} {gV : List V → List V → List V} {kws : List Keyword}
theorem pe_callV (D : Dv X.prog X.w X.K X.mg X.base k x ps dvs sp) (hr : Room k X.A) (hg : Gl X x) (ha : PA X (e :: es) t) (hdb : (x == ("__debug__" : Str)) = false := by decide)
    (he : starEach (e :: es) X.env = (false, eval e X.env) :: starEach es X.env := by rfl) (hpl : (backTo pos (starEach es X.env)).any (·.1) = false := by rfl) :
    PE X (.Call (.Name x p) (e :: es) [] pos) (tCall sp dvs E0 t) := by
  obtain ⟨f, fd, ds, F, g, kp, hd, b⟩ := D.ex
  exact pe_call F hr hg g kp b hd pass0 ha hdb he hpl
theorem pe_callKD (D : Dk X.prog X.w X.K X.mg X.base k x ps ks gV sp) (hr : Room k X.A) (hg : Gl X x) (hkw : PK X kws tk)
    (hall : (backToKw pos (keywordEach kws X.env)).all (·.1.isSome) = true := by rfl) (hks : (backToKw pos (keywordEach kws X.env)).filterMap (·.1) = ks := by rfl) (hdb : (x == ("__debug__" : Str)) = false := by decide)
    (hpl : ((backTo pos (starEach [] X.env)).any (·.1) || (backToKw pos (keywordEach kws X.env)).any (·.1.isNone)) = false := by rfl) :
    PE X (.Call (.Name x p) [] kws pos) (tCallN 0 ks.length sp gV E0 tNil tk) := by
  obtain ⟨f, fd, g, F, hm, kp, b⟩ := D.ex
  exact pe_callK0 F hr hg hm kp b pass0 hkw hall hks hdb hpl
end
theorem vals_nil {ds : List Value} (h : Vals [] ds) : ds = [] := by
  cases h
  rfl
end Sq

namespace Sq
open PySem PySem.Spec PyProof.Rows L2
theorem vals_rev : ∀ {zs : List V} {ws : List Value}, Vals zs ws → Vals zs.reverse ws.reverse
  | [], [], _ => .nil
  | _ :: _, _ :: _, .cons h t => by
    rw [List.reverse_cons, List.reverse_cons]
    exact (vals_rev t).append (.cons h .nil)
/-- keywords, where the def has defaults and no keyword-only parameters -/
theorem kbinds' {K : PySem.W.Frag} {x qual : Str} {prm : Arguments} {bd : List Stmt} {scp : Scope} {dvs : List V} {f : Addr} {fd : FuncData} {ps : List Str}
    (F : FunD K x qual prm bd scp dvs [] f fd) (n : Nat) (ks : List Str) (g : List Value → List Value → List Value) (gV : List V → List V → List V) (hd : dvs ≠ [])
    (rel : ∀ {vs : List V} {us : List Value} {zs : List V} {ws : List Value}, Vals vs us → Vals zs ws → Vals (gV vs zs) (g us ws))
    (h : ∀ (T : Addr) (kV doc pm : Value) (an : Option Addr) (cdv ct : Value) (us its ws : List Value), us.length = n → its.length = dvs.length → ws.length = ks.length →
      ∃ k, bindArgs (PySem.W.fnOf x qual prm bd scp (.ref T) kV doc pm an cdv ct) ⟨us, ks.zip ws⟩ = seqItems? (.ref T) >>= k ∧ k (some its.toArray) = pure (ps.zip (g us ws))) : KBn K fd ps n ks g gV := by
  obtain ⟨oc, od, dV, kV, doc, pm, an, cdv, ct, osl, rfl, lk, hcd, hD, hK⟩ := F.ex
  rcases hD with ⟨e, _⟩ | ⟨_, T, o, its, m, rfl, lT, oT, rT⟩
  · exact absurd e hd
  · refine ⟨fun s us ws X l1 l2 => ?_, rel⟩
    obtain ⟨k, e1, e2⟩ := h T kV doc pm an cdv ct us its ws l1 rT.length.symm l2
    refine BindsTo.of_looks fun M => ?_
    rw [e1]
    exact looks_items X lT oT (.of_pure e2)
end Sq

namespace Sq
open PySem PySem.Spec PyProof.Rows L2
/-- a test whose ways are told apart from what follows -/
theorem tell {c : TT} {σ : L2.St} {H : Hp} {Q : Bool → Hp → Prop} (T F : Hp → Prop) (h : ∀ Q' : Bool → Hp → Prop, (∀ H2, T H2 → Q' true H2) → (∀ H2, F H2 → Q' false H2) → c σ H Q') (hT : ∀ H2, T H2 → Q true H2) (hF : ∀ H2, F H2 → Q false H2) : c σ H Q := h Q hT hF
/-- a value that is told apart from what follows -/
theorem tellV {c : TE} {σ : L2.St} {H : Hp} {Q : VK} (T : V → Hp → Prop) (h : ∀ Q' : VK, (∀ v H2, T v H2 → Q' v H2) → c σ H Q') (hT : ∀ v H2, T v H2 → Q v H2) : c σ H Q := h Q hT
/-- a statement that goes on alone -/
theorem tellS {c : TS} {D : Ends} {σ : L2.St} {H : Hp} (T : L2.St → Hp → Prop) (h : ∀ N : L2.St → Hp → Prop, (∀ σ2 H2, T σ2 H2 → N σ2 H2) → c { D with nx := N } σ H) (hT : ∀ σ2 H2, T σ2 H2 → D.nx σ2 H2) : c D σ H := h D.nx hT
end Sq

set_option Elab.async false
set_option linter.all false
set_option maxRecDepth 100000
set_option maxHeartbeats 2000000
/-! Own errors whose __init__ says super().__init__(..) and stores its argument as value. -/
namespace SqX
open PySem PySem.W PySem.Calls PyProof.Rows PySem.HandSPX
def xA (p1 p2 : Pos) : Arguments := { posonlyargs := [], args := [{ arg := "self", annotation := none, pos := p1 }, { arg := "value", annotation := none, pos := p2 }], vararg := none, kwonlyargs := [], kw_defaults := [], kwarg := none, defaults := [] }
def xB (msg : Str) (j : Nat) (q0 q1 q2 q3 q4 q5 r1 r2 r3 r4 : Pos) : List Stmt :=
  [.Expr (.Call (.Attribute (.Call (.Name "super" q0) [] [] q1) "__init__" q2) [.Constant (.str msg) j q3] [] q4) q5, .Assign [.Attribute (.Name "self" r1) "value" r2] (.Name "value" r3) r4]
def xS : Scope := { kind := .function, names := [(PySem.Str.ofString "self", .local), (PySem.Str.ofString "value", .local), (PySem.Str.ofString "__class__", .free), (PySem.Str.ofString "super", .globalImplicit)], isGenerator := false, isCoroutine := false, more := [] }
/-- what the written part says of such a class at C, of its __init__ at fI -/
structure Er (K : Frag) (prog : Program) (C fI : Addr) (q : Str) : Prop where
  cls : ∃ nm qn N bs bm sn sub ab col dd k0 k1 k2 k3 k5, K.lookup C = some (excClassObj nm qn C N bs bm true sn sub ab col dd k0 k1 k2 k3 k5 "ValueError.__new__") ∧ refsVE bm = true
  sa : findIn K (.ref C) "__setattr__" = some (some (.builtin "object.__setattr__"))
  noV : findIn K (.ref C) "value" = some none
  iC : findIn K (.ref C) "__init__" = some (some (.ref fI))
  tC : typeIn K (.ref fI) = some (.type "function")
  kC : keepIn K (.ref C) = true
  exC : subIn K (.ref C) (.type "BaseException") = some true
  veC : subIn K (.ref C) (.type "ValueError") = some true
  tyC : typeIn K (.ref C) = some (.type "type")
  mC : mroIn K C (.ref C) = some true
  suC : ks_superIn K C C "__init__" = some (some (.builtin "ValueError.__init__"))
  third : nsIn K cStatics "thirdparty.any" = some none
  super : nsIn K mainGlobals "super" = some none
  top : (prog.main.scope.names.lookup ("super" : Str)).isSome = false
  fn : ∃ (oc : Value) (od : Option Addr) (doc pm : Value) (an : Option Addr) (ct : Value) (osl : Array (Option Value)) (cda cc : Addr) (msg : Str) (j : Nat) (p1 p2 q0 q1 q2 q3 q4 q5 r1 r2 r3 r4 : Pos) (ccl : Value) (cdd : Option Addr) (vs : Array Value) (ccs : Array (Option Value)) (file : Str) (tf : Tok) (cl : Value) (cld : Option Addr) (csl : Array (Option Value)),
    K.lookup fI = some ⟨oc, od, .func (ksFn "__init__" q (xA p1 p2) (xB msg j q0 q1 q2 q3 q4 q5 r1 r2 r3 r4) xS .none .none doc pm an (.ref cda) ct cc), osl⟩ ∧ codeIn K (.ref cda) q = true ∧
    K.lookup cda = some ⟨ccl, cdd, .fields vs, ccs⟩ ∧ vs[2]? = some (.str file tf) ∧ ((prog.main.file : Str) == file) = true ∧ K.lookup cc = some ⟨cl, cld, .cell (some (.ref C)), csl⟩ ∧ (q2.endLine == q4.line) = true
/-- what __init__ leaves of a fresh exception at x -/
structure Inited (h h' : Heap) (x C dx t1 : Addr) (v : Value) : Prop where
  keep : ∀ b o, b ≠ x → h.get? b = some o → h'.get? b = some o
  obj : h'.get? x = some { cls := .ref C, dict := some dx, data := .fields #[.ref t1, .none, .none, .none, .bool false, .none] }
  dbig : h.objs.size ≤ dx
  dne : dx ≠ x
  ns : h'.Ns1 dx (fun y => if y = "value" then some v else none)
theorem one_size (v : Value) : [v].length ≤ sizeLine := by
  rw [sizeLine_eq]
  exact (by decide : 1 ≤ 16777216)
theorem call_is {o e : Expr} {name : Str} {apos pos : Pos} {env : Env} (hline : (apos.endLine == pos.line) = true) (he : starEach [e] env = [(false, eval e env)]) :
    eval (.Call (.Attribute o name apos) [e] [] pos) env = (do
      let ov ← attributeBase o name env (eval o env)
      standAt apos.atName
      let (f, first) ← holding [ov] (getMethod ov name (do return (← importBound o env).getD true))
      callWith pos f first (backTo pos (starEach [e] env)) []) := by
  rw [arm_eval_Call]
  have hf : methodCallForm 1 (backTo pos (starEach [e] env)) (backToKw pos (keywordEach [] env)) = true := by
    rw [he]
    rfl
  have hp : methodCallPos true o env apos pos = pure pos := by
    unfold methodCallPos
    simp [hline]
  refine congrArg _ (funext fun ov => congrArg _ (funext fun _ => ?_))
  show methodCall o name apos pos env ov 1 (backTo pos (starEach [e] env)) (backToKw pos (keywordEach [] env)) = _
  unfold methodCall
  rw [hf, hp]
  rfl
/-- the bound ValueError.__init__ called: the args are laid anew -/
theorem call_mw {prog : Program} {w : World} {A : Around} {E : Value → Shared → Prop} {h : Heap} {g : Array GenState} {d : Drawn} {t : Nat} {os : OsState}
    {nm qn : Str} {C N : Addr} {bs bm : List Value} {hdct : Bool} {sn : List Str} {sub : List Value} {ab : Bool} {col : Option Bool} {dd : Option Addr} {k0 k1 k2 k3 k5 : Option Value} {u e t0 : Addr} {rest : List Value} {Q : Value → Shared → Prop}
    (atC : h.get? C = some (excClassObj nm qn C N bs bm hdct sn sub ab col dd k0 k1 k2 k3 k5 "ValueError.__new__")) (atE : h.get? e = some (excO C t0)) (atU : h.get? u = some (kxs_mw "ValueError.__init__" e)) (line : rest.length ≤ sizeLine)
    (fin : ∀ h' t1, (∀ b o, b ≠ e → h.get? b = some o → h'.get? b = some o) → h'.get? e = some (excO C t1) → Q .none ⟨h', g, d, t, os⟩) :
    wpAny (model prog w) A (call (.ref u) rest) Q E ⟨h, g, d, t, os⟩ := by
  refine wpAny_call (codeAny_of_tree ?_)
  show wpAny _ A.in1 (callAny (.ref u) ⟨rest, []⟩) _ _ _
  simp only [callAny]
  refine wpAny_bind (wpAny_load atU ?_)
  simp only [kxs_mw, show (Value.type "method-wrapper" == Value.type "method" || Value.type "method-wrapper" == Value.type "builtin_function_or_method" || Value.type "method-wrapper" == Value.type "method-wrapper") = true by decide, if_true]
  refine W.KFB.if_so (by decide) ?_
  refine wpAny_bind (ESX.check_bound F.excBase_ValueError atC atE rfl ?_)
  refine wpAny_bind (wpAny_pure (wpAny_pure ?_))
  refine ⟨Code.quiet_builtin _ (by decide +kernel), codeAny_builtin F.excBase_ValueError.initEntry ?_⟩
  rw [Around.under_plainId F.excBase_ValueError.init.plain _]
  wp_walk
  refine fin _ h.objs.size (fun b o nb hb => ?_) ?_
  · exact (Heap.get?_update_other _ _ (Ne.symm nb)).trans (Heap.get?_push_of_some _ hb)
  · exact (Heap.get?_update_self _ (Heap.get?_push_of_some _ atE) rfl).trans rfl
section
variable {prog : Program} {w : World} {A : Around} {E : Value → Shared → Prop} {R : Result → Shared → Prop} {s : Shared} {K : Frag} {mg : Str → Option Value} {base : Heap} {C fI : Addr} {q : Str}
theorem init (T : Er K prog C fI q) {x t0 : Addr} {v : Value} {args : Args} (X : K.In s.heap) (hg : s.heap.Ns mainGlobals mg) (hlim : s.heap.NoLimit) {mb : Str → Option Value} (hb : s.heap.Ns builtinsNs mb) (boot : ∀ y : Str, y ≠ "__name__" → mb y = bootBuiltins y)
    (hx : s.heap.get? x = some (excO C t0)) (hnx : K.lookup x = none) (hroom : A.depth < recursionLimit)
    (hargs : ∀ fd : FuncData, (∃ p1 p2 bd doc pm an cda ct cc, fd = ksFn "__init__" q (xA p1 p2) bd xS .none .none doc pm an (.ref cda) ct cc) → BindsTo s fd args [("self", .ref x), ("value", v)])
    (hq : ∀ h' tk dx t1, Inited s.heap h' x C dx t1 v → R (.ok (.ret .none)) { s with heap := h', toks := tk }) :
    codeAny (model prog w) A (.call (.ref fI) args) R s := by
  obtain ⟨oc, od, doc, pm, an, ct, osl, cda, cc, msg, j, p1, p2, q0, q1, q2, q3, q4, q5, r1, r2, r3, r4, ccl, cdd, vs, ccs, file, tf, cl, cld, csl, ho, hcd, hcode, hvs, hfile, hcell, hline⟩ := T.fn
  obtain ⟨nm, qn, N, bs, bm, sn, sub, ab, col, dd, k0, k1, k2, k3, k5, hC, hbm⟩ := T.cls
  have hcl : clsIn K C = some { name := nm, bases := bs, mro := .ref C :: bm, ns := N, qualname := qn, hasDict := true, slotNames := sn, subclasses := sub, abstract := ab, collection := col, hasDel := false } := by unfold clsIn; rw [hC] <;> rfl
  refine ks_codeAny_call_defAt (fd := ksFn "__init__" q (xA p1 p2) (xB msg j q0 q1 q2 q3 q4 q5 r1 r2 r3 r4) xS .none .none doc pm an (.ref cda) ct cc) (binds := [("self", .ref x), ("value", v)]) hroom (X _ _ ho) rfl hlim (codeRec_of X hcd) rfl
    (hargs _ ⟨_, _, _, _, _, _, _, _, _, rfl⟩) (show ∀ x ∈ xS.names, x.2 ≠ .cell by decide) (fun y hy => ?loc) (fun h₁ hns k => ?_)
  case loc =>
    rcases List.mem_cons.mp hy with rfl | hy
    · exact (show xS.names.lookup ("self" : Str) = some .local by decide)
    · obtain rfl := List.mem_singleton.mp hy
      exact (show xS.names.lookup ("value" : Str) = some .local by decide)
  have X₁ : K.In h₁ := X.keeps k
  have hx₁ := k _ _ hx
  obtain ⟨hh, g, d, t, os⟩ := s
  show _root_.PySem.wpAt _ _ _ (execs (xB msg j q0 q1 q2 q3 q4 q5 r1 r2 r3 r4) _) _ _ _
  refine ks_wpAt_execs_cons (ks_wpAt_Expr_any (ks_wpAt_MethodCall ?_ (call_is hline rfl)))
  obtain ⟨oD, hD1, hD2⟩ : ∃ oD, h₁.get? C = some oD ∧ ∃ cdD, oD.data = .cls cdD := ⟨_, X₁ _ _ hC, _, rfl⟩
  obtain ⟨cdD, hD2⟩ := hD2
  have I₁ : InstAt h₁ x (excO C t0) C none := ⟨hx₁, rfl, rfl, trivial⟩
  refine ks_wpAt_super_base (f := fI) (cc := cda) rfl rfl rfl rfl (X₁ _ _ ho) rfl rfl rfl (X₁ _ _ hcode) rfl hvs hfile T.top ?_
  refine ks_loadName_global rfl rfl (loadGlobal_builtin (hg.keeps k) (mg_none_of X hg T.super) (hb.keeps k) ((boot _ (by decide +kernel)).trans (by decide +kernel)) ⟨rfl, ?_⟩)
  refine wpAny_loadName_free rfl rfl rfl ⟨_, X₁ _ _ hcell, rfl⟩ ?_
  refine wpAny_loadName_local (v := .ref x) rfl rfl hns rfl ?_
  refine ks_wpAny_isType_cls hD1 hD2 ⟨rfl, ?_⟩
  refine ks_wpAny_call_super hD1 hD2 I₁.at_ I₁.cls (fun c e => by cases e) (looks_mroIn X₁ T.mC) (fun h₂ e₂ k₂ => ?_)
  have X₂ : K.In h₂ := X₁.keeps k₂
  have hx₂ := k₂ _ _ hx₁
  have I₂ : InstAt h₂ x (excO C t0) C none := ⟨hx₂, rfl, rfl, trivial⟩
  have al := T.suC
  unfold ks_superIn at al
  rw [hcl] at al
  refine kxs_getMethod kxs_ValueError e₂ (looks_opaque X₂ T.third) (l₀ := .ref C :: bm) ((looks_clsIn X₂ hcl).andThen .now) rfl X₂ al (I₂.type.andThen (looks_subIn X₂ T.veC)) (ks_ne X₂ I₂ hcl) (by decide) ?_
  have k₃ : ∀ b o, h₂.get? b = some o → (h₂.push (kxs_mw "ValueError.__init__" x)).get? b = some o := fun b o e => Heap.get?_push_of_some _ e
  have hu : (h₂.push (kxs_mw "ValueError.__init__" x)).get? h₂.objs.size = some (kxs_mw "ValueError.__init__" x) := Heap.get?_push_at rfl rfl
  refine kxs_callWith (i := "ValueError.__init__") (x := x) rfl (evalArgs_plain ?_)
  refine Calls.spliced_cons ?_
  show wpAny _ _ (eval (.Constant (.str msg) j q3) _) _ _ _
  refine Calls.Constant_str ?_
  refine Calls.spliced_nil ⟨hu, ?_⟩
  refine call_mw (k₃ _ _ (X₂ _ _ hC)) (k₃ _ _ hx₂) hu (one_size _) (fun h₄ t1 k₄ hx₄ => ?_)
  have kk : ∀ b o, b ≠ x → hh.get? b = some o → h₄.get? b = some o := fun b o nb e => k₄ b o nb (k₃ _ _ (k₂ _ _ (k _ _ e)))
  have X₄ : K.In h₄ := fun a o e => kk a o (fun z => by rw [z, hnx] at e; cases e) (X a o e)
  have nx : hh.objs.size ≠ x := fun z => by
    have := Heap.lt_size hx
    rw [← z] at this
    exact absurd this (Nat.lt_irrefl _)
  have ns₄ : h₄.Ns hh.objs.size (fun y => List.lookup y [(("self" : Str), Value.ref x), ("value", v)].reverse) :=
    hns.at fun o e => k₄ _ _ nx (k₃ _ _ (k₂ _ _ e))
  -- self.value = value
  refine ks_wpAt_execs_cons (wpAt_of_wpAny (plainObj_wpAny_Assign_Attribute ?_))
  refine wpAny_Name (wpAny_loadName_local (v := v) rfl rfl ns₄ rfl ?_) (by decide)
  refine wpAny_Name (wpAny_loadName_local (v := .ref x) rfl rfl ns₄ rfl ?_) (by decide)
  refine set_plain X₄ (ox := excO C t1) (od := none) ⟨hx₄, rfl, rfl, trivial⟩ T.sa ?_
  refine exc_osa X₄ hx₄ hcl (show refsVE (.ref C :: bm) = true from hbm) rfl T.noV (fun h₅ tk₅ dx k₅ dn dne hx₅ hn₅ => ?_)
  have big : hh.objs.size ≤ dx := by
    have l1 : hh.objs.size < h₁.objs.size := hns.lt
    have l2 : h₁.objs.size < h₂.objs.size := Heap.lt_size e₂
    have nu : h₂.objs.size ≠ x := Nat.ne_of_gt (Heap.lt_size hx₂)
    have l4 : h₂.objs.size < h₄.objs.size := Heap.lt_size (k₄ _ _ nu hu)
    have l5 : h₄.objs.size ≤ dx := dn
    exact Nat.le_trans (Nat.le_of_lt (Nat.lt_trans l1 (Nat.lt_trans l2 l4))) l5
  refine wpAt_of_wpAny (wpAny_execs_nil ?_)
  exact hq h₅ tk₅ dx t1 ⟨fun b o nb e => k₅ b o nb (kk b o nb e), hx₅, big, dne, hn₅⟩
end
end SqX

set_option Elab.async false
set_option linter.all false
set_option maxRecDepth 100000
set_option maxHeartbeats 2000000
namespace SqX
open PySem PySem.W PySem.Calls PyProof.Rows PySem.HandSPX
/-- a new error at e, its dict at d -/
structure New (h h' : Heap) (e C d t1 : Addr) (v : Value) : Prop where
  keep : ∀ b o, h.get? b = some o → h'.get? b = some o
  big : h.objs.size ≤ e
  obj : h'.get? e = some { cls := .ref C, dict := some d, data := .fields #[.ref t1, .none, .none, .none, .bool false, .none] }
  dbig : h.objs.size ≤ d
  dne : d ≠ e
  ns : h'.Ns1 d (fun y => if y = "value" then some v else none)
section
variable {prog : Program} {w : World} {A : Around} {E : Value → Shared → Prop} {R : Result → Shared → Prop} {K : Frag} {mg mb : Str → Option Value} {C fI : Addr} {q : Str}
theorem bind2 {s : Shared} {q : Str} {x v : Value} : ∀ fd : FuncData, (∃ p1 p2 bd doc pm an cda ct cc, fd = ksFn "__init__" q (xA p1 p2) bd xS .none .none doc pm an (.ref cda) ct cc) → BindsTo s fd ⟨[x, v], []⟩ [("self", x), ("value", v)] := by
  rintro fd ⟨p1, p2, bd, doc, pm, an, cda, ct, cc, rfl⟩
  exact BindsTo.of_eq (by first | rfl | with_unfolding_all rfl)
theorem bindK {s : Shared} {q : Str} {x v : Value} : ∀ fd : FuncData, (∃ p1 p2 bd doc pm an cda ct cc, fd = ksFn "__init__" q (xA p1 p2) bd xS .none .none doc pm an (.ref cda) ct cc) → BindsTo s fd ⟨[x], [("value", v)]⟩ [("self", x), ("value", v)] := by
  rintro fd ⟨p1, p2, bd, doc, pm, an, cda, ct, cc, rfl⟩
  exact BindsTo.of_eq (by first | rfl | with_unfolding_all rfl)
theorem made {s : Shared} (T : Er K prog C fI q) {v : Value} (X : K.In s.heap) (hg : s.heap.Ns mainGlobals mg) (hlim : s.heap.NoLimit) (hb : s.heap.Ns builtinsNs mb) (boot : ∀ y : Str, y ≠ "__name__" → mb y = bootBuiltins y)
    (hroom : A.depth + 1 < recursionLimit)
    (fin : ∀ h' tk e d t1, New s.heap h' e C d t1 v → R (.ok (.ret (.ref e))) { s with heap := h', toks := tk }) :
    codeAny (model prog w) A (.call (.ref C) ⟨[v], []⟩) R s := by
  obtain ⟨nm, qn, N, bs, bm, sn, sub, ab, col, dd, k0, k1, k2, k3, k5, hC, hbm⟩ := T.cls
  obtain ⟨hp, g, dr, tk, os⟩ := s
  have k : ∀ b o, hp.get? b = some o → ((hp.push (kdv_tup [v])).push (excO C hp.objs.size)).get? b = some o := fun b o e => Heap.get?_push_of_some _ (Heap.get?_push_of_some _ e)
  have atE : ((hp.push (kdv_tup [v])).push (excO C hp.objs.size)).get? (hp.objs.size + 1) = some (excO C hp.objs.size) := by heap_get
  have off : K.lookup (hp.objs.size + 1) = none := by
    cases e : K.lookup (hp.objs.size + 1) with
    | none => rfl
    | some o => exact absurd (Nat.lt_of_succ_lt (Heap.lt_size (X _ _ e))) (Nat.lt_irrefl _)
  refine call_own F.excBase_ValueError (fun Y => refsVE_contains Y bm hbm) (X _ _ hC) (looks_findIn X T.iC) (fun self => bind_fn X self T.tC) (one_size v) ?_
  refine init (s := ⟨(hp.push (kdv_tup [v])).push (excO C hp.objs.size), g, dr, tk, os⟩) T (X.keeps k) (hg.keeps k) (hlim.keeps k) (hb.keeps k) boot atE off (show A.depth + 1 < recursionLimit from hroom) bind2 ?_
  rintro h' tk' dx t1 ⟨kp, ob, dn, dne, ns⟩
  have old : ∀ b o, hp.get? b = some o → h'.get? b = some o := fun b o e => kp b o (Nat.ne_of_lt (Nat.lt_succ_of_lt (Heap.lt_size e))) (k b o e)
  have z : hp.objs.size + 1 + 1 ≤ dx := by
    first
      | (simpa only [Heap.size_push] using dn)
      | exact dn
      | (have y := dn; rw [Heap.size_push, Heap.size_push] at y; exact y)
  exact ⟨rfl, fin h' tk' (hp.objs.size + 1) dx t1 ⟨old, Nat.le_succ _, ob, Nat.le_trans (Nat.le_trans (Nat.le_succ _) (Nat.le_succ _)) z, dne, ns⟩⟩
end
end SqX

set_option Elab.async false
set_option linter.all false
set_option maxRecDepth 100000
set_option maxHeartbeats 4000000
/-! The same by keyword. -/
namespace SqX
open PySem PySem.W PySem.Calls PySem.HandSPX
section
variable {M : Model} {prog : Program} {w : World} {A : Around} {E : Value → Shared → Prop} {R : Result → Shared → Prop} {h : Heap} {g : Array GenState} {d : Drawn} {t : Nat} {os : OsState}
variable {nm qn : Str} {C N : Addr} {bs bm : List Value} {sn : List Str} {sub : List Value} {ab : Bool} {col : Option Bool} {dd : Option Addr} {k0 k1 k2 k3 k5 : Option Value} {v : Value}
abbrev VC (nm qn : Str) (C N : Addr) (bs bm : List Value) (sn : List Str) (sub : List Value) (ab : Bool) (col : Option Bool) (dd : Option Addr) (k0 k1 k2 k3 k5 : Option Value) : Obj := excClassObj nm qn C N bs bm true sn sub ab col dd k0 k1 k2 k3 k5 "ValueError.__new__"
theorem newCheckK (refs : refsVE bm = true) {Q : Unit → Shared → Prop} (atC : h.get? C = some (VC nm qn C N bs bm sn sub ab col dd k0 k1 k2 k3 k5)) (fin : Q () ⟨h, g, d, t, os⟩) :
    wpAny M A (checkBuiltinCall "ValueError.__new__" ⟨[.ref C], [("value", v)]⟩) Q E ⟨h, g, d, t, os⟩ := by
  have F := F.excBase_ValueError
  have has : (Value.ref C :: bm).contains (.type "ValueError") = true := by
    rw [List.contains_cons, refsVE_contains _ _ refs, F.hasB, Bool.or_true]
  have star := F.noStar
  simp only [checkBuiltinCall, F.newKind, F.newSplit, F.newRow]
  repeat (first
    | refine wpAny_loadPart_at atC ?_
    | (refine wpAny_isSubtype_exc atC ?_; rw [has])
    | refine wpAny_staticBase_exc atC ?_
    | refine wpAny_madeBy_exc atC ?_
    | simp only [bne_self_eq_false, Bool.false_eq_true, if_false]
    | wp_step)
  exact fin
theorem newK (refs : refsVE bm = true) (atC : h.get? C = some (VC nm qn C N bs bm sn sub ab col dd k0 k1 k2 k3 k5))
    (fin : R (.ok (.ret (.ref (h.objs.size + 1)))) ⟨(h.push (kdv_tup [])).push (excO C h.objs.size), g, d, t, os⟩) :
    codeAny (model prog w) A (.builtin "ValueError.__new__" ⟨[.ref C], [("value", v)]⟩) R ⟨h, g, d, t, os⟩ := by
  have F := F.excBase_ValueError
  have ends := F.ends
  have has : ∀ Y : String, (Value.ref C :: bm).contains (.type Y) = veTail.contains (.type Y) := fun Y => by
    rw [List.contains_cons, refsVE_contains _ _ refs]
    rfl
  have yB : (Value.ref C :: bm).contains (.type "ValueError") = true := (has _).trans (by decide +kernel)
  have nA : (Value.ref C :: bm).contains (.type "AttributeError") = false := (has _).trans (by decide +kernel)
  have nN : (Value.ref C :: bm).contains (.type "NameError") = false := (has _).trans (by decide +kernel)
  refine codeAny_builtinAt F.entry ?_
  unfold Builtin.«BaseException.__new__»
  refine wpAt_bind ?_
  show wpAt _ _ _ (stack >>= _) _ _ _
  refine wpAt_bind (wpAt_stack fun p below => wpAt_of_wpAny ?_)
  wp_walk
  refine wpAt_of_wpAny ?_
  rw [F.owner]
  repeat (first
    | with_reducible refine wpAny_madeHere_exc F.canon atC ?_
    | with_reducible refine wpAny_loadPart_at atC ?_
    | (with_reducible refine wpAny_isSubtype_exc atC ?_; first | rw [yB] | rw [nA] | rw [nN])
    | wp_step)
  show R _ _
  rw [Heap.size_push]
  exact fin
theorem typeCheckK {Q : Unit → Shared → Prop} (atC : h.get? C = some (VC nm qn C N bs bm sn sub ab col dd k0 k1 k2 k3 k5)) (fin : Q () ⟨h, g, d, t, os⟩) :
    wpAny M A (checkBuiltinCall "type.__call__" ⟨[.ref C], [("value", v)]⟩) Q E ⟨h, g, d, t, os⟩ := by
  have f3 := tc_sub
  have isT : (⟨h, g, d, t, os⟩ : Shared).TypeIs (.ref C) "type" := ⟨_, atC, rfl⟩
  simp only [checkBuiltinCall, tc_kind, tc_split]
  repeat (any_goals (first
    | assumption
    | with_reducible refine wpAny_loadPart_at atC ?_
    | with_reducible refine wpAny_onRaise ?_
    | with_reducible refine wpAny_map ?_
    | wp_step))
theorem typeCallK (refs : refsVE bm = true) {fI : Addr} {Q : Fin → Shared → Prop} (atC : h.get? C = some (VC nm qn C N bs bm sn sub ab col dd k0 k1 k2 k3 k5))
    (lookI : W.Looks (model prog w) h (typeLookup (.ref C) "__init__") (some (.ref fI))) (bindI : ∀ self, W.Looks (model prog w) h (bindSpecial (.ref fI) self) (.ref fI, [self]))
    (fin : codeAny (model prog w) A (.call (.ref fI) ⟨[.ref (h.objs.size + 1)], [("value", v)]⟩)
      (fun r s' => match r with | .ok (.ret u) => u = .none ∧ Q (.done (.ret (.ref (h.objs.size + 1)))) s' | .ok _ => False | .error e => E e s')
      ⟨(h.push (kdv_tup [])).push (excO C h.objs.size), g, d, t, os⟩) :
    wpAny (model prog w) A (Builtin.«type.__call__» ⟨[.ref C], [("value", v)]⟩) Q E ⟨h, g, d, t, os⟩ := by
  have F := F.excBase_ValueError
  repeat (first
    | with_reducible refine wpAny_loadPart_at atC ?_
    | with_reducible refine wpAny_madeBy_exc atC ?_
    | wp_step)
  refine codeAny_call_builtin_code (Code.quiet_builtin _ F.quiet) (newCheckK refs atC ?_)
  refine newK refs atC ?_
  show wpAny _ _ _ _ _ _
  have kp : ∀ b o, h.get? b = some o → ((h.push (kdv_tup [])).push (excO C h.objs.size)).get? b = some o := fun b o e => Heap.get?_push_of_some _ (Heap.get?_push_of_some _ e)
  have atC1 := kp _ _ atC
  have atE : ((h.push (kdv_tup [])).push (excO C h.objs.size)).get? (h.objs.size + 1) = some (excO C h.objs.size) := by heap_get
  have own : (Value.ref C :: bm).contains (.ref C) = true := by simp
  have look1 := lookI.keeps kp
  have bind1 := (bindI (.ref (h.objs.size + 1))).keeps kp
  unfold isInstance
  repeat (first
    | with_reducible refine wpAny_loadPart_at atE ?_
    | (with_reducible refine wpAny_isSubtype_exc atC1 ?_; rw [own])
    | wp_step)
  show wpAny _ _ (typeLookup (.ref C) _) _ _ _
  refine look1.at ?_
  refine wpAny_holding (wpAny_bind (bind1.at ?_))
  refine wpAny_bind (wpAny_call (codeAny_mono fin fun r s' z => ?_))
  match r, z with
  | .error e, z => exact z
  | .ok (.ret u), z =>
    obtain ⟨rfl, z⟩ := z
    first
      | exact wpAny_pure (wpAny_pure z)
      | (wp_walk; exact z)
theorem callK (refs : refsVE bm = true) {fI : Addr} (atC : h.get? C = some (VC nm qn C N bs bm sn sub ab col dd k0 k1 k2 k3 k5))
    (lookI : W.Looks (model prog w) h (typeLookup (.ref C) "__init__") (some (.ref fI))) (bindI : ∀ self, W.Looks (model prog w) h (bindSpecial (.ref fI) self) (.ref fI, [self]))
    (fin : codeAny (model prog w) (A.under (.builtin "type.__call__" ⟨[.ref C], [("value", v)]⟩)) (.call (.ref fI) ⟨[.ref (h.objs.size + 1)], [("value", v)]⟩) (W.InitBack (h.objs.size + 1) R)
      ⟨(h.push (kdv_tup [])).push (excO C h.objs.size), g, d, t, os⟩) :
    codeAny (model prog w) A (.call (.ref C) ⟨[], [("value", v)]⟩) R ⟨h, g, d, t, os⟩ := by
  have f1 := tc_lookup
  have f2 := tc_bind (.ref C)
  have isT : (⟨h, g, d, t, os⟩ : Shared).TypeIs (.ref C) "type" := ⟨_, atC, rfl⟩
  refine codeAny_of_tree ?_
  show wpAny _ _ (callAny (.ref C) _) _ _ _
  repeat (any_goals (first
    | assumption
    | with_reducible refine wpAny_loadPart_at atC ?_
    | wp_step))
  refine ⟨rfl, ?_⟩
  refine codeAny_call_builtin_at (Code.quiet_builtin _ (by decide +kernel)) entry_typeCall (typeCheckK atC (typeCallK refs atC lookI bindI ?_))
  refine codeAny_mono fin fun r s' z => ?_
  match r, z with
  | .error e, z => exact z
  | .ok (.ret u), z => exact z
end
section
variable {prog : Program} {w : World} {A : Around} {R : Result → Shared → Prop} {K : Frag} {mg mb : Str → Option Value} {C fI : Addr} {q : Str}
theorem madeK {s : Shared} (T : Er K prog C fI q) {v : Value} (X : K.In s.heap) (hg : s.heap.Ns mainGlobals mg) (hlim : s.heap.NoLimit) (hb : s.heap.Ns builtinsNs mb) (boot : ∀ y : Str, y ≠ "__name__" → mb y = bootBuiltins y)
    (hroom : A.depth + 1 < recursionLimit)
    (fin : ∀ h' tk e d t1, New s.heap h' e C d t1 v → R (.ok (.ret (.ref e))) { s with heap := h', toks := tk }) :
    codeAny (model prog w) A (.call (.ref C) ⟨[], [("value", v)]⟩) R s := by
  obtain ⟨nm, qn, N, bs, bm, sn, sub, ab, col, dd, k0, k1, k2, k3, k5, hC, hbm⟩ := T.cls
  obtain ⟨hp, g, dr, tk, os⟩ := s
  have k : ∀ b o, hp.get? b = some o → ((hp.push (kdv_tup [])).push (excO C hp.objs.size)).get? b = some o := fun b o e => Heap.get?_push_of_some _ (Heap.get?_push_of_some _ e)
  have atE : ((hp.push (kdv_tup [])).push (excO C hp.objs.size)).get? (hp.objs.size + 1) = some (excO C hp.objs.size) := by heap_get
  have off : K.lookup (hp.objs.size + 1) = none := by
    cases e : K.lookup (hp.objs.size + 1) with
    | none => rfl
    | some o => exact absurd (Nat.lt_of_succ_lt (Heap.lt_size (X _ _ e))) (Nat.lt_irrefl _)
  refine callK hbm (X _ _ hC) (looks_findIn X T.iC) (fun self => bind_fn X self T.tC) ?_
  refine init (s := ⟨(hp.push (kdv_tup [])).push (excO C hp.objs.size), g, dr, tk, os⟩) T (X.keeps k) (hg.keeps k) (hlim.keeps k) (hb.keeps k) boot atE off (show A.depth + 1 < recursionLimit from hroom) bindK ?_
  rintro h' tk' dx t1 ⟨kp, ob, dn, dne, ns⟩
  have old : ∀ b o, hp.get? b = some o → h'.get? b = some o := fun b o e => kp b o (Nat.ne_of_lt (Nat.lt_succ_of_lt (Heap.lt_size e))) (k b o e)
  have z : hp.objs.size + 1 + 1 ≤ dx := by
    first
      | (simpa only [Heap.size_push] using dn)
      | exact dn
      | (have y := dn; rw [Heap.size_push, Heap.size_push] at y; exact y)
  exact ⟨rfl, fin h' tk' (hp.objs.size + 1) dx t1 ⟨old, Nat.le_succ _, ob, Nat.le_trans (Nat.le_trans (Nat.le_succ _) (Nat.le_succ _)) z, dne, ns⟩⟩
end
end SqX

set_option Elab.async false
set_option linter.all false
set_option maxRecDepth 100000
set_option maxHeartbeats 2000000
/-! Own errors as values of the layer: made by position and by name, isinstance of them, their value. -/
namespace Sq
open PySem PySem.Spec PyProof.Rows L2
/-- an error of the class at C stands at a, its dict at d; it holds v -/
def ErrAt (H : Hp) (a d C : Addr) (v : V) : Prop := H a = some (exo a C (some d)) ∧ H d = some (exd d [(("value" : Str), v)])
theorem ErrAt.same {H H' : Hp} {a d C : Addr} {v : V} (s : Same H H') (e : ErrAt H a d C v) : ErrAt H' a d C v := ⟨s _ _ e.1, s _ _ e.2⟩
def tErr (C : Addr) (te : TE) : TE := fun σ H Q => te σ H fun v H1 => ∀ a d, H1 a = none → H1 d = none → d ≠ a → Q (.ref a) (upd (upd H1 d (exd d [(("value" : Str), v)])) a (exo a C (some d)))
section
variable {X : Cx} {C fI : Addr} {q : Str} {pins : List (Addr × Obj)} {σ : L2.St} {H : Hp} {s : Shared} {Q : VK}
/-- a made error comes into the layer's heap -/
theorem err_laid {h' : Heap} {e d t1 : Addr} {v : V} {u : Value} {tk : Nat} (I : Inv X pins σ H s) (r : RelV v u) (M : SqX.New s.heap h' e C d t1 u)
    (h : ∀ a d, H a = none → H d = none → d ≠ a → Q (.ref a) (upd (upd H d (exd d [(("value" : Str), v)])) a (exo a C (some d)))) : EP X pins σ Q (.ref e) { s with heap := h', toks := tk } := by
  have he : H e = none := I.hok.fresh M.big
  have hd : H d = none := I.hok.fresh M.dbig
  obtain ⟨G, g1, g2⟩ := restrict h' fun b => decide (b ≠ e)
  have gk : ∀ b, b ≠ e → G.get? b = h'.get? b := fun b hb => g1 b (decide_eq_true hb)
  have ge : G.get? e = none := g2 e (by simp)
  have old : ∀ b o, s.heap.get? b = some o → G.get? b = some o := fun b o z => (gk b (Nat.ne_of_lt (Nat.lt_of_lt_of_le (Heap.lt_size z) M.big))).trans (M.keep b o z)
  have up : ∀ b o, G.get? b = some o → h'.get? b = some o := fun b o z => by
    by_cases hb : b = e
    · rw [hb, ge] at z
      cases z
    · rw [← gk b hb]
      exact z
  have rel : ∀ f, RelO (List.lookup f [(("value" : Str), v)]) (if f = "value" then some u else none) := relO_put (fs := []) (mA := fun _ => none) r fun g => True.intro
  have nsG : G.Ns1 d (fun y => if y = "value" then some u else none) := M.ns.at fun o z => (gk d M.dne).trans z
  have J : Inv X pins σ (upd H d (exd d [(("value" : Str), v)])) { s with heap := G, toks := tk } := I.laid (t' := tk) old M.dbig (exd_ok nsG rel)
  have he2 : (upd H d (exd d [(("value" : Str), v)])) e = none := by rw [upd_ne (Ne.symm M.dne)]; exact he
  have J2 : Inv X pins σ (upd (upd H d (exd d [(("value" : Str), v)])) e (exo e C (some d))) { s with heap := h', toks := tk } := J.laidN (t' := tk) up ge he2 (exo_ok M.obj)
  exact ⟨.ref e, _, J2, rfl, h e d he hd M.dne⟩
/-- X(e) -/
theorem pe_err {e : Expr} {te : TE} {x : Str} {p pos : Pos} {k : Nat} (T : SqX.Er X.K X.prog C fI q) (gC : X.mg x = some (.ref C)) (hr : Room k X.A) (hg : Gl X x) (he : PE X e te)
    (hs : starEach [e] X.env = (false, eval e X.env) :: starEach [] X.env := by rfl) (hdb : (x == ("__debug__" : Str)) = false := by decide) : PE X (.Call (.Name x p) [e] [] pos) (tErr C te) := by
  refine ⟨fun pins s σ H Q I h => ?_⟩
  refine wpAny_Call_Name_kw (ld_glob I hg gC ?_ hdb)
  refine PySem.W.callWith_K (h₀ := X.base) I.ok.mod.kin T.kC ?_ hs (by rfl)
  rw [hs]
  show wpAny _ _ (spliced ((false, eval e X.env) :: backTo pos (starEach [] X.env))) _ _ s
  refine Calls.spliced_cons (thn (he.run pins s σ H _ I h) fun u s1 hh => ?_)
  obtain ⟨v, H1, I1, r1, q1⟩ := hh
  refine Calls.spliced_nil ⟨I1.kIn, ?_⟩
  show wpAny _ _ (call (.ref C) [u]) _ _ _
  obtain ⟨mb, hb, boot⟩ := I1.ok.mod.blt
  exact wpAny_call (SqX.made T I1.kIn (I1.ok.mod.glob.keeps I1.bk) I1.nolimit (hb.keeps I1.bk) boot (by have := hr.dp; omega) fun h' tk e d t1 M => err_laid I1 r1 M q1)
/-- X(value=e) -/
theorem pe_errK {e : Expr} {te : TE} {x : Str} {p pos kp : Pos} {k : Nat} (T : SqX.Er X.K X.prog C fI q) (gC : X.mg x = some (.ref C)) (hr : Room k X.A) (hg : Gl X x) (he : PE X e te) (hdb : (x == ("__debug__" : Str)) = false := by decide)
    (hpl : ((backTo pos (starEach [] X.env)).any (·.1) || (backToKw pos (keywordEach [⟨some "value", e, kp⟩] X.env)).any (·.1.isNone)) = false := by rfl) : PE X (.Call (.Name x p) [] [⟨some "value", e, kp⟩] pos) (tErr C te) := by
  refine ⟨fun pins s σ H Q I h => ?_⟩
  refine wpAny_Call_Name_kw (ld_glob I hg gC ?_ hdb)
  refine PySem.W.callWith_KW0 (h₀ := X.base) I.ok.mod.kin T.kC (by rfl) ?_ hpl
  refine thn ((pk_cons he pk_nil).run pos pins s σ H (fun zs H' => match zs with | [v] => ∀ a d, H' a = none → H' d = none → d ≠ a → Q (.ref a) (upd (upd H' d (exd d [(("value" : Str), v)])) a (exo a C (some d))) | _ => False) I ?_) ?_
  · exact h
  · rintro ws s2 ⟨zs, H2, I2, rz, q2⟩
    obtain ⟨v, rfl, q2⟩ : ∃ v, zs = [v] ∧ ∀ a d, H2 a = none → H2 d = none → d ≠ a → Q (.ref a) (upd (upd H2 d (exd d [(("value" : Str), v)])) a (exo a C (some d))) := by
      match zs, q2 with
      | [v], q2 => exact ⟨v, rfl, q2⟩
    refine ⟨I2.kIn, ?_⟩
    cases rz with
    | cons r1 rn =>
      cases rn
      rename_i u
      obtain ⟨mb, hb, boot⟩ := I2.ok.mod.blt
      show wpAny _ _ (call (.ref C) [] [(("value" : Str), u)]) _ _ _
      exact wpAny_call (SqX.madeK T I2.kIn (I2.ok.mod.glob.keeps I2.bk) I2.nolimit (hb.keeps I2.bk) boot (by have := hr.dp; omega) fun h' tk e d t1 M => err_laid I2 r1 M q2)
end
end Sq

set_option Elab.async false
set_option linter.all false
set_option maxRecDepth 100000
set_option maxHeartbeats 2000000
namespace SqX
open PySem PySem.W PySem.Spec PySem.Calls
section
variable {prog : Program} {w : World} {A : Around} {E : Value → Shared → Prop} {s : Shared} {K : Frag} {x D : Addr} {ox : Obj} {od : Option Obj}
/-- err.__class__, whatever the error's own dict holds -/
theorem classOf (T : L2.ExcC K D) (X : K.In s.heap) (I : InstAt s.heap x ox D od) {Q : Option Value → Shared → Prop} (fin : Q (some (.ref D)) { s with toks := s.toks + 1 }) :
    wpAny (model prog w) A (getAttr? (.ref x) "__class__") Q E s := by
  have found : findObj K D od "__class__" = some (.bind (.builtin "getset_descriptor.__get__") (.builtin "object.__class__")) := by
    obtain ⟨cd, hc, _⟩ := any_some T.hd
    unfold findObj
    rw [hc, Option.bind_some, T.ha, Option.bind_some]
    simp [T.hn, T.ht]
  obtain ⟨hp, g, d, t, os⟩ := s
  have ty := I.type (M := model prog w)
  have hookA := looks_findIn (M := model prog w) X T.hg
  have hookB := looks_findIn (M := model prog w) X T.hk
  have look := looks_find (M := model prog w) X I found
  have isB : Looks (model prog w) hp (isInstance (.ref x) (.type "BaseException")) true := ty.andThen (looks_subIn X T.hs)
  have differ : (Value.builtin "BaseException.__getattribute__" == Value.builtin "object.__getattribute__") = false := by decide +kernel
  have off : (onTheHeap (Value.ref D) && Value.builtin "BaseException.__getattribute__" == Value.builtin "object.__getattribute__") = false := by
    rw [differ]
    rfl
  unfold getAttr? getAttrBy? getAttrBy
  refine wpAny_bind (wpAny_mkText (wpAny_bind (wpAny_attempt (wpAny_holding (wpAny_bind (ty.at (wpAny_bind (hookA.at ?_))))))))
  show wpAny _ _ (if (onTheHeap (Value.ref D) && Value.builtin "BaseException.__getattribute__" == Value.builtin "object.__getattribute__") = true then _ else _) _ _ _
  rw [off, if_neg Bool.false_ne_true]
  unfold getAttrByItsOwn hookBefore
  refine wpAny_bind ?_
  rw [if_pos (show onTheHeap (Value.ref D) = true from rfl)]
  refine hookB.at ?_
  refine wpAny_bind (wpAny_attempt (wpAny_holding ?_))
  unfold callGetattribute
  rw [show (false && onTheHeap (Value.builtin "BaseException.__getattribute__")) = false from rfl, if_neg Bool.false_ne_true]
  unfold boundAndCalled
  rw [PySem.F.excAttr_ValueError.ga.bind (.ref x)]
  refine wpAny_bind (wpAny_pure ?_)
  show wpAny _ _ (call (.builtin "BaseException.__getattribute__") [.ref x, .str "__class__" t]) _ _ _
  refine wpAny_call (codeAny_call_builtin PySem.F.excAttr_ValueError.ga.plain PySem.F.entry_bexc_ga ?_)
  refine @check_slot (model prog w) _ _ ⟨hp, g, d, t + 1, os⟩ "BaseException.__getattribute__" "BaseException" "__getattribute__" (.ref x) [.str "__class__" t] [] _ (by decide +kernel) (by decide +kernel) isB (PySem.F.args_bexc_ga (.ref x) (.str "__class__" t)) ?_
  unfold Builtin.«object.__getattribute__»
  refine wpAny_bind (wpAny_of_eq (a := ((Value.ref x : Value), [Value.str "__class__" t])) (by first | rfl | (simp only [slotArgs]; rfl)) ?_)
  refine wpAny_bind (wpAny_pure (wpAny_bind (ty.at (wpAny_bind (look.at ?_)))))
  show wpAny _ _ (holding [Value.builtin "object.__class__"] (call (.builtin "getset_descriptor.__get__") [.builtin "object.__class__", .ref x, .ref D]) >>= ret) _ _ _
  refine wpAny_bind (wpAny_holding (wpAny_call (class_get (s := ⟨hp, g, d, t + 1, os⟩) (ox := ox) (od := od) X I T.hm ?_)))
  refine wpAny_pure ?_
  show wpAny _ _ (handedOut (.ref D)) _ _ _
  rw [handedOut_of (v := .ref D) rfl]
  first
    | exact wpAny_pure (wpAny_pure fin)
    | exact wpAny_pure fin
    | exact wpAny_pure (wpAny_bind (wpAny_pure (wpAny_pure fin)))
theorem kit (T : L2.ExcC K D) : KitX K (.ref x) (.ref D) (fun h => InstAt h x ox D od) where
  ty := fun _ _ _ I => I.type
  it := fun _ _ X _ => by
    obtain ⟨cdD, found, _⟩ := any_some T.hd
    unfold clsIn at found
    split at found
    · rename_i c' d' cd' sl' there
      intro A' Q' E' s' keep q
      unfold isType loadHead
      exact wpAny_bind (wpAny_loadPart (keep _ _ (X _ _ there)) (wpAny_pure q))
    · cases found
  ne := fun h tp dd its n sl X tup => by
    obtain ⟨cdD, found, _⟩ := any_some T.hd
    refine Bool.eq_false_iff.mpr fun q => ?_
    obtain rfl : D = tp := Value.ref.inj (beq_iff_eq.mp q)
    unfold clsIn at found
    split at found
    · rename_i c' d' cd' sl' there
      cases (X _ _ there).symm.trans tup
    · cases found
  ca := fun X I fin => classOf T X I fin
end
end SqX
namespace Sq
open PySem PySem.Spec PyProof.Rows L2
theorem kit_own {K : PySem.W.Frag} {C D : Addr} {b : Bool} (h1 : PySem.W.isClsIn K D = true) (h2 : PySem.W.typeIn K (.ref D) = some (.type "type")) (h3 : PySem.W.subIn K (.ref C) (.ref D) = some b) (h4 : C = D → b = true) : PySem.W.kitOne K (.ref C) (.ref D) = some b := by
  unfold PySem.W.kitOne
  by_cases e : C = D
  · subst e
    rw [if_pos (by simp), h4 rfl]
  · rw [if_neg (by simpa using e)]
    show (if ((PySem.W.clsIn K D).isSome && PySem.W.typeIn K (.ref D) == some (.type "type")) = true then PySem.W.subIn K (.ref C) (.ref D) else none) = some b
    have h1' : (PySem.W.clsIn K D).isSome = true := h1
    rw [h1', h2, if_pos (by rfl)]
    exact h3
theorem kit_base {K : PySem.W.Frag} {C : Addr} {T : String} {b : Bool} (h1 : PySem.W.kitMeta T = true) (h3 : PySem.W.subIn K (.ref C) (.type T) = some b) : PySem.W.kitOne K (.ref C) (.type T) = some b := by
  unfold PySem.W.kitOne
  rw [if_neg (by simp)]
  show (if PySem.W.kitMeta T = true then PySem.W.subIn K (.ref C) (.type T) else none) = some b
  rw [if_pos h1]
  exact h3
def rIsiE (K : PySem.W.Frag) : List V → Hp → VK → Prop := fun xs H Q => ∃ (a d C : Addr) (v c : V) (u : Value) (b : Bool), xs = [.ref a, c] ∧ ClsV c u ∧ ErrAt H a d C v ∧ ExcC K C ∧ PySem.W.kitOne K (.ref C) u = some b ∧ Q (.bl b) H
section
variable {X : Cx}
theorem call_isiE : CallR X (.builtin "isinstance") (rIsiE X.K) := by
  intro pins s σ H xs us Q I r h
  obtain ⟨a, d, C, v, c, u, b, rfl, k, at_, T, e, q⟩ := h
  obtain ⟨u1, u2, rfl, r1, r2⟩ := vals2 r
  obtain rfl := k.eq r2
  obtain rfl : u1 = Value.ref a := r1
  obtain ⟨t1, ho⟩ := exo_at I.hok at_.1
  obtain ⟨mA, hns, _⟩ := exd_at I.hok at_.2
  obtain ⟨od, hod, _⟩ := lookIn_ns hns
  have J : PySem.W.InstAt s.heap a _ C (some od) := ⟨ho, rfl, rfl, hod⟩
  exact PySem.W.kia_one (SqX.kit (ox := _) (od := some od) T) I.kIn J e (fun z => nomatch z) fun tk => ⟨.bl b, H, I.tok tk, rfl, q⟩
/-- error.value -/
def tErrV (K : PySem.W.Frag) (te : TE) : TE := fun σ H Q => te σ H fun x H1 => ∃ (a d C : Addr) (v : V), x = .ref a ∧ ErrAt H1 a d C v ∧ XfC K C ∧ PySem.W.findIn K (.ref C) "value" = some none ∧ Q v H1
theorem pe_errV {e : Expr} {te : TE} {pos : Pos} (he : PE X e te) (hb : attributeBase e "value" X.env (eval e X.env) = eval e X.env := by rfl) : PE X (.Attribute e "value" pos) (tErrV X.K te) := by
  refine ⟨fun pins s σ H Q I h => ?_⟩
  refine attr_of hb (thn (he.run pins s σ H _ I h) fun u s1 hh => ?_)
  obtain ⟨x, H1, I1, rx, a, d, C, v, ex, at_, T, hno, q⟩ := hh
  subst ex
  obtain rfl : u = Value.ref a := rx
  obtain ⟨t1, ho⟩ := exo_at I1.hok at_.1
  obtain ⟨mA, hns, hr⟩ := exd_at I1.hok at_.2
  obtain ⟨od, hod, hl⟩ := lookIn_ns hns
  have l : List.lookup ("value" : Str) [(("value" : Str), v)] = some v := by simp [List.lookup]
  obtain ⟨u, hu, ru⟩ := RelO.some_of (v := v) (o := mA "value") (by rw [← l]; exact hr "value")
  have J : PySem.W.InstAt s1.heap a _ C (some od) := ⟨ho, rfl, rfl, hod⟩
  exact HandSPX.exc_get I1.kIn J T.ga T.gg T.exC (PySem.W.findObj_own T.hdC hno rfl (by rw [hl, hu])) (handed_of ru) ⟨v, H1, I1.tok _, ru, q⟩
end
end Sq

set_option Elab.async false
set_option linter.all false
set_option maxRecDepth 100000
set_option maxHeartbeats 2000000
/-! Own errors raised; a caught one kept behind its suite. -/
namespace Sq
open PySem PySem.Spec PyProof.Rows L2
/-- an error that was raised: its class and its dict are known -/
def exq (a C : Addr) (d : Option Addr) : HO := .ext fun h => ∃ (oe : Obj) (vs : Array Value), h.get? a = some oe ∧ Zc (.ref C) d oe ∧ oe.data = .fields vs
theorem exq_ok {P : Program} {w : World} {H : Hp} {h : Heap} {a C : Addr} {d : Option Addr} {oe : Obj} {vs : Array Value} (e : h.get? a = some oe) (z : Zc (.ref C) d oe) (hd : oe.data = .fields vs) : ObjOk P w H h a (exq a C d) :=
  ⟨⟨oe, vs, e, z, hd⟩, ⟨oe, e⟩, fun _ _ ⟨o, v, q, r⟩ k => ⟨o, v, k o q, r⟩⟩
theorem exq_at {P : Program} {w : World} {H : Hp} {h : Heap} {a C : Addr} {d : Option Addr} (hok : HOk P w H h) (e : H a = some (exq a C d)) : ∃ (oe : Obj) (vs : Array Value), h.get? a = some oe ∧ Zc (.ref C) d oe ∧ oe.data = .fields vs := by
  have x : ObjOk P w H h a (.ext fun h => ∃ (oe : Obj) (vs : Array Value), h.get? a = some oe ∧ Zc (.ref C) d oe ∧ oe.data = .fields vs) := hok a _ e
  exact x.1
section
variable {X : Cx} {pins : List (Addr × Obj)} {σ : L2.St} {H : Hp} {s : Shared}
/-- an object that came into being since the entry is tracked from now on -/
theorem tracked {a C : Addr} {d : Option Addr} {oe : Obj} {vs : Array Value} (I : Inv X pins σ H s) (na : H a = none) (n0 : X.s_0.heap.get? a = none) (e : s.heap.get? a = some oe) (z : Zc (.ref C) d oe) (hd : oe.data = .fields vs)
    (hp : ∀ p ∈ X.pn ++ pins, p.1 ≠ a) (nL : a ≠ X.env.locals) : Inv X pins σ (upd H a (exq a C d)) s := by
  refine ⟨I.ok, I.os, I.bare, ⟨I.base.keep, I.base.slot, fun b o q n hx => ?_, I.base.there, fun b xs q => ?_, fun b o xs q => ?_, fun b ps q => ?_⟩, I.loc, I.cell, ?_, fun x c q => ?_, fun p q => ?_, fun b u q => ?_, I.len⟩
  · rw [upd_ne (fun z => by rw [z, n0] at q; cases q)]
    exact I.base.free b o q n hx
  · have y := I.base.tups b xs q
    rw [upd_ne (ne_of_none y na)]
    exact y
  · have y := I.base.frzs b o xs q
    rw [upd_ne (ne_of_none y na)]
    exact y
  · obtain ⟨m, y⟩ := I.base.tbls b ps q
    exact ⟨m, by rw [upd_ne (ne_of_none y na)]; exact y⟩
  · rw [upd_ne (Ne.symm nL)]
    exact I.free
  · obtain ⟨v, o, ho, hv⟩ := I.cell x c q
    have ne : c ≠ a := fun z => by
      rw [z, e] at ho
      cases ho
      rw [hd] at hv
      cases hv
    rw [upd_ne ne]
    exact I.freeC x c q
  · obtain ⟨y1, y2, y3, y4, y5⟩ := I.pin p q
    exact ⟨y1, by rw [upd_ne (hp p q)]; exact y2, y3, y4, y5⟩
  · by_cases hb : b = a
    · subst hb
      rw [upd_same] at q
      cases q
      exact exq_ok e z hd
    · rw [upd_ne hb] at q
      exact (I.hok b u q).stay (fun _ _ _ y => y) (fun c y => by rw [upd_ne (ne_of_none y na)]; exact y) fun c xs y => by rw [upd_ne (ne_of_none y na)]; exact y
/-- the name of an except clause goes; all but the frame's own record stands -/
theorem gone_stays {M : Model} {A : Around} {E : Value → Shared → Prop} {i : Nat} {n : Str} {pos : Pos} {Q : Unit → Shared → Prop} (I : Inv X pins σ H s) (hN : X.N.Nodup) (hi : X.N[i]? = some n) (hl : X.env.kindOf n = some .local)
    (h : ∀ s', Inv X pins (σ.set i none) H s' → (∀ b o, b ≠ X.env.locals → s.heap.get? b = some o → s'.heap.get? b = some o) → Q () s') : wpAny M A (do bindName X.env n .none; unbindBehindTheSuite X.env n pos) Q E s := by
  obtain ⟨spaces, there, held⟩ := id I.loc
  have plain : (X.env.scope.kind == .class || (X.env.scope.kind == .module && X.env.locals != X.env.globals)) = false := by
    rw [I.ok.kind]
    rfl
  have older : ∀ b o, X.s_0.heap.get? b = some o → b ≠ X.env.locals := fun b o e => Nat.ne_of_lt (Nat.lt_of_lt_of_le (Heap.lt_size e) I.ok.above)
  refine wpAny_nameGoes_keeps hl there plain fun h2 v there2 but => h _ ?_ fun b o nb e => (but.2 b nb).trans e
  have base2 : Un X.fs X.ex X.H_0 H X.s_0.heap h2 := {
    keep := fun b o e n hb hx => (but.2 b (older b o e)).trans (I.base.keep b o e n hb hx)
    slot := fun b o e n hb hx => let ⟨sl, y⟩ := I.base.slot b o e n hb hx; ⟨sl, (but.2 b (older b o e)).trans y⟩
    free := I.base.free
    there := fun b o e hx => let ⟨o', y⟩ := I.base.there b o e hx; ⟨o', (but.2 b (older b o e)).trans y⟩
    tups := I.base.tups
    frzs := I.base.frzs
    tbls := I.base.tbls }
  have cells2 : ∀ y c, X.env.cells.lookup y = some c → ∃ w', h2.IsCell c w' := fun y c e => let ⟨w', z⟩ := I.cell y c e; ⟨w', z.sameBut but (I.cne y c e)⟩
  refine ⟨I.ok, I.os, I.bare, base2, ⟨_, there2, fun j y v' at_ val vis => ?_⟩, cells2, I.free, I.freeC, fun q hq => ?_, fun b ob eb => ?_, by simpa using I.len⟩
  · by_cases same : j = i
    · exfalso
      subst same
      rw [List.getElem?_set] at val
      split at val
      · split at val <;> cases val
      · rename_i z
        exact z rfl
    · rw [List.getElem?_set_ne (Ne.symm same)] at val
      obtain ⟨u', rel, place⟩ := held j y v' at_ val vis
      refine ⟨u', rel, place.elim (fun ⟨k, e⟩ => .inl ⟨k, ?_⟩) fun ⟨k, c, e, z⟩ => .inr ⟨k, c, e, z.sameBut but (I.cne y c e)⟩⟩
      have other : y ≠ n := fun e => same (nodup_ix hN at_ (e ▸ hi))
      exact (if_neg other).trans e
  · obtain ⟨y1, y2, y3, y4, y5⟩ := I.pin q hq
    exact ⟨(but.2 q.1 y3).trans y1, y2, y3, y4, y5⟩
  · refine (I.hok b ob eb).stay (fun c w' hc z => (but.2 c fun isL => ?_).trans z) (fun _ z => z) fun _ _ z => z
    subst isL
    rcases hc with hc | hc
    · rw [← hc, I.free] at eb
      cases eb
    · rw [I.free] at hc
      cases hc
/-- raise X(e): what is made -/
theorem pmk_er {C fI : Addr} {q : Str} {e : Expr} {te : TE} {x : Str} {p pos : Pos} {k : Nat} (T : SqX.Er X.K X.prog C fI q) (gC : X.mg x = some (.ref C)) (hr : Room k X.A) (hg : Gl X x) (he : PE X e te)
    (hs : starEach [e] X.env = (false, eval e X.env) :: starEach [] X.env := by rfl) (hdb : (x == ("__debug__" : Str)) = false := by decide) :
    PMk X (.Call (.Name x p) [e] [] pos) (fun σ H Q => te σ H fun v H1 => ∀ d, H1 d = none → Q (.ref C) (some d) (upd H1 d (exd d [(("value" : Str), v)]))) := by
  intro pins s σ H Q I h
  refine wpAny_Call_Name_kw (ld_glob I hg gC ?_ hdb)
  refine PySem.W.callWith_K (h₀ := X.base) I.ok.mod.kin T.kC ?_ hs (by rfl)
  rw [hs]
  show wpAny _ _ (spliced ((false, eval e X.env) :: backTo pos (starEach [] X.env))) _ _ s
  refine Calls.spliced_cons (thn (he.run pins s σ H _ I h) fun u s1 hh => ?_)
  obtain ⟨v, H1, I1, r1, q1⟩ := hh
  refine Calls.spliced_nil ⟨I1.kIn, ?_⟩
  show wpAny _ _ (call (.ref C) [u]) _ _ _
  obtain ⟨mb, hb, boot⟩ := I1.ok.mod.blt
  refine wpAny_call (SqX.made T I1.kIn (I1.ok.mod.glob.keeps I1.bk) I1.nolimit (hb.keeps I1.bk) boot (by have := hr.dp; omega) fun h' tk a d t1 M => ?_)
  have na : H1 a = none := I1.hok.fresh M.big
  have nd : H1 d = none := I1.hok.fresh M.dbig
  obtain ⟨G, g1, g2⟩ := restrict h' fun b => decide (b ≠ a)
  have gk : ∀ b, b ≠ a → G.get? b = h'.get? b := fun b hb => g1 b (decide_eq_true hb)
  have ga : G.get? a = none := g2 a (by simp)
  have old : ∀ b o, s1.heap.get? b = some o → G.get? b = some o := fun b o z => (gk b (Nat.ne_of_lt (Nat.lt_of_lt_of_le (Heap.lt_size z) M.big))).trans (M.keep b o z)
  have nsG : G.Ns1 d (fun y => if y = "value" then some u else none) := M.ns.at fun o z => (gk d M.dne).trans z
  have rel : ∀ f, RelO (List.lookup f [(("value" : Str), v)]) (if f = "value" then some u else none) := relO_put (fs := []) (mA := fun _ => none) r1 fun g => True.intro
  have J : Inv X pins σ (upd H1 d (exd d [(("value" : Str), v)])) { s1 with heap := G, toks := tk } := I1.laid (t' := tk) old M.dbig (exd_ok nsG rel)
  refine ⟨a, _, _, { s1 with heap := G, toks := tk }, _, .ref C, some d, rfl, J, fun b o z => ?_, ga, M.obj, ⟨rfl, rfl⟩, rfl, rfl, by rw [upd_ne (Ne.symm M.dne)]; exact na, rfl, I1.bare, raises_own T.exC T.tyC, q1 d nd⟩
  by_cases hb : b = a
  · rw [hb, ga] at z
    cases z
  · rw [← gk b hb]
    exact z
end
end Sq

set_option Elab.async false
set_option linter.all false
set_option maxRecDepth 100000
set_option maxHeartbeats 4000000
/-! try: .. except X as n: suite, where the caught error is still known behind it. -/
namespace Sq
open PySem PySem.Spec PyProof.Rows L2
/-- what the clause wishes of an error of the body; behind the suite the error stands at its place -/
def wKeep (K : PySem.W.Frag) (c : Value) (i : Nat) (ts : Addr → Value → Option Addr → TS) (Wout : WX) (D : Ends) : WX := fun cls d σ H =>
  ∃ b, PySem.W.exmOne K cls c = some b ∧
    (b = true → ∃ C, cls = .ref C ∧ ∀ a, H a = none → ts a cls d { nx := fun σ' H' => D.nx (σ'.set i none) (upd H' a (exq a C d)), rt := fun v H' => D.rt v (upd H' a (exq a C d)), bk := fun σ' H' => D.bk (σ'.set i none) (upd H' a (exq a C d)), ct := fun σ' H' => D.ct (σ'.set i none) (upd H' a (exq a C d)) } (σ.set i (some (.ref a))) H) ∧
    (b = false → Wout cls d σ H)
section
variable {X : Cx} {x n : Str} {c : Value} {i : Nat} {body suite : List Stmt} {b₀ : Stmt} {np pos pos' : Pos} {tb : WX → TS} {ts : Addr → Value → Option Addr → TS} {Wout : WX}
theorem ps_try_keep (stack : X.stack = X.env :: X.outer) (frame : X.env.frame = some X.env.locals) (noex : X.ex = []) (nodup : X.N.Nodup) (slot : X.N[i]? = some n) (isLocal : X.env.kindOf n = some .local) (named : Names X x c) (takes : Takes X Wout)
    (tried : ∀ (W : WX) (pn : List (Addr × Obj)) (xe : Value → Shared → Prop), Takes (X.tr pn xe) W → PassesOwn (model X.prog X.w) X.A X.env xe → PSs (X.tr pn xe) body (tb W))
    (caught : ∀ (a : Addr) (oe : Obj) (cls : Value) (d : Option Addr) (pn : List (Addr × Obj)), Zc cls d oe → (∃ vs, oe.data = .fields vs) → PSs (X.suite a ((a, oe) :: pn)) (b₀ :: suite) (ts a cls d)) :
    PS X (.Try body [.ExceptHandler (some (.Name x np)) (some n) (b₀ :: suite) pos'] [] [] pos) (fun D σ H => tb (wKeep X.K c i ts Wout D) D σ H) := by
  refine ⟨fun pins s σ H D I h => ?_⟩
  have ok := I.ok
  have frames : X.A.frames = some (X.env :: X.outer) := by rw [ok.frames, stack]
  refine wpAny_Try_except (wpAny_mono ((tried (wKeep X.K c i ts Wout D) (X.pn ++ pins) (fun e s₁ => wpAny (model X.prog X.w) X.A (noteFrame e X.env) (fun _ s₂ => wpAny (model X.prog X.w) X.A (setFlight e none) (fun _ s₃ =>
    wpAny (model X.prog X.w) X.A (handleBy e X.env [.ExceptHandler (some (.Name x np)) (some n) (b₀ :: suite) pos']) (SP X pins D) X.xe s₃) X.xe s₂) X.xe s₁) (fun u s' air => ?_) PassesOwn.looking).run [] s σ H D (I.toTry _) h) (fun f s1 done => ?_) (fun e s1 he => he))
  · obtain ⟨a, B, sI, pins2, σ2, H2, cls, d, rfl, J', ground, upto, sky, na, os, ag, b, match_, yes, no⟩ := air
    have J : Inv X pins σ2 H2 sI := J'.ofTry ok
    have sky2 : Sky B (X.env :: X.outer) a (Zc cls d) X.env.locals s'.heap := by
      rw [← stack]
      exact sky
    refine Sky.land Zc.steady frames frame sky2 fun h3 fl3 up3 => ?_
    have J3 : Inv X pins σ2 H2 { s' with heap := h3 } := J.landed ground fl3.1 (upto.trans up3) os ag
    obtain ⟨oe3, vs3, he3, hz3, hd3⟩ := fl3.there
    have noFrame : a ∉ frs (X.env :: X.outer) := fun hm => by
      obtain ⟨_, o', e', hnf⟩ := fl3.2.2.1.mem hm
      rw [he3] at e'
      cases e'
      exact hnf _ hd3
    have nL : a ≠ X.env.locals := fun z => noFrame (List.mem_filterMap.mpr ⟨X.env, List.mem_cons_self, by rw [frame, z]⟩)
    have nF : a ∉ X.fs := fun hm => by
      obtain ⟨e, he, q⟩ := List.mem_filterMap.mp hm
      exact noFrame (List.mem_filterMap.mpr ⟨e, List.mem_cons_of_mem _ he, q⟩)
    -- the error is younger than all that stood at the entry, and no pin
    have newI : sI.heap.get? a = none := by
      cases e : sI.heap.get? a with
      | none => rfl
      | some o =>
        have z := ground a o e (by rw [stack]; exact noFrame)
        rw [fl3.2.1] at z
        cases z
    have new0 : X.s_0.heap.get? a = none := by
      cases e : X.s_0.heap.get? a with
      | none => rfl
      | some o =>
        obtain ⟨o', z⟩ := J.base.there a o e (by rw [noex]; exact fun z => nomatch z)
        rw [newI] at z
        cases z
    have noPin : ∀ q ∈ X.pn ++ pins, q.1 ≠ a := fun q hq z => by
      have y := (J.pin q hq).1
      rw [z, newI] at y
      cases y
    have S3 := J3.suite he3 hd3 na nL nF
    refine wpAny_handleBy_cons (codeAny_handlers_test ?_) (by intro q; cases q)
    have LT : PySem.W.Looks (model X.prog X.w) h3 (typeOf (.ref a)) cls := fun A Q E s k q => wpAny_typeOf_ref (k _ _ he3) (by rw [hz3.1]; exact q)
    have LM := PySem.W.exm_one (M := model X.prog X.w) (J3.kIn) LT match_
    have test : ∀ {Q : Value → Shared → Prop} {E : Value → Shared → Prop}, Q c { s' with heap := h3 } → wpAny (model X.prog X.w) (X.A.mark (some (.ref a))) (eval (.Name x np) X.env) Q E { s' with heap := h3 } := fun {Q E} q => by
      obtain ⟨hg, hdbg, hm | ⟨hm, hv, hnn⟩⟩ := named
      · exact ld_glob (X := X.suite a ((a, oe3) :: (X.pn ++ pins))) S3 hg hm q hdbg
      · exact ld_blt (X := X.suite a ((a, oe3) :: (X.pn ++ pins))) S3 hg hm hv q hnn hdbg
    refine test (LM.here ?_)
    cases b with
    | true =>
      obtain ⟨C, rfl, yes⟩ := yes rfl
      refine codeAny_handlers_suite_as ?_
      refine HandSPX.lands_againZ fl3 fun h4 fl4 up4 => ?_
      have J4 : Inv X pins σ2 H2 { s' with heap := h4 } := J.landed ground fl4.1 ((upto.trans up3).trans up4) os ag
      obtain ⟨oe4, vs4, he4, hz4, hd4⟩ := fl4.there
      have S4 := J4.suite he4 hd4 na nL nF
      refine store_ok (X := X.suite a ((a, oe4) :: (X.pn ++ pins))) (v := .ref a) S4 nodup slot (.inl isLocal) rfl (fun s5 S5 => ?_) (.inr isLocal)
      refine wpAny_mono ((caught a oe4 (.ref C) d (X.pn ++ pins) hz4 ⟨_, hd4⟩).run [] s5 _ H2 _ S5 (yes a na)) (fun f s6 after => ?_) (fun _ _ z => False.elim z)
      have leave : ∀ {σ6 : L2.St} {H6 : Hp} {Q : Shared → Prop}, Inv (X.suite a ((a, oe4) :: (X.pn ++ pins))) [] σ6 H6 s6 → (∀ s7, Inv X pins (σ6.set i none) (upd H6 a (exq a C d)) s7 → Q s7) →
          wpAny (model X.prog X.w) X.A (do bindName X.env n .none; unbindBehindTheSuite X.env n pos') (fun _ s7 => Q s7) X.xe s6 := fun {σ6 H6 Q} S6 hq => by
        obtain ⟨p1, p2, _⟩ := S6.pin (a, oe4) (List.mem_append_left _ List.mem_cons_self)
        exact gone_stays (S6.unsuite ok) nodup slot isLocal fun s7 J7 stays => hq s7 (tracked J7 p2 new0 (stays a oe4 nL p1) hz4 hd4 noPin nL)
      cases f with
      | next =>
        obtain ⟨σ6, H6, S6, q6⟩ := after
        exact leave S6 fun s7 J7 => ⟨_, _, J7, q6⟩
      | brk =>
        obtain ⟨σ6, H6, S6, q6⟩ := after
        exact leave S6 fun s7 J7 => ⟨_, _, J7, q6⟩
      | cont =>
        obtain ⟨σ6, H6, S6, q6⟩ := after
        exact leave S6 fun s7 J7 => ⟨_, _, J7, q6⟩
      | ret u =>
        obtain ⟨v6, σ6, H6, S6, r6, q6⟩ := after
        exact leave S6 fun s7 J7 => ⟨_, _, _, J7, r6, q6⟩
    | false =>
      show wpAny _ X.A (handleBy (.ref a) X.env []) _ _ _
      refine wpAny_handleBy_nil ?_
      obtain ⟨k1, k2, k3, oe, vs, T, oT, ts', he, hz, hd, h1, rest⟩ := id fl3
      unfold PySem.passOn
      refine wpAny_bind (wpAny_field he hd h1 ?_)
      rw [if_neg (show ¬ ((Value.ref T == Value.none) = true) from by simp)]
      have fin : wpAny (model X.prog X.w) X.A (setFlight (.ref a) X.env.frame) (fun _ s4 => wpAny (model X.prog X.w) X.A (throw (.ref a) : Sem Flow) (SP X pins D) X.xe s4) X.xe { s' with heap := h3 } := by
        rw [frame]
        refine HandSPX.setFlight_upZ fl3 fun h4 hh4 up4 => wpAny_throw (takes _ _ ?_)
        exact ⟨a, B, sI, pins, σ2, H2, cls, d, rfl, J, ground, (upto.trans up3).trans up4, .inr (.inr (by rw [stack]; exact hh4)), na, os, ag, no rfl⟩
      first
        | exact wpAny_bind (wpAny_pure (wpAny_bind fin))
        | exact wpAny_bind fin
  · cases f with
    | next =>
      obtain ⟨σ2, H2, J', q⟩ := done
      exact wpAny_execs_nil ⟨σ2, H2, J'.ofTry ok, q⟩
    | brk =>
      obtain ⟨σ2, H2, J', q⟩ := done
      exact ⟨σ2, H2, J'.ofTry ok, q⟩
    | cont =>
      obtain ⟨σ2, H2, J', q⟩ := done
      exact ⟨σ2, H2, J'.ofTry ok, q⟩
    | ret u =>
      obtain ⟨v, σ2, H2, J', r, q⟩ := done
      exact ⟨v, σ2, H2, J'.ofTry ok, r, q⟩
end
/-! ### what is asked of a caught error -/
/-- an error of the class at C was caught at a, its dict at d; it holds v -/
def CaughtAt (H : Hp) (a d C : Addr) (v : V) : Prop := H a = some (exq a C (some d)) ∧ H d = some (exd d [(("value" : Str), v)])
theorem CaughtAt.same {H H' : Hp} {a d C : Addr} {v : V} (s : Same H H') (e : CaughtAt H a d C v) : CaughtAt H' a d C v := ⟨s _ _ e.1, s _ _ e.2⟩
theorem caught_obj {X : Cx} {pins : List (Addr × Obj)} {σ : L2.St} {H : Hp} {s : Shared} {a d C : Addr} {v : V} (I : Inv X pins σ H s) (e : CaughtAt H a d C v) :
    ∃ ox od u, PySem.W.InstAt s.heap a ox C (some od) ∧ PySem.W.lookIn "value" od = some (some u) ∧ RelV v u := by
  obtain ⟨oe, vs, ho, z, hd⟩ := exq_at I.hok e.1
  obtain ⟨mA, hns, hr⟩ := exd_at I.hok e.2
  obtain ⟨od, hod, hl⟩ := lookIn_ns hns
  have l : List.lookup ("value" : Str) [(("value" : Str), v)] = some v := by simp [List.lookup]
  obtain ⟨u, hu, ru⟩ := RelO.some_of (v := v) (o := mA "value") (by rw [← l]; exact hr "value")
  exact ⟨oe, od, u, ⟨ho, z.1, by unfold PySem.W.notCls; rw [hd] <;> rfl, by rw [z.2]; exact hod⟩, by rw [hl, hu], ru⟩
end Sq
namespace Sq
open PySem PySem.Spec PyProof.Rows L2
section
variable {X : Cx}
def rIsiQ (K : PySem.W.Frag) : List V → Hp → VK → Prop := fun xs H Q => ∃ (a d C : Addr) (v c : V) (u : Value) (b : Bool), xs = [.ref a, c] ∧ ClsV c u ∧ CaughtAt H a d C v ∧ ExcC K C ∧ PySem.W.kitOne K (.ref C) u = some b ∧ Q (.bl b) H
theorem call_isiQ : CallR X (.builtin "isinstance") (rIsiQ X.K) := by
  intro pins s σ H xs us Q I r h
  obtain ⟨a, d, C, v, c, u, b, rfl, k, at_, T, e, q⟩ := h
  obtain ⟨u1, u2, rfl, r1, r2⟩ := vals2 r
  obtain rfl := k.eq r2
  obtain rfl : u1 = Value.ref a := r1
  obtain ⟨ox, od, uv, J, _, _⟩ := caught_obj I at_
  exact PySem.W.kia_one (SqX.kit (ox := ox) (od := some od) T) I.kIn J e (fun z => nomatch z) fun tk => ⟨.bl b, H, I.tok tk, rfl, q⟩
/-- isinstance(error, (X, Y)) -/
def rIsiQT (K : PySem.W.Frag) : List V → Hp → VK → Prop := fun xs H Q => ∃ (a d C tp : Addr) (v : V) (cs : List V) (us : List Value) (b : Bool), xs = [.ref a, .ref tp] ∧ H tp = some (.tup cs) ∧ Paired ClsV cs us ∧ CaughtAt H a d C v ∧ ExcC K C ∧ PySem.W.kitAny K (.ref C) us = some b ∧ Q (.bl b) H
theorem call_isiQT : CallR X (.builtin "isinstance") (rIsiQT X.K) := by
  intro pins s σ H xs vs Q I r h
  obtain ⟨a, d, C, tp, v, cs, us, b, rfl, ht, pc, at_, T, e, q⟩ := h
  obtain ⟨u1, u2, rfl, r1, r2⟩ := vals2 r
  obtain rfl : u1 = Value.ref a := r1
  obtain rfl : u2 = Value.ref tp := r2
  obtain ⟨ox, od, uv, J, _, _⟩ := caught_obj I at_
  obtain ⟨few, its, rv, ob, there, isT, n, data⟩ := (show ObjOk X.prog X.w H s.heap tp (.tup cs) from I.hok tp _ ht)
  have same := ClsV.all pc rv
  subst same
  obtain ⟨oc, dct, dt, sl⟩ := ob
  simp only at isT data
  subst isT data
  exact PySem.W.kia_tup (SqX.kit (ox := ox) (od := some od) T) I.kIn J there e (fun z => nomatch z) fun tk => ⟨.bl b, H, I.tok tk, rfl, q⟩
/-- error.value of a caught one -/
def tQv (K : PySem.W.Frag) (te : TE) : TE := fun σ H Q => te σ H fun x H1 => ∃ (a d C : Addr) (v : V), x = .ref a ∧ CaughtAt H1 a d C v ∧ XfC K C ∧ PySem.W.findIn K (.ref C) "value" = some none ∧ Q v H1
theorem pe_qv {e : Expr} {te : TE} {pos : Pos} (he : PE X e te) (hb : attributeBase e "value" X.env (eval e X.env) = eval e X.env := by rfl) : PE X (.Attribute e "value" pos) (tQv X.K te) := by
  refine ⟨fun pins s σ H Q I h => ?_⟩
  refine attr_of hb (thn (he.run pins s σ H _ I h) fun u s1 hh => ?_)
  obtain ⟨x, H1, I1, rx, a, d, C, v, ex, at_, T, hno, q⟩ := hh
  subst ex
  obtain rfl : u = Value.ref a := rx
  obtain ⟨ox, od, uv, J, l, ru⟩ := caught_obj I1 at_
  exact HandSPX.exc_get I1.kIn J T.ga T.gg T.exC (PySem.W.findObj_own T.hdC hno rfl l) (handed_of ru) ⟨v, H1, I1.tok _, ru, q⟩
end
end Sq

set_option Elab.async false
set_option linter.all false
set_option maxRecDepth 100000
set_option maxHeartbeats 2000000
/-! A walk that is left at its first item: for x in g(..): break. -/
namespace Sq
open PySem PySem.Spec PyProof.Rows L2 GenW
def Y1 (P : Program) (w : World) (outer : List Env) (H : Hp) (s : Shared) (a : Addr) (g : Nat) (q : V → Hp → Prop) : Protocol := fun _ _ v s1 _ =>
  s1.os = s.os ∧ AllBare s1.gens ∧ s1.heap.IsGen a g ∧ ∃ x H', Un (frs outer) [] H H' s.heap s1.heap ∧ HOk P w H' s1.heap ∧ RelV x v ∧ q x H'
def R1 (P : Program) (w : World) (outer : List Env) (H : Hp) (s : Shared) (a : Addr) (g : Nat) (E : XK) : GenEnd := fun _ _ r s1 => ∃ e, r = .error e ∧ CX P w outer H s E e s1 ∧ s1.heap.IsGen a g
/-- a generator that has not begun: its first item, or an error -/
def GFst (P : Program) (w : World) (k : Nat) (outer : List Env) (H : Hp) (s : Shared) (q : V → Hp → Prop) (E : XK) (u : Value) (s' : Shared) : Prop :=
  ∃ (a : Addr) (g : Nat) (c : Code), u = .ref a ∧ s.heap.objs.size ≤ a ∧ s'.heap.IsGen a g ∧ s'.gens[g]? = some (.fresh c) ∧ s'.os = s.os ∧ AllBare s'.gens ∧ s'.heap.NoLimit ∧ (∀ b o, s.heap.get? b = some o → s'.heap.get? b = some o) ∧
    ∀ (A : Around) (s2 : Shared), Room k A → A.frames = some outer → (∀ b o, s'.heap.get? b = some o → s2.heap.get? b = some o) → s2.os = s.os → AllBare s2.gens →
      Seg (model P w) A (R1 P w outer H s a g E) (Y1 P w outer H s a g q) 1 s2 c ((model P w).den c) [] s2
abbrev SpF := List V → Hp → (V → Hp → Prop) → XK → Prop
structure GFn1 (P : Program) (w : World) (K : PySem.W.Frag) (mg : Str → Option Value) (base : Heap) (k : Nat) (f : Addr) (fd : FuncData) (ps : List Str) (sp : SpF) : Prop where
  len : ∀ vs H Q E, sp vs H Q E → vs.length = ps.length
  run : ∀ (A : Around) (outer : List Env) (s : Shared) (H : Hp) (args : Args) (us : List Value) (vs : List V) (Q : V → Hp → Prop) (E : XK), Room k A → Env0 P w K mg base A outer s H → BindsTo s fd args (ps.zip us) → Vals vs us → sp vs H Q E →
    codeAny (model P w) A (.call (.ref f) args) (fun r s' => match r with | .ok (.ret u) => GFst P w k outer H s Q E u s' | _ => False) s
/-- two statements, then the first yield -/
theorem gfn1_of {P : Program} {w : World} {K : PySem.W.Frag} {mg : Str → Option Value} {base : Heap} {k : Nat} {f : Addr} {name qual : Str} {params : Arguments} {st1 st2 : Stmt} {ey : Expr} {yp ypos : Pos} {rest : List Stmt} {scope : Scope} {dV kV doc pm cdv ct oc : Value} {an od : Option Addr}
    {osl : Array (Option Value)} {N ps : List Str} {sp : SpF} (found : K.lookup f = some ⟨oc, od, .func (PySem.W.fnOf name qual params (st1 :: st2 :: .Expr (.Yield (some ey) yp) ypos :: rest) scope dV kV doc pm an cdv ct), osl⟩) (coded : PySem.W.codeIn K cdv qual = true) (S : GScope N ps scope)
    (len : ∀ vs H Q E, sp vs H Q E → vs.length = ps.length) (inter : ∀ n : Nat, interactive (envOfC qual scope n f cdv) = false)
    (inner : ∀ (A : Around) (outer : List Env) (s : Shared) (H : Hp) (vs : List V) (Q : V → Hp → Prop) (E : XK) (pn : List (Addr × Obj)), Room k (A.deeper (envOfC qual scope s.heap.objs.size f cdv)) → sp vs H Q E →
      ∃ t1 t2 te, PS (gcxOf P w K mg base N qual scope f cdv A outer s H E pn) st1 t1 ∧ PS (gcxOf P w K mg base N qual scope f cdv A outer s H E pn) st2 t2 ∧ PE (gcxOf P w K mg base N qual scope f cdv A outer s H E pn) ey te ∧
        t1 { nx := fun σ1 H1 => t2 { nx := fun σ2 H2 => te σ2 H2 Q, rt := fun _ _ => False } σ1 H1, rt := fun _ _ => False } (start N vs) H) :
    GFn1 P w K mg base (k + 1) f (PySem.W.fnOf name qual params (st1 :: st2 :: .Expr (.Yield (some ey) yp) ypos :: rest) scope dV kV doc pm an cdv ct) ps sp := by
  refine ⟨len, fun A outer s H args us vs Q E room e0 bound rel wish => ?_⟩
  have few := len _ _ _ _ wish
  have inK : K.In s.heap := e0.mod.kin.keeps fun b o e => (e0.bs b o e).1
  have noLim : s.heap.NoLimit := e0.mod.nolimit.keeps fun b o e => (e0.bs b o e).1
  have kinds : ∀ y ∈ ps.zip us, scope.names.lookup y.1 = some .local ∨ (scope.names.lookup y.1 = some .cell ∧ ((cellsFrom (s.heap.objs.size + 1) scope.names []).lookup y.1).isSome = true) := fun ⟨n, v⟩ hy =>
    (S.par n (List.of_mem_zip hy).1).elim .inl fun z => .inr ⟨z, PySem.W.cellsFrom_some _ _ _ (.inl z)⟩
  refine codeAny_call_generator room.depth (inK _ _ found) rfl S.co S.gen rfl (PySem.W.codeRec_of inK coded) (bound _ _ _ _ ?_)
  refine wpAny_newFunctionEnv_cells S.kind kinds fun env he s1 made => ?_
  subst he
  have lim1 : s1.heap.NoLimit := noLim.keeps made.toInCall.keep
  refine ⟨lim1, ?_⟩
  obtain ⟨h1, tk, es1, keep1⟩ := made.done
  have os1 : s1.os = s.os := by rw [es1]
  have gen1 : s1.gens = s.gens := by rw [es1]
  have lt1 : s.heap.objs.size < s1.heap.objs.size := made.toInCall.ns.lt
  have keepS : ∀ b o, s.heap.get? b = some o → s1.heap.get? b = some o := made.toInCall.keep
  suffices main : ∀ (go : Obj) (nm qn : Value) (tk2 : Nat), go.cls = .type "generator" → go.data = .fields #[.int s1.gens.size 0, nm, qn] → go.slots = #[] → (∀ h : Heap, (h.push go).get? h.objs.size = some go) →
      GFst P w (k + 1) outer H s Q E (.ref s1.heap.objs.size) { s1 with gens := s1.gens.push (.fresh (.func (st1 :: st2 :: .Expr (.Yield (some ey) yp) ypos :: rest) (envOfC qual scope s.heap.objs.size f cdv))), toks := tk2, heap := s1.heap.push go } from
    main _ _ _ _ rfl rfl rfl fun h => Heap.get?_push_size _ rfl
  intro go nm qn tk2 isG dataG slotsG pushG
  have isGen : ∀ h : Heap, h.get? s1.heap.objs.size = some go → h.IsGen s1.heap.objs.size s1.gens.size := fun h e => ⟨go, nm, qn, e, isG, dataG, slotsG⟩
  refine ⟨s1.heap.objs.size, s1.gens.size, _, rfl, Nat.le_of_lt lt1, isGen _ (pushG _), Array.getElem?_push_size .., os1, AllBare.push (by rw [gen1]; exact e0.bare) rfl, lim1.keeps fun b o e => Heap.get?_push_of_some _ e, fun b o e => Heap.get?_push_of_some _ (keepS b o e), ?_⟩
  intro Aw s2 roomW framesW keep2 os2 bare2
  have e0w : Env0 P w K mg base Aw outer s H := ⟨framesW, e0.mod, e0.bs, e0.bsz, e0.funs, e0.frf, e0.hok, e0.bare⟩
  obtain ⟨t1, t2, te, p1, p2, pe, reading⟩ := inner Aw outer s H vs Q E [(s1.heap.objs.size, go)] (roomW.deeper _) wish
  have I1 : Inv (gcxOf P w K mg base N qual scope f cdv Aw outer s H E []) [] (start N vs) H s1 := inv_startG S roomW.hd e0w few rel made
  have keep12 : ∀ b o, s1.heap.get? b = some o → s2.heap.get? b = some o := fun b o e => keep2 b o (Heap.get?_push_of_some _ e)
  have I2 : Inv (gcxOf P w K mg base N qual scope f cdv Aw outer s H E []) [] (start N vs) H s2 :=
    I1.call' (ch := []) (os2.trans os1.symm) (Un.kept keep12) (I1.hok.kept keep12) bare2 fun b z => by simp at z
  have thereG : s2.heap.get? s1.heap.objs.size = some go := keep2 s1.heap.objs.size go (pushG _)
  have I3 : Inv (gcxOf P w K mg base N qual scope f cdv Aw outer s H E [(s1.heap.objs.size, go)]) [] (start N vs) H s2 := Inv.pinnedG I2 fun p hp => by
    have hp' : p = (s1.heap.objs.size, go) := by simpa using hp
    rw [hp']
    exact ⟨thereG, I1.hok.fresh (Nat.le_refl _), Nat.ne_of_gt lt1, I1.nofs (Nat.le_refl _), fun v q => by rw [dataG] at q; cases q⟩
  have stillG : ∀ {σ' : L2.St} {H' : Hp} {s' : Shared}, Inv (gcxOf P w K mg base N qual scope f cdv Aw outer s H E [(s1.heap.objs.size, go)]) [] σ' H' s' → s'.heap.IsGen s1.heap.objs.size s1.gens.size := fun J =>
    isGen _ (J.pin (s1.heap.objs.size, go) (by simp [gcxOf])).1
  refine seg_func ?_
  have away : ∀ (n : Nat) (s₀ : Shared) (e : Value) (s' : Shared), (gcxOf P w K mg base N qual scope f cdv Aw outer s H E [(s1.heap.objs.size, go)]).xe e s' →
      Seg (model P w) Aw (R1 P w outer H s s1.heap.objs.size s1.gens.size E) (Y1 P w outer H s s1.heap.objs.size s1.gens.size Q) n s₀ (.func (st1 :: st2 :: .Expr (.Yield (some ey) yp) ypos :: rest) (envOfC qual scope s.heap.objs.size f cdv))
        ((leaving (envOfC qual scope s.heap.objs.size f cdv) e).wrap (fun _ => .raise e) .raise id id) [] s' := fun n s₀ e s' hx => by
    refine seg_wrap ?_
    rw [over_func]
    refine wpAny_mono (show wpAny (model P w) (Aw.deeper (envOfC qual scope s.heap.objs.size f cdv)) (leaving (envOfC qual scope s.heap.objs.size f cdv) e) (fun _ s'' => CX P w outer H s E e s'' ∧ ∀ p ∈ [(s1.heap.objs.size, go)], s''.heap.get? p.1 = some p.2) (fun _ _ => False) s' from hx) (fun _ s'' q => ?_) fun _ s'' q => q.elim
    exact seg_end (.error e) ⟨e, rfl, q.1, isGen _ (q.2 (s1.heap.objs.size, go) (List.mem_singleton.mpr rfl))⟩
  refine seg_execs_cons (seg_wrap ?_)
  rw [over_func]
  refine wpAny_mono (p1.run [] s2 (start N vs) H _ I3 reading) (fun fl s3 q3 => ?_) fun e s3 hx => away _ _ e s3 hx
  cases fl with
  | brk => exact q3.elim fun _ z => z.elim fun _ z => False.elim z.2
  | cont => exact q3.elim fun _ z => z.elim fun _ z => False.elim z.2
  | ret u => exact q3.elim fun _ z => z.elim fun _ z => z.elim fun _ z => False.elim z.2.2
  | next =>
    obtain ⟨σ3, H3, J3, r3⟩ := q3
    refine seg_execs_cons (seg_wrap ?_)
    rw [over_func]
    refine wpAny_mono (p2.run [] s3 σ3 H3 _ J3 r3) (fun fl s4 q4 => ?_) fun e s4 hx => away _ _ e s4 hx
    cases fl with
    | brk => exact q4.elim fun _ z => z.elim fun _ z => False.elim z.2
    | cont => exact q4.elim fun _ z => z.elim fun _ z => False.elim z.2
    | ret u => exact q4.elim fun _ z => z.elim fun _ z => z.elim fun _ z => False.elim z.2.2
    | next =>
      obtain ⟨σ4, H4, J4, r4⟩ := q4
      refine seg_execs_cons (seg_Expr_Yield rfl rfl rfl ?_ S.co (inter _))
      rw [over_func]
      refine wpAny_mono (pe.run [] s4 σ4 H4 _ J4 r4) (fun v s5 q5 => ?_) fun e s5 hx => away _ _ e s5 hx
      obtain ⟨x, H5, J5, rv, q⟩ := q5
      intro kap hk
      exact ⟨J5.os, J5.bare, stillG J5, x, H5, J5.base, J5.hok, rv, q⟩
end Sq
namespace Sq
open PySem PySem.Spec PyProof.Rows L2 GenW
/-- for x in g(e, ..): break -/
def tFirst (sp : SpF) (E : L2.St → XK) (t : TA) (i : Nat) : TS := fun D σ H => t σ H fun vs H1 => sp vs H1 (fun v H2 => D.nx (σ.set i (some v)) H2) (E σ)
section
variable {X : Cx} {k i : Nat} {f : Addr} {fd : FuncData} {ps : List Str} {sp : SpF} {E : L2.St → XK} {x y : Str} {p op bp cpos pos : Pos} {e : Expr} {es : List Expr} {t : TA}
theorem ps_first (F : GFn1 X.prog X.w X.K X.mg X.base k f fd ps sp) (hr : Room (k + 1) X.A) (hg : Gl X x) (hm : X.mg x = some (.ref f)) (hk : PySem.W.keepIn X.K (.ref f) = true) (hb : Binds X.K fd ps []) (ha : PA X (e :: es) t)
    (hx : ∀ σ, PassesAt (L2.CX X.prog X.w) X σ (E σ)) (ns : ∀ σ, NoStop X.K (E σ)) (own : PassesOwn (model X.prog X.w) X.A X.env X.xe) (hN : X.N.Nodup) (hi : X.N[i]? = some y) (hl : Loc X.env.scope y) (hfn : X.fn y = true ∨ X.env.scope.names.lookup y = some .local)
    (hdb : (x == ("__debug__" : Str)) = false := by decide) (he : starEach (e :: es) X.env = (false, eval e X.env) :: starEach es X.env := by rfl) (hpl : (backTo cpos (starEach es X.env)).any (·.1) = false := by rfl) :
    PS X (.For (.Name y op) (.Call (.Name x p) (e :: es) [] cpos) [.Break bp] [] pos) (tFirst sp E t i) := by
  refine ⟨fun pins s σ H D I h => ?_⟩
  refine wpAny_For (wpAny_Call_Name_kw (ld_glob I hg hm ?_ hdb)) (by intro _; rfl)
  refine PySem.W.callWith_K (h₀ := X.base) I.ok.mod.kin hk (thn (ha.run cpos pins s σ H _ I h) fun us s1 hh => ?_) he hpl
  obtain ⟨vs, H1, I1, r1, q⟩ := hh
  refine ⟨I1.kIn, ?_⟩
  have few : us.length = ps.length := by rw [← r1.length]; exact F.len _ _ _ _ q
  have bind := hb s1 us I1.kIn (by rw [List.append_nil]; exact few)
  rw [List.append_nil] at bind
  refine wpAny_call (codeAny_mono (F.run X.A X.stack s1 H1 ⟨us, []⟩ us vs _ (E σ) (hr.mono (by omega)) I1.env0 bind r1 q) fun r s2 hq => ?_)
  match r, hq with
  | .ok (.ret u), hq =>
    obtain ⟨a, g, c, rfl, ha1, isG, fresh, os2, bare2, lim2, keep2, wake⟩ := hq
    refine wpAny_pyIter_gen isG ?_
    refine codeAny_forLoop_any (fun n s' => s' = s2) (fun n s' hs => ?_) 0 rfl
    subst hs
    have seg := wake X.A.in1 (s'.setGen g .running) ⟨hr.hd, by have := hr.dp; show X.A.depth + 3 * k + 5 < _; omega, by have := hr.un; show X.A.units + 1 + 16 * k + 200 < _; omega⟩ I1.ok.frames (fun b o e => e) os2 (allBare_setGen bare2 rfl)
    have goes : (GenState.fresh c).Goes (model X.prog X.w) X.A.in1 (fun n s₀ r s₁ => ((r = .ok (.ret .none) ∨ r = .ok .next) ∧ False) ∨ ∃ e, r = .error e ∧ (CX X.prog X.w X.stack H1 s1 (E σ) e s₁ ∧ s₁.heap.IsGen a g)) (Y1 X.prog X.w X.stack H1 s1 a g (fun v H2 => D.nx (σ.set i (some v)) H2)) 1 (.send .none) (s'.setGen g .running) :=
      ⟨rfl, seg_imp (R := R1 X.prog X.w X.stack H1 s1 a g (E σ)) (Y := Y1 X.prog X.w X.stack H1 s1 a g (fun v H2 => D.nx (σ.set i (some v)) H2)) (fun n s₀ r s z => Or.inr z) (fun n s₀ v s kap kap' _ z => z) 1 seg⟩
    refine next_genG (A := X.A) (F := fun _ _ _ => False) hr.hd lim2 (by have := hr.dp; omega) isG fresh goes (fun v s₁ gs' bare' hv => ?_) (fun s₁ z => z.elim) fun er s₁ he => ?_
    · obtain ⟨os3, bare3, isG3, z, H3, un3, ok3, rv, qv⟩ := hv
      have I3 : Inv X pins σ H3 (s₁.setGen g gs') := I1.call' (ch := []) os3 un3 ok3 (allBare_setGen bare3 bare') fun b z => by simp at z
      refine wpAny_of_eq (rfl : letOwnedTupleGo (.Name y op) (.ref a) v = pure ()) ?_
      refine wpAny_passesOwn own (thn ((pg_name hN hi hl hfn).run pins _ σ H3 z v (fun σ2 H2 => D.nx σ2 H2) I3 rv qv) fun _ s4 h4 => ?_)
      obtain ⟨σ4, H4, I4, q4⟩ := h4
      exact wpAny_execs_cons (wpAny_Break ⟨σ4, H4, I4, q4⟩)
    · obtain ⟨hc, hg1⟩ := he
      have kin : X.K.In s₁.heap := by
        obtain ⟨b1, B, H2, cls, d, _, fl, _, ub, _⟩ := id hc
        refine I1.ok.mod.kin.keeps fun b o eb => fl.1 b o (ub.keep b o (I1.bs b o eb).1 (I1.bs b o eb).2 fun hm => ?_)
        rcases List.mem_cons.mp (I1.stkSub b hm) with z | z
        · have low := Heap.lt_size eb
          rw [z] at low
          exact absurd (Nat.lt_of_lt_of_le low (Nat.le_trans I1.ok.bsz I1.ok.above)) (Nat.lt_irrefl _)
        · exact I1.ok.nofr eb z
      refine ⟨hg1, notStop_of (ns σ) kin hc, own _ _ (hx σ pins H1 s1 er _ I1 ?_)⟩
      obtain ⟨b1, B, H2, cls, d, z1, fl, z2, ub, z3, z4, z5, z6⟩ := hc
      exact ⟨b1, B, H2, cls, d, z1, fl, z2, ub, z3, z4, allBare_setGen z5 rfl, z6⟩
end
end Sq

set_option Elab.async false
set_option linter.all false
set_option maxRecDepth 100000
set_option maxHeartbeats 2000000
/-! Calls that may raise. -/
namespace Sq
open PySem PySem.Spec PyProof.Rows L2
structure Dx (P : Program) (w : World) (K : PySem.W.Frag) (mg : Str → Option Value) (base : Heap) (k : Nat) (x : Str) (ps : List Str) (sp : Sp) : Prop where
  ex : ∃ f fd, FnOk P w K mg base (L2.CX P w) k f fd ps sp ∧ mg x = some (.ref f) ∧ PySem.W.keepIn K (.ref f) = true ∧ Binds K fd ps []
structure Dxk (P : Program) (w : World) (K : PySem.W.Frag) (mg : Str → Option Value) (base : Heap) (k : Nat) (x : Str) (ps ks : List Str) (g : List Value → List Value → List Value) (gV : List V → List V → List V) (sp : Sp) : Prop where
  ex : ∃ f fd, FnOk P w K mg base (L2.CX P w) k f fd ps sp ∧ mg x = some (.ref f) ∧ PySem.W.keepIn K (.ref f) = true ∧ KBn K fd ps 0 ks g gV
structure Dx1 (P : Program) (w : World) (K : PySem.W.Frag) (mg : Str → Option Value) (base : Heap) (k : Nat) (x : Str) (ps : List Str) (sp : SpF) : Prop where
  ex : ∃ f fd, GFn1 P w K mg base k f fd ps sp ∧ mg x = some (.ref f) ∧ PySem.W.keepIn K (.ref f) = true ∧ Binds K fd ps []
theorem Dx.mk' {P : Program} {w : World} {K : PySem.W.Frag} {mg : Str → Option Value} {base : Heap} {k : Nat} {x : Str} {st : Stmt} {ps : List Str} {sp : Sp} {f : Addr} {fd : FuncData} (F : Fun K x x st f fd) (G : FnOk P w K mg base (L2.CX P w) k f fd ps sp) (g : mg x = some (.ref f)) (b : Binds K fd ps []) : Dx P w K mg base k x ps sp :=
  ⟨⟨f, fd, G, g, F.kp, b⟩⟩
section
variable {P : Program} {w : World} {K : PySem.W.Frag} {mg : Str → Option Value} {base : Heap} {N : List Str} {qual : Str} {scope : Scope} {f : Addr} {cd : Value} {A : Around} {outer : List Env} {s : Shared} {H : Hp} {E : XK}
theorem takesX : Takes (cxOf (L2.CX P w) P w K mg base N qual scope f cd A outer s H E) (fun cls d _ H' => E cls d H') := takes_of rfl rfl rfl rfl
theorem ownsX : PassesOwn (model P w) (cxOf (L2.CX P w) P w K mg base N qual scope f cd A outer s H E).A (cxOf (L2.CX P w) P w K mg base N qual scope f cd A outer s H E).env (cxOf (L2.CX P w) P w K mg base N qual scope f cd A outer s H E).xe := passes_of rfl
end
section
variable {X : Cx} {k : Nat} {ps ks : List Str} {sp : Sp} {x : Str} {p pos : Pos} {e : Expr} {es : List Expr} {t tk : TA} {W : WX} {kws : List Keyword} {g : List Value → List Value → List Value} {gV : List V → List V → List V}
theorem pe_callX (D : Dx X.prog X.w X.K X.mg X.base k x ps sp) (takes : Takes X W) (hr : Room k X.A) (hg : Gl X x) (ha : PA X (e :: es) t) (hdb : (x == ("__debug__" : Str)) = false := by decide)
    (he : starEach (e :: es) X.env = (false, eval e X.env) :: starEach es X.env := by rfl) (hpl : (backTo pos (starEach es X.env)).any (·.1) = false := by rfl) :
    PE X (.Call (.Name x p) (e :: es) [] pos) (tCallS sp (WE W) t) := by
  obtain ⟨f, fd, F, g, kp, b⟩ := D.ex
  exact pe_callS F hr hg g kp b (passAt takes) ha hdb he hpl
/-- f(k = v, ..), which may raise -/
def tCallKX (n : Nat) (sp : Sp) (gV : List V → List V → List V) (E : L2.St → XK) (tk : TA) : TE := fun σ H Q => tk σ H fun zs H1 => zs.length = n ∧ sp (gV [] zs) H1 Q (E σ)
theorem pe_callXK (D : Dxk X.prog X.w X.K X.mg X.base k x ps ks g gV sp) (takes : Takes X W) (hr : Room k X.A) (hg : Gl X x) (hkw : PK X kws tk)
    (hall : (backToKw pos (keywordEach kws X.env)).all (·.1.isSome) = true := by rfl) (hks : (backToKw pos (keywordEach kws X.env)).filterMap (·.1) = ks := by rfl) (hdb : (x == ("__debug__" : Str)) = false := by decide)
    (hpl : ((backTo pos (starEach [] X.env)).any (·.1) || (backToKw pos (keywordEach kws X.env)).any (·.1.isNone)) = false := by rfl) :
    PE X (.Call (.Name x p) [] kws pos) (tCallKX ks.length sp gV (WE W) tk) := by
  obtain ⟨f, fd, F, hm, kp, hb⟩ := D.ex
  refine ⟨fun pins s σ H Q I h => ?_⟩
  refine wpAny_Call_Name_kw (ld_glob I hg hm ?_ hdb)
  refine PySem.W.callWith_KW0 (h₀ := X.base) I.ok.mod.kin kp hall ?_ hpl
  refine thn (hkw.run pos pins s σ H _ I h) ?_
  rintro ws s2 ⟨zs, H2, I2, rz, l2, q2⟩
  refine ⟨I2.kIn, ?_⟩
  rw [hks]
  have to := hb.to s2 [] ws I2.kIn rfl (rz.length.symm.trans l2)
  refine wpAny_call (codeAny_mono (F.run X.A X.stack s2 H2 ⟨[], ks.zip ws⟩ (g [] ws) (gV [] zs) Q (WE W σ) hr I2.env0 to (hb.rel .nil rz) q2) fun r s' hq => ?_)
  match r, hq with
  | .error u, hq => exact passAt takes σ pins H2 s2 u s' I2 hq
  | .ok (.ret u), hq => exact I2.after hq
end
/-- the same for a walk that is left at its first item -/
def EF (K : PySem.W.Frag) (W : WX) : L2.St → XK := fun σ cls d H => W cls d σ H ∧ PySem.W.subIn K cls (.type "StopIteration") = some false
section
variable {X : Cx} {k i : Nat} {ps : List Str} {sp : SpF} {x y : Str} {p op bp cpos pos : Pos} {e : Expr} {es : List Expr} {t : TA} {W : WX}
theorem ps_firstD {K0 : PySem.W.Frag} (sameK : X.K = K0) (D : Dx1 X.prog X.w X.K X.mg X.base k x ps sp) (takes : Takes X W) (hr : Room (k + 1) X.A) (hg : Gl X x) (ha : PA X (e :: es) t) (own : PassesOwn (model X.prog X.w) X.A X.env X.xe) (hN : X.N.Nodup) (hi : X.N[i]? = some y) (hl : Loc X.env.scope y)
    (hfn : X.fn y = true ∨ X.env.scope.names.lookup y = some .local) (hdb : (x == ("__debug__" : Str)) = false := by decide)
    (he : starEach (e :: es) X.env = (false, eval e X.env) :: starEach es X.env := by rfl) (hpl : (backTo cpos (starEach es X.env)).any (·.1) = false := by rfl) :
    PS X (.For (.Name y op) (.Call (.Name x p) (e :: es) [] cpos) [.Break bp] [] pos) (tFirst sp (EF K0 W) t i) := by
  obtain ⟨f, fd, F, g, kp, b⟩ := D.ex
  subst sameK
  exact ps_first (E := EF X.K W) F hr hg g kp b ha (fun σ pins H s e s' I c => passAt (W := fun cls d σ H => W cls d σ H ∧ PySem.W.subIn X.K cls (.type "StopIteration") = some false) (takes.imp fun _ _ _ _ z => z.1) σ pins H s e s' I c) (fun σ cls d H (z : EF X.K W σ cls d H) => z.2) own hN hi hl hfn hdb he hpl
end
/-- list.count(True) of bools -/
def rCountB (K : PySem.W.Frag) : V → List V → Hp → VK → Prop := fun x xs H Q => ∃ (p : Addr) (bs : List Bool) (k : Bool), x = .ref p ∧ xs = [.bl k] ∧ SqL K H p (bs.map V.bl) ∧ Q (.int (bs.count k : Nat)) H
theorem reads_bools : ∀ {bs : List Bool} {its : List Value} {hp : Heap}, Vals (bs.map V.bl) its → ∃ as, ReadsAll hp its (bs.map PyData.bool) as
  | [], _, _, r => by
    cases r
    exact ⟨_, ReadsAll.nil⟩
  | b :: bs, _, hp, r => by
    cases r with
    | cons r1 r2 =>
      rename_i u us
      obtain rfl : u = Value.bool b := r1
      obtain ⟨as, h⟩ := reads_bools (hp := hp) r2
      exact ⟨_, ReadsAll.cons (Reads.bool b) h⟩
theorem count_bools (k : Bool) : ∀ bs : List Bool, Spec.countIn (.bool k) (bs.map PyData.bool) = bs.count k
  | [] => rfl
  | b :: bs => by
    show (if Spec.same (.bool b) (.bool k) then 1 else 0) + Spec.countIn (.bool k) (bs.map PyData.bool) = ((b :: bs).count k : Nat)
    rw [count_bools k bs, List.count_cons]
    cases b <;> cases k <;> simp [Spec.same] <;> omega
theorem all_bools : ∀ bs : List Bool, (bs.map PyData.bool).all Shape.bool.has = true
  | [] => rfl
  | _ :: bs => all_bools bs
theorem mt_countB {X : Cx} : MtR X "list.count" (rCountB X.K) := by
  intro pins s σ H x xs v us Q I rx rxs h
  obtain ⟨p, bs, k, rfl, rfl, hs, q⟩ := h
  obtain rfl : v = Value.ref p := rx
  obtain ⟨u, rfl, ru⟩ := rxs.one
  obtain rfl : u = Value.bool k := ru
  obtain ⟨its, rv, hl, _⟩ := I.list hs
  obtain ⟨as, ra⟩ := reads_bools (hp := s.heap) rv
  refine count_list_bools hl.isList ra ?_ ⟨.int (bs.count k : Nat), H, I.tok _, ⟨s.toks, ?_⟩, q⟩
  · exact all_bools bs
  · rw [count_bools]
/-- what is wanted of an error of the class at C that holds v -/
def Wish (E : XK) (C : Addr) (v : V) (H : Hp) : Prop := ∀ d, H d = none → E (.ref C) (some d) (upd H d (exd d [(("value" : Str), v)]))
end Sq

set_option Elab.async false
set_option linter.all false
set_option maxRecDepth 100000
set_option maxHeartbeats 4000000
/-! A def called within an except suite: walks over lists, pairs unpacked, comprehensions, the handled error asked. -/
namespace Sq
open PySem PySem.Spec PyProof.Rows L2 HotX L2H
section
variable {prog : Program} {w : World} {A : Around} {E : Value → Shared → Prop} {s : Shared}
/-- the walk over a list ends while an error is handled -/
theorem list_end_hot {it l x1 : Addr} {i : Nat} {items : Array Value} {Q : Option Value → Shared → Prop} (hot : HotAt A x1 s.heap)
    (hit : s.heap.IsListIter it l i) (lenσ : s.heap.IsList l items) (gotX : items[i]? = none)
    (hQ : ∀ h', Heap.ExtBut it s.heap h' → Q none { s with heap := h' }) : wpAny (model prog w) A (pyNext (.ref it)) Q E s := by
  obtain ⟨o, ho, mood, hd⟩ := id hit
  obtain ⟨ol, hol, _, nl, hdl⟩ := lenσ
  obtain ⟨hh, o1, vsB, h1, d1, c1⟩ := hot
  by_cases n1 : x1 = it
  · exfalso
    subst n1
    rw [ho] at h1
    cases h1
    rw [hd] at d1
    cases d1
    cases c1
  have k1 : (s.heap.update it (Obj.mapFields (·.setIfInBounds 0 Value.none))).get? x1 = some o1 := (Heap.get?_update_other _ _ (Ne.symm n1)).trans h1
  unfold pyNext
  refine wpAny_bind (wpAny_attempt (wpAny_callSpecial?_slot (name := Str.ofString "__next__") hit.typeIs slot_listiter_next
    (wpAny_call_entry slot_listiter_next hit.typeIs entry_listiter_next ?_ (args_listiter_next _))))
  show wpAny _ _ (field (.ref it) 0 >>= _) _ _ s
  refine wpAny_bind (wpAny_field ho hd (x := .ref l) rfl ?_)
  show wpAny _ _ (if (Value.ref l == Value.none) = true then _ else _) _ _ s
  rw [if_neg (show ¬ ((Value.ref l == Value.none) = true) from Bool.false_ne_true)]
  show wpAny _ _ (field (.ref it) 1 >>= _) _ _ s
  refine wpAny_bind (wpAny_field ho hd (x := .int i 0) rfl ?_)
  show wpAny _ _ (seqItems? (.ref l) >>= _) _ _ s
  refine wpAny_bind (wpAny_seqItems hol hdl ?_)
  simp only [Int.toNat_natCast, gotX]
  refine wpAny_bind (wpAny_rule (wpAny_bind (wpAny_setField ho hd (by simp) ?_)))
  show wpAny _ _ (newExc (.type "StopIteration") [] >>= _) _ _ _
  refine wpAny_bind ?_
  simp only [newExc, newTuple]
  refine wpAny_bind (wpAny_newObj_type ?_ (by size_fits))
  refine wpAny_bind (m := firstArgMember _ _) (wpAny_of_eq (a := Value.none) (by first | rfl | (simp only [firstArgMember]; rfl)) ?_)
  refine wpAny_newObj_type ?_ (by size_fits)
  refine raiseNew_hot ⟨hh, o1, vsB, Heap.get?_push_of_some _ (Heap.get?_push_of_some _ k1), d1, c1⟩ (Nat.ne_of_lt (Heap.lt_size (Heap.get?_push_of_some _ k1))) (Heap.get?_push_size _ rfl) rfl (by first | (simp; done) | (simp; omega) | (simp only [Array.size_append]; simp; omega)) ?_
  refine wpAny_bind (wpAny_isInstance (T := "StopIteration") (b := true) ⟨_, Heap.get?_update_self _ (Heap.get?_push_size _ rfl) rfl, rfl⟩ isSubtype_stop ?_)
  refine wpAny_pure (hQ _ fun b o nb e => ?_)
  have e2 : (s.heap.update it (Obj.mapFields (·.setIfInBounds 0 Value.none))).get? b = some o := (Heap.get?_update_other _ _ (Ne.symm nb)).trans e
  rw [Heap.get?_update_other _ _ (Nat.ne_of_gt (Heap.lt_size (Heap.get?_push_of_some _ e2)))]
  exact Heap.get?_push_of_some _ (Heap.get?_push_of_some _ e2)
/-- the same of a pair -/
theorem tup_end_hot {it t x1 : Addr} {i : Nat} {items : Array Value} {Q : Option Value → Shared → Prop} (hot : HotAt A x1 s.heap)
    (hit : IsTupIter s.heap it t i) (testsA : IsTup s.heap t items) (gotX : items[i]? = none)
    (hQ : ∀ h', Heap.ExtBut it s.heap h' → Q none { s with heap := h' }) : wpAny (model prog w) A (pyNext (.ref it)) Q E s := by
  obtain ⟨o, ho, mood, hd⟩ := id hit
  obtain ⟨ol, hol, _, nl, hdl⟩ := testsA
  obtain ⟨hh, o1, vsB, h1, d1, c1⟩ := hot
  by_cases n1 : x1 = it
  · exfalso
    subst n1
    rw [ho] at h1
    cases h1
    rw [hd] at d1
    cases d1
    cases c1
  have k1 : (s.heap.update it (Obj.mapFields (·.setIfInBounds 0 Value.none))).get? x1 = some o1 := (Heap.get?_update_other _ _ (Ne.symm n1)).trans h1
  unfold pyNext
  refine wpAny_bind (wpAny_attempt (wpAny_callSpecial?_slot (name := Str.ofString "__next__") hit.typeIs slot_tupleiter_next
    (wpAny_call_entry slot_tupleiter_next hit.typeIs entry_tupleiter_next ?_ (args_tupleiter_next _))))
  show wpAny _ _ (field (.ref it) 0 >>= _) _ _ s
  refine wpAny_bind (wpAny_field ho hd (x := .ref t) rfl ?_)
  show wpAny _ _ (if (Value.ref t == Value.none) = true then _ else _) _ _ s
  rw [if_neg (show ¬ ((Value.ref t == Value.none) = true) from Bool.false_ne_true)]
  show wpAny _ _ (field (.ref it) 1 >>= _) _ _ s
  refine wpAny_bind (wpAny_field ho hd (x := .int i 0) rfl ?_)
  show wpAny _ _ (seqItems? (.ref t) >>= _) _ _ s
  refine wpAny_bind (wpAny_seqItems hol hdl ?_)
  simp only [Int.toNat_natCast, gotX]
  refine wpAny_bind (wpAny_rule (wpAny_bind (wpAny_setField ho hd (by simp) ?_)))
  show wpAny _ _ (newExc (.type "StopIteration") [] >>= _) _ _ _
  refine wpAny_bind ?_
  simp only [newExc, newTuple]
  refine wpAny_bind (wpAny_newObj_type ?_ (by size_fits))
  refine wpAny_bind (m := firstArgMember _ _) (wpAny_of_eq (a := Value.none) (by first | rfl | (simp only [firstArgMember]; rfl)) ?_)
  refine wpAny_newObj_type ?_ (by size_fits)
  refine raiseNew_hot ⟨hh, o1, vsB, Heap.get?_push_of_some _ (Heap.get?_push_of_some _ k1), d1, c1⟩ (Nat.ne_of_lt (Heap.lt_size (Heap.get?_push_of_some _ k1))) (Heap.get?_push_size _ rfl) rfl (by first | (simp; done) | (simp; omega) | (simp only [Array.size_append]; simp; omega)) ?_
  refine wpAny_bind (wpAny_isInstance (T := "StopIteration") (b := true) ⟨_, Heap.get?_update_self _ (Heap.get?_push_size _ rfl) rfl, rfl⟩ isSubtype_stop ?_)
  refine wpAny_pure (hQ _ fun b o nb e => ?_)
  have e2 : (s.heap.update it (Obj.mapFields (·.setIfInBounds 0 Value.none))).get? b = some o := (Heap.get?_update_other _ _ (Ne.symm nb)).trans e
  rw [Heap.get?_update_other _ _ (Nat.ne_of_gt (Heap.lt_size (Heap.get?_push_of_some _ e2)))]
  exact Heap.get?_push_of_some _ (Heap.get?_push_of_some _ e2)
theorem unpack_hot {t x1 : Addr} {items : Array Value} {Q : List Value → Shared → Prop} (hot : HotAt A x1 s.heap) (testsA : IsTup s.heap t items)
    (hQ : ∀ h', Heap.ExtBut s.heap.objs.size s.heap h' → Q items.toList { s with heap := h' }) : wpAny (model prog w) A (unpackItems (.ref t) items.size none) Q E s := by
  have hlt : t ≠ s.heap.objs.size := by obtain ⟨o, ho, _⟩ := testsA; exact Nat.ne_of_lt (Heap.lt_size ho)
  unfold unpackItems
  refine wpAny_bind ?_
  · unfold notIterableAtAll
    refine wpAny_bind (wpAny_specialOf testsA.typeIs slot_tuple_iter.lookup ?_)
    refine wpAny_pure ?_
    simp only [Bool.false_eq_true, if_false]
    refine wpAny_bind (wpAny_holding (iter_tuple testsA ?_))
    refine wpAny_bind (wpAny_holding (draw_tuple hlt items.size 0 _ _ ⟨_, Heap.get?_push_size _ rfl, rfl, rfl⟩ (testsA.push _) (by omega) fun h₁ hit₁ hs₁ => ?_))
    have hall : List.take items.size (List.drop 0 items.toList) = items.toList := by
      rw [List.drop_zero]; exact List.take_of_length_le (by simp)
    rw [hall]
    rw [if_neg (by simp)]
    have ht₁ : IsTup h₁ t items := (testsA.push _).extBut hs₁.extBut hlt
    have hot₁ : HotAt A x1 h₁ := by
      obtain ⟨hh, o1, vsB, h1, d1, c1⟩ := hot
      exact ⟨hh, o1, vsB, hs₁.extBut x1 o1 (Nat.ne_of_lt (Heap.lt_size h1)) (Heap.get?_push_of_some _ h1), d1, c1⟩
    refine wpAny_bind (wpAny_holding (tup_end_hot hot₁ hit₁ ht₁ (by simp) fun h₂ he₂ => ?_))
    simp only [Option.isSome_none, Bool.false_eq_true, if_false]
    refine wpAny_pure (hQ h₂ fun b o hb e => he₂ b o hb (hs₁.extBut b o hb (Heap.get?_push_of_some _ e)))
theorem assign_tup_hot {env : Env} {elts : List Expr} {k} {pos : Pos} {t x1 : Addr} {items : Array Value} {Q : Unit → Shared → Prop} (hot : HotAt A x1 s.heap) (testsA : IsTup s.heap t items)
    (nsC : (assignEach elts env).length = items.size) (hstar : (assignEach elts env).findIdx? (·.1) = none)
    (h : ∀ h', Heap.ExtBut s.heap.objs.size s.heap h' → wpAny (model prog w) A (assignInOrder ((assignEach elts env).map (·.2)) items.toList) Q E { s with heap := h' }) :
    wpAny (model prog w) A (assign (.Tuple elts k pos) env (.ref t)) Q E s := by
  rw [assign_Tuple]
  refine wpAny_bind (wpAny_standAt ?_)
  unfold unpack
  rw [nsC, hstar]
  exact wpAny_bind (wpAny_holding (unpack_hot hot testsA h))
end
/-! ### hot contexts -/
/-- wherever the context's invariant holds an error is handled whose context is None -/
def HotW (X : Cx) : Prop := ∀ (pins : List (Addr × Obj)) (σ : L2.St) (H : Hp) (s : Shared), Inv X pins σ H s → ∃ x1, HotAt X.A x1 s.heap
theorem HotC.w {X : Cx} (c : HotC X) : HotW X := fun _ _ _ _ I => c.at I
theorem hot_pgTup {X : Cx} {es : List Expr} {k : Nat} {t : TGs} {n : Nat} {pos : Pos} (mood : HotW X) (h : PGs X es t)
    (nsC : (assignEach es X.env).length = n := by rfl) (hst : (assignEach es X.env).findIdx? (·.1) = none := by rfl) : PG X (.Tuple es k pos) (gTup X.K n t) := by
  refine ⟨fun pins s σ H v u Q I r hw => ?_⟩
  obtain ⟨a, xs, eqB, hq, lenσ, hw⟩ := hw
  subst eqB
  cases r
  obtain ⟨its, rv, testsA, hz⟩ := I.tuple hq
  obtain ⟨x1, hot⟩ := mood _ _ _ _ I
  refine assign_tup_hot hot testsA (by simp [nsC, ← lenσ, rv.length]) hst fun h' gotX => ?_
  have I1 : Inv X pins σ H { s with heap := h' } := I.kept (t' := s.toks) fun b o e => gotX b o (Nat.ne_of_lt (Heap.lt_size e)) e
  exact h.run pins _ σ H xs _ Q I1 (by simpa using rv) hw
structure TurnW (P : Program) (w : World) (K : PySem.W.Frag) (tg : Expr) (J : It) (fp : List Addr) (it : Addr) (tn : Nat → Heap → Prop) : Prop where
  mem : it ∈ fp
  obj : ∀ i h, tn i h → ∀ b ∈ fp, ∃ o, h.get? b = some o ∧ ∀ v, o.data ≠ .cell v
  keep : ∀ i h h', tn i h → (∀ b ∈ fp, ∀ o, h.get? b = some o → h'.get? b = some o) → tn i h'
  item : ∀ (X : Cx), X.prog = P → X.w = w → X.K = K → HotW X → ∀ (i : Nat) (pins : List (Addr × Obj)) (s : Shared) (σ : L2.St) (H : Hp) (E : Value → Shared → Prop), Inv X pins σ H s → (∀ b ∈ fp, FpOk X pins H b) → tn i s.heap → J.go i H →
    wpAny (model P w) X.A (pyNext (.ref it)) (fun r sA => ∃ u, r = some u ∧
      wpAny (model P w) X.A (letOwnedTupleGo tg (.ref it) u) (fun _ sB => ∃ x H', Inv X pins σ H' sB ∧ RelV x u ∧ J.yld i H x H' ∧ tn (i + 1) sB.heap ∧ ∀ b ∈ fp, H' b = none) E sA) E s
  done : ∀ (X : Cx), X.prog = P → X.w = w → X.K = K → HotW X → ∀ (i : Nat) (pins : List (Addr × Obj)) (s : Shared) (σ : L2.St) (H : Hp) (E : Value → Shared → Prop), Inv X pins σ H s → (∀ b ∈ fp, FpOk X pins H b) → tn i s.heap → J.stop i H →
    wpAny (model P w) X.A (pyNext (.ref it)) (fun r sA => r = none ∧ Inv X pins σ H sA) E s
  self : ∀ (A : Around) (i : Nat) (s : Shared) (Q : Value → Shared → Prop) (E : Value → Shared → Prop), tn i s.heap → Q (.ref it) s → wpAny (model P w) A (pyIter (.ref it)) Q E s
theorem turn_listW {P : Program} {w : World} {K : PySem.W.Frag} {tg : Expr} (a it : Addr) : TurnW P w K tg (Itl K a) [it] it (fun i h => h.IsListIter it a i) where
  mem := by simp
  obj := fun i h st b hb => by
    have e : b = it := by simpa using hb
    subst e
    obtain ⟨o, e, c, d⟩ := st
    exact ⟨o, e, fun v z => by rw [d] at z; cases z⟩
  keep := fun i h h' st k => st.at fun o e => k it (by simp) o e
  item := by
    intro X hP hw hK mood i pins s σ H E I hf st targetA
    subst hP hw hK
    obtain ⟨xs, x, hq, gotX⟩ := targetA
    obtain ⟨its, rv, p, hz⟩ := I.list hq
    obtain ⟨u, hu, ru⟩ := rv.get gotX
    obtain ⟨f0, f1, f2, roam3, f4, f5⟩ := hf it (by simp)
    refine wpAny_pyNext_list_item st p.isList (x := u) (by simpa using hu) fun h' st' sb => ?_
    have I1 : Inv X pins σ H { s with heap := h' } := I.turned (t' := s.toks) (fun b o hb e => (sb.2 b hb).trans e) f0 f1 roam3 f4 f5
    obtain ⟨o, e, c, d⟩ := id st'
    exact ⟨u, rfl, go_of (s := { s with heap := h' }) e c d (by decide) ⟨x, H, I1, ru, ⟨rfl, fun ys hy => by rw [I.list_inj hy hq]; exact gotX⟩, st', fun b hb => (hf b hb).1⟩⟩
  done := by
    intro X hP hw hK mood i pins s σ H E I hf st targetA
    subst hP hw hK
    obtain ⟨xs, hq, gotX⟩ := targetA
    obtain ⟨its, rv, p, hz⟩ := I.list hq
    obtain ⟨f0, f1, f2, roam3, f4, f5⟩ := hf it (by simp)
    have lenσ := rv.length
    obtain ⟨x1, hot⟩ := mood _ _ _ _ I
    exact list_end_hot hot st p.isList (by simp; omega) fun h' eb => ⟨rfl, I.turned (t' := s.toks) (fun b o hb e => eb b o hb e) f0 f1 roam3 f4 f5⟩
  self := fun _ _ _ _ _ st h => wpAny_pyIter_listiter st h
def PIEW (X : Cx) (pins : List (Addr × Obj)) (σ : L2.St) (tg : Expr) (R : It → Hp → Prop) (itV : Value) (sB : Shared) : Prop :=
  ∃ (it : Addr) (fp : List Addr) (tn : Nat → Heap → Prop) (J : It) (H' : Hp), itV = .ref it ∧ Inv X pins σ H' sB ∧ TurnW X.prog X.w X.K tg J fp it tn ∧ tn 0 sB.heap ∧ (∀ b ∈ fp, FpOk X pins H' b) ∧ R J H'
structure PIW (X : Cx) (tg iter : Expr) (wi : TI) : Prop where
  run : ∀ (pins : List (Addr × Obj)) (s : Shared) (σ : L2.St) (H : Hp) (R : It → Hp → Prop), Inv X pins σ H s → wi σ H R →
    wpAny (model X.prog X.w) X.A (eval iter X.env) (fun v sA => wpAny (model X.prog X.w) X.A (pyIter v) (PIEW X pins σ tg R) X.xe sA) X.xe s
theorem hot_list {X : Cx} {tg l : Expr} {tl : TE} (lenσ : PE X l tl) : PIW X tg l (iList X.K tl) := by
  refine ⟨fun pins s σ H R I h => ?_⟩
  refine thn (lenσ.run pins s σ H _ I h) fun v sA ⟨x, H1, I1, r1, q1⟩ => ?_
  obtain ⟨a, e, ⟨xs, hq⟩, q⟩ := q1
  subst e
  cases r1
  obtain ⟨its, rv, p, hz⟩ := I1.list hq
  refine wpAny_pyIter_list p.isList ?_
  refine ⟨sA.heap.objs.size, [sA.heap.objs.size], _, _, H1, rfl, I1.kept (t' := sA.toks) fun b o e => Heap.get?_push_of_some _ e, turn_listW a _, ⟨_, Heap.get?_push_size _ rfl, rfl, rfl⟩, fun b hb => ?_, q⟩
  have e : b = sA.heap.objs.size := by simpa using hb
  subst e
  exact I1.fpOk (Nat.le_refl _) (I1.hok.fresh (Nat.le_refl _))
section
variable {X : Cx}
theorem lc_coreH {pins : List (Addr × Obj)} {s : Shared} {σ : L2.St} {H : Hp} {Q : VK} {elt tg iter : Expr} {ifs : List Expr} {scope : Scope} {own : List (Str × Nat)} {pos pos' : Pos} {wi : TI} {g : TG} {tt : TT} {te : TE} {use : Option (Value → Sem Unit)} {Qf : Value → Shared → Prop}
    (mood : HotC X) (nodupN : X.N.Nodup) (I : Inv X pins σ H s) (sourceA : PIW X tg iter wi) (ok : BlkOk X.N X.env.scope scope own)
    (targetA : ∀ (s : Shared) (H : Hp) (C : Addr) (cl : List (Str × Addr)) (fp : List Addr), HotW (X.blk s H scope (compEnvC scope cl C X.env) fp) → PG (X.blk s H scope (compEnvC scope cl C X.env) fp) tg g) (testsA : ∀ (s : Shared) (H : Hp) (C : Addr) (cl : List (Str × Addr)) (fp : List Addr), PTs (X.blk s H scope (compEnvC scope cl C X.env) fp) ifs tt)
    (elemA : ∀ (s : Shared) (H : Hp) (C : Addr) (cl : List (Str × Addr)) (fp : List Addr), PE (X.blk s H scope (compEnvC scope cl C X.env) fp) elt te) (plainA : ∀ x, foldedSetIterable iter X.env x = pure x)
    (h : tLc wi g tt te (own.map (·.2)) σ H Q)
    (back : ∀ D C s' m H', Inv X pins σ H' s' → Q (.ref D) H' → s'.heap.Ns C m → FpOk X pins H' C → compPost (model X.prog X.w) X.A X.xe use Qf (.ref D) C (.ok .next) s') :
    wpAny (model X.prog X.w) X.A (comprehension (.ListComp elt [⟨tg, iter, ifs, 0⟩] scope pos) scope X.env pos' (newList []) false (eval iter X.env) use) Qf X.xe s := by
  have captured : ∀ y ∈ scope.names, y.2 = .free → ∃ c, X.env.cells.lookup y.1 = some c := fun y hy e => by
    rcases ok.free y hy e with k | k
    · exact I.ok.has _ (.inl k)
    · exact I.ok.has _ (.inr k)
  refine wpAny_comprehension_free (use := use) rfl plainA (closure_ok captured) ok.kind (fun y hy e => by rw [ok.uniq y hy, e])
    (thn (sourceA.run pins s σ H _ I h) fun srcV sA gotX => thn gotX fun itV sB h2 => ?_)
  obtain ⟨it, fp, tn, J, HB, e, I2, T, st2, f2, q⟩ := h2
  subst e
  refine wpAny_newObj_type (newEnv_comp ?_) (by show 0 ≤ sizeLine; decide)
  generalize atD : sB.heap.objs.size = D
  have freshD : HB D = none := I2.hok.fresh (Nat.le_of_eq atD)
  obtain ⟨W, ⟨mes0, inv0⟩, walk0⟩ := q D freshD
  -- the new list
  generalize laid3 : ({ sB with heap := sB.heap.push { cls := .type "list", data := .seq ([] : List Value).toArray } } : Shared) = sC
  have J3 : Inv X pins σ (upd HB D (.lst [])) sC := by
    rw [← laid3]
    refine I2.laid (t' := sB.toks) (fun b o e => Heap.get?_push_of_some _ e) (Nat.le_of_eq atD) ⟨Nat.zero_le _, [], 0, .nil, ?_⟩
    rw [← atD]
    exact Heap.get?_push_size _ rfl
  have heap3 : sC.heap = sB.heap.push { cls := .type "list", data := .seq ([] : List Value).toArray } := by rw [← laid3]
  have below : ∀ b ∈ fp, b < sB.heap.objs.size := fun b hb => by
    obtain ⟨o, e, _⟩ := T.obj _ _ st2 b hb
    exact Heap.lt_size e
  have roam3 : ∀ b ∈ fp, FpOk X pins (upd HB D (.lst [])) b ∧ b < sC.heap.objs.size := fun b hb => by
    have hlt := below b hb
    refine ⟨⟨?_, (f2 b hb).2⟩, by rw [heap3, Heap.size_push]; exact Nat.lt_succ_of_lt hlt⟩
    rw [upd_ne (by rw [← atD]; exact Nat.ne_of_lt hlt)]
    exact (f2 b hb).1
  have turn3 : tn 0 sC.heap := T.keep _ _ _ st2 fun b _ o e => by rw [heap3]; exact Heap.get?_push_of_some _ e
  have J4 := block_start J3 ok nodupN roam3
  have tgt := targetA sC (upd HB D (.lst [])) sC.heap.objs.size (cellsFrom (sC.heap.objs.size + 1) scope.names (cloFrom X.env.cells scope.names [])) fp
  have tst := testsA sC (upd HB D (.lst [])) sC.heap.objs.size (cellsFrom (sC.heap.objs.size + 1) scope.names (cloFrom X.env.cells scope.names [])) fp
  have elm := elemA sC (upd HB D (.lst [])) sC.heap.objs.size (cellsFrom (sC.heap.objs.size + 1) scope.names (cloFrom X.env.cells scope.names [])) fp
  show codeAny _ _ (.compStart (.ListComp elt [⟨tg, iter, ifs, 0⟩] scope pos) 0 (.ref it) (.ref D) (compEnvC scope (cellsFrom (sC.heap.objs.size + 1) scope.names (cloFrom X.env.cells scope.names [])) sC.heap.objs.size X.env)) (compPost (model X.prog X.w) X.A X.xe use Qf (.ref D) sC.heap.objs.size) { sC with heap := pushCells (sC.heap.push { cls := .type "dict", data := .dict #[] }) scope.names }
  have untr : ∀ b ∈ fp, (upd HB D (.lst [])) b = none := fun b hb => (roam3 b hb).1.1
  generalize blkE : compEnvC scope (cellsFrom (sC.heap.objs.size + 1) scope.names (cloFrom X.env.cells scope.names [])) sC.heap.objs.size X.env = ce at J4 tgt tst elm ⊢
  have locE : ce.locals = sC.heap.objs.size := by subst blkE; rfl
  generalize heapE : upd HB D (.lst []) = HC at J3 J4 tgt tst elm inv0 untr roam3
  -- the error is handled in the block, too
  have hotB : HotW (X.blk sC HC scope ce fp) := by
    obtain ⟨p, ⟨hh, v1, eqB, c1⟩, hp⟩ := id mood
    have P1 := J3.pin p (List.mem_append_left _ hp)
    intro pinsB σB HB sB IB
    refine ⟨p.1, hh, p.2, v1, IB.base.keep p.1 p.2 P1.1 P1.2.1 (fun lessM => (List.mem_cons.mp (J3.stkSub p.1 lessM)).elim P1.2.2.1 P1.2.2.2.1) (fun lessM => ?_), eqB, c1⟩
    exact (roam3 p.1 lessM).1.2.2.2.2.2 p (List.mem_append_left _ hp) rfl
  have tgt := tgt hotB
  generalize laid4 : ({ sC with heap := pushCells (sC.heap.push { cls := .type "dict", data := .dict #[] }) scope.names } : Shared) = sD at J4 ⊢
  have turn4 : tn 0 sD.heap := T.keep _ _ _ turn3 fun b _ o e => by rw [← laid4]; exact pushCells_keeps _ _ _ _ (Heap.get?_push_of_some _ e)
  have stat : ∀ {σ' : L2.St} {H' : Hp} {s' : Shared}, Inv (X.blk sC HC scope ce fp) [] σ' H' s' → (∀ b ∈ fp, H' b = none) → ∀ b ∈ fp, FpOk (X.blk sC HC scope ce fp) [] H' b := fun {σ' H' s'} I' nsC b hb =>
    ⟨nsC b hb, (I'.ok.exf b hb).1, I'.ok.exfs b hb, .inl hb, fun x c e => (I'.ok.exf b hb).2 x c e, fun p hp => absurd (show p ∈ ([] : List (Addr × Obj)) ++ [] from hp) (by simp)⟩
  have outer0 : codeAny (model X.prog X.w) X.A (.compLoop (.ListComp elt [⟨tg, iter, ifs, 0⟩] scope pos) 0 (.ref it) (.ref D) ce) (compPost (model X.prog X.w) X.A X.xe use Qf (.ref D) sC.heap.objs.size) sD := by
    refine compLoop_any (fun n s' => ∃ i H', Inv (X.blk sC HC scope ce fp) [] (wipe σ (own.map (·.2))) H' s' ∧ tn i s'.heap ∧ (∀ b ∈ fp, H' b = none) ∧ W i n H') ?_ mes0 ⟨0, HC, J4, turn4, untr, inv0⟩
    rintro n sE ⟨i, HE, J5, turn5, un5, inv5⟩
    rcases walk0 i n HE inv5 with ⟨atEnd, done0⟩ | ⟨more, NxA, reach, step⟩
    · have ended := T.done (X.blk sC HC scope ce fp) rfl rfl rfl hotB i [] sE _ HE (fun _ _ => False) J5 (stat J5 un5) turn5 atEnd
      refine thnF ended fun r sF ⟨hr, J6⟩ => ?_
      subst hr
      -- back in the def's context
      have J7 : Inv X pins σ HE sF := J3.call' (ch := fp) J6.os J6.base J6.hok J6.bare fun b hb => ⟨(roam3 b hb).1.2.2.2.1, (roam3 b hb).1.2.1, (roam3 b hb).1.2.2.2.2.1, (roam3 b hb).1.2.2.2.2.2⟩
      have freeC : HE sC.heap.objs.size = none := by
        have z : HE ce.locals = none := J6.free
        rw [locE] at z
        exact z
      obtain ⟨m, nsC, _⟩ := J6.loc
      have nsC : sF.heap.Ns ce.locals m := nsC
      rw [locE] at nsC
      exact back D sC.heap.objs.size sF m HE J7 done0 nsC (J3.fpOk (Nat.le_refl _) freeC)
    · have given := T.item (X.blk sC HC scope ce fp) rfl rfl rfl hotB i [] sE _ HE (fun _ _ => False) J5 (stat J5 un5) turn5 more
      refine thnF given fun r sF ⟨u, hr, got6⟩ => ?_
      subst hr
      refine thnF got6 fun _ sG ⟨x, HG, J7, rel7, yld7, turn7, un7⟩ => ?_
      have J7p := J7.pinned (stat J7 un7) (T.obj _ _ turn7)
      refine thnF (tgt.run _ sG _ HG x u _ J7p rel7 (step x HG yld7)) fun _ sH ⟨τ, HH, J8, wip8, go8⟩ => ?_
      refine thnF (tst.run _ sH τ HH _ J8 go8) fun b sI ⟨HI, J9, go9⟩ => ?_
      -- the turn's end
      have close : ∀ {s' : Shared} {H' : Hp}, Inv (X.blk sC HC scope ce fp) ([] ++ pinsAt fp sG.heap) τ H' s' → NxA H' → ∃ m, m < n ∧ ∃ i H', Inv (X.blk sC HC scope ce fp) [] (wipe σ (own.map (·.2))) H' s' ∧ tn i s'.heap ∧ (∀ b ∈ fp, H' b = none) ∧ W i m H' := fun {s' H'} I' nextW => by
        obtain ⟨m', lessM, invM⟩ := reach H' nextW
        have kept : ∀ b ∈ fp, ∀ o, sG.heap.get? b = some o → s'.heap.get? b = some o ∧ H' b = none := fun b hb o e =>
          let z := I'.pin (b, o) (List.mem_append_right _ (List.mem_append_right _ (mem_pinsAt hb e)))
          ⟨z.1, z.2.1⟩
        have lenσ : (wipe σ (own.map (·.2))).length = τ.length := by rw [← wip8, wipe_length]
        refine ⟨m', lessM, i + 1, H', (I'.unpinned (pins := [])).weak lenσ (fun j v e => ?_), T.keep _ _ _ turn7 fun b hb o e => (kept b hb o e).1, fun b hb => ?_, invM⟩
        · rw [← wip8] at e
          exact (wipe_some e).1
        · obtain ⟨o, e, _⟩ := T.obj _ _ turn7 b hb
          exact (kept b hb o e).2
      cases b with
      | false =>
        simp only [Bool.false_eq_true, if_false] at go9 ⊢
        exact close J9 go9
      | true =>
        simp only [if_true] at go9 ⊢
        refine thnF (elm.run _ sI τ HI _ J9 go9) fun z sJ ⟨yv, HJ, J10, rel10, acc, acc10, room10, nextW⟩ => ?_
        exact app_ok (X := X.blk sC HC scope ce fp) J10 acc10 room10 rel10 fun sK J11 => close J11 nextW
  exact codeAny_compStart_list outer0 (T.self X.A 0 _ _ _ turn4 outer0)
/-- name = [..] on one line, the name a local, an error being handled -/
theorem hot_setLc {i : Nat} {y : Str} {py : Pos} {elt tg iter : Expr} {ifs : List Expr} {scope : Scope} {own : List (Str × Nat)} {pos spos : Pos} {wi : TI} {g : TG} {tt : TT} {te : TE} (mood : HotC X) (nodupN : X.N.Nodup) (hy : X.N[i]? = some y) (hyl : X.env.scope.names.lookup y = some .local)
    (hsw : swapsWith (.ListComp elt [⟨tg, iter, ifs, 0⟩] scope pos) (some (.Name y py)) spos.line X.env = pure true) (sourceA : PIW X tg iter wi) (ok : BlkOk X.N X.env.scope scope own)
    (targetA : ∀ (s : Shared) (H : Hp) (C : Addr) (cl : List (Str × Addr)) (fp : List Addr), HotW (X.blk s H scope (compEnvC scope cl C X.env) fp) → PG (X.blk s H scope (compEnvC scope cl C X.env) fp) tg g) (testsA : ∀ (s : Shared) (H : Hp) (C : Addr) (cl : List (Str × Addr)) (fp : List Addr), PTs (X.blk s H scope (compEnvC scope cl C X.env) fp) ifs tt)
    (elemA : ∀ (s : Shared) (H : Hp) (C : Addr) (cl : List (Str × Addr)) (fp : List Addr), PE (X.blk s H scope (compEnvC scope cl C X.env) fp) elt te) (plainA : ∀ x, foldedSetIterable iter X.env x = pure x := by intro _; rfl) :
    PS X (.Assign [.Name y py] (.ListComp elt [⟨tg, iter, ifs, 0⟩] scope pos) spos) (tAsg (tLc wi g tt te (own.map (·.2))) (gName i)) := by
  refine ⟨fun pins s σ H D I h => ?_⟩
  rw [exec_Assign_Name_used _ _ _ _ hsw]
  refine wpAny_bind (wpAny_standAt (wpAny_bind ?_))
  show wpAny _ X.A (do let _ ← comprehension (.ListComp elt [⟨tg, iter, ifs, 0⟩] scope pos) scope X.env (firstIterPos [⟨tg, iter, ifs, 0⟩] pos) (newList []) false (eval iter X.env) (some (assign (.Name y py) X.env))) _ _ s
  have h : tLc wi g tt te (own.map (·.2)) σ H (fun x H1 => gName i x σ H1 D.nx) := h
  refine wpAny_bind (thn (lc_coreH (Qf := fun _ s' => SP X pins D .next s') mood nodupN I sourceA ok targetA testsA elemA plainA h fun L C s' m H' I' q nsC f => ?_) fun _ s' hq => wpAny_pure (wpAny_pure hq))
  show wpAny _ _ (assign (.Name y py) X.env (.ref L)) _ _ _
  refine wpAny_assign_Name (store_ok2 (v := V.ref L) I' nodupN hy (.inl hyl) rfl (fun sB I2 ⟨a, sb, ha⟩ => ?_) (.inr hyl))
  obtain ⟨f0, f1, f2, roam3, f4, f5⟩ := f
  have haC : C ≠ a := by
    rcases ha with z | z
    · rw [z]; exact f1
    · exact fun e => f4 y a z e.symm
  refine ⟨m, nsC.sameBut sb haC, fun heap3 sb3 => ?_⟩
  exact ⟨_, H', I2.turned (t' := sB.toks) (fun b o hb e => (sb3.2 b hb).trans e) f0 f1 roam3 f4 f5, q⟩
end
end Sq

set_option Elab.async false
set_option linter.all false
set_option maxRecDepth 100000
set_option maxHeartbeats 4000000
/-! A def of the law called within an except suite with the caught error. -/
namespace Sq
open PySem PySem.Spec PyProof.Rows L2 HotX L2H
/-- what a def promises there: e the handled error, its class, its dict -/
abbrev SpZ := Addr → Value → Option Addr → Sp
structure FnHZ (P : Program) (w : World) (K : PySem.W.Frag) (mg : Str → Option Value) (base : Heap) (CX : CXT) (k : Nat) (f : Addr) (fd : FuncData) (ps : List Str) (sp : SpZ) : Prop where
  len : ∀ a c d vs H Q E, sp a c d vs H Q E → vs.length = ps.length
  run : ∀ (A : Around) (outer : List Env) (s : Shared) (H : Hp) (args : Args) (us : List Value) (vs : List V) (Q : VK) (E : XK) (p : Addr × Obj) (cls : Value) (d : Option Addr), RoomH k A → Hot1 A p → L2N.Zn cls d p.2 → PinOk outer H s p → Env0 P w K mg base A outer s H → BindsTo s fd args (ps.zip us) → Vals vs us → sp p.1 cls d vs H Q E →
    codeAny (model P w) A (.call (.ref f) args) (CR CX outer P w H s Q E) s
theorem fn_ofHZ {CX : CXT} {P : Program} {w : World} {K : PySem.W.Frag} {mg : Str → Option Value} {base : Heap} {k : Nat} {f : Addr} {x qual : Str} {st : Stmt} {fd : FuncData} {N ps : List Str} {sp : SpZ}
    (F : Fun K x qual st f fd) (S : FnScope N ps (defScope st)) (len : ∀ a c d vs H Q E, sp a c d vs H Q E → vs.length = ps.length)
    (hbody : ∀ (cdv : Value) (A : Around) (outer : List Env) (s : Shared) (H : Hp) (vs : List V) (Q : VK) (E : XK) (p : Addr × Obj) (cls : Value) (d : Option Addr), Hot1 A p → L2N.Zn cls d p.2 → RoomH k (A.deeper (envOfC qual (defScope st) s.heap.objs.size f cdv)) → sp p.1 cls d vs H Q E →
      ∃ t, PSs (cxH CX P w K mg base N qual (defScope st) f cdv A outer s H E p) (defBody st) t ∧ t { nx := fun _ H' => Q .non H', rt := Q } (L2.start N vs) H) :
    FnHZ P w K mg base CX (k + 1) f fd ps sp := by
  obtain ⟨oc, od, kV, doc, pm, an, cdv, ct, osl, rfl, lk, hcd⟩ := F.ex
  refine ⟨len, fun A outer s H args us vs Q E p cls d hr hot hz hpin e0 hb r hsp => ?_⟩
  have hl := len _ _ _ _ _ _ _ hsp
  have KX : K.In s.heap := e0.mod.kin.keeps fun b o e => (e0.bs b o e).1
  have lim : s.heap.NoLimit := e0.mod.nolimit.keeps fun b o e => (e0.bs b o e).1
  have hkind : ∀ y ∈ ps.zip us, (defScope st).names.lookup y.1 = some .local ∨ ((defScope st).names.lookup y.1 = some .cell ∧ ((cellsFrom (s.heap.objs.size + 1) (defScope st).names []).lookup y.1).isSome = true) := fun ⟨n, v⟩ hy => by
    rcases S.par n (List.of_mem_zip hy).1 with q | q
    · exact .inl q
    · exact .inr ⟨q, PySem.W.cellsFrom_some _ _ _ (.inl q)⟩
  refine codeAny_call_function hr.depth (KX _ _ lk) rfl S.co S.gen rfl (PySem.W.codeRec_of KX hcd) (hb _ _ _ _ ?_)
  refine wpAny_newFunctionEnv_cells S.kind hkind fun env he s1 x => ?_
  subst he
  refine ⟨lim.keeps x.toInCall.keep, codeAny_func ?_⟩
  obtain ⟨t, ht, hq⟩ := hbody cdv A outer s H vs Q E p cls d hot hz (hr.deeper _) hsp
  have I : Inv (cxH CX P w K mg base N qual (defScope st) f cdv A outer s H E p) [] (L2.start N vs) H s1 := inv_startH S hpin e0 hl r x
  refine wpAny_mono (ht.run [] s1 (L2.start N vs) H _ I hq) (fun fl s' hs => ?_) fun e s' hs => hs
  have fin : ∀ {σ' : L2.St} {H' : Hp} {v : V} {u : Value}, Inv (cxH CX P w K mg base N qual (defScope st) f cdv A outer s H E p) [] σ' H' s' → RelV v u → Q v H' → CE outer P w H s Q u s' :=
    fun {σ' H' v u} J rv q => ⟨v, H', J.os, J.bare, J.base, J.hok, rv, q⟩
  cases fl with
  | ret u =>
    obtain ⟨v, σ', H', J, rv, q⟩ := hs
    exact fin J rv q
  | next =>
    obtain ⟨σ', H', J, q⟩ := hs
    exact fin (v := V.non) (u := Value.none) J rfl q
  | brk =>
    obtain ⟨_, _, _, q⟩ := hs
    exact False.elim q
  | cont =>
    obtain ⟨_, _, _, q⟩ := hs
    exact False.elim q
/-- it stands at its name -/
structure Dz (P : Program) (w : World) (K : PySem.W.Frag) (mg : Str → Option Value) (base : Heap) (k : Nat) (x : Str) (ps : List Str) (sp : SpZ) : Prop where
  ex : ∃ f fd, FnHZ P w K mg base CX0 k f fd ps sp ∧ mg x = some (.ref f) ∧ PySem.W.keepIn K (.ref f) = true ∧ Binds K fd ps []
section
variable {X : Cx} {k : Nat} {ps : List Str} {sp : SpZ} {x : Str} {q pos : Pos} {e : Expr} {es : List Expr} {t : TA} {a : Addr} {oe : Obj} {cls : Value} {d : Option Addr} {pn : List (Addr × Obj)}
/-- the call, in the suite of the clause that caught the error at a -/
theorem pe_callHZ (D : Dz X.prog X.w X.K X.mg X.base k x ps sp) (hz : L2N.Zn cls d oe) (hf : ∃ vs, oe.data = .fields vs) (hr : Room k X.A) (hg : Gl X x) (ha : PA (X.suite a ((a, oe) :: pn)) (e :: es) t)
    (hdb : (x == ("__debug__" : Str)) = false := by decide) (he : starEach (e :: es) X.env = (false, eval e X.env) :: starEach es X.env := by rfl) (hpl : (backTo pos (starEach es X.env)).any (·.1) = false := by rfl) :
    PE (X.suite a ((a, oe) :: pn)) (.Call (.Name x q) (e :: es) [] pos) (tCallS (sp a cls d) (fun _ => E0) t) := by
  obtain ⟨f, fd, F, hm, hk, hb⟩ := D.ex
  obtain ⟨vs0, hd0⟩ := hf
  refine ⟨fun pins s σ H Q I h => ?_⟩
  refine wpAny_Call_Name_kw (ld_glob (X := X.suite a ((a, oe) :: pn)) I hg hm ?_ hdb)
  refine PySem.W.callWith_K (h₀ := X.base) I.ok.mod.kin hk (thn (ha.run pos pins s σ H _ I h) fun us s1 ⟨vs, H1, I1, r, q⟩ => ⟨I1.kIn, ?_⟩) he hpl
  have hl : us.length = ps.length := by rw [← r.length]; exact F.len _ _ _ _ _ _ _ q
  have b := hb s1 us I1.kIn (by rw [List.append_nil]; exact hl)
  rw [List.append_nil] at b
  have P1 := I1.pin (a, oe) (List.mem_append_left _ List.mem_cons_self)
  have hpin : PinOk X.stack H1 s1 (a, oe) := ⟨P1.1, P1.2.1, fun hm => (List.mem_cons.mp (I1.stkSub a hm)).elim P1.2.2.1 P1.2.2.2.1, P1.2.2.2.2⟩
  have hot : Hot1 (X.suite a ((a, oe) :: pn)).A (a, oe) := ⟨rfl, vs0, hd0, hz.2.2 vs0 hd0⟩
  have hrH : RoomH k (X.suite a ((a, oe) :: pn)).A := ⟨hr.dp, hr.un⟩
  refine wpAny_call (codeAny_mono (F.run (X.suite a ((a, oe) :: pn)).A X.stack s1 H1 ⟨us, []⟩ us vs Q (fun _ _ _ => False) (a, oe) cls d hrH hot hz hpin I1.env0 b r q) fun r s' hq => ?_)
  cases r with
  | error u => exact hq.elim
  | ok fl =>
    cases fl with
    | ret u => exact I1.after hq
    | next => exact False.elim hq
    | brk => exact False.elim hq
    | cont => exact False.elim hq
end
/-! ### what is asked of the handled error -/
section
variable {X : Cx} {p : Addr × Obj} {C d : Addr}
theorem pin_obj {pins : List (Addr × Obj)} {σ : L2.St} {H : Hp} {s : Shared} {v : V} (I : Inv X pins σ H s) (hp : p ∈ X.pn) (hz : L2N.Zn (.ref C) (some d) p.2) (hf : ∃ vs, p.2.data = .fields vs) (e : H d = some (exd d [(("value" : Str), v)])) :
    ∃ od u, PySem.W.InstAt s.heap p.1 p.2 C (some od) ∧ PySem.W.lookIn "value" od = some (some u) ∧ RelV v u := by
  obtain ⟨vs, hd⟩ := hf
  have ho := (I.pin p (List.mem_append_left _ hp)).1
  obtain ⟨mA, hns, hr⟩ := exd_at I.hok e
  obtain ⟨od, hod, hl⟩ := lookIn_ns hns
  have l : List.lookup ("value" : Str) [(("value" : Str), v)] = some v := by simp [List.lookup]
  obtain ⟨u, hu, ru⟩ := RelO.some_of (v := v) (o := mA "value") (by rw [← l]; exact hr "value")
  exact ⟨od, u, ⟨ho, hz.1, by unfold PySem.W.notCls; rw [hd] <;> rfl, by rw [hz.2.1]; exact hod⟩, by rw [hl, hu], ru⟩
def rIsiP (K : PySem.W.Frag) (a C d : Addr) : List V → Hp → VK → Prop := fun xs H Q => ∃ (v c : V) (u : Value) (b : Bool), xs = [.ref a, c] ∧ ClsV c u ∧ H d = some (exd d [(("value" : Str), v)]) ∧ ExcC K C ∧ PySem.W.kitOne K (.ref C) u = some b ∧ Q (.bl b) H
theorem call_isiP (hp : p ∈ X.pn) (hz : L2N.Zn (.ref C) (some d) p.2) (hf : ∃ vs, p.2.data = .fields vs) : CallR X (.builtin "isinstance") (rIsiP X.K p.1 C d) := by
  intro pins s σ H xs us Q I r h
  obtain ⟨v, c, u, b, rfl, k, at_, T, e, q⟩ := h
  obtain ⟨u1, u2, rfl, r1, r2⟩ := vals2 r
  obtain rfl := k.eq r2
  obtain rfl : u1 = Value.ref p.1 := r1
  obtain ⟨od, uv, J, _, _⟩ := pin_obj I hp hz hf at_
  exact PySem.W.kia_one (SqX.kit (ox := p.2) (od := some od) T) I.kIn J e (fun z => nomatch z) fun tk => ⟨.bl b, H, I.tok tk, rfl, q⟩
def tPv (K : PySem.W.Frag) (a C d : Addr) (te : TE) : TE := fun σ H Q => te σ H fun x H1 => ∃ (v : V), x = .ref a ∧ H1 d = some (exd d [(("value" : Str), v)]) ∧ XfC K C ∧ PySem.W.findIn K (.ref C) "value" = some none ∧ Q v H1
theorem pe_pv {e : Expr} {te : TE} {pos : Pos} (hp : p ∈ X.pn) (hz : L2N.Zn (.ref C) (some d) p.2) (hf : ∃ vs, p.2.data = .fields vs) (he : PE X e te) (hb : attributeBase e "value" X.env (eval e X.env) = eval e X.env := by rfl) : PE X (.Attribute e "value" pos) (tPv X.K p.1 C d te) := by
  refine ⟨fun pins s σ H Q I h => ?_⟩
  refine attr_of hb (thn (he.run pins s σ H _ I h) fun u s1 hh => ?_)
  obtain ⟨x, H1, I1, rx, v, ex, at_, T, hno, q⟩ := hh
  subst ex
  obtain rfl : u = Value.ref p.1 := rx
  obtain ⟨od, uv, J, l, ru⟩ := pin_obj I1 hp hz hf at_
  exact HandSPX.exc_get I1.kIn J T.ga T.gg T.exC (PySem.W.findObj_own T.hdC hno rfl l) (handed_of ru) ⟨v, H1, I1.tok _, ru, q⟩
end
end Sq

set_option Elab.async false
set_option linter.all false
set_option maxRecDepth 100000
set_option maxHeartbeats 4000000
/-! Calls that may raise, where the error's context is known to be None. -/
namespace Sq
open PySem PySem.Spec PyProof.Rows L2
theorem okN {P : Program} {w : World} {K : PySem.W.Frag} {mg : Str → Option Value} {base : Heap} {x qual : Str} {st : Stmt} {f : Addr} {fd : FuncData} {N ps : List Str} {k : Nat} {sp : Sp} (F : Fun K x qual st f fd) (S : FnScope N ps (defScope st)) (len : ∀ vs H Q E, sp vs H Q E → vs.length = ps.length)
    (walk : ∀ (cdv : Value) (A : Around) (outer : List Env) (s : Shared) (H : Hp) (vs : List V) (Q : VK) (E : XK), Room k (A.deeper (envOfC qual (defScope st) s.heap.objs.size f cdv)) → sp vs H Q E →
      ∃ t, PSs (cxOf (L2N.CX P w) P w K mg base N qual (defScope st) f cdv A outer s H E) (defBody st) t ∧ t { nx := fun _ H' => Q .non H', rt := Q } (L2.start N vs) H) : FnOk P w K mg base (L2N.CX P w) (k + 1) f fd ps sp := by
  obtain ⟨oc, od, kV, doc, pm, an, cdv, ct, osl, rfl, lk, hcd⟩ := F.ex
  exact fn_of lk hcd S len fun A outer s H vs Q E hr h => walk cdv A outer s H vs Q E hr h
/-- a def with defaults that may raise -/
theorem okDN {P : Program} {w : World} {K : PySem.W.Frag} {mg : Str → Option Value} {base : Heap} {x qual : Str} {prm : Arguments} {bd : List Stmt} {scp : Scope} {dvs : List V} {kws : List (Str × V)} {f : Addr} {fd : FuncData} {names ps : List Str} {k : Nat} {sp : Sp}
    (F : FunD K x qual prm bd scp dvs kws f fd) (sc : FnScope names ps scp) (count : ∀ vs H Q E, sp vs H Q E → vs.length = ps.length)
    (inner : ∀ (cdv : Value) (A : Around) (outer : List Env) (s : Shared) (H : Hp) (vs : List V) (Q : VK) (E : XK), Room k (A.deeper (envOfC qual scp s.heap.objs.size f cdv)) → sp vs H Q E →
      ∃ t, PSs (cxOf (L2N.CX P w) P w K mg base names qual scp f cdv A outer s H E) bd t ∧ t { nx := fun _ H' => Q .non H', rt := Q } (start names vs) H) : FnOk P w K mg base (L2N.CX P w) (k + 1) f fd ps sp :=
  F.ok sc count fun cdv A outer s H vs Q E hr h => inner cdv A outer s H vs Q E hr h
structure Dn (P : Program) (w : World) (K : PySem.W.Frag) (mg : Str → Option Value) (base : Heap) (k : Nat) (x : Str) (ps : List Str) (sp : Sp) : Prop where
  ex : ∃ f fd, FnOk P w K mg base (L2N.CX P w) k f fd ps sp ∧ mg x = some (.ref f) ∧ PySem.W.keepIn K (.ref f) = true ∧ Binds K fd ps []
theorem Dn.mk' {P : Program} {w : World} {K : PySem.W.Frag} {mg : Str → Option Value} {base : Heap} {k : Nat} {x : Str} {st : Stmt} {ps : List Str} {sp : Sp} {f : Addr} {fd : FuncData} (F : Fun K x x st f fd) (G : FnOk P w K mg base (L2N.CX P w) k f fd ps sp) (g : mg x = some (.ref f)) (b : Binds K fd ps []) : Dn P w K mg base k x ps sp :=
  ⟨⟨f, fd, G, g, F.kp, b⟩⟩
theorem Dz.mk' {P : Program} {w : World} {K : PySem.W.Frag} {mg : Str → Option Value} {base : Heap} {k : Nat} {x : Str} {st : Stmt} {ps : List Str} {sp : SpZ} {f : Addr} {fd : FuncData} (F : Fun K x x st f fd) (G : FnHZ P w K mg base CX0 k f fd ps sp) (g : mg x = some (.ref f)) (b : Binds K fd ps []) : Dz P w K mg base k x ps sp :=
  ⟨⟨f, fd, G, g, F.kp, b⟩⟩
section
variable {P : Program} {w : World} {K : PySem.W.Frag} {mg : Str → Option Value} {base : Heap} {N : List Str} {qual : Str} {scope : Scope} {f : Addr} {cd : Value} {A : Around} {outer : List Env} {s : Shared} {H : Hp} {E : XK}
theorem takesN : L2N.Takes (cxOf (L2N.CX P w) P w K mg base N qual scope f cd A outer s H E) (fun cls d _ H' => E cls d H') := L2N.takes_of rfl rfl rfl rfl
theorem ownsN : PassesOwn (model P w) (cxOf (L2N.CX P w) P w K mg base N qual scope f cd A outer s H E).A (cxOf (L2N.CX P w) P w K mg base N qual scope f cd A outer s H E).env (cxOf (L2N.CX P w) P w K mg base N qual scope f cd A outer s H E).xe := passes_of rfl
end
theorem takesN0 {X : Cx} : L2N.Takes X (fun _ _ _ _ => False) := fun _ _ x => by
  obtain ⟨_, _, _, _, _, _, _, _, _, _, _, _, _, _, _, _, z⟩ := x
  exact z.elim
section
variable {X : Cx} {k : Nat} {ps ks : List Str} {sp : Sp} {x : Str} {p pos : Pos} {e : Expr} {es : List Expr} {t tk : TA} {W : WX}
theorem pe_callN (D : Dn X.prog X.w X.K X.mg X.base k x ps sp) (takes : L2N.Takes X W) (hr : Room k X.A) (hg : Gl X x) (ha : PA X (e :: es) t) (hdb : (x == ("__debug__" : Str)) = false := by decide)
    (he : starEach (e :: es) X.env = (false, eval e X.env) :: starEach es X.env := by rfl) (hpl : (backTo pos (starEach es X.env)).any (·.1) = false := by rfl) :
    PE X (.Call (.Name x p) (e :: es) [] pos) (tCallS sp (WE W) t) := by
  obtain ⟨f, fd, F, g, kp, b⟩ := D.ex
  exact pe_callS F hr hg g kp b (L2N.passAt takes) ha hdb he hpl
/-- raise X(e): what is made, its context None -/
theorem pmk_erN {C fI : Addr} {q : Str} {te : TE} (T : SqX.Er X.K X.prog C fI q) (gC : X.mg x = some (.ref C)) (hr : Room k X.A) (hg : Gl X x) (he : PE X e te)
    (hs : starEach [e] X.env = (false, eval e X.env) :: starEach [] X.env := by rfl) (hdb : (x == ("__debug__" : Str)) = false := by decide) :
    L2N.PMk X (.Call (.Name x p) [e] [] pos) (fun σ H Q => te σ H fun v H1 => ∀ d, H1 d = none → Q (.ref C) (some d) (upd H1 d (exd d [(("value" : Str), v)]))) := by
  intro pins s σ H Q I h
  refine wpAny_Call_Name_kw (ld_glob I hg gC ?_ hdb)
  refine PySem.W.callWith_K (h₀ := X.base) I.ok.mod.kin T.kC ?_ hs (by rfl)
  rw [hs]
  show wpAny _ _ (spliced ((false, eval e X.env) :: backTo pos (starEach [] X.env))) _ _ s
  refine Calls.spliced_cons (thn (he.run pins s σ H _ I h) fun u s1 hh => ?_)
  obtain ⟨v, H1, I1, r1, q1⟩ := hh
  refine Calls.spliced_nil ⟨I1.kIn, ?_⟩
  show wpAny _ _ (call (.ref C) [u]) _ _ _
  obtain ⟨mb, hb, boot⟩ := I1.ok.mod.blt
  refine wpAny_call (SqX.made T I1.kIn (I1.ok.mod.glob.keeps I1.bk) I1.nolimit (hb.keeps I1.bk) boot (by have := hr.dp; omega) fun h' tk a d t1 M => ?_)
  have na : H1 a = none := I1.hok.fresh M.big
  have nd : H1 d = none := I1.hok.fresh M.dbig
  obtain ⟨G, g1, g2⟩ := restrict h' fun b => decide (b ≠ a)
  have gk : ∀ b, b ≠ a → G.get? b = h'.get? b := fun b hb => g1 b (decide_eq_true hb)
  have ga : G.get? a = none := g2 a (by simp)
  have old : ∀ b o, s1.heap.get? b = some o → G.get? b = some o := fun b o z => (gk b (Nat.ne_of_lt (Nat.lt_of_lt_of_le (Heap.lt_size z) M.big))).trans (M.keep b o z)
  have nsG : G.Ns1 d (fun y => if y = "value" then some u else none) := M.ns.at fun o z => (gk d M.dne).trans z
  have rel : ∀ f, RelO (List.lookup f [(("value" : Str), v)]) (if f = "value" then some u else none) := relO_put (fs := []) (mA := fun _ => none) r1 fun g => True.intro
  have J : Inv X pins σ (upd H1 d (exd d [(("value" : Str), v)])) { s1 with heap := G, toks := tk } := I1.laid (t' := tk) old M.dbig (exd_ok nsG rel)
  refine ⟨a, _, _, { s1 with heap := G, toks := tk }, _, .ref C, some d, rfl, J, fun b o z => ?_, ga, M.obj, ⟨rfl, rfl, fun vs e => by cases e; rfl⟩, rfl, rfl, by rw [upd_ne (Ne.symm M.dne)]; exact na, rfl, I1.bare, raises_own T.exC T.tyC, q1 d nd⟩
  by_cases hb : b = a
  · rw [hb, ga] at z
    cases z
  · rw [← gk b hb]
    exact z
end
end Sq

set_option Elab.async false
set_option linter.all false
set_option maxRecDepth 100000
set_option maxHeartbeats 2000000
/-! Data read off the layer's heap. -/
namespace Sq
open PySem PySem.Spec PyProof.Rows L2
theorem same_new {H : Hp} {p : Addr} {o : HO} (h : H p = none) : Same H (upd H p o) := fun b x e => by
  rw [upd_ne (ne_of_none e h)]
  exact e
theorem map_at {ks : List Int} {i : Nat} {x : V} (h : (ks.map V.int)[i]? = some x) : ∃ k, ks[i]? = some k ∧ V.int k = x := by
  rw [List.getElem?_map] at h
  exact Option.map_eq_some_iff.mp h
section
variable {K : PySem.W.Frag}
theorem dp_ints {H : Hp} : ∀ (ds : List Int), DpAll K H (ds.map V.int) (ds.map PyData.int)
  | [] => .nil
  | d :: ds => .cons (.int d) (dp_ints ds)
theorem lays_ints : ∀ (ds : List Int), PyData.canLayAll0 (ds.map PyData.int) = true
  | [] => rfl
  | d :: ds => by
    show (PyData.canLay0 (.int d) && PyData.canLayAll0 (ds.map PyData.int)) = true
    rw [lays_ints ds]
    rfl
theorem deep_ints : ∀ (ds : List Int), PyData.depthAll (ds.map PyData.int) ≤ 1
  | [] => Nat.zero_le _
  | _ :: ds => Nat.max_le.mpr ⟨Nat.zero_le _, deep_ints ds⟩
theorem shaped_ints (ds : List Int) : SeqAt.shaped (.list (ds.map PyData.int)) = true :=
  Bool.and_eq_true_iff.mpr ⟨lays_ints ds, decide_eq_true (Nat.le_trans (Nat.add_le_add_right (deep_ints ds) 1) (by decide))⟩
end
/-! ### data of ints and short lists -/
mutual
def il : PyData → Bool
  | .int _ => true
  | .list xs => decide (xs.length ≤ 1000) && ilAll xs
  | _ => false
def ilAll : List PyData → Bool
  | [] => true
  | x :: xs => il x && ilAll xs
end
theorem il_at : ∀ {ds : List PyData} {i : Nat} {d : PyData}, ilAll ds = true → ds[i]? = some d → il d = true
  | x :: xs, 0, d, h, e => by
    cases e
    exact (Bool.and_eq_true_iff.mp h).1
  | x :: xs, i + 1, d, h, e => il_at (Bool.and_eq_true_iff.mp h).2 e
theorem depth_at : ∀ {ds : List PyData} {i : Nat} {d : PyData}, ds[i]? = some d → d.depth ≤ PyData.depthAll ds
  | x :: xs, 0, d, e => by
    cases e
    exact Nat.le_max_left _ _
  | x :: xs, i + 1, d, e => Nat.le_trans (depth_at (ds := xs) e) (Nat.le_max_right _ _)
theorem dp_at {K : PySem.W.Frag} {H : Hp} : ∀ {xs : List V} {ds : List PyData} {i : Nat} {d : PyData}, DpAll K H xs ds → ds[i]? = some d → ∃ x, xs[i]? = some x ∧ Dp K H x d
  | _, _, 0, d, .cons h _, e => by
    cases e
    exact ⟨_, rfl, h⟩
  | _, _, i + 1, d, .cons _ t, e => dp_at (i := i) t e
theorem dp_len {K : PySem.W.Frag} {H : Hp} : ∀ {xs : List V} {ds : List PyData}, DpAll K H xs ds → xs.length = ds.length
  | _, _, .nil => rfl
  | _, _, .cons _ t => congrArg Nat.succ (dp_len t)
mutual
theorem Dp.same {K : PySem.W.Frag} {H H' : Hp} (s : Same H H') : ∀ {d : PyData} {x : V}, Dp K H x d → Dp K H' x d
  | .none, _, .non => .non
  | .bool b, _, .bl _ => .bl b
  | .int i, _, .int _ => .int i
  | .str x, _, .str _ => .str x
  | .list ds, _, .lst h a => .lst (s.seq h) (DpAll.same s a)
  | .tuple ds, _, .tup h a => .tup (by
      rcases h with (h | ⟨o, h⟩) | h
      · exact .inl (.inl (s _ _ h))
      · exact .inl (.inr ⟨o, s _ _ h⟩)
      · exact .inr h) (DpAll.same s a)
theorem DpAll.same {K : PySem.W.Frag} {H H' : Hp} (s : Same H H') : ∀ {ds : List PyData} {xs : List V}, DpAll K H xs ds → DpAll K H' xs ds
  | [], _, .nil => .nil
  | _ :: _, _, .cons h t => .cons (Dp.same s h) (DpAll.same s t)
end
theorem eqv_take : ∀ {ds es : List PyData} {i : Nat} {d e : PyData}, ds[i]? = some d → es[i]? = some e → PyData.eqvAll (ds.take (i + 1)) (es.take (i + 1)) = (PyData.eqvAll (ds.take i) (es.take i) && PyData.eqv d e)
  | x :: xs, y :: ys, 0, d, e, h1, h2 => by
    cases h1
    cases h2
    show (PyData.eqv x y && true) = (true && PyData.eqv x y)
    cases PyData.eqv x y <;> rfl
  | x :: xs, y :: ys, i + 1, d, e, h1, h2 => by
    show (PyData.eqv x y && PyData.eqvAll (xs.take (i + 1)) (ys.take (i + 1))) = ((PyData.eqv x y && PyData.eqvAll (xs.take i) (ys.take i)) && PyData.eqv d e)
    rw [eqv_take (ds := xs) (es := ys) (i := i) h1 h2, Bool.and_assoc]
theorem eqv_lens : ∀ {ds es : List PyData}, ds.length ≠ es.length → PyData.eqvAll ds es = false
  | [], [], h => absurd rfl h
  | [], _ :: _, _ => rfl
  | _ :: _, [], _ => rfl
  | x :: xs, y :: ys, h => by
    show (PyData.eqv x y && PyData.eqvAll xs ys) = false
    rw [eqv_lens (ds := xs) (es := ys) (fun z => h (congrArg Nat.succ z)), Bool.and_false]
theorem isi_of {K : PySem.W.Frag} {H : Hp} {x : V} {t n : String} {b : Bool} {Q : VK} (ty : TyX K H x (.type t)) (h : kitB t n = some b) (q : Q (.bl b) H) : rIsi K [x, .ty n] H Q :=
  ⟨x, .ty n, .type t, .type n, b, rfl, .ty n, ty, kit_ty h, q⟩
theorem ty_seq {K : PySem.W.Frag} {H : Hp} {a : Addr} {xs : List V} (h : SqL K H a xs) : TyX K H (.ref a) (.type "list") := by
  rcases h with (h | ⟨o, h⟩) | ⟨o, vs, m, h, hc, _⟩
  · exact .base (.lst h)
  · exact .base (.frz h)
  · exact .kList h hc
/-! ### the text of a list of ints -/
theorem heavy_ints : ∀ (ks : List Int), (∀ k ∈ ks, k.natAbs < 10 ^ 12) → PyData.weightAll (ks.map PyData.int) ≤ 64 * ks.length
  | [], _ => Nat.le_refl _
  | k :: ks, h => by
    have ih := heavy_ints ks fun x hx => h x (List.mem_cons_of_mem _ hx)
    have hk := h k (List.mem_cons_self ..)
    have w1 : PyData.weight (.int k) ≤ 41 := by
      show (if k == 0 then 0 else k.natAbs.log2 + 1) ≤ 41
      split
      · omega
      · have : k.natAbs.log2 < 40 := PySem.Flt.log2_lt_of (by decide) (Nat.lt_of_lt_of_le hk (by decide))
        omega
    show PyData.weight (.int k) + 1 + PyData.weightAll (ks.map PyData.int) ≤ 64 * (ks.length + 1)
    omega
theorem shows_ints : ∀ (ks : List Int), (∀ k ∈ ks, k.natAbs < 10 ^ 12) → PyData.showableAll (ks.map PyData.int) = true
  | [], _ => rfl
  | k :: ks, h => by
    have ih := shows_ints ks fun x hx => h x (List.mem_cons_of_mem _ hx)
    have hk := h k (List.mem_cons_self ..)
    have : k.natAbs.log2 < 40 := PySem.Flt.log2_lt_of (by decide) (Nat.lt_of_lt_of_le hk (by decide))
    show (decide (k.natAbs.log2 < 1920) && PyData.showableAll (ks.map PyData.int)) = true
    rw [ih, decide_eq_true (by omega)]
    rfl
theorem nodict_ints : ∀ (ks : List Int), PyData.hasDictAll (ks.map PyData.int) = false
  | [] => rfl
  | _ :: ks => nodict_ints ks
theorem short_ints {ks : List Int} (h : ∀ k ∈ ks, k.natAbs < 10 ^ 12) (hl : ks.length ≤ 1000) : (PyData.list (ks.map PyData.int)).shown.length ≤ sizeLine := by
  have w1 : PyData.weight (.list (ks.map PyData.int)) ≤ 64 * ks.length := heavy_ints ks h
  have lv := PyData.leavesShort_of_canLay0 13 (.list (ks.map PyData.int)) (lays_ints ks) (PyData.intsShortAll_ints ks h)
  refine PyData.shown_fits (B := 13) (by decide) (by decide) lv (Nat.le_trans w1 ?_)
  have e : (2 : Nat) ^ 20 = 1048576 := by decide
  omega
theorem dep40 (ks : List Int) : (PyData.list (ks.map PyData.int)).depth ≤ 40 := Nat.le_trans (Nat.add_le_add_right (deep_ints ks) 1) (by decide)
theorem shaped_il {d : PyData} (h : d.canLay0 = true) (h2 : d.depth ≤ 64) : SeqAt.shaped d = true := Bool.and_eq_true_iff.mpr ⟨h, decide_eq_true h2⟩
mutual
theorem il_lay : ∀ {d : PyData}, il d = true → d.canLay0 = true
  | .int _, _ => rfl
  | .list xs, h => ilAll_lay (Bool.and_eq_true_iff.mp h).2
  | .none, h => nomatch h
  | .bool _, h => nomatch h
  | .str _, h => nomatch h
  | .tuple _, h => nomatch h
  | .dict _, h => nomatch h
theorem ilAll_lay : ∀ {ds : List PyData}, ilAll ds = true → PyData.canLayAll0 ds = true
  | [], _ => rfl
  | _ :: _, h => Bool.and_eq_true_iff.mpr ⟨il_lay (Bool.and_eq_true_iff.mp h).1, ilAll_lay (Bool.and_eq_true_iff.mp h).2⟩
end
theorem KE_same {a b : List Int} (hp : a.Perm b) (ha : a.Pairwise (· ≤ ·)) (hb : b.Pairwise (· ≤ ·)) : a = b := hp.eq_of_pairwise (fun x y _ _ h1 h2 => Int.le_antisymm h1 h2) ha hb
theorem il_ints : ∀ (ks : List Int), ilAll (ks.map PyData.int) = true
  | [] => rfl
  | _ :: ks => il_ints ks
theorem eqv_refl' {d : PyData} (h : il d = true) : PyData.eqv d d = true := PySem.SeqAt.eqv_refl d (il_lay h)
end Sq
namespace Sq
open PySem PySem.Spec PyProof.Rows L2
/-! ### repr of any value whose data is known -/
structure Shown (K : PySem.W.Frag) (H : Hp) (x : V) (d : PyData) : Prop where
  dp : Dp K H x d
  sh : d.showable = true
  nd : d.hasDict = false
  dep : d.depth ≤ 40
  fit : d.shown.length ≤ sizeLine
theorem Shown.same {K : PySem.W.Frag} {H H' : Hp} {x : V} {d : PyData} (S : Shown K H x d) (s : Same H H') : Shown K H' x d := ⟨Dp.same s S.dp, S.sh, S.nd, S.dep, S.fit⟩
def rReprV (K : PySem.W.Frag) : List V → Hp → VK → Prop := fun xs H Q => ∃ x d, xs = [x] ∧ Shown K H x d ∧ Q (.str d.shown) H
theorem call_reprV {X : Cx} (hg : X.A.guards = some []) (hu : X.A.units + 64 < cLine) : CallR X (.builtin "repr") (rReprV X.K) := by
  intro pins s σ H xs us Q I r h
  obtain ⟨x, d, rfl, S, q⟩ := h
  obtain ⟨u, rfl, rv⟩ := vals1 r
  obtain ⟨dp, sh, nd, dep, fit⟩ := S
  cases dp with
  | non =>
    obtain rfl : u = Value.none := rv
    exact PySem.P.repr_of_none ⟨.str _, H, I.tok _, ⟨_, rfl⟩, q⟩
  | bl b =>
    obtain rfl : u = Value.bool b := rv
    exact PySem.P.repr_of_bool ⟨.str _, H, I.tok _, ⟨_, rfl⟩, q⟩
  | int i =>
    obtain ⟨t, rfl⟩ := rv
    exact PySem.P.repr_of_int (of_decide_eq_true sh) ⟨.str _, H, I.tok _, ⟨_, rfl⟩, q⟩
  | str y =>
    obtain ⟨t, rfl⟩ := rv
    exact PySem.P.repr_of_str ⟨.str _, H, I.tok _, ⟨_, rfl⟩, q⟩ fit
  | lst hs ha => exact call_reprD hg hu pins s σ H _ _ Q I r ⟨_, _, rfl, .lst hs ha, sh, nd, dep, fit, q⟩
  | tup hs ha => exact call_reprD hg hu pins s σ H _ _ Q I r ⟨_, _, rfl, .tup hs ha, sh, nd, dep, fit, q⟩
theorem fits40 {d : PyData} (h : d.leavesShort 40 = true) (hw : d.weight ≤ 100000) : d.shown.length ≤ sizeLine := by
  have e := PyData.shown_le 40 (by decide) d h
  rw [sizeLine_eq]
  omega
/-! ### powers of greater numbers -/
def CPowW (i j : Int) : Prop := 0 ≤ j ∧ (Builtin.Int.intBits i : Int) * j ≤ 2 ^ 27
theorem op_powW {X : Cx} : OpR X (binaryOp .Pow) (rI CPowW fun i j => .int (i ^ j.toNat)) := opI fun _ _ _ _ _ _ _ hc q => pow_int hc.1 hc.2 q
theorem powW_of {i j : Int} {m : Nat} (h0 : 0 ≤ j) (hi : i.natAbs < 2 ^ m) (hm : 0 < m) (hj : (m : Int) * j ≤ 2 ^ 27) : CPowW i j := by
  refine ⟨h0, Int.le_trans (Int.mul_le_mul_of_nonneg_right ?_ h0) hj⟩
  unfold Builtin.Int.intBits
  split
  · omega
  · have := PySem.Flt.log2_lt_of hm hi
    omega
end Sq
namespace Sq
open PySem PySem.Spec PyProof.Rows L2
def rMulS : R2 := fun x y H Q => ∃ a n, x = .str a ∧ y = .int n ∧ _root_.PySem.MulOk a n ∧ Q (.str (_root_.PySem.Txt.mul a n)) H
theorem op_mulS {X : Cx} : OpR X (binaryOp .Mult) rMulS := by
  intro pins s σ H x y v u Q I rx ry h
  obtain ⟨a, n, rfl, rfl, hok, q⟩ := h
  obtain ⟨t, rfl⟩ := rx
  obtain ⟨t', rfl⟩ := ry
  exact SB.mul hok fun t2 k => ⟨.str _, H, I.tok k, ⟨_, rfl⟩, q⟩
end Sq

set_option Elab.async false
set_option linter.all false
/-! Squeezing and reaches in plain Lean. -/
namespace Sq
def once (n k : Int) : Int := n / k + n % k
def sq (n : Int) (ks : List Int) : Int := ks.foldl once n
def rw1 (k R : Int) : Int := if k > R + 1 then R else (R + 3 - k) * k - 2
def rch (ks : List Int) (v : Int) : Int := ks.foldr rw1 v

theorem rw1_pos {k R : Int} (hk : 2 ≤ k) (hR : 1 ≤ R) : 1 ≤ rw1 k R := by
  unfold rw1
  split
  · exact hR
  · have h : 2 * 2 ≤ (R + 3 - k) * k := Int.mul_le_mul (by omega) hk (by omega) (by omega)
    omega

theorem once_small {k n : Int} (h0 : 0 ≤ n) (h : n < k) : once n k = n := by
  unfold once
  rw [Int.ediv_eq_zero_of_lt h0 h, Int.emod_eq_of_lt h0 h]
  omega

theorem once_nonneg {k n : Int} (hk : 2 ≤ k) (h0 : 0 ≤ n) : 0 ≤ once n k := by
  unfold once
  have h1 := Int.ediv_nonneg h0 (by omega : 0 ≤ k)
  have h2 := Int.emod_nonneg n (by omega : k ≠ 0)
  omega

theorem once_le {k R n : Int} (hk : 2 ≤ k) (hR : 1 ≤ R) (h0 : 0 ≤ n) (h : n ≤ rw1 k R) : once n k ≤ R := by
  unfold rw1 at h
  split at h
  · rename_i hg
    rw [once_small h0 (by omega)]
    exact h
  · rename_i hg
    unfold once
    have e := Int.mul_ediv_add_emod n k
    have r0 := Int.emod_nonneg n (by omega : k ≠ 0)
    have r1 := Int.emod_lt_of_pos n (by omega : 0 < k)
    generalize n / k = q at *
    generalize n % k = r at *
    by_cases c : q + r ≤ R
    · exact c
    · exfalso
      by_cases c2 : R + 3 - k ≤ q
      · have := Int.mul_le_mul_of_nonneg_left c2 (by omega : 0 ≤ k)
        rw [Int.mul_comm k (R + 3 - k)] at this
        omega
      · have c3 : q = R + 2 - k := by omega
        have c4 : r = k - 1 := by omega
        have e2 : k * (R + 2 - k) = (R + 3 - k) * k - k := by
          rw [show R + 2 - k = (R + 3 - k) - 1 by omega, Int.mul_sub, Int.mul_one, Int.mul_comm]
        rw [c3, e2] at e
        omega

theorem once_next {k R : Int} (hk : 2 ≤ k) (hR : 1 ≤ R) : once (rw1 k R + 1) k = R + 1 := by
  unfold rw1
  split
  · exact once_small (by omega) (by omega)
  · have e : (R + 3 - k) * k - 2 + 1 = (k - 1) + k * (R + 2 - k) := by
      rw [show R + 2 - k = (R + 3 - k) - 1 by omega, Int.mul_sub, Int.mul_one, Int.mul_comm k]
      omega
    unfold once
    rw [e, Int.add_mul_ediv_left _ _ (by omega : k ≠ 0), Int.add_mul_emod_self_left, Int.ediv_eq_zero_of_lt (by omega) (by omega), Int.emod_eq_of_lt (by omega) (by omega)]
    omega

theorem rch_pos : ∀ (ks : List Int) (v : Int), (∀ k ∈ ks, 2 ≤ k) → 1 ≤ v → 1 ≤ rch ks v
  | [], v, _, hv => hv
  | k :: ks, v, h, hv => rw1_pos (h k (List.mem_cons_self ..)) (rch_pos ks v (fun x hx => h x (List.mem_cons_of_mem _ hx)) hv)

theorem sq_le : ∀ (ks : List Int) (v n : Int), (∀ k ∈ ks, 2 ≤ k) → 1 ≤ v → 0 ≤ n → n ≤ rch ks v → sq n ks ≤ v
  | [], v, n, _, _, _, hn => hn
  | k :: ks, v, n, h, hv, h0, hn =>
    have hk := h k (List.mem_cons_self ..)
    have ht : ∀ x ∈ ks, 2 ≤ x := fun x hx => h x (List.mem_cons_of_mem _ hx)
    sq_le ks v (once n k) ht hv (once_nonneg hk h0) (once_le hk (rch_pos ks v ht hv) h0 hn)

theorem sq_next : ∀ (ks : List Int) (v : Int), (∀ k ∈ ks, 2 ≤ k) → 1 ≤ v → sq (rch ks v + 1) ks = v + 1
  | [], v, _, _ => rfl
  | k :: ks, v, h, hv => by
    have hk := h k (List.mem_cons_self ..)
    have ht : ∀ x ∈ ks, 2 ≤ x := fun x hx => h x (List.mem_cons_of_mem _ hx)
    show sq (once (rw1 k (rch ks v) + 1) k) ks = v + 1
    rw [once_next hk (rch_pos ks v ht hv)]
    exact sq_next ks v ht hv

theorem rch_mono {ks : List Int} {v u : Int} (h : ∀ k ∈ ks, 2 ≤ k) (hv : 1 ≤ v) (hu : v ≤ u) : rch ks v ≤ rch ks u := by
  by_cases c : rch ks v ≤ rch ks u
  · exact c
  · exfalso
    have p := rch_pos ks u h (by omega)
    have a := sq_le ks v (rch ks u + 1) h hv (by omega) (by omega)
    rw [sq_next ks u h (by omega)] at a
    omega

/-- the least run with more characters is found by trying -/
theorem sq_gt {ks : List Int} {v n : Int} (h : ∀ k ∈ ks, 2 ≤ k) (hv : 1 ≤ v) (h0 : 0 ≤ n) (h1 : n ≤ rch ks v + 1) (c : v < sq n ks) : n = rch ks v + 1 := by
  by_cases d : n ≤ rch ks v
  · have := sq_le ks v n h hv h0 d
    omega
  · omega
theorem sq_lt {ks : List Int} {v n : Int} (h : ∀ k ∈ ks, 2 ≤ k) (hv : 1 ≤ v) (h1 : n ≤ rch ks v + 1) (c : sq n ks ≤ v) : n ≤ rch ks v := by
  by_cases d : n ≤ rch ks v
  · exact d
  · have e : n = rch ks v + 1 := by omega
    rw [e, sq_next ks v h hv] at c
    omega
theorem sq_concat (n : Int) (ks : List Int) (k : Int) : sq n (ks ++ [k]) = once (sq n ks) k := by
  unfold sq
  rw [List.foldl_append]
  rfl
end Sq

set_option Elab.async false
set_option linter.all false
set_option maxRecDepth 100000
set_option maxHeartbeats 2000000
/-! What the laws share: the built-in names, the error classes, low numbers, data that can be shown, keeping heaps. -/
namespace Sq
open PySem PySem.Spec PyProof.Rows L2
structure Bi (mg : Str → Option Value) : Prop where
  n_len : mg "len" = none
  n_min : mg "min" = none
  n_max : mg "max" = none
  n_abs : mg "abs" = none
  n_range : mg "range" = none
  n_isinstance : mg "isinstance" = none
  n_repr : mg "repr" = none
  n_enumerate : mg "enumerate" = none
  n_reversed : mg "reversed" = none
  n_sorted : mg "sorted" = none
  n_bool : mg "bool" = none
  n_int : mg "int" = none
  n_str : mg "str" = none
  n_list : mg "list" = none
  n_tuple : mg "tuple" = none
  n_set : mg "set" = none
  n_sum : mg "sum" = none
  n_zip : mg "zip" = none
  n_all : mg "all" = none
  n_any : mg "any" = none
  n_ValueError : mg "ValueError" = none
  n_divmod : mg "divmod" = none
structure Errs (P : Program) (K : PySem.W.Frag) (mg : Str → Option Value) (c fI : Nat → Addr) (qn : Nat → Str) (cB : Addr) : Prop where
  er : ∀ n, n < 5 → True ∧ SqX.Er K P (c n) (fI n) (qn n)
  g0 : mg "InvalidList" = some (.ref (c 0))
  g1 : mg "InvalidNumber" = some (.ref (c 1))
  g2 : mg "InvalidCharacter" = some (.ref (c 2))
  g3 : mg "NothingToUndo" = some (.ref (c 3))
  g4 : mg "Unreadable" = some (.ref (c 4))
  g5 : mg "SqueezeError" = some (.ref cB)
  is : ∀ n m, n < 5 → m < 5 → PySem.W.kitOne K (.ref (c n)) (.ref (c m)) = some (decide (n = m))
  isB : ∀ n, n < 5 → PySem.W.kitOne K (.ref (c n)) (.ref cB) = some true
  isV : ∀ n, n < 5 → PySem.W.kitOne K (.ref (c n)) (.type "ValueError") = some true
  ex : ∀ n, n < 5 → ExcC K (c n)
  xf : ∀ n, n < 5 → XfC K (c n)
/-- what else is known of the error classes -/
structure Errs2 (K : PySem.W.Frag) (c : Nat → Addr) (cB : Addr) : Prop where
  ma : ∀ n, n < 5 → PySem.W.exmOne K (.ref (c n)) (.ref cB) = some true
  st : ∀ n, n < 5 → PySem.W.subIn K (.ref (c n)) (.type "StopIteration") = some false
  nv : ∀ n, n < 5 → PySem.W.findIn K (.ref (c n)) "value" = some none
def nmE (n : Nat) : Str := ["InvalidList", "InvalidNumber", "InvalidCharacter", "NothingToUndo", "Unreadable"].getD n "InvalidList"
/-- the first number less than 2 -/
def lowAt : List Int → Option Nat
  | [] => none
  | k :: ks => if k < 2 then some 0 else (lowAt ks).map (· + 1)
theorem lowAt_none : ∀ {ks : List Int}, lowAt ks = none → ∀ k ∈ ks, 2 ≤ k
  | k :: ks, h, x, hx => by
    unfold lowAt at h
    by_cases c : k < 2
    · rw [if_pos c] at h
      cases h
    · rw [if_neg c] at h
      rcases List.mem_cons.mp hx with e | e
      · omega
      · cases q : lowAt ks with
        | none => exact lowAt_none q x e
        | some j => rw [q] at h; cases h
theorem lowAt_take : ∀ (ks : List Int) (i : Nat), (∀ k ∈ ks.take i, 2 ≤ k) → (∀ k, ks[i]? = some k → k < 2 → lowAt ks = some i) ∧ (ks.length ≤ i → lowAt ks = none)
  | [], i, _ => ⟨fun k e => by simp at e, fun _ => rfl⟩
  | k :: ks, 0, _ => ⟨fun x e c => by
      cases e
      show (if k < 2 then some 0 else (lowAt ks).map (· + 1)) = some 0
      rw [if_pos c], fun z => by simp at z⟩
  | k :: ks, i + 1, h => by
    have hk := h k (by simp)
    obtain ⟨a, b⟩ := lowAt_take ks i fun x hx => h x (by simp [hx])
    refine ⟨fun x e c => ?_, fun z => ?_⟩
    · show (if k < 2 then some 0 else (lowAt ks).map (· + 1)) = some (i + 1)
      rw [if_neg (by omega), a x e c]
      rfl
    · show (if k < 2 then some 0 else (lowAt ks).map (· + 1)) = none
      rw [if_neg (by omega), b (by simpa using z)]
      rfl
/-! ### data that can be shown -/
structure Gd (n : Nat) (d : PyData) : Prop where
  sh : d.showable = true
  nd : d.hasDict = false
  dep : d.depth ≤ 4
  lf : d.leavesShort 40 = true
  wt : d.weight ≤ n
structure GdA (n : Nat) (ds : List PyData) : Prop where
  sh : PyData.showableAll ds = true
  nd : PyData.hasDictAll ds = false
  dep : PyData.depthAll ds ≤ 3
  lf : PyData.leavesShortAll 40 ds = true
  wt : PyData.weightAll ds ≤ n
theorem gd_int {i : Int} (h : i.natAbs < 10 ^ 31) : Gd 121 (.int i) := by
  have lg : i.natAbs.log2 < 120 := PySem.Flt.log2_lt_of (by decide) (Nat.lt_of_lt_of_le h (by decide))
  refine ⟨decide_eq_true (Nat.lt_trans lg (by decide)), rfl, Nat.zero_le _, ?_, ?_⟩
  · have e := int_text_length_le10 (k := 31) (by decide) h
    refine decide_eq_true ?_
    show (Str.ofString (toString i)).length ≤ 40
    rw [PySem.ofString_length]
    omega
  · show (if i == 0 then 0 else i.natAbs.log2 + 1) ≤ 121
    split <;> omega
theorem GdA.nil : GdA 0 [] := ⟨rfl, rfl, Nat.zero_le _, rfl, Nat.le_refl _⟩
theorem GdA.cons {n m : Nat} {d : PyData} {ds : List PyData} (h : Gd n d) (dp : d.depth ≤ 3) (t : GdA m ds) : GdA (n + 1 + m) (d :: ds) := by
  refine ⟨?_, ?_, Nat.max_le.mpr ⟨dp, t.dep⟩, ?_, ?_⟩
  · show (d.showable && PyData.showableAll ds) = true
    rw [h.sh, t.sh]; rfl
  · show (d.hasDict || PyData.hasDictAll ds) = false
    rw [h.nd, t.nd]; rfl
  · show (d.leavesShort 40 && PyData.leavesShortAll 40 ds) = true
    rw [h.lf, t.lf]; rfl
  · have a := h.wt
    have b := t.wt
    show d.weight + 1 + PyData.weightAll ds ≤ n + 1 + m
    omega
theorem GdA.list {n : Nat} {ds : List PyData} (t : GdA n ds) : Gd n (.list ds) := ⟨t.sh, t.nd, Nat.add_le_add_right t.dep 1, t.lf, t.wt⟩
theorem Gd.le {n m : Nat} {d : PyData} (h : Gd n d) (l : n ≤ m) : Gd m d := ⟨h.sh, h.nd, h.dep, h.lf, Nat.le_trans h.wt l⟩
theorem gda_ints : ∀ (ks : List Int), (∀ k ∈ ks, k.natAbs < 10 ^ 31) → GdA (122 * ks.length) (ks.map PyData.int) ∧ PyData.depthAll (ks.map PyData.int) ≤ 0
  | [], _ => ⟨GdA.nil, Nat.le_refl _⟩
  | k :: ks, h => by
    obtain ⟨a, b⟩ := gda_ints ks fun x hx => h x (List.mem_cons_of_mem _ hx)
    refine ⟨?_, Nat.max_le.mpr ⟨Nat.zero_le _, b⟩⟩
    have c := GdA.cons (gd_int (h k (List.mem_cons_self ..))) (Nat.zero_le _) a
    rw [List.length_cons, Nat.mul_add, Nat.mul_one, Nat.add_comm (122 * ks.length)]
    exact c
theorem Gd.shown {n : Nat} {K : PySem.W.Frag} {H : Hp} {x : V} {d : PyData} (h : Gd n d) (l : n ≤ 100000) (dp : Dp K H x d) : Shown K H x d :=
  ⟨dp, h.sh, h.nd, Nat.le_trans h.dep (by decide), fits40 h.lf (Nat.le_trans h.wt l)⟩
/-! ### the low numbers -/
theorem lowAt_some : ∀ {ks : List Int} {j : Nat}, lowAt ks = some j → j < ks.length ∧ ks.getD j 2 < 2 ∧ ∀ m, m < j → 2 ≤ ks.getD m 2
  | k :: ks, j, h => by
    have h' : (if k < 2 then some 0 else (lowAt ks).map (· + 1)) = some j := h
    by_cases c : k < 2
    · rw [if_pos c] at h'
      cases h'
      exact ⟨Nat.succ_pos _, c, fun m hm => absurd hm (Nat.not_lt_zero _)⟩
    · rw [if_neg c] at h'
      cases q : lowAt ks with
      | none => rw [q] at h'; cases h'
      | some i =>
        rw [q] at h'
        cases h'
        obtain ⟨a, b, d⟩ := lowAt_some q
        refine ⟨Nat.succ_lt_succ a, b, fun m hm => ?_⟩
        cases m with
        | zero => show 2 ≤ k; omega
        | succ m => exact d m (Nat.lt_of_succ_lt_succ hm)
def lowIx (ks : List Int) (i : Nat) : List Int := ((List.range i).filter fun j => decide (ks.getD j 2 < 2)).map fun j : Nat => (j : Int)
theorem lowIx_succ (ks : List Int) (i : Nat) : lowIx ks (i + 1) = if ks.getD i 2 < 2 then lowIx ks i ++ [(i : Int)] else lowIx ks i := by
  unfold lowIx
  rw [List.range_succ, List.filter_append, List.map_append]
  by_cases h : ks.getD i 2 < 2
  · have e : [i].filter (fun j => decide (ks.getD j 2 < 2)) = [i] := by
      rw [List.filter_cons, decide_eq_true h]
      rfl
    rw [if_pos h, e]
    rfl
  · have e : [i].filter (fun j => decide (ks.getD j 2 < 2)) = [] := by
      rw [List.filter_cons, decide_eq_false h]
      rfl
    rw [if_neg h, e]
    exact List.append_nil _
theorem lowIx_len (ks : List Int) (i : Nat) : (lowIx ks i).length ≤ i := by
  unfold lowIx
  rw [List.length_map]
  have := List.length_filter_le (fun j => decide (ks.getD j 2 < 2)) (List.range i)
  rwa [List.length_range] at this
theorem lowIx_none {ks : List Int} : ∀ {i : Nat}, (∀ m, m < i → 2 ≤ ks.getD m 2) → lowIx ks i = []
  | 0, _ => rfl
  | i + 1, h => by
    rw [lowIx_succ, if_neg (by have := h i (by omega); omega)]
    exact lowIx_none fun m hm => h m (by omega)
theorem lowIx_head {ks : List Int} {j : Nat} (a : ks.getD j 2 < 2) (b : ∀ m, m < j → 2 ≤ ks.getD m 2) : ∀ {i : Nat}, j < i → ∃ r, lowIx ks i = (j : Int) :: r
  | i + 1, h => by
    rw [lowIx_succ]
    by_cases e : j = i
    · subst e
      rw [if_pos a, lowIx_none b]
      exact ⟨[], rfl⟩
    · obtain ⟨r, hr⟩ := lowIx_head a b (i := i) (by omega)
      rw [hr]
      split
      · exact ⟨_, rfl⟩
      · exact ⟨_, rfl⟩
theorem low_none {ks : List Int} (h : lowAt ks = none) : lowIx ks ks.length = [] := lowIx_none fun m hm => by
  have : ∀ {ks : List Int} {m : Nat}, lowAt ks = none → 2 ≤ ks.getD m 2 := fun {ks} => by
    induction ks with
    | nil => intro m _; cases m <;> exact Int.le_refl _
    | cons k ks ih =>
      intro m h
      have h' : (if k < 2 then some 0 else (lowAt ks).map (· + 1)) = none := h
      by_cases c : k < 2
      · rw [if_pos c] at h'; cases h'
      · rw [if_neg c] at h'
        have h2 : lowAt ks = none := by
          cases q : lowAt ks with
          | none => rfl
          | some i => rw [q] at h'; cases h'
        cases m with
        | zero => show 2 ≤ k; omega
        | succ m => exact ih h2
  exact this h
theorem low_some {ks : List Int} {j : Nat} (h : lowAt ks = some j) : ∃ r, lowIx ks ks.length = (j : Int) :: r := by
  obtain ⟨a, b, c⟩ := lowAt_some h
  exact lowIx_head b c a
/-- the heap without one cell -/
def wo (H : Hp) (D : Addr) : Hp := fun b => if b = D then none else H b
theorem wo_upd {H : Hp} {D : Addr} {o : HO} : wo (upd H D o) D = wo H D := by
  funext b
  unfold wo
  by_cases h : b = D
  · rw [if_pos h, if_pos h]
  · rw [if_neg h, if_neg h, upd_ne h]
theorem wo_ne {H : Hp} {D b : Addr} (h : b ≠ D) : wo H D b = H b := by
  unfold wo
  rw [if_neg h]
theorem wo_same {H : Hp} {D : Addr} : Same (wo H D) H := fun b o e => by
  unfold wo at e
  by_cases h : b = D
  · rw [if_pos h] at e; cases e
  · rw [if_neg h] at e; exact e
theorem same_wo {G H : Hp} {D : Addr} (s : Same G H) (h : G D = none) : Same G (wo H D) := fun b o e => by
  rw [wo_ne (fun z => by subst z; rw [h] at e; cases e)]
  exact s b o e
theorem wo_self {H : Hp} {D : Addr} : wo H D D = none := by
  unfold wo
  rw [if_pos rfl]
theorem dp_snoc {K : PySem.W.Frag} {H : Hp} {v : V} {d : PyData} (h : Dp K H v d) : ∀ {xs : List V} {ds : List PyData}, DpAll K H xs ds → DpAll K H (xs ++ [v]) (ds ++ [d])
  | _, _, .nil => .cons h .nil
  | _, _, .cons a t => .cons a (dp_snoc h t)
end Sq

set_option Elab.async false
set_option linter.all false
/-! A statement told apart from what follows. -/
namespace Sq
open PySem PySem.Spec PyProof.Rows L2
theorem seqNx {t u : TS} {D : Ends} {r : VK} {b c : L2.St → Hp → Prop} {σ : L2.St} {H : Hp} (h : tSeq t u D σ H) : Ends.nx { nx := tSeq t u D, rt := r, bk := b, ct := c } σ H := h
theorem tellSeq {t u : TS} {D : Ends} {σ : L2.St} {H : Hp} (T : L2.St → Hp → Prop) (h : ∀ N : L2.St → Hp → Prop, (∀ σ2 H2, T σ2 H2 → N σ2 H2) → t { D with nx := N } σ H) (hT : ∀ σ2 H2, T σ2 H2 → u D σ2 H2) : tSeq t u D σ H := h (u D) hT
theorem tellNx {t u : TS} {D : Ends} {r : VK} {b c : L2.St → Hp → Prop} {σ : L2.St} {H : Hp} (T : L2.St → Hp → Prop) (h : ∀ N : L2.St → Hp → Prop, (∀ σ2 H2, T σ2 H2 → N σ2 H2) → t { D with nx := N } σ H) (hT : ∀ σ2 H2, T σ2 H2 → u D σ2 H2) : Ends.nx { nx := tSeq t u D, rt := r, bk := b, ct := c } σ H := h (u D) hT
end Sq
namespace Sq
open PySem PySem.Spec PyProof.Rows L2
/-- for .. in range(a if c else b) -/
theorem seq_for_if {c : TT} {a b : Int} {g : TG} {tb u : TS} {D : Ends} {σ : L2.St} {H : Hp} (k : Bool) (h : ∀ Q' : Bool → Hp → Prop, Q' k H → c σ H Q') (ba : -(2 ^ 62) ≤ a ∧ a < 2 ^ 62) (bb : -(2 ^ 62) ≤ b ∧ b < 2 ^ 62)
    (q : tFor (fun _ H R => R (Itr 0 (if k = true then a else b).toNat) H) g tb { D with nx := u D } σ H) : tSeq (tFor (iRng1 (tCons (tIf c (tC (.int a)) (tC (.int b))) tNil)) g tb) u D σ H := by
  cases k with
  | true => exact h _ ⟨a, rfl, ba.1, ba.2, q⟩
  | false => exact h _ ⟨b, rfl, bb.1, bb.2, q⟩
theorem atI_last2 {α : Type} (xs : List α) (v w : α) : atI (xs ++ [v, w]) (-2) = some v := by
  have hl : (xs ++ [v, w]).length = xs.length + 2 := by simp
  have e : ixN (xs ++ [v, w]).length (-2) = some xs.length := by
    unfold ixN
    rw [hl, if_neg (by decide), if_pos (by omega)]
    congr 1
    omega
  unfold atI
  rw [e]
  show (xs ++ [v, w])[xs.length]? = some v
  simp
theorem cut_take (xs : List V) (n : Nat) (h : n ≤ xs.length) : cutV xs none (some (n : Int)) = xs.take n := by
  unfold cutV
  rw [HT.sIx_nat, HT.sIx_none, List.drop_zero, Nat.min_eq_left h, Nat.sub_zero]
end Sq

set_option Elab.async false
set_option linter.all false
/-! The best replacements, in plain Lean. -/
namespace Sq
def low (R : Int) : Int := (R + 3) / 2
def high (R : Int) : Int := (R + 4) / 2
def bests (R : Int) : List Int := if low R = high R then [low R] else [low R, high R]
def grow (R : Int) : Int := rw1 (low R) R
def up : Nat → Int → Int
  | 0, v => v
  | n + 1, v => grow (up n v)

theorem low_ge {R : Int} (h : 1 ≤ R) : 2 ≤ low R := by unfold low; omega
theorem low_le {R : Int} (h : 1 ≤ R) : low R ≤ R + 1 := by unfold low; omega
theorem high_le {R : Int} (h : 1 ≤ R) : high R ≤ R + 2 := by unfold high; omega

theorem rw1_low {k R : Int} (hk : k ≤ R + 2) : rw1 k R = (R + 3 - k) * k - 2 := by
  unfold rw1
  split
  · have e : k = R + 2 := by omega
    subst e
    rw [show R + 3 - (R + 2) = 1 by omega, Int.one_mul]
    omega
  · rfl

/-- how far a replacement stands from the middle decides -/
theorem sq_gap (R k : Int) : 4 * ((R + 3 - k) * k) = (R + 3) * (R + 3) - (2 * k - (R + 3)) * (2 * k - (R + 3)) := by
  simp only [Int.sub_mul, Int.mul_sub, Int.add_mul, Int.mul_add]
  have h1 := Int.mul_comm k R
  have h2 : 2 * k * (2 * k) = 4 * (k * k) := by
    rw [Int.mul_assoc, ← Int.mul_assoc k 2 k, Int.mul_comm k 2, Int.mul_assoc 2 k k]
    omega
  have h3 : 2 * k * R = 2 * (k * R) := Int.mul_assoc ..
  have h4 : R * (2 * k) = 2 * (k * R) := by rw [Int.mul_comm R, Int.mul_assoc]
  rw [h2, h3, h4, h1]
  omega

theorem one_sq {d : Int} (h : d = 0 ∨ d = 1 ∨ d = -1) : d * d ≤ 1 := by rcases h with h | h | h <;> subst h <;> decide
theorem two_sq {d : Int} (h : 2 ≤ d ∨ d ≤ -2) : 4 ≤ d * d := by
  rcases h with h | h
  · exact Int.mul_le_mul h h (by omega) (by omega)
  · have := Int.mul_le_mul (a := 2) (b := 2) (c := -d) (d := -d) (by omega) (by omega) (by omega) (by omega)
    rw [Int.neg_mul_neg] at this
    exact this

theorem rw1_le_grow {k R : Int} (hk : 2 ≤ k) (hR : 1 ≤ R) : rw1 k R ≤ grow R ∧ (rw1 k R = grow R ↔ k ∈ bests R) := by
  have l1 := low_ge hR
  have l2 := low_le hR
  have g : grow R = (R + 3 - low R) * low R - 2 := rw1_low (by omega)
  have e1 := sq_gap R (low R)
  by_cases c : k ≤ R + 2
  · have e := sq_gap R k
    rw [g, rw1_low c]
    by_cases ev : R % 2 = 0
    · -- the middle lies between two
      have d1 : 2 * low R - (R + 3) = -1 := by unfold low; omega
      have ne : low R ≠ high R := by unfold low high; omega
      have mem : k ∈ bests R ↔ (k = low R ∨ k = high R) := by
        unfold bests
        rw [if_neg ne]
        simp
      rw [d1] at e1
      by_cases m : k = low R ∨ k = high R
      · have d2 : 2 * k - (R + 3) = -1 ∨ 2 * k - (R + 3) = 1 := by unfold low high at m; omega
        have e2 : (2 * k - (R + 3)) * (2 * k - (R + 3)) = 1 := by rcases d2 with d2 | d2 <;> rw [d2] <;> rfl
        rw [e2] at e
        exact ⟨by omega, fun _ => mem.mpr m, fun _ => by omega⟩
      · have d2 : 2 ≤ 2 * k - (R + 3) ∨ 2 * k - (R + 3) ≤ -2 := by unfold low high at m; omega
        have e2 := two_sq d2
        exact ⟨by omega, fun z => by omega, fun z => absurd (mem.mp z) m⟩
    · have d1 : 2 * low R - (R + 3) = 0 := by unfold low; omega
      have eq : low R = high R := by unfold low high; omega
      have mem : k ∈ bests R ↔ k = low R := by
        unfold bests
        rw [if_pos eq]
        simp
      rw [d1] at e1
      by_cases m : k = low R
      · subst m
        exact ⟨by omega, fun _ => mem.mpr rfl, fun _ => by omega⟩
      · have d2 : 2 ≤ 2 * k - (R + 3) ∨ 2 * k - (R + 3) ≤ -2 := by unfold low at m; omega
        have e2 := two_sq d2
        exact ⟨by omega, fun z => by omega, fun z => absurd (mem.mp z) m⟩
  · have e2 : rw1 k R = R := by
      unfold rw1
      rw [if_pos (by omega)]
    have e3 : R < grow R := by
      rw [g]
      have e4 : (R + 3 - 2) * 2 ≤ (R + 3 - low R) * low R := by
        have a := sq_gap R 2
        have b : (2 * low R - (R + 3)) * (2 * low R - (R + 3)) ≤ 1 := one_sq (by unfold low; omega)
        by_cases h1 : R = 1
        · subst h1
          decide
        · by_cases h2 : R = 2
          · subst h2; decide
          · have c2 : 1 ≤ (2 * 2 - (R + 3)) * (2 * 2 - (R + 3)) := by
              have := two_sq (d := 2 * 2 - (R + 3)) (by omega)
              omega
            omega
      omega
    refine ⟨by omega, fun z => by omega, fun z => ?_⟩
    exfalso
    have := high_le hR
    unfold bests at z
    split at z
    · have := List.mem_singleton.mp z
      omega
    · simp at z
      omega

theorem grow_gt {R : Int} (hR : 1 ≤ R) : R < grow R := by
  have a := (rw1_le_grow (k := 2) (R := R) (by omega) hR).1
  rw [rw1_low (by omega)] at a
  by_cases h : R = 1
  · subst h; decide
  · omega
theorem grow_pos {R : Int} (hR : 1 ≤ R) : 1 ≤ grow R := by have := grow_gt hR; omega
theorem rw1_lt {k R S : Int} (hk : 2 ≤ k) (hR : 1 ≤ R) (h : R < S) : rw1 k R < grow S := by
  have hS : 1 ≤ S := by omega
  by_cases c : k ≤ R + 1
  · have a := (rw1_le_grow (k := k) hk hS).1
    rw [rw1_low (by omega)] at a
    rw [rw1_low (by omega)]
    have : (R + 3 - k) * k < (S + 3 - k) * k := Int.mul_lt_mul_of_pos_right (by omega) (by omega)
    omega
  · have e2 : rw1 k R = R := by
      unfold rw1
      rw [if_pos (by omega)]
    have := grow_gt hS
    omega
theorem grow_lt {R S : Int} (hR : 1 ≤ R) (h : R < S) : grow R < grow S := rw1_lt (low_ge hR) hR h
theorem up_pos {v : Int} (hv : 1 ≤ v) : ∀ n, 1 ≤ up n v
  | 0 => hv
  | n + 1 => grow_pos (up_pos hv n)
theorem up_lt {v : Int} (hv : 1 ≤ v) (n : Nat) : up n v < up (n + 1) v := grow_gt (up_pos hv n)
theorem up_mono {v : Int} (hv : 1 ≤ v) {i : Nat} : ∀ {j : Nat}, i ≤ j → up i v ≤ up j v
  | 0, h => by
    have e : i = 0 := by omega
    subst e
    exact Int.le_refl _
  | j + 1, h => by
    by_cases c : i = j + 1
    · subst c; exact Int.le_refl _
    · have := up_mono hv (i := i) (j := j) (by omega)
      have := up_lt hv j
      omega

/-- the choices of each place -/
def chs : Nat → Int → List (List Int)
  | 0, _ => []
  | n + 1, v => bests (up n v) :: chs n v
/-- one of each -/
def Each : List Int → List (List Int) → Prop
  | [], [] => True
  | k :: ks, c :: cs => k ∈ c ∧ Each ks cs
  | _, _ => False
theorem rch_best : ∀ (ks : List Int) (v : Int), (∀ k ∈ ks, 2 ≤ k) → 1 ≤ v → rch ks v ≤ up ks.length v ∧ (rch ks v = up ks.length v ↔ Each ks (chs ks.length v))
  | [], v, _, _ => ⟨Int.le_refl _, fun _ => trivial, fun _ => rfl⟩
  | k :: ks, v, h, hv => by
    have hk := h k (List.mem_cons_self ..)
    have ht : ∀ x ∈ ks, 2 ≤ x := fun x hx => h x (List.mem_cons_of_mem _ hx)
    obtain ⟨a1, a2⟩ := rch_best ks v ht hv
    have p := rch_pos ks v ht hv
    show rw1 k (rch ks v) ≤ grow (up ks.length v) ∧ (rw1 k (rch ks v) = grow (up ks.length v) ↔ k ∈ bests (up ks.length v) ∧ Each ks (chs ks.length v))
    by_cases e : rch ks v = up ks.length v
    · rw [e]
      obtain ⟨b1, b2⟩ := rw1_le_grow (k := k) (R := up ks.length v) hk (up_pos hv _)
      exact ⟨b1, fun z => ⟨b2.mp z, a2.mp e⟩, fun z => b2.mpr z.1⟩
    · have l := rw1_lt (k := k) hk p (show rch ks v < up ks.length v by omega)
      exact ⟨by omega, fun z => by omega, fun z => absurd (a2.mpr z.2) e⟩
end Sq

set_option Elab.async false
set_option linter.all false
/-! One of each choice, by its place. -/
namespace Sq
def lens : List (List Int) → Int
  | [] => 1
  | c :: cs => (c.length : Int) * lens cs
def pick : List (List Int) → Int → List Int
  | [], _ => []
  | c :: cs, p => c.getD ((p / lens cs) % (c.length : Int)).toNat 0 :: pick cs p
def Full (cs : List (List Int)) : Prop := ∀ c ∈ cs, 0 < c.length
theorem Full.tl {c : List Int} {cs : List (List Int)} (h : Full (c :: cs)) : Full cs := fun x hx => h x (List.mem_cons_of_mem _ hx)
theorem Full.hd {c : List Int} {cs : List (List Int)} (h : Full (c :: cs)) : 0 < c.length := h c (List.mem_cons_self ..)
theorem lens_pos : ∀ {cs : List (List Int)}, Full cs → 0 < lens cs
  | [], _ => by decide
  | c :: cs, h => Int.mul_pos (by have := h.hd; omega) (lens_pos h.tl)
theorem pick_len : ∀ (cs : List (List Int)) (p : Int), (pick cs p).length = cs.length
  | [], _ => rfl
  | _ :: cs, p => congrArg Nat.succ (pick_len cs p)
theorem pick_add : ∀ {cs : List (List Int)} (p t : Int), Full cs → pick cs (p + t * lens cs) = pick cs p
  | [], _, _, _ => rfl
  | c :: cs, p, t, h => by
    have m := lens_pos h.tl
    have e : p + t * ((c.length : Int) * lens cs) = p + (t * (c.length : Int)) * lens cs := by rw [Int.mul_assoc]
    show c.getD (((p + t * ((c.length : Int) * lens cs)) / lens cs) % (c.length : Int)).toNat 0 :: pick cs (p + t * ((c.length : Int) * lens cs)) = c.getD ((p / lens cs) % (c.length : Int)).toNat 0 :: pick cs p
    rw [e, pick_add p _ h.tl, Int.add_mul_ediv_right _ _ (by omega : lens cs ≠ 0), Int.add_mul_emod_self_right]
theorem pick_mod {cs : List (List Int)} (p : Int) (h : Full cs) : pick cs (p % lens cs) = pick cs p := by
  have a := pick_add (p % lens cs) (p / lens cs) h
  have e : p % lens cs + p / lens cs * lens cs = p := by rw [Int.mul_comm]; exact Int.emod_add_mul_ediv p (lens cs)
  rw [e] at a
  exact a.symm
theorem at_mem {c : List Int} (h : 0 < c.length) (z : Int) : c.getD (z % (c.length : Int)).toNat 0 ∈ c := by
  have a := Int.emod_nonneg z (by omega : (c.length : Int) ≠ 0)
  have b := Int.emod_lt_of_pos z (by omega : 0 < (c.length : Int))
  have lt : (z % (c.length : Int)).toNat < c.length := by omega
  rw [List.getD_eq_getElem?_getD, List.getElem?_eq_getElem lt]
  exact List.getElem_mem lt
theorem pick_each : ∀ {cs : List (List Int)} (p : Int), Full cs → Each (pick cs p) cs
  | [], _, _ => trivial
  | c :: cs, p, h => ⟨at_mem h.hd _, pick_each p h.tl⟩
theorem div_lt {p a M : Int} (h0 : 0 ≤ p) (hM : 0 < M) (h : p < a * M) : 0 ≤ p / M ∧ p / M < a := ⟨Int.ediv_nonneg h0 (by omega), Int.ediv_lt_of_lt_mul hM h⟩
theorem pick_all : ∀ {cs : List (List Int)} {ks : List Int}, Full cs → Each ks cs → ∃ p : Int, 0 ≤ p ∧ p < lens cs ∧ pick cs p = ks
  | [], [], _, _ => ⟨0, by decide, by decide, rfl⟩
  | c :: cs, k :: ks, h, e => by
    obtain ⟨p, p0, p1, pe⟩ := pick_all (cs := cs) (ks := ks) h.tl e.2
    obtain ⟨i, hi, ek⟩ := List.mem_iff_getElem.mp e.1
    have m := lens_pos h.tl
    refine ⟨p + i * lens cs, ?_, ?_, ?_⟩
    · have := Int.mul_nonneg (by omega : (0 : Int) ≤ i) (by omega : 0 ≤ lens cs)
      omega
    · have : ((i : Int) + 1) * lens cs ≤ (c.length : Int) * lens cs := Int.mul_le_mul_of_nonneg_right (by omega) (by omega)
      rw [Int.add_mul] at this
      show p + i * lens cs < (c.length : Int) * lens cs
      omega
    · show c.getD (((p + i * lens cs) / lens cs) % (c.length : Int)).toNat 0 :: pick cs (p + i * lens cs) = k :: ks
      rw [pick_add p _ h.tl, pe, Int.add_mul_ediv_right _ _ (by omega : lens cs ≠ 0), Int.ediv_eq_zero_of_lt p0 p1, Int.zero_add, Int.emod_eq_of_lt (by omega) (by omega)]
      have : ((i : Int)).toNat = i := by omega
      rw [this, List.getD_eq_getElem?_getD, List.getElem?_eq_getElem hi]
      exact congrArg (· :: ks) ek
  | [], _ :: _, _, e => e.elim
  | _ :: _, [], _, e => e.elim
/-- the first that differs is less -/
def Lx : List Int → List Int → Prop
  | x :: xs, y :: ys => x < y ∨ (x = y ∧ Lx xs ys)
  | _, _ => False
def Asc (c : List Int) : Prop := ∀ i j : Nat, i < j → j < c.length → c.getD i 0 < c.getD j 0
theorem pick_lx : ∀ {cs : List (List Int)} {p q : Int}, Full cs → (∀ c ∈ cs, Asc c) → 0 ≤ p → p < q → q < lens cs → Lx (pick cs p) (pick cs q)
  | [], p, q, _, _, h0, h1, h2 => by
    have : q < 1 := h2
    omega
  | c :: cs, p, q, h, ha, h0, h1, h2 => by
    have m := lens_pos h.tl
    have h2' : q < (c.length : Int) * lens cs := h2
    obtain ⟨a1, a2⟩ := div_lt h0 m (by omega : p < (c.length : Int) * lens cs)
    obtain ⟨b1, b2⟩ := div_lt (by omega : 0 ≤ q) m h2'
    have le : p / lens cs ≤ q / lens cs := Int.ediv_le_ediv m (by omega)
    show _ < _ ∨ (_ = _ ∧ Lx (pick cs p) (pick cs q))
    rw [Int.emod_eq_of_lt a1 a2, Int.emod_eq_of_lt b1 b2]
    by_cases e : p / lens cs = q / lens cs
    · right
      refine ⟨by rw [e], ?_⟩
      rw [← pick_mod p h.tl, ← pick_mod q h.tl]
      have x := Int.emod_add_mul_ediv p (lens cs)
      have y := Int.emod_add_mul_ediv q (lens cs)
      rw [e] at x
      exact pick_lx h.tl (fun z hz => ha z (List.mem_cons_of_mem _ hz)) (Int.emod_nonneg _ (by omega)) (by omega) (Int.emod_lt_of_pos _ m)
    · left
      exact ha c (List.mem_cons_self ..) _ _ (by omega) (by omega)
theorem bests_len (R : Int) : (bests R).length = if R % 2 = 0 then 2 else 1 := by
  unfold bests
  by_cases h : R % 2 = 0
  · rw [if_pos h, if_neg (show ¬ low R = high R by unfold low high; omega)]
    rfl
  · rw [if_neg h, if_pos (show low R = high R by unfold low high; omega)]
    rfl
theorem bests_asc (R : Int) : Asc (bests R) := by
  intro i j h1 h2
  rw [bests_len] at h2
  split at h2
  · have e1 : i = 0 := by omega
    have e2 : j = 1 := by omega
    subst e1 e2
    unfold bests
    rw [if_neg (show ¬ low R = high R by unfold low high; omega)]
    show low R < high R
    unfold low high
    omega
  · omega
theorem chs_len : ∀ (n : Nat) (v : Int), (chs n v).length = n
  | 0, _ => rfl
  | n + 1, v => congrArg Nat.succ (chs_len n v)
theorem chs_mem : ∀ {n : Nat} {v : Int} {c : List Int}, c ∈ chs n v → ∃ i, i < n ∧ c = bests (up i v)
  | n + 1, v, c, h => by
    rcases List.mem_cons.mp h with e | h
    · exact ⟨n, by omega, e⟩
    · obtain ⟨i, hi, e⟩ := chs_mem h
      exact ⟨i, by omega, e⟩
theorem chs_full (n : Nat) (v : Int) : Full (chs n v) := fun c h => by
  obtain ⟨i, _, rfl⟩ := chs_mem h
  rw [bests_len]
  split <;> omega
theorem chs_asc (n : Nat) (v : Int) : ∀ c ∈ chs n v, Asc c := fun c h => by
  obtain ⟨i, _, rfl⟩ := chs_mem h
  exact bests_asc _
/-- the even reaches -/
def evens (n : Nat) (v : Int) : Nat := match n with
  | 0 => 0
  | n + 1 => evens n v + if up n v % 2 = 0 then 1 else 0
theorem lens_chs : ∀ (n : Nat) (v : Int), lens (chs n v) = (2 : Int) ^ evens n v
  | 0, _ => rfl
  | n + 1, v => by
    show ((bests (up n v)).length : Int) * lens (chs n v) = (2 : Int) ^ (evens n v + if up n v % 2 = 0 then 1 else 0)
    rw [lens_chs n v, bests_len]
    by_cases h : up n v % 2 = 0
    · rw [if_pos h, if_pos h, Int.pow_succ]
      omega
    · rw [if_neg h, if_neg h]
      show (1 : Int) * _ = _
      rw [Int.one_mul]
      rfl
theorem evens_le (n : Nat) (v : Int) : evens n v ≤ n := by
  induction n with
  | zero => exact Nat.le_refl _
  | succ n ih =>
    show evens n v + (if up n v % 2 = 0 then 1 else 0) ≤ n + 1
    split <;> omega
theorem lens_le {n : Nat} (h : n ≤ 8) (v : Int) : lens (chs n v) ≤ 256 := by
  rw [lens_chs]
  have : (2 : Nat) ^ evens n v ≤ 2 ^ 8 := Nat.pow_le_pow_right (by decide) (Nat.le_trans (evens_le n v) h)
  have e : ((2 ^ evens n v : Nat) : Int) = (2 : Int) ^ evens n v := by push_cast; rfl
  omega
theorem each_ge : ∀ {n : Nat} {v : Int} {ks : List Int}, 1 ≤ v → Each ks (chs n v) → ∀ k ∈ ks, 2 ≤ k ∧ k ≤ up n v + 2
  | 0, v, [], _, _ => fun k h => by cases h
  | n + 1, v, k :: ks, hv, e => fun x hx => by
    have l := up_lt hv n
    rcases List.mem_cons.mp hx with z | z
    · subst z
      have p := up_pos hv n
      have e1 : x ∈ bests (up n v) := e.1
      have a := low_ge p
      have b := low_le p
      have c := high_le p
      have d : low (up n v) ≤ high (up n v) := by unfold low high; omega
      unfold bests at e1
      split at e1
      · have := List.mem_singleton.mp e1
        omega
      · simp at e1
        omega
    · have := each_ge hv e.2 x z
      omega
  | n + 1, v, [], _, e => e.elim
  | 0, v, _ :: _, _, e => e.elim
theorem each_len : ∀ {ks : List Int} {cs : List (List Int)}, Each ks cs → ks.length = cs.length
  | [], [], _ => rfl
  | _ :: _, _ :: _, e => congrArg Nat.succ (each_len e.2)
  | [], _ :: _, e => e.elim
  | _ :: _, [], e => e.elim
end Sq

set_option Elab.async false
set_option linter.all false
set_option maxRecDepth 100000
set_option maxHeartbeats 1000000
/-! `for` in a generator's body, with yields in its suite. -/
namespace PySem
open Sem (wp)
section
variable {M : Model} {A : Around} {R : GenEnd} {Y : Protocol} {n : Nat} {s₀ : Shared} {c : Code} {fs : List Frame} {s : Shared} {env : Env}
  {K : Flow → Sem Fin} {H : Value → Sem Fin} {gd : Bool → Bool} {lv : List Value → List Value}
theorem segFor {target iter : Expr} {body orelse : List Stmt} {pos : Pos}
    (h : wpAny M (A.over c fs) (eval iter env) (fun x s₁ => wpAny M (A.over c fs) (pyIter x) (fun it s₂ =>
        ∀ p, Seg M A R Y n s₀ (.forLoop target it body orelse env) (M.den (.forLoop target it body orelse env))
      (.ret (fun r => ((match r with | .ok f => (.pure f : Sem Flow) | .error e => .raise e).onRaise fun (x : Value) => do
        if (← field x 1) == Value.none then unsupported "frame.own-activation:exception-without-traceback"
        setFlight x env.frame).wrap K H gd lv) none (gd false) (lv []) c p [] :: fs) s₂) (fun x s' => Seg M A R Y n s₀ c (H x) fs s') s₁)
      (fun x s' => Seg M A R Y n s₀ c (H x) fs s') s)
    (hs : ∀ x, foldedSetIterable iter env x = pure x := by intro _; rfl) :
    Seg M A R Y n s₀ c ((exec (.For target iter body orelse pos) env).wrap K H gd lv) fs s := by
  rw [exec_For]
  refine seg_bind_wrap (wpAny_standAt ?_)
  refine seg_bind_wrap (wpAny_mono h (fun x s₁ h₁ => ?_) fun _ _ h' => h')
  refine seg_bind_wrap (wpAny_of_eq (hs x) ?_)
  refine seg_bind_wrap (wpAny_standAt ?_)
  refine seg_bind_wrap (wpAny_holding (wpAny_mono h₁ (fun it s₂ h₂ => ?_) fun _ _ h' => h'))
  exact seg_call h₂
end
section
variable {prog : Program} {w : World} {A : Around} {R : GenEnd} {Y : Protocol} {n : Nat} {s₀ : Shared} {fs : List Frame} {s : Shared} {env : Env}
theorem segForLoop {target : Expr} {it : Value} {body orelse : List Stmt}
    (h : wpAny (model prog w) (A.over (.forLoop target it body orelse env) fs) (pyNext it) (fun r s₁ => match r with
        | none => Seg (model prog w) A R Y n s₀ (.forLoop target it body orelse env) (.pure (.again (.block orelse env))) fs s₁
        | some v => wpAny (model prog w) (A.over (.forLoop target it body orelse env) fs) (letOwnedTupleGo target it v) (fun _ s₂ =>
            wpAny (model prog w) (A.over (.forLoop target it body orelse env) fs) (assign target env v) (fun _ s₃ =>
              Seg (model prog w) A R Y n s₀ (.forLoop target it body orelse env) ((execs body env).wrap (fun f => match f with
            | .next | .cont => .pure (.again (.forLoop target it body orelse env))
            | .brk => .pure (.done .next)
            | .ret v => .pure (.done (.ret v))) (fun e => (do noteFrame e env; theTreesLotGoes e : Sem Unit).wrap (fun _ => .raise e) .raise id id) id id) fs s₃)
              (fun x s' => Seg (model prog w) A R Y n s₀ (.forLoop target it body orelse env) ((do noteFrame x env; theTreesLotGoes x : Sem Unit).wrap (fun _ => .raise x) .raise id id) fs s') s₂)
            (fun x s' => Seg (model prog w) A R Y n s₀ (.forLoop target it body orelse env) ((do noteFrame x env; theTreesLotGoes x : Sem Unit).wrap (fun _ => .raise x) .raise id id) fs s') s₁)
      (fun x s' => Seg (model prog w) A R Y n s₀ (.forLoop target it body orelse env) ((do noteFrame x env; theTreesLotGoes x : Sem Unit).wrap (fun _ => .raise x) .raise id id) fs s') s) :
    Seg (model prog w) A R Y n s₀ (.forLoop target it body orelse env) ((model prog w).den (.forLoop target it body orelse env)) fs s := by
  show Seg _ A R Y n s₀ _ ((forTurn target it body orelse env).onRaise (fun x => do noteFrame x env; theTreesLotGoes x)) fs s
  unfold forTurn
  rw [Sem.onRaise_eq_wrap]
  have he : ∀ (x : Value) (s' : Shared), Seg (model prog w) A R Y n s₀ (.forLoop target it body orelse env) ((do noteFrame x env; theTreesLotGoes x : Sem Unit).wrap (fun _ => .raise x) .raise id id) fs s' →
      Seg (model prog w) A R Y n s₀ (.forLoop target it body orelse env) ((do noteFrame x env; theTreesLotGoes x : Sem Unit).bind fun _ => .raise x) fs s' := fun x s' hx => by
    rw [Sem.bind_eq_wrap]; exact hx
  refine seg_bind_wrap (wpAny_standAt ?_)
  refine seg_bind_wrap (wpAny_onRaise (wpAny_mono h (fun r s₁ h₁ => ?_) fun x s' hx => wpAny_standAt (he x s' hx)))
  cases r with
  | none => exact h₁
  | some v =>
    refine seg_bind_wrap (wpAny_mono h₁ (fun _ s₂ h₂ => ?_) fun x s' hx => he x s' hx)
    refine seg_bind_wrap (wpAny_mono h₂ (fun _ s₃ h₃ => ?_) fun x s' hx => he x s' hx)
    rw [Sem.bind_eq_wrap', Sem.wrap_wrap]
    rw [Sem.wrap_congr (execs body env) _ _ (K' := fun f => match f with
            | .next | .cont => .pure (.again (.forLoop target it body orelse env))
            | .brk => .pure (.done .next)
            | .ret v => .pure (.done (.ret v))) (H' := (fun e => (do noteFrame e env; theTreesLotGoes e : Sem Unit).wrap (fun _ => .raise e) .raise id id))
        (fun f => by cases f <;> rfl)
        (fun e => by first | exact Sem.bind_eq_wrap _ _ | (show (do noteFrame e env; theTreesLotGoes e : Sem Unit).bind (fun _ => .raise e) = _; rw [Sem.bind_eq_wrap]))]
    exact h₃
theorem segBlockNil (h : Seg (model prog w) A R Y n s₀ (.block [] env) (.pure (.done .next)) fs s) :
    Seg (model prog w) A R Y n s₀ (.block [] env) ((model prog w).den (.block [] env)) fs s := h
end
end PySem

namespace L2
open PySem PySem.Spec PyProof.Rows GenW
section
variable {X : Cx} {tg : Expr}
theorem gc_more {S : Addr} {ip ip' : List (Addr × Obj)} {A : Around} {c : Code} {fs : List Frame} {gd : Bool → Bool} (g : GC X S ip A c fs gd) (h : ∀ p ∈ ip', p.1 ≠ S) : GC X S (ip ++ ip') A c fs gd where
  pn := g.pn
  ip := fun p hp => (List.mem_append.mp hp).elim (g.ip p) (h p)
  apart := g.apart
  over := g.over
  split := g.split
  guard := g.guard
  gd := g.gd
theorem GI.less {S : Addr} {ip ip' : List (Addr × Obj)} {ys : List V} {σ : St} {H : Hp} {s : Shared} (h : GI X S (ip ++ ip') ys σ H s) : GI X S ip ys σ H s := by
  obtain ⟨acc, c, r, I⟩ := h
  exact ⟨acc, c, r, I.pins_of fun p hp => I.pin p (List.mem_append_right _ ((List.mem_cons.mp hp).elim (fun e => e ▸ List.mem_cons_self) fun z => List.mem_cons_of_mem _ (List.mem_append_left _ z)))⟩
/-- as tFor, with what is out -/
def tGFor (wi : TI) (g : TG) (tb : TGn) : TGn := fun D ys σ H => wi σ H fun J H1 => ∃ W : Nat → Nat → List V → St → Hp → Prop, (∃ m, W 0 m ys σ H1) ∧ ∀ i m ys σ H, W i m ys σ H →
  (J.stop i H ∧ D.nx ys σ H) ∨ (J.go i H ∧ ∃ N : List V → St → Hp → Prop, (∀ ys' σ' H', N ys' σ' H' → ∃ m', m' < m ∧ W (i + 1) m' ys' σ' H') ∧ ∀ x H', J.yld i H x H' → g x σ H' fun σ2 H2 => tb { D with nx := N, ct := N, bk := D.nx } ys σ2 H2)
theorem gs_for {iter : Expr} {body : List Stmt} {wi : TI} {g : TG} {tb : TGn} {pos : Pos} (hp : PassesOwn (model X.prog X.w) X.A X.env X.xe) (hcalm : X.calm = true) (hi : PI X tg iter wi) (hg : PG X tg g) (hb : GSs X body tb)
    (hs : ∀ x, foldedSetIterable iter X.env x = pure x := by intro _; rfl) : GS X (.For tg iter body [] pos) (tGFor wi g tb) := by
  refine ⟨fun A S ip R n ys s₀ c fs K J gd lv s σ H D gc hn k hI ht => ?_⟩
  obtain ⟨acc, cc, r, I⟩ := hI
  refine segFor ?_ hs
  rw [gc.over]
  refine wpAny_mono (hi.run _ s σ H _ I ht) (fun v s1 h1 => ?_) fun x s' hx => k.exc n s₀ x s' hx
  refine wpAny_mono h1 (fun itv s2 h2 => ?_) fun x s' hx => k.exc n s₀ x s' hx
  obtain ⟨it, fp, tn, J', H2, e, I2, T, st2, f2, W, ⟨m0, w0⟩, turn⟩ := h2
  subst e
  intro p
  have gl := fun (kk : Result → Sem PySem.Fin) => gc_loop (k := kk) (c' := .forLoop tg (.ref it) body [] X.env) (l := lv []) (kp := []) (p := p) gc rfl rfl
  have fpS : ∀ b ∈ fp, b ≠ S := fun b hb e => by
    obtain ⟨_, q1, q2, q3, q4, q5⟩ := f2 b hb
    exact q5 (S, lstObj acc cc) (List.mem_append_right _ List.mem_cons_self) e.symm
  have stat : ∀ {H' : Hp}, (∀ b ∈ fp, H' b = none) → ∀ {acc : Array Value} {c : Nat}, ∀ b ∈ fp, FpOk X ((S, lstObj acc c) :: ip) H' b := fun {H'} hn {acc c} b hb => by
    obtain ⟨_, q1, q2, q3, q4, q5⟩ := f2 b hb
    refine ⟨hn b hb, q1, q2, q3, q4, fun p hp => ?_⟩
    rcases List.mem_append.mp hp with z | z
    · exact q5 p (List.mem_append_left _ z)
    · rcases List.mem_cons.mp z with z | z
      · rw [z]
        exact fun e => fpS b hb e.symm
      · exact q5 p (List.mem_append_right _ (List.mem_cons_of_mem _ z))
  have loop : ∀ (m i n : Nat) (ys : List V) (s₀ s : Shared) (σ : St) (H : Hp), n + ys.length = sizeLine → W i m ys σ H → tn i s.heap → (∀ b ∈ fp, H b = none) → GI X S ip ys σ H s →
      Seg (model X.prog X.w) A R (GY X S) n s₀ (.forLoop tg (.ref it) body [] X.env) ((model X.prog X.w).den (.forLoop tg (.ref it) body [] X.env))
        (.ret (fun r => ((match r with | .ok f => (.pure f : Sem Flow) | .error e => .raise e).onRaise (cameBack X.env)).wrap K J gd lv) none (gd false) (lv []) c p [] :: fs) s := by
    intro m
    induction m using Nat.strongRecOn with
    | ind m ih =>
      intro i n ys s₀ s σ H hn w st fr hI
      have ee : ∀ (n : Nat) (s₀ : Shared) (x : Value) (s' : Shared), X.xe x s' → Seg (model X.prog X.w) A R (GY X S) n s₀ (.forLoop tg (.ref it) body [] X.env)
          ((do noteFrame x X.env; theTreesLotGoes x : Sem Unit).wrap (fun _ => .raise x) .raise id id)
          (.ret (fun r => ((match r with | .ok f => (.pure f : Sem Flow) | .error e => .raise e).onRaise (cameBack X.env)).wrap K J gd lv) none (gd false) (lv []) c p [] :: fs) s' := fun n s₀ x s' hx => by
        refine seg_wrap ?_
        rw [(gl _).over]
        refine wpAny_bind (wpAny_mono (hp x s' hx) (fun _ s'' hcb => wpAny_theTreesLotGoes ?_) fun y s'' hcb => ?_)
        · exact seg_leaf (.error x) (seg_cameBack gc k hcb)
        · exact seg_leaf (.error y) (seg_cameBack gc k hcb)
      refine segForLoop ?_
      rw [(gl _).over]
      obtain ⟨acc, cc, r, I⟩ := hI
      rcases turn i m ys σ H w with ⟨stop, qn⟩ | ⟨go, N, hN, step⟩
      · refine wpAny_mono (T.done X rfl rfl rfl hcalm i _ s σ H X.xe I (stat fr) st stop) (fun rr s4 hh => ?_) fun x s' hx => ee n s₀ x s' hx
        obtain ⟨hr, I4⟩ := hh
        subst hr
        refine seg_again rfl (segBlockNil ?_)
        exact seg_leaf (.ok .next) (k.ok n ys s₀ s4 .next hn ⟨σ, H, ⟨acc, cc, r, I4⟩, qn⟩)
      · refine wpAny_mono (T.item X rfl rfl rfl hcalm i _ s σ H X.xe I (stat fr) st go) (fun rr s4 hh => ?_) fun x s' hx => ee n s₀ x s' hx
        obtain ⟨u, hr, h4⟩ := hh
        subst hr
        refine wpAny_mono h4 (fun _ s5 hh => ?_) fun x s' hx => ee n s₀ x s' hx
        obtain ⟨x, H5, I5, r5, y5, st5, fr5⟩ := hh
        have I5' := I5.pinned (stat fr5) (T.obj _ _ st5)
        refine wpAny_mono (hg.run _ s5 σ H5 x u _ I5' r5 (step x H5 y5)) (fun _ s6 hh => ?_) fun x s' hx => ee n s₀ x s' hx
        obtain ⟨σ6, H6, I6, q6⟩ := hh
        have gm : GC X S (ip ++ pinsAt fp s5.heap) A (.forLoop tg (.ref it) body [] X.env) (.ret (fun r => ((match r with | .ok f => (.pure f : Sem Flow) | .error e => .raise e).onRaise (cameBack X.env)).wrap K J gd lv) none (gd false) (lv []) c p [] :: fs) id :=
          gc_more (gl _) fun q hq => fpS q.1 (of_pinsAt hq).1
        have again : ∀ {n' : Nat} {ys' : List V} {s₀' s7 : Shared} {σ7 : St} {H7 : Hp}, n' + ys'.length = sizeLine → GI X S (ip ++ pinsAt fp s5.heap) ys' σ7 H7 s7 → N ys' σ7 H7 →
            Seg (model X.prog X.w) A R (GY X S) n' s₀' (.forLoop tg (.ref it) body [] X.env) (.pure (.again (.forLoop tg (.ref it) body [] X.env)))
              (.ret (fun r => ((match r with | .ok f => (.pure f : Sem Flow) | .error e => .raise e).onRaise (cameBack X.env)).wrap K J gd lv) none (gd false) (lv []) c p [] :: fs) s7 := fun {n' ys' s₀' s7 σ7 H7} hn' I7 n7 => by
          obtain ⟨m', hm, w7⟩ := hN ys' σ7 H7 n7
          have pz : ∀ b ∈ fp, ∀ o, s5.heap.get? b = some o → s7.heap.get? b = some o ∧ H7 b = none := fun b hb o e => by
            obtain ⟨acc7, c7, _, I7'⟩ := I7
            have z := I7'.pin (b, o) (List.mem_append_right _ (List.mem_cons_of_mem _ (List.mem_append_right _ (mem_pinsAt hb e))))
            exact ⟨z.1, z.2.1⟩
          refine seg_again rfl (ih m' hm (i + 1) n' ys' s₀' s7 σ7 H7 hn' w7 (T.keep _ _ _ st5 fun b hb o e => (pz b hb o e).1) (fun b hb => ?_) I7.less)
          obtain ⟨o, e, d⟩ := T.obj _ _ st5 b hb
          exact (pz b hb o e).2
        refine hb.run A S (ip ++ pinsAt fp s5.heap) R n ys s₀ _ _ _ _ id id s6 σ6 H6 { D with nx := N, ct := N, bk := D.nx } gm hn ⟨fun n' ys' s₀' s3 f hn' hs => ?_, fun n' s₀' x s3 hx => ee n' s₀' x s3 hx⟩ ⟨acc, cc, r, I6⟩ q6
        cases f with
        | next =>
          obtain ⟨σ3, H3, I3, n3⟩ := hs
          exact again hn' I3 n3
        | cont =>
          obtain ⟨σ3, H3, I3, n3⟩ := hs
          exact again hn' I3 n3
        | brk =>
          obtain ⟨σ3, H3, I3, n3⟩ := hs
          exact seg_leaf (.ok .next) (k.ok n' ys' s₀' s3 .next hn' ⟨σ3, H3, I3.less, n3⟩)
        | ret v =>
          obtain ⟨x3, σ3, H3, I3, r3, n3⟩ := hs
          exact seg_leaf (.ok (.ret v)) (k.ok n' ys' s₀' s3 (.ret v) hn' ⟨x3, σ3, H3, I3.less, r3, n3⟩)
  exact loop m0 0 n ys s₀ s2 σ H2 hn w0 st2 (fun b hb => (f2 b hb).1) ⟨acc, cc, r, I2⟩
end
end L2

set_option Elab.async false
set_option linter.all false
set_option maxRecDepth 100000
set_option maxHeartbeats 2000000
/-! Lists of lists of ints; a walk in a generator. -/
namespace Sq
open PySem PySem.Spec PyProof.Rows L2
theorem gfor_it {J : It} {n : Nat} {G : Hp → Prop} {Y : Nat → Hp → V → Hp → Prop} (w : Walk J n G Y) {g : TG} {tb : TGn} {D : GEnds} {ys : List V} {σ : L2.St} {H : Hp} (Pv : Nat → List V → L2.St → Hp → Prop) (h0 : Pv 0 ys σ H) (hG : ∀ i ys σ H, i ≤ n → Pv i ys σ H → G H)
    (hs : ∀ i x ys σ H H', i < n → Pv i ys σ H → Y i H x H' → g x σ H' fun σ2 H2 => tb { D with nx := Pv (i + 1), ct := Pv (i + 1), bk := D.nx } ys σ2 H2) (hd : ∀ ys σ H, Pv n ys σ H → D.nx ys σ H) :
    ∃ W : Nat → Nat → List V → L2.St → Hp → Prop, (∃ m, W 0 m ys σ H) ∧ ∀ i m ys σ H, W i m ys σ H →
      (J.stop i H ∧ D.nx ys σ H) ∨ (J.go i H ∧ ∃ N : List V → L2.St → Hp → Prop, (∀ ys' σ' H', N ys' σ' H' → ∃ m', m' < m ∧ W (i + 1) m' ys' σ' H') ∧ ∀ x H', J.yld i H x H' → g x σ H' fun σ2 H2 => tb { D with nx := N, ct := N, bk := D.nx } ys σ2 H2) := by
  refine ⟨fun i m ys σ H => m = n - i ∧ i ≤ n ∧ Pv i ys σ H, ⟨n, by simp, Nat.zero_le _, h0⟩, ?_⟩
  rintro i m ys σ H ⟨rfl, hi, p⟩
  have q := hG i ys σ H hi p
  by_cases hlt : i < n
  · exact .inr ⟨w.goes i H hlt q, Pv (i + 1), fun ys' σ' H' p' => ⟨n - (i + 1), by omega, rfl, hlt, p'⟩, fun x H' y => hs i x ys σ H H' hlt p (w.yields i H x H' hlt q y)⟩
  · have e : i = n := by omega
    subst e
    exact .inl ⟨w.stops H q, hd ys σ H p⟩
/-- at each of them stands its list of ints -/
def RowsAt (H : Hp) : List Addr → List (List Int) → Prop
  | [], [] => True
  | a :: as, c :: cs => H a = some (.lst (c.map V.int)) ∧ RowsAt H as cs
  | _, _ => False
theorem RowsAt.same {H H' : Hp} (s : Same H H') : ∀ {as : List Addr} {cs : List (List Int)}, RowsAt H as cs → RowsAt H' as cs
  | [], [], _ => trivial
  | _ :: _, _ :: _, h => ⟨s _ _ h.1, RowsAt.same s h.2⟩
  | [], _ :: _, h => h.elim
  | _ :: _, [], h => h.elim
theorem RowsAt.len {H : Hp} : ∀ {as : List Addr} {cs : List (List Int)}, RowsAt H as cs → as.length = cs.length
  | [], [], _ => rfl
  | _ :: _, _ :: _, h => congrArg Nat.succ (RowsAt.len h.2)
  | [], _ :: _, h => h.elim
  | _ :: _, [], h => h.elim
theorem RowsAt.app {H : Hp} : ∀ {as : List Addr} {cs : List (List Int)} {bs : List Addr} {ds : List (List Int)}, RowsAt H as cs → RowsAt H bs ds → RowsAt H (as ++ bs) (cs ++ ds)
  | [], [], _, _, _, h2 => h2
  | _ :: _, _ :: _, _, _, h, h2 => ⟨h.1, RowsAt.app h.2 h2⟩
  | [], _ :: _, _, _, h, _ => h.elim
  | _ :: _, [], _, _, h, _ => h.elim
theorem RowsAt.rev {H : Hp} : ∀ {as : List Addr} {cs : List (List Int)}, RowsAt H as cs → RowsAt H as.reverse cs.reverse
  | [], [], _ => trivial
  | _ :: _, _ :: _, h => by
    rw [List.reverse_cons, List.reverse_cons]
    exact (RowsAt.rev h.2).app ⟨h.1, trivial⟩
  | [], _ :: _, h => h.elim
  | _ :: _, [], h => h.elim
theorem RowsAt.get {H : Hp} : ∀ {as : List Addr} {cs : List (List Int)} {i : Nat} {c : List Int}, RowsAt H as cs → cs[i]? = some c → ∃ a, as[i]? = some a ∧ H a = some (.lst (c.map V.int))
  | _ :: _, _ :: _, 0, _, h, e => by
    cases e
    exact ⟨_, rfl, h.1⟩
  | _ :: _, _ :: _, i + 1, _, h, e => RowsAt.get (i := i) h.2 e
  | [], _ :: _, _, _, h, _ => h.elim
  | _, [], _, _, _, e => by simp at e
theorem RowsAt.upd {H : Hp} {p : Addr} {o : HO} : ∀ {as : List Addr} {cs : List (List Int)}, RowsAt H as cs → p ∉ as → RowsAt (upd H p o) as cs
  | [], [], _, _ => trivial
  | a :: _, _ :: _, h, n => ⟨by rw [upd_ne (fun z => n (by rw [z]; exact List.mem_cons_self ..))]; exact h.1, RowsAt.upd h.2 (fun z => n (List.mem_cons_of_mem _ z))⟩
  | [], _ :: _, h, _ => h.elim
  | _ :: _, [], h, _ => h.elim
theorem RowsAt.off {H : Hp} {p : Addr} : ∀ {as : List Addr} {cs : List (List Int)}, RowsAt H as cs → H p = none → p ∉ as
  | [], [], _, _, z => nomatch z
  | a :: _, _ :: _, h, e, z => by
    rcases List.mem_cons.mp z with z | z
    · have := h.1
      rw [← z, e] at this
      cases this
    · exact RowsAt.off h.2 e z
  | [], _ :: _, h, _, _ => h.elim
  | _ :: _, [], h, _, _ => h.elim
theorem map_ref {as : List Addr} {i : Nat} {x : V} (h : (as.map V.ref)[i]? = some x) : ∃ a, as[i]? = some a ∧ V.ref a = x := by
  rw [List.getElem?_map] at h
  exact Option.map_eq_some_iff.mp h
/-- what they hold, as data -/
def dRows (cs : List (List Int)) : List PyData := cs.map fun c => PyData.list (c.map PyData.int)
theorem dp_rows {K : PySem.W.Frag} {H : Hp} : ∀ {as : List Addr} {cs : List (List Int)}, RowsAt H as cs → DpAll K H (as.map V.ref) (dRows cs)
  | [], [], _ => .nil
  | _ :: _, c :: _, h => .cons (.lst (SqL.of h.1) (dp_ints c)) (dp_rows h.2)
  | [], _ :: _, h => h.elim
  | _ :: _, [], h => h.elim
end Sq

set_option Elab.async false
set_option linter.all false
set_option maxRecDepth 100000
set_option maxHeartbeats 1000000
/-! Lists of lists of ints as data. -/
namespace Sq
open PySem PySem.Spec PyProof.Rows L2
theorem eqvAll_ints : ∀ xs ys : List Int, PyData.eqvAll (xs.map PyData.int) (ys.map PyData.int) = decide (xs = ys)
  | [], [] => rfl
  | [], _ :: _ => rfl
  | _ :: _, [] => rfl
  | x :: xs, y :: ys => by
    show (PyData.eqv (.int x) (.int y) && PyData.eqvAll (xs.map PyData.int) (ys.map PyData.int)) = decide (x :: xs = y :: ys)
    rw [eqvAll_ints xs ys]
    have e : PyData.eqv (.int x) (.int y) = decide (x = y) := by
      show (x == y) = decide (x = y)
      by_cases h : x = y
      · rw [decide_eq_true h]; exact beq_iff_eq.mpr h
      · rw [decide_eq_false h]; exact beq_eq_false_iff_ne.mpr h
    rw [e]
    by_cases h1 : x = y
    · by_cases h2 : xs = ys
      · subst h1 h2
        simp
      · simp [h1, h2]
    · simp [h1]
theorem eqv_ints (xs ys : List Int) : PyData.eqv (.list (xs.map PyData.int)) (.list (ys.map PyData.int)) = decide (xs = ys) := eqvAll_ints xs ys
theorem any_rows (r : List Int) : ∀ cs : List (List Int), ((dRows cs).any fun z => PyData.eqv z (.list (r.map PyData.int))) = decide (r ∈ cs)
  | [] => by simp [dRows]
  | c :: cs => by
    show (PyData.eqv (.list (c.map PyData.int)) (.list (r.map PyData.int)) || (dRows cs).any fun z => PyData.eqv z (.list (r.map PyData.int))) = _
    rw [any_rows r cs, eqv_ints]
    by_cases h1 : c = r
    · subst h1
      simp
    · by_cases h2 : r ∈ cs
      · simp [h2]
      · have : ¬ r = c := fun z => h1 z.symm
        simp [h1, h2, this]
theorem lay_rows : ∀ cs : List (List Int), PyData.canLayAll0 (dRows cs) = true
  | [] => rfl
  | c :: cs => by
    show (PyData.canLayAll0 (c.map PyData.int) && PyData.canLayAll0 (dRows cs)) = true
    rw [lay_rows cs, lays_ints c]
    rfl
theorem deep_rows : ∀ cs : List (List Int), PyData.depthAll (dRows cs) ≤ 2
  | [] => Nat.zero_le _
  | c :: cs => Nat.max_le.mpr ⟨Nat.add_le_add_right (deep_ints c) 1, deep_rows cs⟩
theorem shaped_rows (cs : List (List Int)) : SeqAt.shaped (.list (dRows cs)) = true := shaped_il (lay_rows cs) (Nat.le_trans (Nat.add_le_add_right (deep_rows cs) 1) (by decide))
theorem room65 {k : Nat} {A : Around} (r : Room k A) : A.units + 65 < cLine := by have := r.un; omega
def rLenK (K : PySem.W.Frag) : List V → Hp → VK → Prop := fun xs H Q => ∃ p ys, xs = [V.ref p] ∧ (SqL K H p ys ∨ SqT K H p ys) ∧ Q (V.int (ys.length : Nat)) H
theorem call_lenK {X : Cx} : CallR X (.builtin "len") (rLenK X.K) := call_len_seq
def rListK (K : PySem.W.Frag) : List V → Hp → VK → Prop := fun xs H Q => ∃ p ys, xs = [V.ref p] ∧ (SqL K H p ys ∨ SqT K H p ys) ∧ ∀ l, H l = none → Q (.ref l) (upd H l (.lst ys))
theorem call_listK {X : Cx} : CallR X (.type "list") (rListK X.K) := call_list_of
/-- kept by what turns the source alone -/
theorem RowsAt.keep {H H' : Hp} {l d : Addr} (k : ∀ b o, H b = some o → b ≠ l → b ≠ d → H' b = some o) : ∀ {as : List Addr} {cs : List (List Int)}, RowsAt H as cs → l ∉ as → d ∉ as → RowsAt H' as cs
  | [], [], _, _, _ => trivial
  | a :: _, _ :: _, h, n1, n2 => ⟨k _ _ h.1 (fun z => n1 (by rw [z]; exact List.mem_cons_self ..)) (fun z => n2 (by rw [z]; exact List.mem_cons_self ..)), RowsAt.keep k h.2 (fun z => n1 (List.mem_cons_of_mem _ z)) (fun z => n2 (List.mem_cons_of_mem _ z))⟩
  | [], _ :: _, h, _, _ => h.elim
  | _ :: _, [], h, _, _ => h.elim
end Sq

set_option Elab.async false
set_option linter.all false
set_option maxRecDepth 100000
set_option maxHeartbeats 4000000
/-! {e for a in xs for b in ys}, e an int: over the library's rules of the same with a list. -/
namespace Sq
open PySem PySem.Spec PyProof.Rows L2
theorem turnS_out (elt t0 i0 t1 i1 : Expr) (ifs0 ifsB : List Expr) (scope : Scope) (pos : Pos) (it acc : Value) (env : Env) :
    compTurn (.SetComp elt [⟨t0, i0, ifs0, 0⟩, ⟨t1, i1, ifsB, 0⟩] scope pos) 0 it acc env = (do
      standAt i0.pos
      match ← pyNext it with
      | none => pure (.done .next)
      | some v =>
        letOwnedTupleGo t0 it v
        assign t0 env v
        let mut ok := true
        for c in ifs0 do
          if ok then ok ← isTrue c env (eval c env)
        if ok then
          let x ← eval i1 env
          standAt i1.pos
          let x ← foldedSetIterable i1 env x
          let _ ← runOwn (.compStart (.SetComp elt [⟨t0, i0, ifs0, 0⟩, ⟨t1, i1, ifsB, 0⟩] scope pos) 1 (← holding [x] (pyIter x)) acc env) env
        again (.compLoop (.SetComp elt [⟨t0, i0, ifs0, 0⟩, ⟨t1, i1, ifsB, 0⟩] scope pos) 0 it acc env)) := by rfl
theorem turnS_in (elt t0 i0 t1 i1 : Expr) (ifs0 ifsB : List Expr) (scope : Scope) (pos : Pos) (it acc : Value) (env : Env) :
    compTurn (.SetComp elt [⟨t0, i0, ifs0, 0⟩, ⟨t1, i1, ifsB, 0⟩] scope pos) 1 it acc env = (do
      standAt i1.pos
      match ← pyNext it with
      | none => pure (.done .next)
      | some v =>
        letOwnedTupleGo t1 it v
        assign t1 env v
        let mut ok := true
        for c in ifsB do
          if ok then ok ← isTrue c env (eval c env)
        if ok then
          (do let v ← eval elt env; standAt elt.pos; let _ ← call (.builtin "set.add") [acc, v])
        again (.compLoop (.SetComp elt [⟨t0, i0, ifs0, 0⟩, ⟨t1, i1, ifsB, 0⟩] scope pos) 1 it acc env)) := by rfl

section
variable {prog : Program} {w : World} {A : Around} {R : Result → Shared → Prop} {s : Shared} {elt t0 i0 t1 i1 : Expr} {ifs0 ifsB : List Expr} {scope : Scope} {pos : Pos} {it acc : Value} {env : Env}
/-- the outer0 of the first clause -/
theorem loopS_out (plainA : ∀ x, foldedSetIterable i1 env x = pure x) (I : Nat → Shared → Prop)
    (walk0 : ∀ n s, I n s → wpAny (model prog w) A (pyNext it) (fun r s₁ => match r with
      | none => R (.ok .next) s₁
      | some v => wpAny (model prog w) A (letOwnedTupleGo t0 it v) (fun _ s₁' => wpAny (model prog w) A (assign t0 env v) (fun _ s₂ =>
          wpAny (model prog w) A (forIn ifs0 true fun c r => if r = true then do let ok ← isTrue c env (eval c env); pure (ForInStep.yield ok) else pure (ForInStep.yield r)) (fun ok s₃ =>
            if ok = true then wpAny (model prog w) A (eval i1 env) (fun x s₄ => wpAny (model prog w) A (pyIter x) (fun itB s₅ =>
              codeAny (model prog w) A (.compStart (.SetComp elt [⟨t0, i0, ifs0, 0⟩, ⟨t1, i1, ifsB, 0⟩] scope pos) 1 itB acc env) (fun r s' => match r with
                | .ok _ => ∃ m, m < n ∧ I m s'
                | .error _ => False) s₅) (notedBy (model prog w) A env fun e s' => R (.error e) s') s₄) (notedBy (model prog w) A env fun e s' => R (.error e) s') s₃
            else ∃ m, m < n ∧ I m s₃) (notedBy (model prog w) A env fun e s' => R (.error e) s') s₂) (notedBy (model prog w) A env fun e s' => R (.error e) s') s₁') (notedBy (model prog w) A env fun e s' => R (.error e) s') s₁) (notedBy (model prog w) A env fun e s' => R (.error e) s') s)
    (n : Nat) (h : I n s) :
    codeAny (model prog w) A (.compLoop (.SetComp elt [⟨t0, i0, ifs0, 0⟩, ⟨t1, i1, ifsB, 0⟩] scope pos) 0 it acc env) R s := by
  refine codeAny_loop rfl I (fun n s hI => ?_) n h
  show wpAny _ A ((compTurn (.SetComp elt [⟨t0, i0, ifs0, 0⟩, ⟨t1, i1, ifsB, 0⟩] scope pos) 0 it acc env).onRaise (fun x => do noteFrame x env; theTreesLotGoes x)) _ _ s
  refine wpAny_noted ?_
  rw [turnS_out]
  refine wpAny_bind (wpAny_standAt (wpAny_bind (wpAny_mono (walk0 n s hI) (fun r s₁ h₁ => ?_) fun _ _ h' => h')))
  cases r with
  | none => exact wpAny_pure h₁
  | some v =>
    refine wpAny_bind (wpAny_mono h₁ (fun _ s₁' h₁' => ?_) fun _ _ h' => h')
    refine wpAny_bind (wpAny_mono h₁' (fun _ s₂ h₂ => wpAny_bind (wpAny_mono h₂ (fun ok s₃ h₃ => ?_) fun _ _ h' => h')) fun _ _ h' => h')
    cases ok with
    | false => exact wpAny_pure ⟨rfl, h₃⟩
    | true =>
      refine wpAny_bind (wpAny_mono h₃ (fun x s₄ h₄ => ?_) fun _ _ h' => h')
      refine wpAny_bind (wpAny_standAt (wpAny_bind (wpAny_of_eq (plainA x) (wpAny_bind (wpAny_holding (wpAny_mono h₄ (fun itB s₅ h₅ => ?_) fun _ _ h' => h'))))))
      refine wpAny_bind (wpAny_runOwn ?_)
      rw [Around.mark_none]
      refine codeAny_mono h₅ fun r s' hr => ?_
      cases r with
      | ok f =>
        first
          | exact wpAny_pure ⟨rfl, hr⟩
          | exact wpAny_bind (wpAny_pure (wpAny_pure ⟨rfl, hr⟩))
      | error e => exact hr.elim
/-- the outer0 of the second -/
theorem loopS_in (I : Nat → Shared → Prop)
    (walk0 : ∀ n s, I n s → wpAny (model prog w) A (pyNext it) (fun r s₁ => match r with
      | none => R (.ok .next) s₁
      | some v => wpAny (model prog w) A (letOwnedTupleGo t1 it v) (fun _ s₁' => wpAny (model prog w) A (assign t1 env v) (fun _ s₂ =>
          wpAny (model prog w) A (forIn ifsB true fun c r => if r = true then do let ok ← isTrue c env (eval c env); pure (ForInStep.yield ok) else pure (ForInStep.yield r)) (fun ok s₃ =>
            if ok = true then wpAny (model prog w) A (eval elt env) (fun x s₄ =>
              wpAny (model prog w) A (call (.builtin "set.add") [acc, x]) (fun _ s₅ => ∃ m, m < n ∧ I m s₅) (notedBy (model prog w) A env fun e s' => R (.error e) s') s₄) (notedBy (model prog w) A env fun e s' => R (.error e) s') s₃
            else ∃ m, m < n ∧ I m s₃) (notedBy (model prog w) A env fun e s' => R (.error e) s') s₂) (notedBy (model prog w) A env fun e s' => R (.error e) s') s₁') (notedBy (model prog w) A env fun e s' => R (.error e) s') s₁) (notedBy (model prog w) A env fun e s' => R (.error e) s') s)
    (n : Nat) (h : I n s) :
    codeAny (model prog w) A (.compLoop (.SetComp elt [⟨t0, i0, ifs0, 0⟩, ⟨t1, i1, ifsB, 0⟩] scope pos) 1 it acc env) R s := by
  refine codeAny_loop rfl I (fun n s hI => ?_) n h
  show wpAny _ A ((compTurn (.SetComp elt [⟨t0, i0, ifs0, 0⟩, ⟨t1, i1, ifsB, 0⟩] scope pos) 1 it acc env).onRaise (fun x => do noteFrame x env; theTreesLotGoes x)) _ _ s
  refine wpAny_noted ?_
  rw [turnS_in]
  refine wpAny_bind (wpAny_standAt (wpAny_bind (wpAny_mono (walk0 n s hI) (fun r s₁ h₁ => ?_) fun _ _ h' => h')))
  cases r with
  | none => exact wpAny_pure h₁
  | some v =>
    refine wpAny_bind (wpAny_mono h₁ (fun _ s₁' h₁' => ?_) fun _ _ h' => h')
    refine wpAny_bind (wpAny_mono h₁' (fun _ s₂ h₂ => wpAny_bind (wpAny_mono h₂ (fun ok s₃ h₃ => ?_) fun _ _ h' => h')) fun _ _ h' => h')
    cases ok with
    | false => exact wpAny_pure ⟨rfl, h₃⟩
    | true =>
      exact wpAny_bind (wpAny_bind (wpAny_mono h₃ (fun x s₄ h₄ => wpAny_bind (wpAny_standAt (wpAny_bind (wpAny_mono h₄ (fun _ s₅ h₅ => wpAny_pure (wpAny_pure ⟨rfl, h₅⟩)) fun _ _ h' => h')))) fun _ _ h' => h'))
/-- the second clause's start -/
theorem startS_in (h0 : codeAny (model prog w) A (.compLoop (.SetComp elt [⟨t0, i0, ifs0, 0⟩, ⟨t1, i1, ifsB, 0⟩] scope pos) 1 it acc env) R s)
    (h : wpAny (model prog w) A (pyIter it) (fun it' s' => codeAny (model prog w) A (.compLoop (.SetComp elt [⟨t0, i0, ifs0, 0⟩, ⟨t1, i1, ifsB, 0⟩] scope pos) 1 it' acc env) R s')
      (notedBy (model prog w) A env fun x s' => R (.error x) s') s) :
    codeAny (model prog w) A (.compStart (.SetComp elt [⟨t0, i0, ifs0, 0⟩, ⟨t1, i1, ifsB, 0⟩] scope pos) 1 it acc env) R s := by
  refine codeAny_of_tree ?_
  show wpAny _ _ ((compStart (.SetComp elt [⟨t0, i0, ifs0, 0⟩, ⟨t1, i1, ifsB, 0⟩] scope pos) 1 it acc env).onRaise (fun x => do noteFrame x env; standAt theWindowsPlace)) _ _ s
  refine wpAny_notedAt ?_
  unfold compStart
  show wpAny _ _ (ask >>= _) _ _ s
  refine wpAny_bind (wpAny_askSetting (wpAny_ite ?_))
  split
  · first
      | exact wpAny_bind (wpAny_pure (wpAny_pure (And.intro rfl h0)))
      | exact wpAny_pure (And.intro rfl h0)
  · first
      | exact wpAny_bind (wpAny_rule (wpAny_bind (wpAny_standAt (wpAny_bind (wpAny_mono h (fun it' s' h' => wpAny_pure (And.intro rfl h')) fun _ _ x => x)))))
      | (refine wpAny_bind (wpAny_rule ?_); show wpAny _ _ (standAt i1.pos >>= _) _ _ s; exact wpAny_bind (wpAny_standAt (wpAny_bind (wpAny_mono h (fun it' s' h' => wpAny_pure (And.intro rfl h')) fun _ _ x => x))))
end

section
variable {X : Cx}
theorem addI_ok {pins : List (Addr × Obj)} {σ : L2.St} {H : Hp} {s : Shared} {E : Value → Shared → Prop} {D : Addr} {S : Int → Bool} {n : Nat} {y : Int} {ty : Tok} {Q : Value → Shared → Prop} (I : Inv X pins σ H s) (at_ : H D = some (SetO X.w D S n)) (room : n + 1 < scanBound)
    (h : ∀ s', Inv X pins σ (upd H D (SetO X.w D (fun j => S j || decide (j = y)) (if S y = true then n else n + 1))) s' → Q .none s') : wpAny (model X.prog X.w) X.A (call (.builtin "set.add") [.ref D, .int y ty]) Q E s := by
  refine setR_add (setO_get I at_) room fun h' same made => ?_
  have there : ∃ u, h'.get? D = some u := by
    have ⟨o, _, _, _, ho, _⟩ := made
    exact ⟨o, ho⟩
  exact h _ (I.write (e := D) (t' := s.toks + 1) (by rw [at_]; trivial) (.inl rfl) (fun b u hb hu => (same.2 b hb).trans hu) there (setO_new made))
/-- [elt for tg in iter if .. for tgB in iterB if ..]: behind the first clause's store and tests the second source's own outer0, from which NxA is reached. vs: the block's names; vsB: those of the second target -/
def tSc2 (w : World) (wi : TI) (g : TG) (tt : TT) (wiB : TI) (gB : TG) (ttB : TT) (te : TE) (vs vsB : List Nat) : TE := fun σ H Q => wi σ H fun J H1 => ∀ D, H1 D = none → ∃ W : Nat → Nat → Hp → Prop, (∃ m, W 0 m (upd H1 D (SetO w D (fun _ => false) 0))) ∧ ∀ i m H, W i m H →
  (J.stop i H ∧ Q (.ref D) H) ∨ (J.go i H ∧ ∃ NxA : Hp → Prop, (∀ H', NxA H' → ∃ m', m' < m ∧ W (i + 1) m' H') ∧ ∀ x H', J.yld i H x H' → g x (wipe σ vs) H' fun σa HB => wipe σa vs = wipe σ vs ∧ tt σa HB fun b HC =>
    if b = true then wiB σa HC fun JB HD => ∃ WB : Nat → Nat → Hp → Prop, (∃ m, WB 0 m HD) ∧ ∀ j k H, WB j k H →
      (JB.stop j H ∧ NxA H) ∨ (JB.go j H ∧ ∃ NxB : Hp → Prop, (∀ H', NxB H' → ∃ k', k' < k ∧ WB (j + 1) k' H') ∧ ∀ x H', JB.yld j H x H' → gB x (wipe σa vsB) H' fun σb HE => wipe σb vsB = wipe σa vsB ∧ ttB σb HE fun b HF =>
        if b = true then te σb HF fun y HG => ∃ (c : Int) (S : Int → Bool) (n : Nat), y = .int c ∧ HG D = some (SetO w D S n) ∧ n + 1 < scanBound ∧ NxB (upd HG D (SetO w D (fun j => S j || decide (j = c)) (if S c = true then n else n + 1))) else NxB HF)
    else NxA HC)
theorem sc2_core {pins : List (Addr × Obj)} {s : Shared} {σ : L2.St} {H : Hp} {Q : VK} {elt tg iter tgB iterB : Expr} {ifs ifsB : List Expr} {scope : Scope} {own : List (Str × Nat)} {vsB : List Nat} {pos pos' : Pos} {wi wiB : TI} {g gB : TG} {tt ttB : TT} {te : TE} {use : Option (Value → Sem Unit)} {Qf : Value → Shared → Prop}
    (mood : X.calm = true) (nodupN : X.N.Nodup) (I : Inv X pins σ H s) (sourceA : PI X tg iter wi) (ok : BlkOk X.N X.env.scope scope own) (subB : ∀ i ∈ vsB, i ∈ own.map (·.2))
    (targetA : ∀ (s : Shared) (H : Hp) (C : Addr) (cl : List (Str × Addr)) (fp : List Addr), PG (X.blk s H scope (compEnvC scope cl C X.env) fp) tg g) (testsA : ∀ (s : Shared) (H : Hp) (C : Addr) (cl : List (Str × Addr)) (fp : List Addr), PTs (X.blk s H scope (compEnvC scope cl C X.env) fp) ifs tt)
    (elemA : ∀ (s : Shared) (H : Hp) (C : Addr) (cl : List (Str × Addr)) (fp : List Addr), PE (X.blk s H scope (compEnvC scope cl C X.env) fp) elt te) (plainA : ∀ x, foldedSetIterable iter X.env x = pure x)
    (sourceB : ∀ (s : Shared) (H : Hp) (C : Addr) (cl : List (Str × Addr)) (fp : List Addr), PI (X.blk s H scope (compEnvC scope cl C X.env) fp) tgB iterB wiB)
    (targetB : ∀ (s : Shared) (H : Hp) (C : Addr) (cl : List (Str × Addr)) (fp : List Addr), PG (X.blk s H scope (compEnvC scope cl C X.env) fp) tgB gB)
    (testsB : ∀ (s : Shared) (H : Hp) (C : Addr) (cl : List (Str × Addr)) (fp : List Addr), PTs (X.blk s H scope (compEnvC scope cl C X.env) fp) ifsB ttB)
    (plainB : ∀ env x, foldedSetIterable iterB env x = pure x)
    (h : tSc2 X.w wi g tt wiB gB ttB te (own.map (·.2)) vsB σ H Q)
    (back : ∀ D C s' m H', Inv X pins σ H' s' → Q (.ref D) H' → s'.heap.Ns C m → FpOk X pins H' C → compPost (model X.prog X.w) X.A X.xe use Qf (.ref D) C (.ok .next) s') :
    wpAny (model X.prog X.w) X.A (comprehension (.SetComp elt [⟨tg, iter, ifs, 0⟩, ⟨tgB, iterB, ifsB, 0⟩] scope pos) scope X.env pos' (newSet (.type "set")) false (eval iter X.env) use) Qf X.xe s := by
  have captured : ∀ y ∈ scope.names, y.2 = .free → ∃ c, X.env.cells.lookup y.1 = some c := fun y hy e => by
    rcases ok.free y hy e with k | k
    · exact I.ok.has _ (.inl k)
    · exact I.ok.has _ (.inr k)
  refine wpAny_comprehension_free (use := use) rfl plainA (closure_ok captured) ok.kind (fun y hy e => by rw [ok.uniq y hy, e])
    (thn (sourceA.run pins s σ H _ I h) fun srcV sA gotX => thn gotX fun itV sB h2 => ?_)
  obtain ⟨it, fp, tn, J, HB, e, I2, T, st2, f2, q⟩ := h2
  subst e
  refine PpSet.newSet_ok (newEnv_comp ?_)
  generalize atD : sB.heap.objs.size = D
  have freshD : HB D = none := I2.hok.fresh (Nat.le_of_eq atD)
  obtain ⟨W, ⟨mes0, inv0⟩, walk0⟩ := q D freshD
  -- the new list
  generalize laid3 : ({ sB with heap := sB.heap.push { cls := .type "set", dict := none, data := .set #[] 0 (.fresh 0 0 (!X.w.params.followText "set-order")) } } : Shared) = sC
  have J3 : Inv X pins σ (upd HB D (SetO X.w D (fun _ => false) 0)) sC := by
    rw [← laid3]
    refine I2.laid (t' := sB.toks) (fun b o e => Heap.get?_push_of_some _ e) (Nat.le_of_eq atD) ?_
    rw [← atD]
    exact setO_new (setR_fresh X.w)
  have heap3 : sC.heap = sB.heap.push { cls := .type "set", dict := none, data := .set #[] 0 (.fresh 0 0 (!X.w.params.followText "set-order")) } := by rw [← laid3]
  have below : ∀ b ∈ fp, b < sB.heap.objs.size := fun b hb => by
    obtain ⟨o, e, _⟩ := T.obj _ _ st2 b hb
    exact Heap.lt_size e
  have roam3 : ∀ b ∈ fp, FpOk X pins (upd HB D (SetO X.w D (fun _ => false) 0)) b ∧ b < sC.heap.objs.size := fun b hb => by
    have hlt := below b hb
    refine ⟨⟨?_, (f2 b hb).2⟩, by rw [heap3, Heap.size_push]; exact Nat.lt_succ_of_lt hlt⟩
    rw [upd_ne (by rw [← atD]; exact Nat.ne_of_lt hlt)]
    exact (f2 b hb).1
  have turn3 : tn 0 sC.heap := T.keep _ _ _ st2 fun b _ o e => by rw [heap3]; exact Heap.get?_push_of_some _ e
  have J4 := block_start J3 ok nodupN roam3
  have tgt := targetA sC (upd HB D (SetO X.w D (fun _ => false) 0)) sC.heap.objs.size (cellsFrom (sC.heap.objs.size + 1) scope.names (cloFrom X.env.cells scope.names [])) fp
  have tst := testsA sC (upd HB D (SetO X.w D (fun _ => false) 0)) sC.heap.objs.size (cellsFrom (sC.heap.objs.size + 1) scope.names (cloFrom X.env.cells scope.names [])) fp
  have elm := elemA sC (upd HB D (SetO X.w D (fun _ => false) 0)) sC.heap.objs.size (cellsFrom (sC.heap.objs.size + 1) scope.names (cloFrom X.env.cells scope.names [])) fp
  have src1 := sourceB sC (upd HB D (SetO X.w D (fun _ => false) 0)) sC.heap.objs.size (cellsFrom (sC.heap.objs.size + 1) scope.names (cloFrom X.env.cells scope.names [])) fp
  have tgt1 := targetB sC (upd HB D (SetO X.w D (fun _ => false) 0)) sC.heap.objs.size (cellsFrom (sC.heap.objs.size + 1) scope.names (cloFrom X.env.cells scope.names [])) fp
  have tst1 := testsB sC (upd HB D (SetO X.w D (fun _ => false) 0)) sC.heap.objs.size (cellsFrom (sC.heap.objs.size + 1) scope.names (cloFrom X.env.cells scope.names [])) fp
  show codeAny _ _ (.compStart (.SetComp elt [⟨tg, iter, ifs, 0⟩, ⟨tgB, iterB, ifsB, 0⟩] scope pos) 0 (.ref it) (.ref D) (compEnvC scope (cellsFrom (sC.heap.objs.size + 1) scope.names (cloFrom X.env.cells scope.names [])) sC.heap.objs.size X.env)) (compPost (model X.prog X.w) X.A X.xe use Qf (.ref D) sC.heap.objs.size) { sC with heap := pushCells (sC.heap.push { cls := .type "dict", data := .dict #[] }) scope.names }
  have untr : ∀ b ∈ fp, (upd HB D (SetO X.w D (fun _ => false) 0)) b = none := fun b hb => (roam3 b hb).1.1
  generalize blkE : compEnvC scope (cellsFrom (sC.heap.objs.size + 1) scope.names (cloFrom X.env.cells scope.names [])) sC.heap.objs.size X.env = ce at J4 tgt tst elm src1 tgt1 tst1 ⊢
  have locE : ce.locals = sC.heap.objs.size := by subst blkE; rfl
  generalize heapE : upd HB D (SetO X.w D (fun _ => false) 0) = HC at J3 J4 tgt tst elm src1 tgt1 tst1 inv0 untr roam3
  generalize laid4 : ({ sC with heap := pushCells (sC.heap.push { cls := .type "dict", data := .dict #[] }) scope.names } : Shared) = sD at J4 ⊢
  have turn4 : tn 0 sD.heap := T.keep _ _ _ turn3 fun b _ o e => by rw [← laid4]; exact pushCells_keeps _ _ _ _ (Heap.get?_push_of_some _ e)
  have roams : ∀ {σ' : L2.St} {H' : Hp} {s' : Shared}, Inv (X.blk sC HC scope ce fp) [] σ' H' s' → (∀ b ∈ fp, H' b = none) → ∀ b ∈ fp, FpOk (X.blk sC HC scope ce fp) [] H' b := fun {σ' H' s'} I' nsC b hb =>
    ⟨nsC b hb, (I'.ok.exf b hb).1, I'.ok.exfs b hb, .inl hb, fun x c e => (I'.ok.exf b hb).2 x c e, fun p hp => absurd (show p ∈ ([] : List (Addr × Obj)) ++ [] from hp) (by simp)⟩
  have outer0 : codeAny (model X.prog X.w) X.A (.compLoop (.SetComp elt [⟨tg, iter, ifs, 0⟩, ⟨tgB, iterB, ifsB, 0⟩] scope pos) 0 (.ref it) (.ref D) ce) (compPost (model X.prog X.w) X.A X.xe use Qf (.ref D) sC.heap.objs.size) sD := by
    refine loopS_out (plainB ce) (fun n s' => ∃ i H', Inv (X.blk sC HC scope ce fp) [] (wipe σ (own.map (·.2))) H' s' ∧ tn i s'.heap ∧ (∀ b ∈ fp, H' b = none) ∧ W i n H') ?_ mes0 ⟨0, HC, J4, turn4, untr, inv0⟩
    rintro n sE ⟨i, HE, J5, turn5, un5, inv5⟩
    rcases walk0 i n HE inv5 with ⟨atEnd, done0⟩ | ⟨more, NxA, reach, body0⟩
    · have ended := T.done (X.blk sC HC scope ce fp) rfl rfl rfl mood i [] sE _ HE (fun _ _ => False) J5 (roams J5 un5) turn5 atEnd
      refine thnF ended fun r sF ⟨hr, J6⟩ => ?_
      subst hr
      -- back in the def's context
      have J7 : Inv X pins σ HE sF := J3.call' (ch := fp) J6.os J6.base J6.hok J6.bare fun b hb => ⟨(roam3 b hb).1.2.2.2.1, (roam3 b hb).1.2.1, (roam3 b hb).1.2.2.2.2.1, (roam3 b hb).1.2.2.2.2.2⟩
      have freeC : HE sC.heap.objs.size = none := by
        have z : HE ce.locals = none := J6.free
        rw [locE] at z
        exact z
      obtain ⟨m, nsC, _⟩ := J6.loc
      have nsC : sF.heap.Ns ce.locals m := nsC
      rw [locE] at nsC
      exact back D sC.heap.objs.size sF m HE J7 done0 nsC (J3.fpOk (Nat.le_refl _) freeC)
    · have given := T.item (X.blk sC HC scope ce fp) rfl rfl rfl mood i [] sE _ HE (fun _ _ => False) J5 (roams J5 un5) turn5 more
      refine thnF given fun r sF ⟨u, hr, got6⟩ => ?_
      subst hr
      refine thnF got6 fun _ sG ⟨x, HG, J7, rel7, yld7, turn7, un7⟩ => ?_
      have J7p := J7.pinned (roams J7 un7) (T.obj _ _ turn7)
      refine thnF (tgt.run _ sG _ HG x u _ J7p rel7 (body0 x HG yld7)) fun _ sH ⟨τ, HH, J8, wip8, go8⟩ => ?_
      refine thnF (tst.run _ sH τ HH _ J8 go8) fun b sI ⟨HI, J9, go9⟩ => ?_
      -- the turn's end, from any slots that know what the block knew at its start
      have close : ∀ {ρ : L2.St} {s' : Shared} {H' : Hp}, Inv (X.blk sC HC scope ce fp) ([] ++ pinsAt fp sG.heap) ρ H' s' → (wipe σ (own.map (·.2))).length = ρ.length → (∀ (j : Nat) v, (wipe σ (own.map (·.2)))[j]? = some (some v) → ρ[j]? = some (some v)) → NxA H' →
          ∃ m, m < n ∧ ∃ i H', Inv (X.blk sC HC scope ce fp) [] (wipe σ (own.map (·.2))) H' s' ∧ tn i s'.heap ∧ (∀ b ∈ fp, H' b = none) ∧ W i m H' := fun {ρ s' H'} I' lenσ hk nextW => by
        obtain ⟨m', lessM, invM⟩ := reach H' nextW
        have kept : ∀ b ∈ fp, ∀ o, sG.heap.get? b = some o → s'.heap.get? b = some o ∧ H' b = none := fun b hb o e =>
          let z := I'.pin (b, o) (List.mem_append_right _ (List.mem_append_right _ (mem_pinsAt hb e)))
          ⟨z.1, z.2.1⟩
        refine ⟨m', lessM, i + 1, H', (I'.unpinned (pins := [])).weak lenσ hk, T.keep _ _ _ turn7 fun b hb o e => (kept b hb o e).1, fun b hb => ?_, invM⟩
        obtain ⟨o, e, _⟩ := T.obj _ _ turn7 b hb
        exact (kept b hb o e).2
      have len8 : (wipe σ (own.map (·.2))).length = τ.length := by rw [← wip8, wipe_length]
      have know8 : ∀ (j : Nat) v, (wipe σ (own.map (·.2)))[j]? = some (some v) → τ[j]? = some (some v) := fun j v e => by
        rw [← wip8] at e
        exact (wipe_some e).1
      have know9 : ∀ (j : Nat) v, (wipe σ (own.map (·.2)))[j]? = some (some v) → (wipe τ vsB)[j]? = some (some v) := fun j v e => by
        rw [← wip8] at e
        obtain ⟨eqB, e2⟩ := wipe_some e
        rw [wipe_out fun z => e2 (subB j z)]
        exact eqB
      cases b with
      | false =>
        simp only [Bool.false_eq_true, if_false] at go9 ⊢
        exact close J9 len8 know8 go9
      | true =>
        simp only [if_true] at go9 ⊢
        refine thnF (src1.run _ sI τ HI _ J9 go9) fun srcV sJ gotX => thnF gotX fun itV sK got11 => ?_
        obtain ⟨itB, fpB, tnB, JB, HK, eqB, J11, T1, turn11, roam11, WB, ⟨mes1, inv1⟩, step_in⟩ := got11
        subst eqB
        -- the inner outer0
        have roams1 : ∀ {H' : Hp}, (∀ b ∈ fpB, H' b = none) → ∀ b ∈ fpB, FpOk (X.blk sC HC scope ce fp) ([] ++ pinsAt fp sG.heap) H' b := fun nsC b hb => ⟨nsC b hb, (roam11 b hb).2⟩
        have inner0 : codeAny (model X.prog X.w) X.A (.compLoop (.SetComp elt [⟨tg, iter, ifs, 0⟩, ⟨tgB, iterB, ifsB, 0⟩] scope pos) 1 (.ref itB) (.ref D) ce)
            (fun r s' => match r with
              | .ok _ => ∃ m, m < n ∧ ∃ i H', Inv (X.blk sC HC scope ce fp) [] (wipe σ (own.map (·.2))) H' s' ∧ tn i s'.heap ∧ (∀ b ∈ fp, H' b = none) ∧ W i m H'
              | .error _ => False) sK := by
          refine loopS_in (fun k s' => ∃ j H', Inv (X.blk sC HC scope ce fp) ([] ++ pinsAt fp sG.heap) (wipe τ vsB) H' s' ∧ tnB j s'.heap ∧ (∀ b ∈ fpB, H' b = none) ∧ WB j k H') ?_ mes1 ⟨0, HK, J11.weak (wipe_length _ _) (fun j v e => (wipe_some e).1), turn11, fun b hb => (roam11 b hb).1, inv1⟩
          rintro k sL ⟨j, HL, J12, turn12, un12, inv12⟩
          rcases step_in j k HL inv12 with ⟨atEnd1, nextI⟩ | ⟨more1, NxB, reach1, body1⟩
          · refine thnF (T1.done (X.blk sC HC scope ce fp) rfl rfl rfl mood j _ sL (wipe τ vsB) HL (fun _ _ => False) J12 (roams1 un12) turn12 atEnd1) fun r sM ⟨hr, J13⟩ => ?_
            subst hr
            exact close J13 (len8.trans (wipe_length τ vsB).symm) know9 nextI
          · refine thnF (T1.item (X.blk sC HC scope ce fp) rfl rfl rfl mood j _ sL (wipe τ vsB) HL (fun _ _ => False) J12 (roams1 un12) turn12 more1) fun r sM ⟨u1, hr, got13⟩ => ?_
            subst hr
            refine thnF got13 fun _ sN ⟨x1, HN, J14, rel14, yld14, turn14, un14⟩ => ?_
            have J14p := J14.pinned (roams1 un14) (T1.obj _ _ turn14)
            refine thnF (tgt1.run _ sN (wipe τ vsB) HN x1 u1 _ J14p rel14 (body1 x1 HN yld14)) fun _ sO ⟨υ, HO, J15, wip15, go15⟩ => ?_
            refine thnF (tst1.run _ sO υ HO _ J15 go15) fun b1 sP ⟨HP, J16, go16⟩ => ?_
            have close1 : ∀ {s' : Shared} {H' : Hp}, Inv (X.blk sC HC scope ce fp) (([] ++ pinsAt fp sG.heap) ++ pinsAt fpB sN.heap) υ H' s' → NxB H' → ∃ m, m < k ∧ ∃ j H', Inv (X.blk sC HC scope ce fp) ([] ++ pinsAt fp sG.heap) (wipe τ vsB) H' s' ∧ tnB j s'.heap ∧ (∀ b ∈ fpB, H' b = none) ∧ WB j m H' := fun {s' H'} I' nextW => by
              obtain ⟨m', lessM, invM⟩ := reach1 H' nextW
              have kept : ∀ b ∈ fpB, ∀ o, sN.heap.get? b = some o → s'.heap.get? b = some o ∧ H' b = none := fun b hb o e =>
                let z := I'.pin (b, o) (List.mem_append_right _ (List.mem_append_right _ (mem_pinsAt hb e)))
                ⟨z.1, z.2.1⟩
              refine ⟨m', lessM, j + 1, H', I'.unpinned.weak (by rw [← wip15, wipe_length]) (fun j v e => by rw [← wip15] at e; exact (wipe_some e).1), T1.keep _ _ _ turn14 fun b hb o e => (kept b hb o e).1, fun b hb => ?_, invM⟩
              obtain ⟨o, e, _⟩ := T1.obj _ _ turn14 b hb
              exact (kept b hb o e).2
            cases b1 with
            | false =>
              simp only [Bool.false_eq_true, if_false] at go16 ⊢
              exact close1 J16 go16
            | true =>
              simp only [if_true] at go16 ⊢
              refine thnF (elm.run _ sP υ HP _ J16 go16) fun z sQ ⟨yv, HQ, J17, rel17, cb, S0, n0, ey, acc17, room17, nextW⟩ => ?_
              subst ey
              obtain ⟨tz, rfl⟩ := (show ∃ t, z = Value.int cb t from rel17)
              exact addI_ok (X := X.blk sC HC scope ce fp) J17 acc17 room17 fun sR J18 => close1 J18 nextW
        exact startS_in inner0 (T1.self X.A 0 _ _ _ turn11 inner0)
  exact PpSet.codeAny_compStart_set outer0 (T.self X.A 0 _ _ _ turn4 outer0)
/-- as a value -/
theorem pe_sc2 {elt tg iter tgB iterB : Expr} {ifs ifsB : List Expr} {scope : Scope} {own : List (Str × Nat)} {vsB : List Nat} {pos : Pos} {wi wiB : TI} {g gB : TG} {tt ttB : TT} {te : TE} (mood : X.calm = true) (nodupN : X.N.Nodup) (sourceA : PI X tg iter wi) (ok : BlkOk X.N X.env.scope scope own) (subB : ∀ i ∈ vsB, i ∈ own.map (·.2))
    (targetA : ∀ (s : Shared) (H : Hp) (C : Addr) (cl : List (Str × Addr)) (fp : List Addr), PG (X.blk s H scope (compEnvC scope cl C X.env) fp) tg g) (testsA : ∀ (s : Shared) (H : Hp) (C : Addr) (cl : List (Str × Addr)) (fp : List Addr), PTs (X.blk s H scope (compEnvC scope cl C X.env) fp) ifs tt)
    (sourceB : ∀ (s : Shared) (H : Hp) (C : Addr) (cl : List (Str × Addr)) (fp : List Addr), PI (X.blk s H scope (compEnvC scope cl C X.env) fp) tgB iterB wiB)
    (targetB : ∀ (s : Shared) (H : Hp) (C : Addr) (cl : List (Str × Addr)) (fp : List Addr), PG (X.blk s H scope (compEnvC scope cl C X.env) fp) tgB gB) (testsB : ∀ (s : Shared) (H : Hp) (C : Addr) (cl : List (Str × Addr)) (fp : List Addr), PTs (X.blk s H scope (compEnvC scope cl C X.env) fp) ifsB ttB)
    (elemA : ∀ (s : Shared) (H : Hp) (C : Addr) (cl : List (Str × Addr)) (fp : List Addr), PE (X.blk s H scope (compEnvC scope cl C X.env) fp) elt te) (plainA : ∀ x, foldedSetIterable iter X.env x = pure x := by intro _; rfl) (plainB : ∀ env x, foldedSetIterable iterB env x = pure x := by intro _ _; rfl) :
    PE X (.SetComp elt [⟨tg, iter, ifs, 0⟩, ⟨tgB, iterB, ifsB, 0⟩] scope pos) (tSc2 X.w wi g tt wiB gB ttB te (own.map (·.2)) vsB) := by
  refine ⟨fun pins s σ H Q I h => ?_⟩
  rw [PpSet.eval_SetComp]
  refine sc2_core mood nodupN I sourceA ok subB targetA testsA elemA plainA sourceB targetB testsB plainB h fun D C s' m H' I' q nsC f => ⟨m, nsC, fun h'' sb => ?_⟩
  obtain ⟨f0, f1, f2, roam3, f4, f5⟩ := f
  exact ⟨.ref D, H', I'.turned (t' := s'.toks) (fun b o hb e => (sb.2 b hb).trans e) f0 f1 roam3 f4 f5, rfl, q⟩
end
end Sq

set_option Elab.async false
set_option linter.all false
set_option maxHeartbeats 1000000
/-! Choices counted: the longest run after a replacement, and how many choices are good. -/
namespace Sq
def la (L k : Int) : Int := if k > L then L else (L + 1) / k + k - 2
/-- 2, 3, .., g -/
def cand (g : Int) : List Int := (List.range (g - 1).toNat).map fun i : Nat => 2 + (i : Int)
theorem mem_cand {g k : Int} : k ∈ cand g ↔ 2 ≤ k ∧ k ≤ g := by
  unfold cand
  rw [List.mem_map]
  constructor
  · rintro ⟨i, hi, rfl⟩
    have := List.mem_range.mp hi
    omega
  · intro h
    exact ⟨(k - 2).toNat, List.mem_range.mpr (by omega), by omega⟩
def cnt (g : Int) : Nat → Int → Nat
  | 0, L => if L ≤ 1 then 1 else 0
  | n + 1, L => ((cand g).map fun k => cnt g n (la L k)).sum
theorem la_le {L k : Int} (hk : 2 ≤ k) (h0 : 0 ≤ L) : 0 ≤ la L k ∧ la L k ≤ L := by
  unfold la
  split
  · omega
  · rename_i h
    have hk' : k ≤ L := by omega
    have q1 : 1 ≤ (L + 1) / k := Int.le_ediv_of_mul_le (by omega) (by omega)
    refine ⟨by omega, ?_⟩
    by_cases c : (L + 1) / k + k - 2 ≤ L
    · exact c
    · exfalso
      have e := Int.mul_ediv_add_emod (L + 1) k
      have r0 := Int.emod_nonneg (L + 1) (by omega : k ≠ 0)
      generalize (L + 1) / k = q at *
      have m : (k - 1) * (q - 1) ≥ 0 := Int.mul_nonneg (by omega) (by omega)
      have e2 : (k - 1) * (q - 1) = k * q - k - q + 1 := by
        rw [Int.sub_mul, Int.mul_sub, Int.mul_one, Int.one_mul]
        omega
      omega
/-- what a reach says of the longest run -/
theorem la_reach {L k R : Int} (hk : 2 ≤ k) (hR : 1 ≤ R) (h0 : 0 ≤ L) (h : la L k ≤ R) : L ≤ grow R := by
  have g := (rw1_le_grow (k := k) hk hR).1
  unfold la at h
  split at h
  · have := grow_gt hR
    omega
  · rename_i hl
    by_cases c : k ≤ R + 2
    · rw [rw1_low c] at g
      have lt : L + 1 < (R + 3 - k) * k := by
        have : (L + 1) / k < R + 3 - k := by omega
        exact (Int.ediv_lt_iff_lt_mul (by omega)).mp this
      omega
    · exfalso
      have : 0 ≤ (L + 1) / k := Int.ediv_nonneg (by omega) (by omega)
      omega
theorem cnt_zero {g : Int} : ∀ {n : Nat} {L : Int}, 0 ≤ L → up n 1 < L → cnt g n L = 0
  | 0, L, _, h => if_neg (by show ¬ L ≤ 1; have : (1 : Int) < L := h; omega)
  | n + 1, L, h0, h => by
    show ((cand g).map fun k => cnt g n (la L k)).sum = 0
    have all : ∀ x ∈ (cand g).map (fun k => cnt g n (la L k)), x = 0 := fun x hx => by
      obtain ⟨k, hk, rfl⟩ := List.mem_map.mp hx
      have k2 := (mem_cand.mp hk).1
      refine cnt_zero (la_le k2 h0).1 ?_
      by_cases c : la L k ≤ up n 1
      · have := la_reach k2 (up_pos (by decide) n) h0 c
        have e : up (n + 1) 1 = grow (up n 1) := rfl
        omega
      · omega
    generalize (cand g).map (fun k => cnt g n (la L k)) = xs at all
    induction xs with
    | nil => rfl
    | cons x xs ih => rw [List.sum_cons, all x (List.mem_cons_self ..), ih fun y hy => all y (List.mem_cons_of_mem _ hy)]
theorem cand_len (g : Int) : (cand g).length = (g - 1).toNat := by
  unfold cand
  rw [List.length_map, List.length_range]
theorem cnt_le {g : Int} : ∀ (n : Nat) (L : Int), cnt g n L ≤ (g - 1).toNat ^ n
  | 0, L => by show (if L ≤ 1 then 1 else 0) ≤ 1; split <;> omega
  | n + 1, L => by
    show ((cand g).map fun k => cnt g n (la L k)).sum ≤ (g - 1).toNat ^ (n + 1)
    have b : ∀ (xs : List Int), (xs.map fun k => cnt g n (la L k)).sum ≤ xs.length * (g - 1).toNat ^ n := fun xs => by
      induction xs with
      | nil => exact Nat.zero_le _
      | cons x xs ih =>
        rw [List.map_cons, List.sum_cons, List.length_cons, Nat.add_mul, Nat.one_mul]
        have := cnt_le (g := g) n (la L x)
        omega
    have := b (cand g)
    rw [cand_len] at this
    rw [Nat.pow_succ, Nat.mul_comm]
    exact this
/-- how far n steps reach decides how many are needed -/
theorem up_up {n m : Nat} {v : Int} (hv : 1 ≤ v) (h : n ≤ m) : up n v ≤ up m v := up_mono hv h
/-- distinct ints between 0 and L -/
theorem few_ints : ∀ {ds : List Int} {L : Int}, ds.Nodup → (∀ x ∈ ds, 0 ≤ x ∧ x ≤ L) → 0 ≤ L → ds.length ≤ L.toNat + 1 := fun {ds L} nd h h0 => by
  have sub : (ds.map Int.toNat).Nodup := by
    induction ds with
    | nil => exact List.nodup_nil
    | cons x xs ih =>
      rw [List.map_cons, List.nodup_cons]
      rw [List.nodup_cons] at nd
      refine ⟨fun z => ?_, ih nd.2 fun y hy => h y (List.mem_cons_of_mem _ hy)⟩
      obtain ⟨y, hy, e⟩ := List.mem_map.mp z
      have hx := h x (List.mem_cons_self ..)
      have hy' := h y (List.mem_cons_of_mem _ hy)
      have : y = x := by omega
      exact nd.1 (this ▸ hy)
  have sub2 : (ds.map Int.toNat) ⊆ List.range (L.toNat + 1) := fun x hx => by
    obtain ⟨y, hy, e⟩ := List.mem_map.mp hx
    have := h y hy
    exact List.mem_range.mpr (by omega)
  have := List.Nodup.length_le_of_subset sub sub2
  rw [List.length_map, List.length_range] at this
  exact this
end Sq

set_option Elab.async false
set_option linter.all false
set_option maxRecDepth 100000
set_option maxHeartbeats 1000000
/-! Walks with an open step; members without doubles; the lengths by place. -/
namespace Sq
open PySem PySem.Spec PyProof.Rows L2
theorem walkL {K : PySem.W.Frag} {a : Addr} {xs : List V} {Qd : Hp → Prop} {St : V → Hp → (Hp → Prop) → Prop} {H0 : Hp} (Pv : Nat → Hp → Prop) (h0 : Pv 0 H0) (hl : ∀ i H, i ≤ xs.length → Pv i H → SqL K H a xs)
    (hs : ∀ i x H, xs[i]? = some x → Pv i H → St x H (Pv (i + 1))) (hd : ∀ H, Pv xs.length H → Qd H) :
    ∃ W : Nat → Nat → Hp → Prop, (∃ m, W 0 m H0) ∧ ∀ i m H, W i m H → ((Itl K a).stop i H ∧ Qd H) ∨ ((Itl K a).go i H ∧ ∃ Nx : Hp → Prop, (∀ H', Nx H' → ∃ m', m' < m ∧ W (i + 1) m' H') ∧ ∀ x H', (Itl K a).yld i H x H' → St x H' Nx) := by
  refine ⟨fun i m H => m = xs.length - i ∧ i ≤ xs.length ∧ Pv i H, ⟨_, rfl, Nat.zero_le _, h0⟩, ?_⟩
  rintro i m H ⟨rfl, le, p⟩
  have there := hl i H le p
  by_cases lt : i < xs.length
  · exact .inr ⟨⟨xs, xs[i], there, List.getElem?_eq_getElem lt⟩, Pv (i + 1), fun H' p' => ⟨xs.length - (i + 1), by omega, rfl, lt, p'⟩, fun x H' y => by
      obtain ⟨rfl, e⟩ := y
      exact hs i x _ (e xs there) p⟩
  · obtain rfl : i = xs.length := by omega
    exact .inl ⟨⟨xs, there, Nat.le_refl _⟩, hd H p⟩
theorem walkR {lo : Int} {n : Nat} {Qd : Hp → Prop} {St : V → Hp → (Hp → Prop) → Prop} {H0 : Hp} (Pv : Nat → Hp → Prop) (h0 : Pv 0 H0)
    (hs : ∀ i H, i < n → Pv i H → St (.int (lo + i)) H (Pv (i + 1))) (hd : ∀ H, Pv n H → Qd H) :
    ∃ W : Nat → Nat → Hp → Prop, (∃ m, W 0 m H0) ∧ ∀ i m H, W i m H → ((Itr lo n).stop i H ∧ Qd H) ∨ ((Itr lo n).go i H ∧ ∃ Nx : Hp → Prop, (∀ H', Nx H' → ∃ m', m' < m ∧ W (i + 1) m' H') ∧ ∀ x H', (Itr lo n).yld i H x H' → St x H' Nx) := by
  refine ⟨fun i m H => m = n - i ∧ i ≤ n ∧ Pv i H, ⟨_, rfl, Nat.zero_le _, h0⟩, ?_⟩
  rintro i m H ⟨rfl, le, p⟩
  by_cases lt : i < n
  · exact .inr ⟨lt, Pv (i + 1), fun H' p' => ⟨n - (i + 1), by omega, rfl, lt, p'⟩, fun x H' y => by
      obtain ⟨rfl, rfl⟩ := y
      exact hs i _ lt p⟩
  · obtain rfl : i = n := by omega
    exact .inl ⟨Nat.le_refl _, hd H p⟩
/-! ### without doubles -/
def dd (vs : List Int) : List Int := vs.foldl (fun ds x => if x ∈ ds then ds else ds ++ [x]) []
theorem dd_snoc (vs : List Int) (y : Int) : dd (vs ++ [y]) = if y ∈ dd vs then dd vs else dd vs ++ [y] := by
  unfold dd
  rw [List.foldl_append]
  rfl
theorem dd_mem (vs : List Int) (x : Int) : x ∈ dd vs ↔ x ∈ vs := by
  suffices h : ∀ (n : Nat) (vs : List Int), vs.length = n → (x ∈ dd vs ↔ x ∈ vs) from h _ vs rfl
  intro n
  induction n with
  | zero =>
    intro vs h
    rw [List.length_eq_zero_iff.mp h]
    exact Iff.rfl
  | succ n ih =>
    intro vs h
    obtain ⟨ws, y, rfl⟩ : ∃ ws y, vs = ws ++ [y] := ⟨vs.dropLast, vs.getLast (by intro z; rw [z] at h; cases h), (List.dropLast_concat_getLast _).symm⟩
    have hw : ws.length = n := by simpa using h
    have e := ih ws hw
    rw [dd_snoc, List.mem_append, List.mem_singleton]
    by_cases c : y ∈ dd ws
    · rw [if_pos c, e]
      constructor
      · exact .inl
      · rintro (z | z)
        · exact z
        · exact e.mp (z ▸ c)
    · rw [if_neg c, List.mem_append, List.mem_singleton, e]
theorem dd_nodup (vs : List Int) : (dd vs).Nodup ∧ (dd vs).length ≤ vs.length := by
  suffices h : ∀ (n : Nat) (vs : List Int), vs.length = n → (dd vs).Nodup ∧ (dd vs).length ≤ vs.length from h _ vs rfl
  intro n
  induction n with
  | zero =>
    intro vs h
    rw [List.length_eq_zero_iff.mp h]
    exact ⟨List.nodup_nil, Nat.le_refl _⟩
  | succ n ih =>
    intro vs h
    obtain ⟨ws, y, rfl⟩ : ∃ ws y, vs = ws ++ [y] := ⟨vs.dropLast, vs.getLast (by intro z; rw [z] at h; cases h), (List.dropLast_concat_getLast _).symm⟩
    have hw : ws.length = n := by simpa using h
    obtain ⟨a, b⟩ := ih ws hw
    rw [dd_snoc, List.length_append]
    by_cases c : y ∈ dd ws
    · rw [if_pos c]
      exact ⟨a, by omega⟩
    · rw [if_neg c, List.length_append]
      refine ⟨List.nodup_append.mpr ⟨a, by simp, ?_⟩, Nat.add_le_add_right b 1⟩
      intro x hx y' hy z
      rw [List.mem_singleton] at hy
      exact c (by rw [← hy, ← z]; exact hx)
theorem dd_set (vs : List Int) (y : Int) : (fun j => decide (j ∈ dd vs) || decide (j = y)) = (fun j => decide (j ∈ dd (vs ++ [y]))) ∧ (if decide (y ∈ dd vs) = true then (dd vs).length else (dd vs).length + 1) = (dd (vs ++ [y])).length := by
  constructor
  · funext j
    rw [Bool.eq_iff_iff]
    simp only [Bool.or_eq_true, decide_eq_true_eq, dd_mem, List.mem_append, List.mem_singleton]
  · rw [dd_snoc]
    by_cases c : y ∈ dd vs
    · rw [if_pos (decide_eq_true c), if_pos c]
    · rw [if_neg (by simpa using c), if_neg c, List.length_append]
      rfl
/-! ### the lengths by place -/
structure Lens (n : Nat) (g L : Int) (i : Nat) (rows : List (List Int)) : Prop where
  len : rows.length = i + 1
  zero : rows[0]? = some [L]
  asc : ∀ (p : Nat) (r : List Int), rows[p]? = some r → r.Pairwise (· < ·)
  mem : ∀ (p : Nat) (r : List Int), rows[p]? = some r → ∀ x ∈ r, 0 ≤ x ∧ x ≤ L
  next : ∀ (p : Nat) (r r' : List Int), rows[p]? = some r → rows[p + 1]? = some r' → ∀ x, x ∈ r' ↔ (∃ l ∈ r, ∃ k, 2 ≤ k ∧ k ≤ g ∧ x = la l k) ∧ x ≤ up (n - (p + 1)) 1
  short : L < 63 ∨ ∀ (p : Nat) (r : List Int), rows[p]? = some r → r.length ≤ 6
theorem Lens.start {n : Nat} {g L : Int} (h0 : 0 ≤ L) : Lens n g L 0 [[L]] where
  len := rfl
  zero := rfl
  asc := fun p r e => by
    match p, e with
    | 0, e => cases e; exact List.pairwise_singleton _ _
  mem := fun p r e x hx => by
    match p, e with
    | 0, e =>
      cases e
      rw [List.mem_singleton.mp hx]
      exact ⟨h0, Int.le_refl _⟩
  next := fun p r r' e e' => by
    match p, e' with
    | 0, e' => cases e'
    | p + 1, e' => cases e'
  short := .inr fun p r e => by
    match p, e with
    | 0, e => cases e; exact (show 1 ≤ 6 by decide)
theorem asc_nodup {ns : List Int} (h : ns.Pairwise (· < ·)) : ns.Nodup := List.Pairwise.imp (fun {a b} z e => by omega) h
/-- one place more -/
theorem Lens.more {n : Nat} {g L : Int} {i : Nat} {rows : List (List Int)} {r : List Int} {ns : List Int} (S : Lens n g L i rows) (hr : rows[i]? = some r) (h0 : 0 ≤ L) (hi : i < n) (lim : L < 63 ∨ (n ≤ 4 ∧ g ≤ 7))
    (asc : ns.Pairwise (· < ·)) (mem : ∀ x, x ∈ ns ↔ ∃ l ∈ r, ∃ k, 2 ≤ k ∧ k ≤ g ∧ x = la l k) (few : ns.length ≤ r.length * (g - 1).toNat) :
    Lens n g L (i + 1) (rows ++ [ns.filter fun x => decide (x ≤ up (n - (i + 1)) 1)]) := by
  have len := S.len
  have last : ∀ p q, (rows ++ [ns.filter fun x => decide (x ≤ up (n - (i + 1)) 1)])[p]? = some q → rows[p]? = some q ∨ (p = i + 1 ∧ q = ns.filter fun x => decide (x ≤ up (n - (i + 1)) 1)) := fun p q e => by
    by_cases c : p < rows.length
    · rw [List.getElem?_append_left c] at e
      exact .inl e
    · rw [List.getElem?_append_right (by omega)] at e
      have hp : p = rows.length := by
        have := (List.getElem?_eq_some_iff.mp e).1
        simp at this
        omega
      rw [hp, Nat.sub_self] at e
      cases e
      exact .inr ⟨by omega, rfl⟩
  have bnd : ∀ x ∈ ns, 0 ≤ x ∧ x ≤ L := fun x hx => by
    obtain ⟨l, hl, k, k1, k2, rfl⟩ := (mem x).mp hx
    have a := S.mem i r hr l hl
    have b := la_le k1 a.1
    omega
  have sub : ∀ x ∈ ns.filter (fun x => decide (x ≤ up (n - (i + 1)) 1)), x ∈ ns ∧ x ≤ up (n - (i + 1)) 1 := fun x hx => by
    obtain ⟨a, b⟩ := List.mem_filter.mp hx
    exact ⟨a, of_decide_eq_true b⟩
  refine ⟨by rw [List.length_append, len]; rfl, ?_, fun p q e => ?_, fun p q e x hx => ?_, fun p q q' e e' x => ?_, ?_⟩
  · rw [List.getElem?_append_left (by omega)]
    exact S.zero
  · rcases last p q e with e | ⟨_, rfl⟩
    · exact S.asc p q e
    · exact asc.filter _
  · rcases last p q e with e | ⟨_, rfl⟩
    · exact S.mem p q e x hx
    · exact bnd x (sub x hx).1
  · rcases last (p + 1) q' e' with e' | ⟨hp, rfl⟩
    · have lt := (List.getElem?_eq_some_iff.mp e').1
      rcases last p q e with e | ⟨hp, _⟩
      · exact S.next p q q' e e' x
      · omega
    · have hp' : p = i := by omega
      subst hp'
      rcases last p q e with e | ⟨hp, _⟩
      · rw [hr] at e
        cases e
        rw [List.mem_filter, mem x, decide_eq_true_eq]
      · omega
  · rcases lim with l | ⟨n4, g7⟩
    · exact .inl l
    · rcases S.short with l | sh
      · exact .inl l
      · refine .inr fun p q e => ?_
        rcases last p q e with e | ⟨hp, rfl⟩
        · exact sh p q e
        · by_cases z : i = 0
          · subst z
            have e0 := S.zero
            rw [hr] at e0
            cases e0
            have := List.length_filter_le (fun x => decide (x ≤ up (n - (0 + 1)) 1)) ns
            have h1 : [L].length = 1 := rfl
            rw [h1] at few
            omega
          · have nd := (asc_nodup asc).filter (fun x => decide (x ≤ up (n - (i + 1)) 1))
            have := few_ints (L := 4) nd (fun x hx => ⟨(bnd x (sub x hx).1).1, Int.le_trans (sub x hx).2 (up_mono (v := 1) (by decide) (j := 2) (by omega))⟩) (by decide)
            omega
end Sq

set_option Elab.async false
set_option linter.all false
set_option maxRecDepth 100000
set_option maxHeartbeats 1000000
/-! What is asked of the handled error in its suite, whatever its class. -/
namespace Sq
open PySem PySem.Spec PyProof.Rows L2
section
variable {X : Cx} {p : Addr × Obj} {cls : Value} {d : Option Addr}
def rIsiG (K : PySem.W.Frag) (a : Addr) (cls : Value) (d : Option Addr) : List V → Hp → VK → Prop := fun xs H Q => ∃ (C dd : Addr) (v c : V) (u : Value) (b : Bool), cls = .ref C ∧ d = some dd ∧ xs = [.ref a, c] ∧ ClsV c u ∧ H dd = some (exd dd [(("value" : Str), v)]) ∧ ExcC K C ∧ PySem.W.kitOne K (.ref C) u = some b ∧ Q (.bl b) H
theorem call_isiG (hp : p ∈ X.pn) (hz : L2N.Zn cls d p.2) (hf : ∃ vs, p.2.data = .fields vs) : CallR X (.builtin "isinstance") (rIsiG X.K p.1 cls d) := by
  intro pins s σ H xs us Q I r h
  obtain ⟨C, dd, v, c, u, b, rfl, rfl, e1, e2, e3, e4, e5, q⟩ := h
  exact call_isiP (C := C) (d := dd) hp hz hf pins s σ H xs us Q I r ⟨v, c, u, b, e1, e2, e3, e4, e5, q⟩
def rIsiGT (K : PySem.W.Frag) (a : Addr) (cls : Value) (d : Option Addr) : List V → Hp → VK → Prop := fun xs H Q => ∃ (C dd tp : Addr) (v : V) (cs : List V) (us : List Value) (b : Bool), cls = .ref C ∧ d = some dd ∧ xs = [.ref a, .ref tp] ∧ H tp = some (.tup cs) ∧ Paired ClsV cs us ∧ H dd = some (exd dd [(("value" : Str), v)]) ∧ ExcC K C ∧ PySem.W.kitAny K (.ref C) us = some b ∧ Q (.bl b) H
theorem call_isiGT (hp : p ∈ X.pn) (hz : L2N.Zn cls d p.2) (hf : ∃ vs, p.2.data = .fields vs) : CallR X (.builtin "isinstance") (rIsiGT X.K p.1 cls d) := by
  intro pins s σ H xs vs Q I r h
  obtain ⟨C, dd, tp, v, cs, us, b, rfl, rfl, rfl, ht, pc, at_, T, e, q⟩ := h
  obtain ⟨u1, u2, rfl, r1, r2⟩ := vals2 r
  obtain rfl : u1 = Value.ref p.1 := r1
  obtain rfl : u2 = Value.ref tp := r2
  obtain ⟨od, uv, J, _, _⟩ := pin_obj I hp hz hf at_
  obtain ⟨few, its, rv, ob, there, isT, n, data⟩ := (show ObjOk X.prog X.w H s.heap tp (.tup cs) from I.hok tp _ ht)
  have same := ClsV.all pc rv
  subst same
  obtain ⟨oc, dct, dt, sl⟩ := ob
  simp only at isT data
  subst isT data
  exact PySem.W.kia_tup (SqX.kit (ox := p.2) (od := some od) T) I.kIn J there e (fun z => nomatch z) fun tk => ⟨.bl b, H, I.tok tk, rfl, q⟩
def tGv (K : PySem.W.Frag) (a : Addr) (cls : Value) (d : Option Addr) (te : TE) : TE := fun σ H Q => te σ H fun x H1 => ∃ (C dd : Addr) (v : V), cls = .ref C ∧ d = some dd ∧ x = .ref a ∧ H1 dd = some (exd dd [(("value" : Str), v)]) ∧ XfC K C ∧ PySem.W.findIn K (.ref C) "value" = some none ∧ Q v H1
theorem pe_gv {e : Expr} {te : TE} {pos : Pos} (hp : p ∈ X.pn) (hz : L2N.Zn cls d p.2) (hf : ∃ vs, p.2.data = .fields vs) (he : PE X e te) (hb : attributeBase e "value" X.env (eval e X.env) = eval e X.env := by rfl) : PE X (.Attribute e "value" pos) (tGv X.K p.1 cls d te) := by
  refine ⟨fun pins s σ H Q I h => ?_⟩
  refine attr_of hb (thn (he.run pins s σ H _ I h) fun u s1 hh => ?_)
  obtain ⟨x, H1, I1, rx, C, dd, v, rfl, rfl, ex, at_, T, hno, q⟩ := hh
  subst ex
  obtain rfl : u = Value.ref p.1 := rx
  obtain ⟨od, uv, J, l, ru⟩ := pin_obj I1 hp hz hf at_
  exact HandSPX.exc_get I1.kIn J T.ga T.gg T.exC (PySem.W.findObj_own T.hdC hno rfl l) (handed_of ru) ⟨v, H1, I1.tok _, ru, q⟩
end
section
variable {X : Cx} {a : Addr} {oe : Obj} {cls : Value} {d : Option Addr} {pn : List (Addr × Obj)}
theorem call_isiS (hz : L2N.Zn cls d oe) (hf : ∃ vs, oe.data = .fields vs) : CallR (X.suite a ((a, oe) :: pn)) (.builtin "isinstance") (rIsiG X.K a cls d) := call_isiG (X := X.suite a ((a, oe) :: pn)) (p := (a, oe)) List.mem_cons_self hz hf
theorem call_isiST (hz : L2N.Zn cls d oe) (hf : ∃ vs, oe.data = .fields vs) : CallR (X.suite a ((a, oe) :: pn)) (.builtin "isinstance") (rIsiGT X.K a cls d) := call_isiGT (X := X.suite a ((a, oe) :: pn)) (p := (a, oe)) List.mem_cons_self hz hf
theorem pe_sv {e : Expr} {te : TE} {pos : Pos} (hz : L2N.Zn cls d oe) (hf : ∃ vs, oe.data = .fields vs) (he : PE (X.suite a ((a, oe) :: pn)) e te) (hb : attributeBase e "value" X.env (eval e X.env) = eval e X.env := by rfl) :
    PE (X.suite a ((a, oe) :: pn)) (.Attribute e "value" pos) (tGv X.K a cls d te) := pe_gv (X := X.suite a ((a, oe) :: pn)) (p := (a, oe)) List.mem_cons_self hz hf he hb
end
end Sq

set_option Elab.async false
set_option linter.all false
set_option maxRecDepth 100000
set_option maxHeartbeats 1000000
/-! A def that may raise, called where it doesn't; keywords of such a def. -/
namespace Sq
open PySem PySem.Spec PyProof.Rows L2
/-- as a def that lets nothing out -/
theorem calmly {P : Program} {w : World} {K : PySem.W.Frag} {mg : Str → Option Value} {base : Heap} {k : Nat} {f : Addr} {fd : FuncData} {ps : List Str} {sp : Sp} (G : FnOk P w K mg base (L2N.CX P w) k f fd ps sp) :
    FnOk P w K mg base CX0 k f fd ps (fun vs H Q _ => sp vs H Q fun _ _ _ => False) := by
  refine ⟨fun vs H Q E h => G.len _ _ _ _ h, fun A outer s H args us vs Q E hr e0 hb hv h => ?_⟩
  refine codeAny_mono (G.run A outer s H args us vs Q (fun _ _ _ => False) hr e0 hb hv h) fun r s' hq => ?_
  cases r with
  | error u =>
    obtain ⟨_, _, _, _, _, _, _, _, _, _, _, _, z⟩ := (show L2N.CX P w outer H s (fun _ _ _ => False) u s' from hq)
    exact z.elim
  | ok fl =>
    cases fl with
    | ret u => exact hq
    | next => exact hq
    | brk => exact hq
    | cont => exact hq
structure Dnk (P : Program) (w : World) (K : PySem.W.Frag) (mg : Str → Option Value) (base : Heap) (k : Nat) (x : Str) (ps ks : List Str) (g : List Value → List Value → List Value) (gV : List V → List V → List V) (sp : Sp) : Prop where
  ex : ∃ f fd, FnOk P w K mg base (L2N.CX P w) k f fd ps sp ∧ mg x = some (.ref f) ∧ PySem.W.keepIn K (.ref f) = true ∧ KBn K fd ps 0 ks g gV
theorem kbn_mk {K : PySem.W.Frag} {x qual : Str} {st : Stmt} {f : Addr} {fd : FuncData} {ps : List Str} (F : Fun K x qual st f fd) (ks : List Str) (g : List Value → List Value → List Value) (gV : List V → List V → List V)
    (rel : ∀ {vs : List V} {us : List Value} {zs : List V} {ws : List Value}, Vals vs us → Vals zs ws → Vals (gV vs zs) (g us ws))
    (h : ∀ (kV doc pm : Value) (an : Option Addr) (cdv ct : Value) (ws : List Value), ws.length = ks.length → bindArgs (PySem.W.fnOf x qual (defArgs st) (defBody st) (defScope st) .none kV doc pm an cdv ct) ⟨[], ks.zip ws⟩ = pure (ps.zip (g [] ws))) : KBn K fd ps 0 ks g gV := by
  obtain ⟨oc, od, kV, doc, pm, an, cdv, ct, osl, rfl, lk, hcd⟩ := F.ex
  refine ⟨fun s us ws X l1 l2 => ?_, rel⟩
  obtain rfl : us = [] := List.length_eq_zero_iff.mp l1
  exact .of_eq (h kV doc pm an cdv ct ws l2)
/-- three values in another order -/
def perm3 {α : Type} (i j k : Nat) : List α → List α → List α := fun _ zs => match zs with
  | [x, y, z] => [[x, y, z].getD i x, [x, y, z].getD j x, [x, y, z].getD k x]
  | _ => []
def perm4 {α : Type} (i j k l : Nat) : List α → List α → List α := fun _ zs => match zs with
  | [x, y, z, u] => [[x, y, z, u].getD i x, [x, y, z, u].getD j x, [x, y, z, u].getD k x, [x, y, z, u].getD l x]
  | _ => []
end Sq

set_option Elab.async false
set_option linter.all false
/-! The choice with a number. -/
namespace Sq
def pik (f : Int → Nat) : List Int → Nat → Int × Nat
  | [], r => (0, r)
  | k :: ks, r => if r < f k then (k, r) else pik f ks (r - f k)
def nthL (g : Int) : Nat → Int → Nat → List Int
  | 0, _, _ => []
  | n + 1, L, r => (pik (fun k => cnt g n (la L k)) (cand g) r).1 :: nthL g n (la L (pik (fun k => cnt g n (la L k)) (cand g) r).1) (pik (fun k => cnt g n (la L k)) (cand g) r).2
theorem pik_ok (f : Int → Nat) : ∀ (ks : List Int) (r : Nat), r < (ks.map f).sum → (pik f ks r).1 ∈ ks ∧ (pik f ks r).2 < f (pik f ks r).1
  | [], r, h => absurd h (Nat.not_lt_zero _)
  | k :: ks, r, h => by
    unfold pik
    by_cases c : r < f k
    · rw [if_pos c]
      exact ⟨List.mem_cons_self .., c⟩
    · rw [if_neg c]
      rw [List.map_cons, List.sum_cons] at h
      obtain ⟨a, b⟩ := pik_ok f ks (r - f k) (by omega)
      exact ⟨List.mem_cons_of_mem _ a, b⟩
theorem cand_drop {g : Int} {b : Nat} (h : b < (g - 1).toNat) : (cand g).drop b = (2 + (b : Int)) :: (cand g).drop (b + 1) := by
  rw [List.drop_eq_getElem_cons (by rw [cand_len]; exact h)]
  congr 1
  unfold cand
  rw [List.getElem_map, List.getElem_range]
theorem nthL_len (g : Int) : ∀ (n : Nat) (L : Int) (r : Nat), (nthL g n L r).length = n
  | 0, _, _ => rfl
  | n + 1, _, _ => congrArg Nat.succ (nthL_len g n _ _)
end Sq

set_option Elab.async false
set_option linter.all false
set_option maxHeartbeats 1000000
/-! All lists in their order, those that reach a length, and the one with a number. -/
namespace Sq
theorem la_iff {L k R : Int} (hk : 2 ≤ k) (hR : 1 ≤ R) (h0 : 0 ≤ L) : la L k ≤ R ↔ L ≤ rw1 k R := by
  unfold la rw1
  by_cases c : k > L
  · rw [if_pos c]
    by_cases d : k > R + 1
    · rw [if_pos d]
    · rw [if_neg d]
      constructor
      · intro h
        have m : (R + 3 - k) * k - 2 ≥ R := by
          have e : (R + 3 - k) * k - 2 - R = (R + 2 - k) * (k - 1) + (k - 2) - (k - 2) := by
            rw [Int.sub_mul, Int.add_mul]
            rw [show (R + 2 - k) * (k - 1) = R * k + 2 * k - k * k - (R + 2 - k) by
              rw [Int.mul_sub, Int.mul_one, Int.sub_mul, Int.add_mul]]
            omega
          have p : 0 ≤ (R + 2 - k) * (k - 1) := Int.mul_nonneg (by omega) (by omega)
          omega
        omega
      · intro h
        omega
  · rw [if_neg c]
    have q1 : 1 ≤ (L + 1) / k := Int.le_ediv_of_mul_le (by omega) (by omega)
    by_cases d : k > R + 1
    · rw [if_pos d]
      omega
    · rw [if_neg d]
      constructor
      · intro h
        have : (L + 1) / k < R + 3 - k := by omega
        have := (Int.ediv_lt_iff_lt_mul (by omega : 0 < k)).mp this
        omega
      · intro h
        have : (L + 1) / k < R + 3 - k := (Int.ediv_lt_iff_lt_mul (by omega : 0 < k)).mpr (by omega)
        omega
/-- all lists of n numbers, the first number slowest -/
def allF (g : Int) : Nat → List (List Int)
  | 0 => [[]]
  | n + 1 => (cand g).flatMap fun k => (allF g n).map fun l => k :: l
/-- the same, made from behind -/
def allB (g : Int) : Nat → List (List Int)
  | 0 => [[]]
  | n + 1 => (allB g n).flatMap fun l => (cand g).map fun k => l ++ [k]
theorem all_step (g : Int) : ∀ n, allF g (n + 1) = (allF g n).flatMap fun l => (cand g).map fun k => l ++ [k]
  | 0 => by
    show (cand g).flatMap (fun k => [[k]]) = (cand g).map (fun k => [] ++ [k]) ++ []
    rw [List.append_nil]
    induction cand g with
    | nil => rfl
    | cons k ks ih => rw [List.flatMap_cons, ih]; rfl
  | n + 1 => by
    show (cand g).flatMap (fun k => (allF g (n + 1)).map fun l => k :: l) = ((cand g).flatMap fun k => (allF g n).map fun l => k :: l).flatMap fun l => (cand g).map fun k => l ++ [k]
    rw [List.flatMap_assoc]
    congr 1
    funext k
    rw [all_step g n, List.map_flatMap, List.flatMap_map]
    congr 1
    funext l
    rw [List.map_map]
    rfl
theorem allB_F (g : Int) : ∀ n, allB g n = allF g n
  | 0 => rfl
  | n + 1 => by
    rw [all_step g n, ← allB_F g n]
    rfl
theorem allF_mem {g : Int} : ∀ {n : Nat} {l : List Int}, l ∈ allF g n → l.length = n ∧ ∀ k ∈ l, 2 ≤ k ∧ k ≤ g
  | 0, l, h => by
    rw [List.mem_singleton.mp h]
    exact ⟨rfl, fun _ z => nomatch z⟩
  | n + 1, l, h => by
    obtain ⟨k, hk, h⟩ := List.mem_flatMap.mp h
    obtain ⟨r, hr, rfl⟩ := List.mem_map.mp h
    obtain ⟨a, b⟩ := allF_mem hr
    refine ⟨congrArg Nat.succ a, fun x hx => ?_⟩
    rcases List.mem_cons.mp hx with z | z
    · rw [z]
      exact mem_cand.mp hk
    · exact b x z
theorem allF_len (g : Int) : ∀ n, (allF g n).length = (g - 1).toNat ^ n
  | 0 => rfl
  | n + 1 => by
    show ((cand g).flatMap fun k => (allF g n).map fun l => k :: l).length = _
    have e : ∀ ks : List Int, (ks.flatMap fun k => (allF g n).map fun l => k :: l).length = ks.length * (g - 1).toNat ^ n := fun ks => by
      induction ks with
      | nil => exact (Nat.zero_mul _).symm
      | cons k ks ih => rw [List.flatMap_cons, List.length_append, ih, List.length_map, allF_len g n, List.length_cons, Nat.add_mul, Nat.one_mul, Nat.add_comm]
    rw [e, cand_len, Nat.pow_succ, Nat.mul_comm]
/-- those that reach L -/
def dueL (g : Int) (n : Nat) (L : Int) : List (List Int) := (allF g n).filter fun l => decide (L ≤ rch l 1)
theorem rch_cons (k : Int) (l : List Int) : rch (k :: l) 1 = rw1 k (rch l 1) := rfl
theorem due_succ {g L : Int} (n : Nat) (h0 : 0 ≤ L) : dueL g (n + 1) L = (cand g).flatMap fun k => (dueL g n (la L k)).map fun l => k :: l := by
  show ((cand g).flatMap fun k => (allF g n).map fun l => k :: l).filter (fun l => decide (L ≤ rch l 1)) = _
  have e : ∀ ks : List Int, (∀ k ∈ ks, 2 ≤ k) → (ks.flatMap fun k => (allF g n).map fun l => k :: l).filter (fun l => decide (L ≤ rch l 1)) = ks.flatMap fun k => (dueL g n (la L k)).map fun l => k :: l := fun ks => by
    induction ks with
    | nil => exact fun _ => rfl
    | cons k ks ih =>
      intro h
      rw [List.flatMap_cons, List.flatMap_cons, List.filter_append, ih fun x hx => h x (List.mem_cons_of_mem _ hx)]
      congr 1
      rw [List.filter_map]
      congr 1
      unfold dueL
      refine List.filter_congr fun l hl => ?_
      have k2 := h k (List.mem_cons_self ..)
      have lp := rch_pos l 1 (fun x hx => ((allF_mem hl).2 x hx).1) (by decide)
      show decide (L ≤ rch (k :: l) 1) = decide (la L k ≤ rch l 1)
      rw [rch_cons]
      exact decide_eq_decide.mpr (la_iff k2 lp h0).symm
  exact e _ fun k hk => (mem_cand.mp hk).1
theorem cnt_due {g : Int} : ∀ (n : Nat) {L : Int}, 0 ≤ L → cnt g n L = (dueL g n L).length
  | 0, L, _ => by
    show (if L ≤ 1 then 1 else 0) = ([[]].filter fun l => decide (L ≤ rch l 1)).length
    by_cases c : L ≤ 1
    · rw [if_pos c, List.filter_cons, if_pos (by exact decide_eq_true c)]
      rfl
    · rw [if_neg c, List.filter_cons, if_neg (show ¬ decide (L ≤ rch [] 1) = true from fun z => c (of_decide_eq_true z))]
      rfl
  | n + 1, L, h0 => by
    rw [due_succ n h0]
    show ((cand g).map fun k => cnt g n (la L k)).sum = _
    have e : ∀ ks : List Int, (∀ k ∈ ks, 2 ≤ k) → (ks.map fun k => cnt g n (la L k)).sum = (ks.flatMap fun k => (dueL g n (la L k)).map fun l => k :: l).length := fun ks => by
      induction ks with
      | nil => exact fun _ => rfl
      | cons k ks ih =>
        intro h
        rw [List.map_cons, List.sum_cons, List.flatMap_cons, List.length_append, List.length_map, ih fun x hx => h x (List.mem_cons_of_mem _ hx), cnt_due n (la_le (h k (List.mem_cons_self ..)) h0).1]
    exact e _ fun k hk => (mem_cand.mp hk).1
theorem nth_due {g : Int} : ∀ (n : Nat) {L : Int} (r : Nat), 0 ≤ L → r < cnt g n L → (dueL g n L)[r]? = some (nthL g n L r)
  | 0, L, r, h0, h => by
    have h' : r < (if L ≤ 1 then 1 else 0) := h
    by_cases c : L ≤ 1
    · rw [if_pos c] at h'
      have e : r = 0 := by omega
      subst e
      show ([[]].filter fun l => decide (L ≤ rch l 1))[0]? = some []
      rw [List.filter_cons, if_pos (by exact decide_eq_true c)]
      rfl
    · rw [if_neg c] at h'
      omega
  | n + 1, L, r, h0, h => by
    rw [due_succ n h0]
    show _ = some ((pik (fun k => cnt g n (la L k)) (cand g) r).1 :: nthL g n (la L (pik (fun k => cnt g n (la L k)) (cand g) r).1) (pik (fun k => cnt g n (la L k)) (cand g) r).2)
    have h' : r < ((cand g).map fun k => cnt g n (la L k)).sum := h
    have e : ∀ (ks : List Int) (r : Nat), (∀ k ∈ ks, 2 ≤ k) → r < (ks.map fun k => cnt g n (la L k)).sum → (ks.flatMap fun k => (dueL g n (la L k)).map fun l => k :: l)[r]? = some ((pik (fun k => cnt g n (la L k)) ks r).1 :: nthL g n (la L (pik (fun k => cnt g n (la L k)) ks r).1) (pik (fun k => cnt g n (la L k)) ks r).2) := fun ks => by
      induction ks with
      | nil => exact fun r _ h => absurd h (Nat.not_lt_zero _)
      | cons k ks ih =>
        intro r hk hr
        rw [List.map_cons, List.sum_cons] at hr
        have k2 := hk k (List.mem_cons_self ..)
        have l0 := (la_le k2 h0).1
        have len := cnt_due (g := g) n l0
        rw [List.flatMap_cons]
        unfold pik
        by_cases c : r < cnt g n (la L k)
        · rw [if_pos c, List.getElem?_append_left (by rw [List.length_map]; omega), List.getElem?_map, nth_due n r l0 c]
          rfl
        · rw [if_neg c, List.getElem?_append_right (by rw [List.length_map]; omega), List.length_map, ← len]
          exact ih (r - cnt g n (la L k)) (fun x hx => hk x (List.mem_cons_of_mem _ hx)) (by omega)
    exact e _ r (fun k hk => (mem_cand.mp hk).1) h'
/-- every run up to far becomes single -/
theorem singles_iff {l : List Int} {far : Int} (h : ∀ k ∈ l, 2 ≤ k) (h0 : 0 ≤ far) : (∀ r : Int, 1 ≤ r → r ≤ far → sq r l = 1) ↔ far ≤ rch l 1 := by
  have pos := rch_pos l 1 h (by decide)
  constructor
  · intro a
    by_cases c : far ≤ rch l 1
    · exact c
    · have := a (rch l 1 + 1) (by omega) (by omega)
      rw [sq_next l 1 h (by decide)] at this
      omega
  · intro a r r1 r2
    have u := sq_le l 1 r h (by decide) (by omega) (by omega)
    have low : ∀ (l : List Int) (r : Int), (∀ k ∈ l, 2 ≤ k) → 1 ≤ r → 1 ≤ sq r l := fun l => by
      induction l with
      | nil => exact fun r _ h => h
      | cons k ks ih =>
        intro r hk hr
        refine ih (once r k) (fun x hx => hk x (List.mem_cons_of_mem _ hx)) ?_
        have k2 := hk k (List.mem_cons_self ..)
        unfold once
        have e := Int.mul_ediv_add_emod r k
        have q0 := Int.ediv_nonneg (by omega : 0 ≤ r) (by omega : 0 ≤ k)
        have m0 := Int.emod_nonneg r (by omega : k ≠ 0)
        by_cases z : r / k = 0
        · rw [z, Int.mul_zero] at e
          omega
        · omega
    have := low l r h r1
    omega
end Sq

set_option Elab.async false
set_option linter.all false
set_option maxRecDepth 100000
set_option maxHeartbeats 2000000
namespace Sq
open PySem PySem.Spec PyProof.Rows L2
/-- what is known of the one error class -/
structure Errs1 (P : Program) (K : PySem.W.Frag) (mg : Str → Option Value) (c fI : Nat → Addr) (qn : Nat → Str) (cB : Addr) : Prop where
  er : ∀ n, n = 1 → True ∧ SqX.Er K P (c n) (fI n) (qn n)
  g1 : mg "InvalidNumber" = some (.ref (c 1))
  xf : ∀ n, n = 1 → XfC K (c n)
  nv : ∀ n, n = 1 → PySem.W.findIn K (.ref (c n)) "value" = some none
/-! ### the text -/
def topS (i : Nat) : Stmt := PySem.Challenge.pw_squeezelists_k25_whole_longer_lists_numb.main.body.getD i (.Pass ⟨0, 0, 0, 0⟩)
abbrev s_checklist : Stmt := topS 5
theorem sc_checklist : FnScope ["replacements", "index", "number"] ["replacements"] (defScope s_checklist) := ⟨rfl, rfl, rfl, by decide +kernel, rfl, by decide +kernel, by decide +kernel⟩
abbrev s_checknumber : Stmt := topS 6
theorem sc_checknumber : FnScope ["number", "least"] ["number", "least"] (defScope s_checknumber) := ⟨rfl, rfl, rfl, by decide +kernel, rfl, by decide +kernel, by decide +kernel⟩
abbrev s_reach : Stmt := topS 8
theorem sc_reach : FnScope ["replacements", "most", "longest", "number"] ["replacements", "most"] (defScope s_reach) := ⟨rfl, rfl, rfl, by decide +kernel, rfl, by decide +kernel, by decide +kernel⟩
abbrev s_feweststeps : Stmt := topS 9
theorem sc_feweststeps : FnScope ["length", "most", "steps", "longest"] ["length", "most"] (defScope s_feweststeps) := ⟨rfl, rfl, rfl, by decide +kernel, rfl, by decide +kernel, by decide +kernel⟩
abbrev s_reachwith : Stmt := topS 10
theorem sc_reachwith : FnScope ["number", "longest"] ["number", "longest"] (defScope s_reachwith) := ⟨rfl, rfl, rfl, by decide +kernel, rfl, by decide +kernel, by decide +kernel⟩
abbrev s_bestnumbers : Stmt := topS 11
theorem sc_bestnumbers : FnScope ["longest", "low", "high"] ["longest"] (defScope s_bestnumbers) := ⟨rfl, rfl, rfl, by decide +kernel, rfl, by decide +kernel, by decide +kernel⟩
abbrev s_greatestreachwithone : Stmt := topS 12
theorem sc_greatestreachwithone : FnScope ["longest"] ["longest"] (defScope s_greatestreachwithone) := ⟨rfl, rfl, rfl, by decide +kernel, rfl, by decide +kernel, by decide +kernel⟩
abbrev s_countlists : Stmt := topS 14
theorem sc_countlists : FnScope ["steps", "greatest", "length"] ["steps", "greatest", "length"] (defScope s_countlists) := ⟨rfl, rfl, rfl, by decide +kernel, rfl, by decide +kernel, by decide +kernel⟩
abbrev s_nthlist : Stmt := topS 15
theorem sc_nthlist : FnScope ["steps", "greatest", "length", "number", "counts", "found", "longest", "index", "place", "chosen"] ["steps", "greatest", "length", "number"] (defScope s_nthlist) := ⟨rfl, rfl, rfl, by decide +kernel, rfl, by decide +kernel, by decide +kernel⟩
abbrev s_checkchoice : Stmt := topS 16
theorem sc_checkchoice : FnScope ["steps", "greatest", "length"] ["steps", "greatest", "length"] (defScope s_checkchoice) := ⟨rfl, rfl, rfl, by decide +kernel, rfl, by decide +kernel, by decide +kernel⟩
abbrev s_longestafter : Stmt := topS 17
theorem sc_longestafter : FnScope ["longest", "number"] ["longest", "number"] (defScope s_longestafter) := ⟨rfl, rfl, rfl, by decide +kernel, rfl, by decide +kernel, by decide +kernel⟩
abbrev s_countsbyplace : Stmt := topS 18
theorem sc_countsbyplace : FnScope ["steps", "greatest", "length", "lengths", "counts", "place", "longest"] ["steps", "greatest", "length"] (defScope s_countsbyplace) := ⟨rfl, rfl, rfl, by decide +kernel, rfl, by decide +kernel, by decide +kernel⟩
abbrev s_lengthsbyplace : Stmt := topS 19
theorem sc_lengthsbyplace : FnScope ["steps", "greatest", "length", "lengths", "place", "after", "longest", "number"] ["steps", "greatest", "length"] (defScope s_lengthsbyplace) := ⟨rfl, rfl, rfl, by decide +kernel, rfl, by decide +kernel, by decide +kernel⟩
abbrev s_countsbefore : Stmt := topS 20
theorem sc_countsbefore : FnScope ["lengths", "greatest", "counts", "found", "longest", "many", "number"] ["lengths", "greatest", "counts"] (defScope s_countsbefore) := ⟨rfl, rfl, rfl, by decide +kernel, rfl, by decide +kernel, by decide +kernel⟩
abbrev s_choose : Stmt := topS 21
theorem sc_choose : FnScope ["longest", "counts", "index", "number", "rest", "many"] ["longest", "counts", "index"] (defScope s_choose) := ⟨rfl, rfl, rfl, by decide +kernel, rfl, by decide +kernel, by decide +kernel⟩
abbrev s_lawbag : Stmt := topS 23
theorem sc_lawbag : FnScope ["script", "blend", "great", "cell"] ["script"] (defScope s_lawbag) := ⟨rfl, rfl, rfl, by decide +kernel, rfl, by decide +kernel, by decide +kernel⟩
abbrev s_lawdraw : Stmt := topS 24
theorem sc_lawdraw : FnScope ["bag", "many", "drawn", "turn", "mixed"] ["bag", "many"] (defScope s_lawdraw) := ⟨rfl, rfl, rfl, by decide +kernel, rfl, by decide +kernel, by decide +kernel⟩
abbrev s_lawreach : Stmt := topS 25
theorem sc_lawreach : FnScope ["steps_now", "found", "k"] ["steps_now"] (defScope s_lawreach) := ⟨rfl, rfl, rfl, by decide +kernel, rfl, by decide +kernel, by decide +kernel⟩
abbrev s_lawmost : Stmt := topS 26
theorem sc_lawmost : FnScope ["many", "largest", "found", "number", "now", "k"] ["many", "largest"] (defScope s_lawmost) := ⟨rfl, rfl, rfl, by decide +kernel, rfl, by decide +kernel, by decide +kernel⟩
abbrev s_lawcount : Stmt := topS 27
theorem sc_lawcount : FnScope ["known", "many", "largest", "far", "found", "k"] ["known", "many", "largest", "far"] (defScope s_lawcount) := ⟨rfl, rfl, rfl, by decide +kernel, rfl, by decide +kernel, by decide +kernel⟩
abbrev s_lawleast : Stmt := topS 28
theorem sc_lawleast : FnScope ["k", "far", "low", "high", "middle"] ["k", "far"] (defScope s_lawleast) := ⟨rfl, rfl, rfl, by decide +kernel, rfl, by decide +kernel, by decide +kernel⟩
abbrev s_lawbefore : Stmt := topS 29
theorem sc_lawbefore : FnScope ["known", "one", "largest", "far", "found", "place", "k"] ["known", "one", "largest", "far"] (defScope s_lawbefore) := ⟨rfl, rfl, rfl, by decide +kernel, rfl, by decide +kernel, by decide +kernel⟩
abbrev s_lawisrefused : Stmt := topS 30
theorem sc_lawisrefused : FnScope ["many", "largest", "far", "spot", "e"] ["many", "largest", "far", "spot"] (defScope s_lawisrefused) := ⟨rfl, rfl, rfl, by decide +kernel, rfl, by decide +kernel, by decide +kernel⟩
abbrev s_law : Stmt := topS 31
theorem sc_law : FnScope ["script", "bag", "turn", "many", "largest", "drawn", "number", "far", "known", "due", "spot", "told", "k"] ["script"] (defScope s_law) := ⟨rfl, rfl, rfl, by decide +kernel, rfl, by decide +kernel, by decide +kernel⟩
end Sq

set_option Elab.async false
set_option linter.all false
set_option maxRecDepth 100000
set_option maxHeartbeats 4000000
namespace Sq
open PySem PySem.Spec PyProof.Rows L2
theorem bits3 {R : Int} {b : Nat} (hR : 1 ≤ R) (h : R.natAbs < 2 ^ b) : ∀ x : Int, 0 ≤ x → x ≤ R + 3 → x.natAbs < 2 ^ (b + 2) := fun x h0 h1 => by
  have e : 2 ^ (b + 2) = 4 * 2 ^ b := by rw [Nat.pow_add]; omega
  omega
theorem grow_bits {R : Int} {b : Nat} (hR : 1 ≤ R) (h : R.natAbs < 2 ^ b) : (grow R).natAbs < 2 ^ (2 * b) := by
  have l1 := low_ge hR
  have l2 := low_le hR
  have g : grow R = (R + 3 - low R) * low R - 2 := rw1_low (by omega)
  have gp := grow_pos hR
  have e1 := sq_gap R (low R)
  have d0 : 0 ≤ (2 * low R - (R + 3)) * (2 * low R - (R + 3)) := by
    by_cases c : 0 ≤ 2 * low R - (R + 3)
    · exact Int.mul_nonneg c c
    · have := Int.mul_nonneg (a := -(2 * low R - (R + 3))) (b := -(2 * low R - (R + 3))) (by omega) (by omega)
      rwa [Int.neg_mul_neg] at this
  obtain ⟨B, hB⟩ : ∃ B : Int, B = ((2 ^ b : Nat) : Int) := ⟨_, rfl⟩
  have r1 : R + 3 ≤ B + 2 := by omega
  have m1 : (R + 3) * (R + 3) ≤ (B + 2) * (B + 2) := Int.mul_le_mul r1 r1 (by omega) (by omega)
  have m2 : (B + 2) * (B + 2) = B * B + 4 * B + 4 := by
    simp only [Int.add_mul, Int.mul_add]
    omega
  have m3 : 2 * B ≤ B * B := Int.mul_le_mul_of_nonneg_right (by omega) (by omega)
  have e2 : ((2 ^ (2 * b) : Nat) : Int) = B * B := by
    rw [hB, Nat.two_mul, Nat.pow_add]
    push_cast
    rfl
  omega
theorem up_bits {v : Int} {b : Nat} (hv : 1 ≤ v) (h : v.natAbs < 2 ^ b) : ∀ n, (up n v).natAbs < 2 ^ (b * 2 ^ n)
  | 0 => by
    rw [Nat.pow_zero, Nat.mul_one]
    exact h
  | n + 1 => by
    have := grow_bits (up_pos hv n) (up_bits hv h n)
    rwa [show 2 * (b * 2 ^ n) = b * 2 ^ (n + 1) by rw [Nat.pow_succ, Nat.mul_left_comm, Nat.mul_comm 2]] at this
theorem pow_le_le {i n b c : Nat} (h : i ≤ n) (hb : b * 2 ^ n ≤ c) : b * 2 ^ i ≤ c := Nat.le_trans (Nat.mul_le_mul_left b (Nat.pow_le_pow_right (by decide) h)) hb
section
variable {P : Program} {w : World} {K : PySem.W.Frag} {mg : Str → Option Value} {base : Heap}
def spReachWith : Sp := fun vs H Q _ => ∃ (k R : Int), vs = [.int k, .int R] ∧ 2 ≤ k ∧ (k ≤ R + 1 → CMulW (R + 3 - k) k) ∧ Q (.int (rw1 k R)) H
theorem ok_reachwith {f : Addr} {fd : FuncData} (F : Fun K "reach_with" "reach_with" s_reachwith f fd) : FnOk P w K mg base CX0 1 f fd ["number", "longest"] spReachWith := by
  refine F.ok sc_reachwith (fun vs H Q E h => ?_) (fun cdv A outer s H vs Q E hr h => ?_)
  · obtain ⟨k, R, rfl, _⟩ := h
    rfl
  · obtain ⟨k, R, rfl, h2, h3, q⟩ := h
    refine ⟨_, (pss_cons (ps_if (pt_cmpR op_gt (pv 0) (pe_op op_add (pv 1) pe_int) (nomark _))
 (pss_one (ps_ret (pv 1)))
 pss_nil)
 (pss_one (ps_ret (pe_op op_sub (pe_op op_mulW (pe_op op_sub (pe_op op_add (pv 1) pe_int) (pv 0)) (pv 0)) pe_int)))), ?_⟩
    refine ⟨_, rfl, _, rfl, _, _, rfl, rfl, _, _, rfl, rfl, _, rfl, ite2 (fun c => ?_) (fun c => ?_)⟩
    · have c' : R + 1 < k := of_decide_eq_true c
      have e : rw1 k R = R := by
        unfold rw1
        rw [if_pos (show k > R + 1 from c')]
      rw [e] at q
      exact ⟨_, rfl, q⟩
    · have c' : ¬ R + 1 < k := fun z => c (decide_eq_true z)
      have e : rw1 k R = (R + 3 - k) * k - 2 := by
        unfold rw1
        rw [if_neg (show ¬ k > R + 1 from c')]
      rw [e] at q
      exact ⟨_, rfl, _, _, rfl, rfl, _, rfl, _, _, rfl, rfl, _, rfl, _, _, rfl, rfl, h3 (by omega), _, _, rfl, rfl, q⟩
def spBestNumbers : Sp := fun vs H Q _ => ∃ R : Int, vs = [.int R] ∧ ∀ p, H p = none → Q (.ref p) (upd H p (.lst ((bests R).map V.int)))
theorem ok_bestnumbers {f : Addr} {fd : FuncData} (F : Fun K "best_numbers" "best_numbers" s_bestnumbers f fd) : FnOk P w K mg base CX0 1 f fd ["longest"] spBestNumbers := by
  refine F.ok sc_bestnumbers (fun vs H Q E h => ?_) (fun cdv A outer s H vs Q E hr h => ?_)
  · obtain ⟨R, rfl, _⟩ := h
    rfl
  · obtain ⟨R, rfl, q⟩ := h
    refine ⟨_, (pss_cons (ps_set (i := 1) sc_bestnumbers.nd rfl (Or.inl rfl) (pe_op op_fdiv (pe_op op_add (pv 0) pe_int) pe_int))
 (pss_cons (ps_set (i := 2) sc_bestnumbers.nd rfl (Or.inl rfl) (pe_op op_fdiv (pe_op op_add (pv 0) pe_int) pe_int))
 (pss_cons (ps_if (pt_cmpR op_eq (pv 1) (pv 2) (nomark _))
 (pss_one (ps_ret (pe_lst (pa_cons (pv 1) pa_nil))))
 pss_nil)
 (pss_one (ps_ret (pe_lst (pa_cons (pv 1) (pa_cons (pv 2) pa_nil)))))))), ?_⟩
    refine ⟨_, rfl, _, 3, rfl, rfl, _, 2, rfl, rfl, ⟨by decide, by decide⟩, _, rfl, _, 4, rfl, rfl, _, 2, rfl, rfl, ⟨by decide, by decide⟩, ?_⟩
    refine ⟨_, rfl, _, rfl, rfl, _, rfl, ite2 (fun c => ?_) (fun c => ?_)⟩
    · have c' : V.int (low R) = V.int (high R) := of_decide_eq_true c
      have e : low R = high R := by injection c'
      refine ⟨_, rfl, (by show 1 ≤ sizeLine; exact Nat.le_of_lt (small1000 (by decide))), fun p hp => ?_⟩
      have := q p hp
      unfold bests at this
      rw [if_pos e] at this
      exact this
    · have e : ¬ low R = high R := fun z => c (decide_eq_true (congrArg V.int z))
      refine ⟨_, rfl, _, rfl, (by show 2 ≤ sizeLine; exact Nat.le_of_lt (small1000 (by decide))), fun p hp => ?_⟩
      have := q p hp
      unfold bests at this
      rw [if_neg e] at this
      exact this
def spGrow : Sp := fun vs H Q _ => ∃ (R : Int) (b : Nat), vs = [.int R] ∧ 1 ≤ R ∧ R.natAbs < 2 ^ b ∧ b ≤ 200000 ∧ ∀ H', Same H H' → Q (.int (grow R)) H'
theorem bests_head (R : Int) : ∃ r, bests R = low R :: r := by
  unfold bests
  split
  · exact ⟨_, rfl⟩
  · exact ⟨_, rfl⟩
theorem ok_grow {f : Addr} {fd : FuncData} (F : Fun K "greatest_reach_with_one" "greatest_reach_with_one" s_greatestreachwithone f fd) (D_reachwith : Df P w K mg base 1 "reach_with" ["number", "longest"] spReachWith)
    (D_bestnumbers : Df P w K mg base 1 "best_numbers" ["longest"] spBestNumbers) : FnOk P w K mg base CX0 2 f fd ["longest"] spGrow := by
  refine F.ok sc_greatestreachwithone (fun vs H Q E h => ?_) (fun cdv A outer s H vs Q E hr h => ?_)
  · obtain ⟨R, b, rfl, _⟩ := h
    rfl
  · obtain ⟨R, b, rfl, hR, hb, hb2, q⟩ := h
    refine ⟨_, (pss_one (ps_ret (pe_callD D_reachwith (hr.mono (by omega)) (by rfl) (pa_cons (pe_ix (r := rIxL K) ix_list (pe_callD D_bestnumbers (hr.mono (by omega)) (by rfl) (pa_cons (pv 0) pa_nil)) pe_int (fun _ _ => rfl)) (pa_cons (pv 0) pa_nil))))), ?_⟩
    obtain ⟨r, er⟩ := bests_head R
    refine ⟨_, rfl, R, rfl, fun p hp => ⟨p, (bests R).map V.int, 0, .int (low R), rfl, rfl, SqL.of upd_same, ?_, _, rfl, low R, R, rfl, low_ge hR, fun c => ?_, q _ (same_new hp)⟩⟩
    · rw [er]
      exact atI_nat (j := 0) rfl
    · have l1 := low_ge hR
      have l2 := low_le hR
      exact wide_mul (bits3 hR hb (R + 3 - low R) (by omega) (by omega)) (bits3 hR hb (low R) (by omega) (by omega)) (by omega) (by omega) (by omega)
end

section
variable {P : Program} {w : World} {K : PySem.W.Frag} {mg : Str → Option Value} {base : Heap}
/-- a number that passes -/
def spChkN : Sp := fun vs H Q _ => ∃ (n l : Int), vs = [.int n, .int l] ∧ l ≤ n ∧ Q .non H
theorem ok_chkn {f : Addr} {fd : FuncData} (F : Fun K "check_number" "check_number" s_checknumber f fd) : FnOk P w K mg base CX0 1 f fd ["number", "least"] spChkN := by
  refine F.ok sc_checknumber (fun vs H Q E h => ?_) (fun cdv A outer s H vs Q E hr h => ?_)
  · obtain ⟨n, l, rfl, _⟩ := h
    rfl
  · obtain ⟨n, l, rfl, hl, q⟩ := h
    refine ⟨_, (pss_one (ps_if (pt_cmpR op_lt (pv 0) (pv 1) (nomark _))
 (pss_one ps_never)
 pss_nil)), ?_⟩
    refine ⟨_, rfl, _, rfl, _, _, rfl, rfl, _, rfl, ite2 (fun c => ?_) (fun c => q)⟩
    have c' : n < l := of_decide_eq_true c
    omega
/-! ### fewest_steps -/
def spFewest : Sp := fun vs H Q _ => ∃ (l v : Int) (t b : Nat), vs = [.int l, .int v] ∧ 0 ≤ l ∧ 1 ≤ v ∧ v.natAbs < 2 ^ b ∧ b * 2 ^ t ≤ 200000 ∧ l ≤ up t v ∧ (∀ i, i < t → up i v < l) ∧ ∀ H', Same H H' → Q (.int (t : Int)) H'
abbrev FFewest (K : PySem.W.Frag) (f : Addr) (fd : FuncData) : Prop := FunD K "fewest_steps" "fewest_steps" (defArgs s_feweststeps) (defBody s_feweststeps) (defScope s_feweststeps) [.int 1] [] f fd
theorem ok_feweststeps {f : Addr} {fd : FuncData} (F : FFewest K f fd) (B : Bi mg) (D_checknumber : Df P w K mg base 1 "check_number" ["number", "least"] spChkN)
    (D_greatestreachwithone : Df P w K mg base 2 "greatest_reach_with_one" ["longest"] spGrow) : FnOk P w K mg base CX0 3 f fd ["length", "most"] spFewest := by
  refine okD F sc_feweststeps (fun vs H Q E h => ?_) (fun cdv A outer s H vs Q E hr h => ?_)
  · obtain ⟨l, v, t, b, rfl, _⟩ := h
    rfl
  · obtain ⟨l, v, t, b, rfl, h0, hv, hb, hb2, ht, hl, q⟩ := h
    refine ⟨_, (pss_cons (ps_expr (pe_callD D_checknumber (hr.mono (by omega)) (by rfl) (pa_cons (pv 0) (pa_cons pe_int pa_nil))))
 (pss_cons (ps_expr (pe_callD D_checknumber (hr.mono (by omega)) (by rfl) (pa_cons (pv 1) (pa_cons pe_int pa_nil))))
 (pss_cons (ps_set (i := 2) sc_feweststeps.nd rfl (Or.inl rfl) pe_int)
 (pss_cons (ps_set (i := 3) sc_feweststeps.nd rfl (Or.inl rfl) (pv 1))
 (pss_cons (ps_while PassesOwn.never (pt_cmpR op_lt (pv 3) (pv 0) (nomark _))
 (pss_cons (ps_set (i := 3) sc_feweststeps.nd rfl (Or.inl rfl) (pe_callD D_greatestreachwithone (hr.mono (by omega)) (by rfl) (pa_cons (pv 3) pa_nil)))
 (pss_one (ps_aug (i := 2) sc_feweststeps.nd rfl (Or.inl rfl) pe_int ip_add))))
 (pss_one (ps_ret (pv 2)))))))), ?_⟩
    refine ⟨_, rfl, l, 0, rfl, h0, _, rfl, v, 1, rfl, hv, _, rfl, ?_⟩
    refine ⟨fun m σ H' => ∃ i : Nat, i + m = t ∧ Same H H' ∧ σ = [some (.int l), some (.int v), some (.int (i : Int)), some (.int (up i v))], ⟨t, 0, by omega, Same.refl H, rfl⟩, ?_⟩
    rintro m σ H' ⟨i, him, sm, rfl⟩
    refine ⟨_, rfl, _, rfl, up i v, l, rfl, rfl, _, rfl, ?_⟩
    by_cases c : up i v < l
    · rw [decide_eq_true c]
      have hi : i < t := by
        by_cases z : i < t
        · exact z
        · have e : i = t := by omega
          subst e
          omega
      refine iteT ⟨fun σ' H'' => ∃ m', m' < m ∧ ∃ i : Nat, i + m' = t ∧ Same H H'' ∧ σ' = [some (.int l), some (.int v), some (.int (i : Int)), some (.int (up i v))], fun _ _ h => h, ?_⟩
      refine ⟨_, rfl, up i v, b * 2 ^ i, rfl, up_pos hv i, up_bits hv hb i, pow_le_le (by omega) hb2, fun H2 s2 => ⟨_, rfl, (i : Int), 1, rfl, rfl, ?_⟩⟩
      exact ⟨m - 1, by omega, i + 1, by omega, sm.trans s2, rfl⟩
    · rw [decide_eq_false c]
      have e : i = t := by
        by_cases z : i < t
        · exact absurd (hl i z) c
        · omega
      subst e
      exact iteF ⟨_, rfl, q _ sm⟩
/-- a def with one default: given both, or the first alone -/
theorem two_ways {k : Nat} {x : Str} {prm : Arguments} {bd : List Stmt} {scp : Scope} {f : Addr} {fd : FuncData} {a b : Str} {sp : Sp} (F : FunD K x x prm bd scp [.int 1] [] f fd) (G : FnOk P w K mg base CX0 k f fd [a, b] sp) (g : mg x = some (.ref f))
    (h2 : Binds K fd [a, b] []) (h1 : ∃ ds, Vals [V.int 1] ds ∧ Binds K fd [a, b] ds) : Df P w K mg base k x [a, b] sp ∧ Dv P w K mg base k x [a, b] [.int 1] sp := by
  obtain ⟨ds, hd, hb⟩ := h1
  exact ⟨⟨⟨f, fd, G, g, F.kp, h2⟩⟩, ⟨f, fd, ds, G, g, F.kp, hd, hb⟩⟩
theorem fewest_v {f : Addr} {fd : FuncData} (F : FFewest K f fd) (G : FnOk P w K mg base CX0 3 f fd ["length", "most"] spFewest) (g : mg "fewest_steps" = some (.ref f)) : Dv P w K mg base 3 "fewest_steps" ["length", "most"] [.int 1] spFewest := by
  obtain ⟨ds, hd, hb⟩ := F.binds1 (ps := ["length", "most"]) 1 0 (by simp) rfl (fun T kV doc pm an cdv ct us its h1 h2 => match us, its, h1, h2 with | [_], [_], _, _ => ⟨_, rfl, rfl⟩)
  exact ⟨⟨f, fd, ds, G, g, F.kp, hd, hb⟩⟩
end

end Sq

set_option Elab.async false
set_option linter.all false
set_option maxRecDepth 100000
set_option maxHeartbeats 4000000
namespace Sq
open PySem PySem.Spec PyProof.Rows L2
section
variable {P : Program} {w : World} {K : PySem.W.Frag} {mg : Str → Option Value} {base : Heap} {c fI : Nat → Addr} {qn : Nat → Str} {cB : Addr}
def spCheckNumber (c : Nat → Addr) : Sp := fun vs H Q E => ∃ (n l : Int), vs = [.int n, .int l] ∧ (l ≤ n → Q .non H) ∧ (n < l → Wish E (c 1) (.int n) H)
theorem ok_checknumber {f : Addr} {fd : FuncData} (F : Fun K "check_number" "check_number" s_checknumber f fd) (Z : Errs1 P K mg c fI qn cB) : FnOk P w K mg base (L2N.CX P w) 1 f fd ["number", "least"] (spCheckNumber c) := by
  refine okN F sc_checknumber (fun vs H Q E h => ?_) (fun cdv A outer s H vs Q E hr h => ?_)
  · obtain ⟨n, l, rfl, _⟩ := h
    rfl
  · obtain ⟨n, l, rfl, q, e⟩ := h
    refine ⟨_, (pss_one (ps_if (pt_cmpR op_lt (pv 0) (pv 1) (nomark _))
 (pss_one (L2N.ps_raise rfl takesN (pmk_erN (Z.er 1 (by decide)).2 Z.g1 hr (by rfl) (pv 0))))
 pss_nil)), ?_⟩
    refine ⟨_, rfl, _, rfl, _, _, rfl, rfl, _, rfl, ite2 (fun c => ?_) (fun c => ?_)⟩
    · exact ⟨_, rfl, e (of_decide_eq_true c)⟩
    · exact q (by have : ¬ n < l := fun z => c (decide_eq_true z); omega)
end

section
variable {P : Program} {w : World} {K : PySem.W.Frag} {mg : Str → Option Value} {base : Heap} {c fI : Nat → Addr} {qn : Nat → Str} {cB : Addr}
/-- what number is out of range -/
def dueCh (n g L : Int) : Option Int := if n < 0 then some n else if g < 2 then some g else if L < 0 then some L else none
def spChoice (c : Nat → Addr) : Sp := fun vs H Q E => ∃ (n g L : Int), vs = [.int n, .int g, .int L] ∧ (dueCh n g L = none → Q .non H) ∧ (∀ z, dueCh n g L = some z → Wish E (c 1) (.int z) H)
theorem ok_checkchoice {f : Addr} {fd : FuncData} (F : Fun K "check_choice" "check_choice" s_checkchoice f fd) (X_checknumber : Dn P w K mg base 1 "check_number" ["number", "least"] (spCheckNumber c)) :
    FnOk P w K mg base (L2N.CX P w) 2 f fd ["steps", "greatest", "length"] (spChoice c) := by
  refine okN F sc_checkchoice (fun vs H Q E h => ?_) (fun cdv A outer s H vs Q E hr h => ?_)
  · obtain ⟨n, g, L, rfl, _⟩ := h
    rfl
  · obtain ⟨n, g, L, rfl, q, e⟩ := h
    refine ⟨_, (pss_cons (ps_expr (pe_callN X_checknumber takesN (hr.mono (by omega)) (by rfl) (pa_cons (pv 0) (pa_cons pe_int pa_nil))))
 (pss_cons (ps_expr (pe_callN X_checknumber takesN (hr.mono (by omega)) (by rfl) (pa_cons (pv 1) (pa_cons pe_int pa_nil))))
 (pss_one (ps_expr (pe_callN X_checknumber takesN (hr.mono (by omega)) (by rfl) (pa_cons (pv 2) (pa_cons pe_int pa_nil))))))), ?_⟩
    refine ⟨_, rfl, n, 0, rfl, fun h1 => ?_, fun h1 => e n (if_pos h1)⟩
    refine ⟨_, rfl, g, 2, rfl, fun h2 => ?_, fun h2 => e g (by unfold dueCh; rw [if_neg (by omega), if_pos h2])⟩
    refine ⟨_, rfl, L, 0, rfl, fun h3 => q (by unfold dueCh; rw [if_neg (by omega), if_neg (by omega), if_neg (by omega)]), fun h3 => e L (by unfold dueCh; rw [if_neg (by omega), if_neg (by omega), if_pos h3])⟩
def spAfter : Sp := fun vs H Q _ => ∃ (L k : Int), vs = [.int L, .int k] ∧ 2 ≤ k ∧ k < 1073741824 ∧ Q (.int (la L k)) H
theorem ok_longestafter {f : Addr} {fd : FuncData} (F : Fun K "longest_after" "longest_after" s_longestafter f fd) : FnOk P w K mg base CX0 1 f fd ["longest", "number"] spAfter := by
  refine F.ok sc_longestafter (fun vs H Q E h => ?_) (fun cdv A outer s H vs Q E hr h => ?_)
  · obtain ⟨L, k, rfl, _⟩ := h
    rfl
  · obtain ⟨L, k, rfl, h2, h3, q⟩ := h
    refine ⟨_, (pss_cons (ps_if (pt_cmpR op_gt (pv 1) (pv 0) (nomark _))
 (pss_one (ps_ret (pv 0)))
 pss_nil)
 (pss_one (ps_ret (pe_op op_sub (pe_op op_add (pe_op op_fdiv (pe_op op_add (pv 0) pe_int) (pv 1)) (pv 1)) pe_int)))), ?_⟩
    refine ⟨_, rfl, _, rfl, _, _, rfl, rfl, _, rfl, ite2 (fun c => ?_) (fun c => ?_)⟩
    · have c' : L < k := of_decide_eq_true c
      have e : la L k = L := if_pos c'
      rw [e] at q
      exact ⟨_, rfl, q⟩
    · have c' : ¬ L < k := fun z => c (decide_eq_true z)
      have e : la L k = (L + 1) / k + k - 2 := if_neg c'
      rw [e] at q
      exact ⟨_, rfl, L, 1, rfl, rfl, _, rfl, _, k, rfl, rfl, ⟨by omega, h3⟩, _, rfl, _, _, rfl, rfl, _, 2, rfl, rfl, q⟩
end
end Sq

set_option Elab.async false
set_option linter.all false
set_option maxRecDepth 100000
set_option maxHeartbeats 2000000
/-! sorted of a set of ints, any number of members. -/
namespace Sq
open PySem PySem.Spec PyProof.Rows L2
theorem set_sorted {P : Program} {w : World} {A : Around} {E : Value → Shared → Prop} {s : Shared} {a : Addr} {S : Int → Bool} {n : Nat} {Q : Value → Shared → Prop} (R : SetR w s.heap a S n) (quiet : A.handled = none) (few : n ≤ sizeLine)
    (fin : ∀ s' p (got : List Value) (ep : Nat) (ns : List Int), (∀ b o, s.heap.get? b = some o → s'.heap.get? b = some o) → s'.gens = s.gens → s'.os = s.os → s.heap.objs.size ≤ p → s'.heap.get? p = some (seqObj "list" got.toArray ep) →
      IntsAre got ns → ns.Pairwise (· < ·) → (∀ k, k ∈ ns ↔ S k = true) → ns.length = n → Q (.ref p) s') : wpAny (model P w) A (call (.builtin "sorted") [.ref a]) Q E s := by
  obtain ⟨o, es, ep, t, get, exact', data, good, once, mem, bound, fits, size, ris, led⟩ := R
  apply Calls.call_function_entry kind_sorted plain_sorted entry_sorted (args_sorted1 _)
  unfold Builtin.«sorted»
  apply wpAny_bind (m := checkCount "sorted" 1 1 _)
  apply wpAny_pure
  apply wpAny_bind
  refine collect_set (A := A.in1) quiet ⟨o, get, exact'.1, data⟩ fits bound ris led fun s1 vs kept grown gens os perm => ?_
  have len : vs.length = n := by
    rw [perm.length_eq, List.length_map, Array.length_toList]
    exact size
  have areInts : IntsAre vs (vs.map Builtin.Re.reRawOf) := ints_of vs fun v hv => by
    obtain ⟨e, he, q⟩ := List.mem_map.mp (perm.mem_iff.mp hv)
    obtain ⟨k, tk, h1, _⟩ := good e he
    exact ⟨k, tk, q ▸ h1⟩
  have keys : (vs.map Builtin.Re.reRawOf).Perm (es.toList.map keyOf) := by
    have := perm.map Builtin.Re.reRawOf
    rwa [List.map_map] at this
  apply wpAny_bind
  refine wpAny_newList ?_ (by omega)
  have fresh : (s1.heap.push (seqObj "list" vs.toArray 0)).get? s1.heap.objs.size = some (seqObj "list" vs.toArray 0) := Heap.get?_push_size _ rfl
  apply wpAny_bind
  apply wpAny_holding
  refine wpAny_call_entry slot_list_sort ⟨_, fresh, rfl⟩ entry_list_sort ?_ (args_list_sort _)
  refine SrtO.list_sort_ord SrtO.swo_int fresh (by omega) (fun two => SrtO.ints_sortable areInts two) fun out up stable => ⟨_, rfl, ?_⟩
  obtain ⟨i1, i2, i3⟩ := SrtO.ints_out areInts up stable
  obtain ⟨c, hc⟩ := sortedHeap_at (vs := vs) (out := out.toArray) fresh
  have all := i2.trans keys
  apply wpAny_pure
  refine ⟨_, rfl, fin _ s1.heap.objs.size out c (out.map SrtO.iv) (fun b u e => ?_) gens os grown hc i1 (lt_of_le_nodup _ i3 (all.nodup_iff.mpr once)) (fun k => by rw [all.mem_iff, ← mem k]) ?_⟩
  · have old := kept b u e
    have lt := Heap.lt_size old
    refine (sortedHeap_old (Nat.ne_of_lt lt) ?_).trans (Heap.get?_push_of_some _ old)
    rw [size_push']
    exact Nat.lt_succ_of_lt lt
  · rw [all.length_eq, List.length_map, Array.length_toList, size]
def rSortedSetI (w : World) : List V → Hp → VK → Prop := fun vs H Q => ∃ (a : Addr) (S : Int → Bool) (n : Nat), vs = [V.ref a] ∧ H a = some (SetO w a S n) ∧ n ≤ sizeLine ∧
  ∀ (ns : List Int) (p : Addr), ns.Pairwise (· < ·) → (∀ k : Int, k ∈ ns ↔ S k = true) → ns.length = n → H p = none → Q (.ref p) (upd H p (.lst (ns.map V.int)))
theorem cr_sortedSetI {X : Cx} (hc : X.calm = true) : CallR X (.builtin "sorted") (rSortedSetI X.w) := by
  intro pins s σ H vs us Q I r h
  obtain ⟨a, S, n, rfl, ha, few, q⟩ := h
  rw [Vals.ref1 r]
  refine set_sorted (setO_get I ha) (I.ok.hd hc) few fun s' p got ep ns kept g os lp hg areI up mem len => ?_
  have free : H p = none := I.hok.fresh lp
  have sz : (ns.map V.int).length ≤ sizeLine := by
    rw [List.length_map]
    omega
  have same : s' = { s with heap := s'.heap, gens := s'.gens, drawn := s'.drawn, toks := s'.toks } := by
    cases s'
    cases s
    cases os
    rfl
  rw [same]
  exact ⟨.ref p, upd H p (.lst (ns.map V.int)), I.call (ch := []) (Un.laid kept lp free) (I.hok.laid kept lp ⟨sz, got, ep, vals_of_ints areI, hg⟩) (by rw [g]; exact I.bare) (fun _ z => nomatch z), rfl, q ns p up mem len free⟩
end Sq

set_option Elab.async false
set_option linter.all false
set_option maxRecDepth 100000
set_option maxHeartbeats 4000000
namespace Sq
open PySem PySem.Spec PyProof.Rows L2

theorem z1 : 1 ≤ sizeLine := Nat.le_of_lt (small1000 (by decide))
theorem atI_last {α : Type} (xs : List α) (v : α) (h : xs.getLast? = some v) : atI xs (-1) = some v := by
  obtain ⟨ys, rfl⟩ : ∃ ys, xs = ys ++ [v] := by
    rw [List.getLast?_eq_some_iff] at h
    exact h
  have hl : (ys ++ [v]).length = ys.length + 1 := by simp
  have e : ixN (ys ++ [v]).length (-1) = some ys.length := by
    unfold ixN
    rw [hl, if_neg (by decide), if_pos (by omega)]
    congr 1
    omega
  unfold atI
  rw [e]
  show (ys ++ [v])[ys.length]? = some v
  simp
/-- how many steps a length needs -/
theorem steps_of {l : Int} (h1 : l ≤ 53590) : ∃ t : Nat, t ≤ 6 ∧ l ≤ up t 1 ∧ ∀ i, i < t → up i 1 < l := by
  suffices h : ∀ n : Nat, l ≤ up n 1 → ∃ t : Nat, t ≤ n ∧ l ≤ up t 1 ∧ ∀ i, i < t → up i 1 < l from h 6 (by rw [show up 6 1 = 53590 by decide]; exact h1)
  intro n
  induction n with
  | zero => exact fun h => ⟨0, Nat.le_refl _, h, fun i hi => absurd hi (Nat.not_lt_zero _)⟩
  | succ n ih =>
    intro h
    by_cases c : l ≤ up n 1
    · obtain ⟨t, a, b⟩ := ih c
      exact ⟨t, by omega, b⟩
    · refine ⟨n + 1, Nat.le_refl _, h, fun i hi => ?_⟩
      have := up_mono (v := 1) (by decide) (i := i) (j := n) (by omega)
      omega
theorem steps_iff {l : Int} {t m : Nat} (h : l ≤ up t 1) (h2 : ∀ i, i < t → up i 1 < l) : t ≤ m ↔ l ≤ up m 1 := by
  constructor
  · intro z
    exact Int.le_trans h (up_mono (by decide) z)
  · intro z
    by_cases c : t ≤ m
    · exact c
    · have := h2 m (by omega)
      omega
/-- how long the runs are behind one replacement -/
theorem la_half {L k : Int} (h2 : 2 ≤ k) (h60 : k ≤ 60) (h0 : 0 ≤ L) : la L k ≤ (L + 1) / 2 + 58 := by
  unfold la
  split
  · omega
  · have : (L + 1) / k ≤ (L + 1) / 2 := by
      have q0 : 0 ≤ (L + 1) / k := Int.ediv_nonneg (by omega) (by omega)
      refine (Int.le_ediv_iff_mul_le (by decide)).mpr ?_
      have e := Int.mul_ediv_add_emod (L + 1) k
      have m := Int.emod_nonneg (L + 1) (by omega : k ≠ 0)
      have : (L + 1) / k * 2 ≤ k * ((L + 1) / k) := by
        rw [Int.mul_comm]
        exact Int.mul_le_mul_of_nonneg_right h2 q0
      omega
    omega
structure Lens5 (n : Nat) (g L : Int) (i : Nat) (rows : List (List Int)) : Prop where
  len : rows.length = i + 1
  zero : rows[0]? = some [L]
  asc : ∀ (p : Nat) (r : List Int), rows[p]? = some r → r.Pairwise (· < ·)
  mem : ∀ (p : Nat) (r : List Int), rows[p]? = some r → ∀ x ∈ r, 0 ≤ x ∧ x ≤ L
  next : ∀ (p : Nat) (r r' : List Int), rows[p]? = some r → rows[p + 1]? = some r' → ∀ x, x ∈ r' ↔ (∃ l ∈ r, ∃ k, 2 ≤ k ∧ k ≤ g ∧ x = la l k) ∧ x ≤ up (n - (p + 1)) 1
  short : ∀ (p : Nat) (r : List Int), rows[p]? = some r → 1 ≤ p → ∀ x ∈ r, x ≤ 5058
theorem Lens5.start {n : Nat} {g L : Int} (h0 : 0 ≤ L) : Lens5 n g L 0 [[L]] where
  len := rfl
  zero := rfl
  asc := fun p r e => by
    match p, e with
    | 0, e => cases e; exact List.pairwise_singleton _ _
  mem := fun p r e x hx => by
    match p, e with
    | 0, e =>
      cases e
      rw [List.mem_singleton.mp hx]
      exact ⟨h0, Int.le_refl _⟩
  next := fun p r r' e e' => by
    match p, e' with
    | 0, e' => cases e'
    | p + 1, e' => cases e'
  short := fun p r e h1 => by
    match p, e, h1 with
    | 0, _, h1 => omega
/-- one place more -/
theorem Lens5.more {n : Nat} {g L : Int} {i : Nat} {rows : List (List Int)} {r : List Int} {ns : List Int} (S : Lens5 n g L i rows) (hr : rows[i]? = some r) (h0 : 0 ≤ L) (hi : i < n) (L1 : L ≤ 10000) (g60 : g ≤ 60)
    (asc : ns.Pairwise (· < ·)) (mem : ∀ x, x ∈ ns ↔ ∃ l ∈ r, ∃ k, 2 ≤ k ∧ k ≤ g ∧ x = la l k) :
    Lens5 n g L (i + 1) (rows ++ [ns.filter fun x => decide (x ≤ up (n - (i + 1)) 1)]) := by
  have len := S.len
  have last : ∀ p q, (rows ++ [ns.filter fun x => decide (x ≤ up (n - (i + 1)) 1)])[p]? = some q → rows[p]? = some q ∨ (p = i + 1 ∧ q = ns.filter fun x => decide (x ≤ up (n - (i + 1)) 1)) := fun p q e => by
    by_cases c : p < rows.length
    · rw [List.getElem?_append_left c] at e
      exact .inl e
    · rw [List.getElem?_append_right (by omega)] at e
      have hp : p = rows.length := by
        have := (List.getElem?_eq_some_iff.mp e).1
        simp at this
        omega
      rw [hp, Nat.sub_self] at e
      cases e
      exact .inr ⟨by omega, rfl⟩
  have bnd : ∀ x ∈ ns, 0 ≤ x ∧ x ≤ L := fun x hx => by
    obtain ⟨l, hl, k, k1, k2, rfl⟩ := (mem x).mp hx
    have a := S.mem i r hr l hl
    have b := la_le k1 a.1
    omega
  have sub : ∀ x ∈ ns.filter (fun x => decide (x ≤ up (n - (i + 1)) 1)), x ∈ ns ∧ x ≤ up (n - (i + 1)) 1 := fun x hx => by
    obtain ⟨a, b⟩ := List.mem_filter.mp hx
    exact ⟨a, of_decide_eq_true b⟩
  refine ⟨by rw [List.length_append, len]; rfl, ?_, fun p q e => ?_, fun p q e x hx => ?_, fun p q q' e e' x => ?_, ?_⟩
  · rw [List.getElem?_append_left (by omega)]
    exact S.zero
  · rcases last p q e with e | ⟨_, rfl⟩
    · exact S.asc p q e
    · exact asc.filter _
  · rcases last p q e with e | ⟨_, rfl⟩
    · exact S.mem p q e x hx
    · exact bnd x (sub x hx).1
  · rcases last (p + 1) q' e' with e' | ⟨hp, rfl⟩
    · have lt := (List.getElem?_eq_some_iff.mp e').1
      rcases last p q e with e | ⟨hp, _⟩
      · exact S.next p q q' e e' x
      · omega
    · have hp' : p = i := by omega
      subst hp'
      rcases last p q e with e | ⟨hp, _⟩
      · rw [hr] at e
        cases e
        rw [List.mem_filter, mem x, decide_eq_true_eq]
      · omega
  · intro p q e h1 x hx
    rcases last p q e with e | ⟨hp, rfl⟩
    · exact S.short p q e h1 x hx
    · obtain ⟨l, hl, k, k1, k2, rfl⟩ := (mem x).mp (sub x hx).1
      have a := S.mem i r hr l hl
      have := la_half k1 (by omega : k ≤ 60) a.1
      omega
section
variable {P : Program} {w : World} {K : PySem.W.Frag} {mg : Str → Option Value} {base : Heap}
def spLengths : Sp := fun vs H Q _ => ∃ (n : Nat) (g L : Int), vs = [.int (n : Int), .int g, .int L] ∧ n ≤ 1000 ∧ 2 ≤ g ∧ g ≤ 1000 ∧ 0 ≤ L ∧ L ≤ 10000 ∧ (n ≤ 8 ∧ g ≤ 60) ∧
  ∀ d as rows H', H d = none → Same H H' → Lens5 n g L n rows → H' d = some (.lst (as.map V.ref)) → RowsAt H' as rows → Q (.ref d) H'
theorem ok_lengths {f : Addr} {fd : FuncData} (F : Fun K "lengths_by_place" "lengths_by_place" s_lengthsbyplace f fd) (B : Bi mg) (D_longestafter : Df P w K mg base 1 "longest_after" ["longest", "number"] spAfter)
    (V_feweststeps : Dv P w K mg base 3 "fewest_steps" ["length", "most"] [.int 1] spFewest) : FnOk P w K mg base CX0 4 f fd ["steps", "greatest", "length"] spLengths := by
  refine F.ok sc_lengthsbyplace (fun vs H Q E h => ?_) (fun cdv A outer s H vs Q E hr h => ?_)
  · obtain ⟨n, g, L, rfl, _⟩ := h
    rfl
  · obtain ⟨n, g, L, rfl, n1, g1, g2, L0, L1, ⟨n8, g60⟩, q⟩ := h
    refine ⟨_, (pss_cons (ps_set (i := 3) sc_lengthsbyplace.nd rfl (Or.inl rfl) (pe_lst (pa_cons (pe_lst (pa_cons (pv 2) pa_nil)) pa_nil)))
 (pss_cons (ps_for PassesOwn.never rfl (pi_range2 (by rfl) B.n_range (pa_cons pe_int (pa_cons (pe_op op_add (pv 0) pe_int) pa_nil))) (pg_name (i := 4) sc_lengthsbyplace.nd rfl (Or.inr rfl))
 (pss_cons (ps_set (i := 5) sc_lengthsbyplace.nd rfl (Or.inl rfl) (pe_callB (id := "sorted") (r := rSortedSetI w) (cr_sortedSetI rfl) (by rfl) B.n_sorted (by decide +kernel) (pa_cons (pe_sc2 (own := [("longest", 6), ("number", 7)]) (vsB := [7]) (g := gName 6) (gB := gName 7) rfl sc_lengthsbyplace.nd (pi_list (pe_ix (r := rIxL K) ix_list (pv 3) (pe_un un_neg pe_int) (fun _ _ => rfl))) (blkOk_by (own := [("longest", 6), ("number", 7)]) (N := ["steps", "greatest", "length", "lengths", "place", "after", "longest", "number"]) (sc := defScope s_lengthsbyplace) (by decide +kernel)) (by decide) (fun _ _ _ _ _ => (pg_name (i := 6) sc_lengthsbyplace.nd rfl (Or.inl rfl))) (fun _ _ _ _ _ => pts_nil) (fun _ _ _ _ _ => (pi_range2 (by rfl) B.n_range (pa_cons pe_int (pa_cons (pe_op op_add (pv 1) pe_int) pa_nil)))) (fun _ _ _ _ _ => (pg_name (i := 7) sc_lengthsbyplace.nd rfl (Or.inl rfl))) (fun _ _ _ _ _ => pts_nil) (fun _ _ _ _ _ => (pe_callD D_longestafter (hr.mono (by omega)) (by rfl) (pa_cons (pv 6) (pa_cons (pv 7) pa_nil))))) pa_nil)))
 (pss_one (ps_expr (pe_bm PySem.F.plainAttrs_list PySem.F.slot_list_append PySem.F.type_list_append mt_append (pv 3) (pa_cons (pe_lc (own := [("longest", 6)]) (g := gName 6) rfl sc_lengthsbyplace.nd (pi_list (pv 5)) (blkOk_by (own := [("longest", 6)]) (N := ["steps", "greatest", "length", "lengths", "place", "after", "longest", "number"]) (sc := defScope s_lengthsbyplace) (by decide +kernel)) (fun _ _ _ _ _ => (pg_name (i := 6) sc_lengthsbyplace.nd rfl (Or.inl rfl))) (fun _ _ _ _ _ => pts_one (pt_cmpR op_le (pe_callV V_feweststeps (hr.mono (by omega)) (by rfl) (pa_cons (pv 6) pa_nil)) (pe_op op_sub (pv 0) (pv 4)) (nomark _))) (fun _ _ _ _ _ => (pv 6))) pa_nil))))))
 (pss_one (ps_ret (pv 3))))), ?_⟩
    refine ⟨_, rfl, z1, fun d0 hd0 => ⟨z1, fun d hd => ?_⟩⟩
    have s0 := (same_new (o := .lst [.int L]) hd0).trans (same_new (o := .lst [.ref d0]) hd)
    have g0 := same_new (o := .lst [.ref d0]) hd _ _ (show upd H d0 (.lst [.int L]) d0 = _ from upd_same)
    have hdH : H d = none := (same_new (o := .lst [.int L]) hd0).free hd
    refine ⟨_, rfl, (n : Int), 1, rfl, rfl, 1, (n : Int) + 1, rfl, ⟨by decide, by decide, by omega, by omega⟩, for_range (lo := 1) (n := ((n : Int) + 1 - 1).toNat) (fun i σ H' => ∃ as rows y4 y5 y6 y7, σ = [some (.int (n : Int)), some (.int g), some (.int L), some (.ref d), y4, y5, y6, y7] ∧ (∀ b o, H b = some o → H' b = some o) ∧ Lens5 n g L i rows ∧ H' d = some (.lst (as.map V.ref)) ∧ RowsAt H' as rows ∧ d ∉ as)
      ⟨[d0], [[L]], none, none, none, none, rfl, s0, Lens5.start L0, upd_same, ⟨g0, trivial⟩, fun z => by
        rw [List.mem_singleton.mp z, upd_same] at hd
        cases hd⟩ ?_ ?_⟩
    · rintro i σ H1 hi ⟨as, rows, y4, y5, y6, y7, rfl, s1, S, gd, R, nd⟩
      have hi' : i < n := by omega
      have lenr := S.len
      have lena := R.len
      obtain ⟨r, hr⟩ : ∃ r, rows[i]? = some r := ⟨rows[i], List.getElem?_eq_getElem (by omega)⟩
      obtain ⟨ra, hra, gra⟩ := R.get hr
      have lastA : (as.map V.ref).getLast? = some (.ref ra) := by
        rw [List.getLast?_eq_getElem?, List.length_map, List.getElem?_map, show as.length - 1 = i by omega, hra]
        rfl
      have rmem := S.mem i r hr
      -- the set of the lengths behind
      refine ⟨_, rfl, 1, rfl, d, _, -1, .ref ra, rfl, rfl, SqL.of gd, atI_last _ _ lastA, ra, rfl, ⟨_, SqL.of gra⟩, fun D hD => ?_⟩
      have fill : ∀ vs : List Int, (∀ x ∈ vs, ∃ l ∈ r, ∃ k, 2 ≤ k ∧ k ≤ g ∧ x = la l k) → vs.length ≤ r.length * (g - 1).toNat → (dd vs).length ≤ 2600 ∧ (dd vs).length + 1 < scanBound := fun vs hv hl => by
        have e4 : scanBound = 4096 := rfl
        have a := (dd_nodup vs).2
        by_cases z : i = 0
        · have er : r = [L] := by
            rw [z] at hr
            rw [S.zero] at hr
            exact (Option.some.inj hr).symm
          rw [er] at hl
          have h1 : [L].length = 1 := rfl
          rw [h1] at hl
          omega
        · have b := few_ints (L := 2587) (dd_nodup vs).1 (fun x hx => by
            obtain ⟨l, hl, k, k1, k2, rfl⟩ := hv x ((dd_mem vs x).mp hx)
            have m := rmem l hl
            have sh := S.short i r hr (by omega) l hl
            have h := la_half k1 (by omega : k ≤ 60) m.1
            have lo := la_le k1 m.1
            omega) (by decide)
          have : (2587 : Int).toNat + 1 = 2588 := rfl
          omega
      refine walkL (K := K) (a := ra) (xs := r.map V.int) (fun a H' => (∀ b o, H1 b = some o → H' b = some o) ∧ H' D = some (SetO w D (fun j => decide (j ∈ dd ((r.take a).flatMap fun l => (cand g).map (la l)))) (dd ((r.take a).flatMap fun l => (cand g).map (la l))).length))
        ⟨same_new hD, ?_⟩ (fun a H' _ h => SqL.of (h.1 _ _ gra)) ?_ ?_
      · rw [upd_same]
        rfl
      · rintro a x H2 hx ⟨s2, gD⟩
        obtain ⟨l, hl, rfl⟩ := map_at hx
        have lb := rmem l (List.mem_of_getElem? hl)
        have al : a < r.length := (List.getElem?_eq_some_iff.mp hl).1
        have inb : ∀ b, b ≤ (g - 1).toNat → (∀ x ∈ ((r.take a).flatMap fun l => (cand g).map (la l)) ++ ((cand g).take b).map (la l), ∃ l ∈ r, ∃ k, 2 ≤ k ∧ k ≤ g ∧ x = la l k) ∧ (((r.take a).flatMap fun l => (cand g).map (la l)) ++ ((cand g).take b).map (la l)).length ≤ r.length * (g - 1).toNat := fun b hb => by
          refine ⟨fun x hx => ?_, ?_⟩
          · rcases List.mem_append.mp hx with h | h
            · obtain ⟨l', hl', h⟩ := List.mem_flatMap.mp h
              obtain ⟨k, hk, rfl⟩ := List.mem_map.mp h
              exact ⟨l', List.mem_of_mem_take hl', k, (mem_cand.mp hk).1, (mem_cand.mp hk).2, rfl⟩
            · obtain ⟨k, hk, rfl⟩ := List.mem_map.mp h
              have hk' := mem_cand.mp (List.mem_of_mem_take hk)
              exact ⟨l, List.mem_of_getElem? hl, k, hk'.1, hk'.2, rfl⟩
          · rw [List.length_append, List.length_map, List.length_take, cand_len]
            have e : ∀ ys : List Int, (ys.flatMap fun l => (cand g).map (la l)).length = ys.length * (g - 1).toNat := fun ys => by
              induction ys with
              | nil => exact (Nat.zero_mul _).symm
              | cons y ys ih => rw [List.flatMap_cons, List.length_append, ih, List.length_map, cand_len, List.length_cons, Nat.add_mul, Nat.one_mul, Nat.add_comm]
            rw [e, List.length_take]
            have m : (a + 1) * (g - 1).toNat ≤ r.length * (g - 1).toNat := Nat.mul_le_mul_right _ al
            rw [Nat.add_mul, Nat.one_mul] at m
            rw [Nat.min_eq_left (Nat.le_of_lt al)]
            omega
        refine ⟨rfl, _, rfl, g, 1, rfl, rfl, 2, g + 1, rfl, ⟨by decide, by decide, by omega, by omega⟩, walkR (lo := 2) (n := (g + 1 - 2).toNat) (fun b H' => (∀ b o, H1 b = some o → H' b = some o) ∧ H' D = some (SetO w D (fun j => decide (j ∈ dd (((r.take a).flatMap fun l => (cand g).map (la l)) ++ ((cand g).take b).map (la l)))) (dd (((r.take a).flatMap fun l => (cand g).map (la l)) ++ ((cand g).take b).map (la l))).length))
          ⟨s2, by rw [List.take_zero, List.map_nil, List.append_nil]; exact gD⟩ ?_ ?_⟩
        · rintro b H3 hb ⟨s3, gD3⟩
          have hb' : b < (g - 1).toNat := by omega
          have ec : (cand g).take (b + 1) = (cand g).take b ++ [2 + (b : Int)] := by
            rw [List.take_add_one]
            congr 1
            unfold cand
            rw [List.getElem?_map, List.getElem?_range (by omega)]
            rfl
          obtain ⟨f1, f2⟩ := inb b (Nat.le_of_lt hb')
          have room := (fill _ f1 f2).2
          refine ⟨rfl, _, rfl, _, rfl, l, 2 + (b : Int), rfl, by omega, by omega, la l (2 + (b : Int)), _, _, rfl, gD3, room, fun c o e => ?_, ?_⟩
          · rw [upd_ne (ne_of_none e hD)]
            exact s3 _ _ e
          · rw [upd_same, ec, List.map_append, ← List.append_assoc]
            obtain ⟨d1, d2⟩ := dd_set (((r.take a).flatMap fun l => (cand g).map (la l)) ++ ((cand g).take b).map (la l)) (la l (2 + (b : Int)))
            rw [d1, d2]
            rfl
        · rintro H3 ⟨s3, gD3⟩
          refine ⟨s3, ?_⟩
          have e1 : (cand g).take (g + 1 - 2).toNat = cand g := List.take_of_length_le (by rw [cand_len]; omega)
          rw [e1] at gD3
          rw [List.take_add_one, hl]
          show H3 D = some (SetO w D (fun j => decide (j ∈ dd ((r.take a ++ [l]).flatMap fun l => (cand g).map (la l)))) (dd ((r.take a ++ [l]).flatMap fun l => (cand g).map (la l))).length)
          rw [List.flatMap_append, List.flatMap_singleton]
          exact gD3
      · rintro H2 ⟨s2, gD⟩
        rw [List.length_map, List.take_length] at gD
        obtain ⟨vs, evs⟩ : ∃ vs, vs = r.flatMap fun l => (cand g).map (la l) := ⟨_, rfl⟩
        rw [← evs] at gD
        have vmem : ∀ x, x ∈ vs ↔ ∃ l ∈ r, ∃ k, 2 ≤ k ∧ k ≤ g ∧ x = la l k := fun x => by
          rw [evs, List.mem_flatMap]
          constructor
          · rintro ⟨l, hl, h⟩
            obtain ⟨k, hk, rfl⟩ := List.mem_map.mp h
            exact ⟨l, hl, k, (mem_cand.mp hk).1, (mem_cand.mp hk).2, rfl⟩
          · rintro ⟨l, hl, k, k1, k2, rfl⟩
            exact ⟨l, hl, List.mem_map.mpr ⟨k, mem_cand.mpr ⟨k1, k2⟩, rfl⟩⟩
        have vlen : vs.length = r.length * (g - 1).toNat := by
          rw [evs]
          have e : ∀ ys : List Int, (ys.flatMap fun l => (cand g).map (la l)).length = ys.length * (g - 1).toNat := fun ys => by
            induction ys with
            | nil => exact (Nat.zero_mul _).symm
            | cons y ys ih => rw [List.flatMap_cons, List.length_append, ih, List.length_map, cand_len, List.length_cons, Nat.add_mul, Nat.one_mul, Nat.add_comm]
          exact e r
        have vbd : ∀ x ∈ vs, 0 ≤ x ∧ x ≤ L := fun x hx => by
          obtain ⟨l, hl, k, k1, k2, rfl⟩ := (vmem x).mp hx
          have b1 := rmem l hl
          have b2 := la_le k1 b1.1
          omega
        refine ⟨D, _, _, rfl, gD, Nat.le_trans (fill vs (fun x hx => (vmem x).mp hx) (Nat.le_of_eq vlen)).1 (by rw [sizeLine_eq]; decide), fun ns p asc mem len hp => ?_⟩
        have nmem : ∀ x, x ∈ ns ↔ ∃ l ∈ r, ∃ k, 2 ≤ k ∧ k ≤ g ∧ x = la l k := fun x => by
          rw [mem x, decide_eq_true_eq, dd_mem, vmem]
        have nfew : ns.length ≤ r.length * (g - 1).toNat := by
          rw [len, ← vlen]
          exact (dd_nodup vs).2
        have n64 : ns.length ≤ 2600 := by
          rw [len]
          exact (fill vs (fun x hx => (vmem x).mp hx) (Nat.le_of_eq vlen)).1
        have nbd : ∀ x ∈ ns, 0 ≤ x ∧ x ≤ L := fun x hx => by
          have := (mem x).mp hx
          rw [decide_eq_true_eq, dd_mem] at this
          exact vbd x this
        have s3 : ∀ b o, H1 b = some o → (upd H2 p (.lst (ns.map V.int))) b = some o := fun b o e => same_new hp _ _ (s2 b o e)
        have gp3 : (upd H2 p (.lst (ns.map V.int))) p = some (.lst (ns.map V.int)) := upd_same
        generalize upd H2 p (.lst (ns.map V.int)) = H3 at s3 gp3 ⊢
        refine ⟨_, rfl, .inl ⟨rfl, _, SqL.of (s3 _ _ gd)⟩, _, rfl, p, rfl, ⟨_, SqL.of gp3⟩, fun D2 hD2 => lc_list (K := K) (a := p) (xs := ns.map V.int) (fun m H' => Same H3 H' ∧ H' D2 = some (.lst (((ns.take m).filter fun x => decide (x ≤ up (n - (i + 1)) 1)).map V.int)))
          ⟨same_new hD2, upd_same⟩ (fun m H' _ h => SqL.of (h.1 _ _ gp3)) ?_ ?_⟩
        · rintro m x H4 hx ⟨s4, gD2⟩
          obtain ⟨y, hy, rfl⟩ := map_at hx
          have yb := nbd y (List.mem_of_getElem? hy)
          obtain ⟨t, t6, tu, tl⟩ := steps_of (l := y) (by omega)
          have ml : m < ns.length := (List.getElem?_eq_some_iff.mp hy).1
          have et : ns.take (m + 1) = ns.take m ++ [y] := by rw [List.take_add_one, hy]; rfl
          refine ⟨rfl, _, rfl, y, 1, t, 1, rfl, yb.1, by decide, by decide, ?_, tu, tl, fun H5 s5 => ?_⟩
          · have : (2 : Nat) ^ t ≤ 2 ^ 6 := Nat.pow_le_pow_right (by decide) t6
            omega
          · refine ⟨_, rfl, _, rfl, (n : Int), 1 + (i : Int), rfl, rfl, (t : Int), (n : Int) - (1 + (i : Int)), rfl, rfl, _, rfl, ite2 (fun c => ?_) (fun c => ?_)⟩
            · have c' : (t : Int) ≤ (n : Int) - (1 + (i : Int)) := of_decide_eq_true c
              have c2 : y ≤ up (n - (i + 1)) 1 := (steps_iff tu tl).mp (by omega)
              refine ⟨_, rfl, _, s5 _ _ gD2, ?_, fun b o e => ?_, ?_⟩
              · rw [List.length_map]
                have := List.length_filter_le (fun x => decide (x ≤ up (n - (i + 1)) 1)) (ns.take m)
                rw [List.length_take] at this
                have e2 : sizeLine = 16777216 := sizeLine_eq
                omega
              · rw [upd_ne (ne_of_none e hD2)]
                exact s5 _ _ (s4 _ _ e)
              · rw [upd_same, et, List.filter_append, List.map_append, List.filter_cons, if_pos (by simpa using c2)]
                rfl
            · have c' : ¬ (t : Int) ≤ (n : Int) - (1 + (i : Int)) := fun z => c (decide_eq_true z)
              have c2 : ¬ y ≤ up (n - (i + 1)) 1 := fun z => c' (by have := (steps_iff tu tl).mpr z; omega)
              refine ⟨s4.trans s5, ?_⟩
              rw [et, List.filter_append, List.map_append, List.filter_cons, if_neg (by simpa using c2)]
              show H5 D2 = some (.lst (_ ++ []))
              rw [List.append_nil]
              exact s5 _ _ gD2
        · rintro H4 ⟨s4, gD2⟩
          rw [List.length_map, List.take_length] at gD2
          have gd4 := s4 _ _ (s3 _ _ gd)
          refine ⟨d, _, _, rfl, rfl, gd4, (by rw [List.length_map, lena, lenr]; exact small1000 (by omega)), ?_⟩
          have ndD2 : d ≠ D2 := ne_of_none (s3 _ _ gd) hD2
          refine ⟨as ++ [D2], rows ++ [ns.filter fun x => decide (x ≤ up (n - (i + 1)) 1)], _, _, _, _, rfl, fun b o e => ?_, S.more hr L0 hi' L1 g60 asc nmem, ?_, ?_, fun z => ?_⟩
          · rw [upd_ne (ne_of_none e hdH)]
            exact s4 _ _ (s3 _ _ (s1 _ _ e))
          · rw [upd_same, List.map_append]
            rfl
          · refine ((R.same (fun b o e => s4 _ _ (s3 b o e))).upd nd).app ⟨?_, trivial⟩
            rw [upd_ne ndD2.symm]
            exact gD2
          · rcases List.mem_append.mp z with z | z
            · exact nd z
            · exact ndD2 (List.mem_singleton.mp z)
    · rintro σ H1 ⟨as, rows, y4, y5, y6, y7, rfl, s1, S, gd, R, nd⟩
      rw [show ((n : Int) + 1 - 1).toNat = n by omega] at S
      exact ⟨_, rfl, q d as rows H1 hdH s1 S gd R⟩
end
end Sq

set_option Elab.async false
set_option linter.all false
set_option maxRecDepth 100000
set_option maxHeartbeats 4000000
namespace Sq
open PySem PySem.Spec PyProof.Rows L2
/-- a dict over these keys -/
def kvF (xs : List Int) (f : Int → Int) : List (Key × V) := xs.map fun x => (.inl x, .int (f x))
theorem valV_kvF (f : Int → Int) (k : Int) : ∀ xs : List Int, valV (kvF xs f) (.inl k) = if k ∈ xs then some (.int (f k)) else none
  | [] => rfl
  | x :: xs => by
    show valV ((.inl x, .int (f x)) :: kvF xs f) (.inl k) = _
    by_cases c : x = k
    · subst c
      rw [valV_pos rfl, if_pos (List.mem_cons_self ..)]
    · rw [valV_neg (by intro z; cases z; exact c rfl), valV_kvF f k xs]
      by_cases m : k ∈ xs
      · rw [if_pos m, if_pos (List.mem_cons_of_mem _ m)]
      · rw [if_neg m, if_neg (by
          intro z
          rcases List.mem_cons.mp z with z | z
          · exact c z.symm
          · exact m z)]
theorem kvF_put (f : Int → Int) {xs : List Int} {y : Int} (h : y ∉ xs) : putK (kvF xs f) (.inl y) (.int (f y)) = kvF (xs ++ [y]) f := by
  rw [putK_new _ (by rw [valV_kvF, if_neg h])]
  unfold kvF
  rw [List.map_append]
  rfl
theorem nodup_take {xs : List Int} (h : xs.Nodup) {i : Nat} {y : Int} (e : xs[i]? = some y) : y ∉ xs.take i := fun z => by
  have h2 : (xs.take i ++ xs.drop i).Nodup := by rw [List.take_append_drop]; exact h
  have m : y ∈ xs.drop i := by
    obtain ⟨hi, ei⟩ := List.getElem?_eq_some_iff.mp e
    rw [List.drop_eq_getElem_cons hi, ei]
    exact List.mem_cons_self ..
  exact (List.nodup_append.mp h2).2.2 y z y m rfl
section
variable {P : Program} {w : World} {K : PySem.W.Frag} {mg : Str → Option Value} {base : Heap}
def spBefore (K : PySem.W.Frag) : Sp := fun vs H Q _ => ∃ (a e : Addr) (xs : List Int) (g : Int) (kvs : List (Key × V)) (c : Int → Nat), vs = [.ref a, .int g, .ref e] ∧ SqL K H a (xs.map V.int) ∧ H e = some (.dK kvs) ∧ xs.Nodup ∧ xs.length ≤ 20000 ∧ 2 ≤ g ∧ g ≤ 1000 ∧
  (∀ x ∈ xs, ∀ k, 2 ≤ k → k ≤ g → (valV kvs (.inl (la x k))).getD (.int 0) = .int (c (la x k))) ∧
  ∀ p H', H p = none → Same H H' → H' p = some (.dK (kvF xs fun x => (((cand g).map fun k => c (la x k)).sum : Nat))) → Q (.ref p) H'
theorem ok_before {f : Addr} {fd : FuncData} (F : Fun K "counts_before" "counts_before" s_countsbefore f fd) (B : Bi mg) (D_longestafter : Df P w K mg base 1 "longest_after" ["longest", "number"] spAfter) : FnOk P w K mg base CX0 2 f fd ["lengths", "greatest", "counts"] (spBefore K) := by
  refine F.ok sc_countsbefore (fun vs H Q E h => ?_) (fun cdv A outer s H vs Q E hr h => ?_)
  · obtain ⟨a, e, xs, g, kvs, c, rfl, _⟩ := h
    rfl
  · obtain ⟨a, e, xs, g, kvs, c, rfl, hS, he, nd, hl, g1, g2, hc, q⟩ := h
    refine ⟨_, (pss_cons (ps_set (i := 3) sc_countsbefore.nd rfl (Or.inl rfl) pe_dnewK)
 (pss_cons (ps_for PassesOwn.never rfl (pi_list (pv 0)) (pg_name (i := 4) sc_countsbefore.nd rfl (Or.inl rfl))
 (pss_cons (ps_set (i := 5) sc_countsbefore.nd rfl (Or.inl rfl) pe_int)
 (pss_cons (ps_for PassesOwn.never rfl (pi_range2 (by rfl) B.n_range (pa_cons pe_int (pa_cons (pe_op op_add (pv 1) pe_int) pa_nil))) (pg_name (i := 6) sc_countsbefore.nd rfl (Or.inl rfl))
 (pss_one (ps_aug (i := 5) sc_countsbefore.nd rfl (Or.inl rfl) (pe_dget2 (hu_of hr) (pv 2) (pe_callD D_longestafter (hr.mono (by omega)) (by rfl) (pa_cons (pv 4) (pa_cons (pv 6) pa_nil))) pe_int ⟨by rfl, by rfl, by rfl, by rfl⟩) ip_add)))
 (pss_one (ps_dput (hu_of hr) (pv 3) (pv 4) (pv 5) rfl)))))
 (pss_one (ps_ret (pv 3))))), ?_⟩
    refine fun p hp => ⟨_, rfl, a, rfl, ⟨_, (same_new hp).seq hS⟩, for_list (K := K) (a := a) (xs := xs.map V.int) (fun i σ H' => (∃ y4 y5 y6, σ = [some (.ref a), some (.int g), some (.ref e), some (.ref p), y4, y5, y6]) ∧ Same H H' ∧ H' p = some (.dK (kvF (xs.take i) fun x => (((cand g).map fun k => c (la x k)).sum : Nat))))
      ⟨⟨none, none, none, rfl⟩, same_new hp, upd_same⟩ (fun i σ H' _ h => h.2.1.seq hS) ?_ ?_⟩
    · rintro i v σ H1 hi ⟨⟨y4, y5, y6, rfl⟩, s1, gp⟩
      obtain ⟨x, hx, rfl⟩ := map_at hi
      have xm := List.mem_of_getElem? hx
      refine ⟨_, rfl, g, 1, rfl, rfl, 2, g + 1, rfl, ⟨by decide, by decide, by omega, by omega⟩, for_range (lo := 2) (n := (g + 1 - 2).toNat) (fun b σ H' => (∃ y6, σ = [some (.ref a), some (.int g), some (.ref e), some (.ref p), some (.int x), some (.int ((((cand g).take b).map fun k => c (la x k)).sum : Nat)), y6]) ∧ H' = H1)
        ⟨⟨y6, rfl⟩, rfl⟩ ?_ ?_⟩
      · rintro b σ H2 hb ⟨⟨y6, rfl⟩, rfl⟩
        have hb' : b < (g - 1).toNat := by omega
        have ec : (cand g).take (b + 1) = (cand g).take b ++ [2 + (b : Int)] := by
          rw [List.take_add_one]
          congr 1
          unfold cand
          rw [List.getElem?_map, List.getElem?_range (by omega)]
          rfl
        refine ⟨_, rfl, _, rfl, e, rfl, .inl ⟨kvs, .of (s1 _ _ he)⟩, _, rfl, _, rfl, x, 2 + (b : Int), rfl, by omega, by omega, _, DGet.k (k := .inl (la x (2 + (b : Int)))) (s1 _ _ he), ?_⟩
        rw [hc x xm (2 + (b : Int)) (by omega) (by omega)]
        refine ⟨_, _, rfl, rfl, ?_⟩
        refine ⟨⟨some (.int (2 + (b : Int))), ?_⟩, rfl⟩
        rw [ec, List.map_append, List.sum_append]
        show _ = [_, _, _, _, _, some (V.int ((_ + (c (la x (2 + (b : Int))) + 0) : Nat) : Int)), _]
        rw [Nat.add_zero, Int.natCast_add]
        rfl
      · rintro σ H2 ⟨⟨y6, rfl⟩, rfl⟩
        have e1 : (cand g).take (g + 1 - 2).toNat = cand g := List.take_of_length_le (by rw [cand_len]; omega)
        rw [e1]
        have il : i < xs.length := (List.getElem?_eq_some_iff.mp hx).1
        refine ⟨_, rfl, _, rfl, _, rfl, p, _, rfl, DPut.k (k := .inl x) gp ?_, ⟨_, _, _, rfl⟩, fun b o z => ?_, ?_⟩
        · unfold kvF
          rw [List.length_map, List.length_take]
          have e2 : sizeLine = 16777216 := sizeLine_eq
          omega
        · rw [upd_ne (ne_of_none z hp)]
          exact s1 _ _ z
        · rw [upd_same, kvF_put (fun x => (((cand g).map fun k => c (la x k)).sum : Nat)) (nodup_take nd hx), List.take_add_one, hx]
          rfl
    · rintro σ H1 ⟨⟨y4, y5, y6, rfl⟩, s1, gp⟩
      rw [List.length_map, List.take_length] at gp
      exact ⟨_, rfl, q p H1 hp s1 gp⟩
end
end Sq

set_option Elab.async false
set_option linter.all false
set_option maxRecDepth 100000
set_option maxHeartbeats 4000000
namespace Sq
open PySem PySem.Spec PyProof.Rows L2
section
variable {P : Program} {w : World} {K : PySem.W.Frag} {mg : Str → Option Value} {base : Heap}
/-- the counts by place -/
def CntAt (H : Hp) (as : List Addr) (rows : List (List Int)) (n : Nat) (g : Int) : Prop := as.length = n + 1 ∧ ∀ (p : Nat) (r : List Int), rows[p]? = some r → ∃ a, as[p]? = some a ∧ H a = some (.dK (kvF r fun x => (cnt g (n - p) x : Nat)))
def spCounts : Sp := fun vs H Q _ => ∃ (n : Nat) (g L : Int), vs = [.int (n : Int), .int g, .int L] ∧ n ≤ 900 ∧ 2 ≤ g ∧ g ≤ 1000 ∧ 0 ≤ L ∧ L ≤ 10000 ∧ (n ≤ 8 ∧ g ≤ 60) ∧
  ∀ d as rows H', H d = none → Same H H' → Lens5 n g L n rows → H' d = some (.lst (as.map V.ref)) → CntAt H' as rows n g → Q (.ref d) H'
theorem ok_counts {f : Addr} {fd : FuncData} (F : Fun K "counts_by_place" "counts_by_place" s_countsbyplace f fd) (B : Bi mg) (D_lengthsbyplace : Df P w K mg base 4 "lengths_by_place" ["steps", "greatest", "length"] spLengths)
    (D_countsbefore : Df P w K mg base 2 "counts_before" ["lengths", "greatest", "counts"] (spBefore K)) : FnOk P w K mg base CX0 5 f fd ["steps", "greatest", "length"] spCounts := by
  refine F.ok sc_countsbyplace (fun vs H Q E h => ?_) (fun cdv A outer s H vs Q E hr h => ?_)
  · obtain ⟨n, g, L, rfl, _⟩ := h
    rfl
  · obtain ⟨n, g, L, rfl, n1, g1, g2, L0, L1, lim, q⟩ := h
    refine ⟨_, (pss_cons (ps_set (i := 3) sc_countsbyplace.nd rfl (Or.inl rfl) (pe_callD D_lengthsbyplace (hr.mono (by omega)) (by rfl) (pa_cons (pv 0) (pa_cons (pv 1) (pa_cons (pv 2) pa_nil)))))
 (pss_cons (ps_set (i := 4) sc_countsbyplace.nd rfl (Or.inl rfl) (pe_lst (pa_cons (pe_dc (own := [("longest", 6)]) (g := gName 6) rfl sc_countsbyplace.nd (pi_list (pe_ix (r := rIxL K) ix_list (pv 3) (pv 0) (fun _ _ => rfl))) (blkOk_by (own := [("longest", 6)]) (N := ["steps", "greatest", "length", "lengths", "counts", "place", "longest"]) (sc := defScope s_countsbyplace) (by decide +kernel)) (fun _ _ _ _ _ => (pg_name (i := 6) sc_countsbyplace.nd rfl (Or.inl rfl))) (fun _ _ _ _ _ => pts_nil) (fun _ _ _ _ _ => (pv 6)) (fun _ _ _ _ _ => (pe_ifExp (pt_cmpR op_le (pv 6) pe_int (nomark _)) pe_int pe_int))) pa_nil)))
 (pss_cons (ps_for PassesOwn.never rfl (pi_revR (by rfl) B.n_reversed (prg_1 (by rfl) B.n_range (pv 0))) (pg_name (i := 5) sc_countsbyplace.nd rfl (Or.inl rfl))
 (pss_one (ps_expr (pe_bm PySem.F.plainAttrs_list PySem.F.slot_list_append PySem.F.type_list_append mt_append (pv 4) (pa_cons (pe_callD D_countsbefore (hr.mono (by omega)) (by rfl) (pa_cons (pe_ix (r := rIxL K) ix_list (pv 3) (pv 5) (fun _ _ => rfl)) (pa_cons (pv 1) (pa_cons (pe_ix (r := rIxL K) ix_list (pv 4) (pe_un un_neg pe_int) (fun _ _ => rfl)) pa_nil)))) pa_nil)))))
 (pss_cons (ps_expr (pe_bm0 PySem.F.plainAttrs_list PySem.F.slot_list_reverse PySem.F.type_list_reverse mt_reverse (pv 4)))
 (pss_one (ps_ret (pv 4))))))), ?_⟩
    refine ⟨_, rfl, _, rfl, _, rfl, n, g, L, rfl, by omega, g1, g2, L0, L1, lim, fun d as rows H1 hd s1 S gd R => ?_⟩
    have lenr := S.len
    have lena := R.len
    have row : ∀ p, p ≤ n → ∃ r, rows[p]? = some r := fun p hp => ⟨rows[p], List.getElem?_eq_getElem (by omega)⟩
    have rlen : ∀ (p : Nat) (r : List Int), rows[p]? = some r → r.length ≤ 10001 := fun p r e => by
      have := few_ints (asc_nodup (S.asc p r e)) (S.mem p r e) L0
      omega
    obtain ⟨rn, hrn⟩ := row n (Nat.le_refl _)
    obtain ⟨ra, hra, gra⟩ := R.get hrn
    have refAt : ∀ {p : Nat} {a : Addr}, as[p]? = some a → (as.map V.ref)[p]? = some (.ref a) := fun {p a} e => by
      rw [List.getElem?_map, e]
      rfl
    have lim2 : sizeLine = 16777216 := sizeLine_eq
    refine ⟨_, rfl, _, rfl, d, _, (n : Int), .ref ra, rfl, rfl, SqL.of gd, at_of (j := n) (by omega) (refAt hra), ra, rfl, ⟨_, SqL.of gra⟩, fun D hD => walkL (K := K) (a := ra) (xs := rn.map V.int) (fun i H' => Same H1 H' ∧ H' D = some (.dK (kvF (rn.take i) fun x => (cnt g 0 x : Nat))))
      ⟨same_new hD, upd_same⟩ (fun i H' _ h => SqL.of (h.1 _ _ gra)) ?_ ?_⟩
    · rintro i v H2 hi ⟨s2, gD⟩
      obtain ⟨x, hx, rfl⟩ := map_at hi
      have il : i < rn.length := (List.getElem?_eq_some_iff.mp hx).1
      have fin : ∀ z : Int, z = (cnt g 0 x : Nat) → ∃ kvs k, V.int x = kV k ∧ H2 D = some (.dK kvs) ∧ kvs.length < sizeLine ∧ Same H1 (upd H2 D (.dK (putK kvs k (.int z)))) ∧ (upd H2 D (.dK (putK kvs k (.int z)))) D = some (.dK (kvF (rn.take (i + 1)) fun x => (cnt g 0 x : Nat))) := fun z hz => by
        refine ⟨_, .inl x, rfl, gD, ?_, fun b o e => ?_, ?_⟩
        · unfold kvF
          rw [List.length_map, List.length_take]
          have := rlen n rn hrn
          omega
        · rw [upd_ne (ne_of_none e hD)]
          exact s2 _ _ e
        · rw [upd_same, hz, kvF_put (fun x => (cnt g 0 x : Nat)) (nodup_take (asc_nodup (S.asc n rn hrn)) hx), List.take_add_one, hx]
          rfl
      refine ⟨rfl, _, rfl, _, rfl, x, 1, rfl, rfl, _, rfl, ite2 (fun c => ?_) (fun c => ?_)⟩
      · have c' : x ≤ 1 := of_decide_eq_true c
        exact fin 1 (by show (1 : Int) = ((if x ≤ 1 then 1 else 0 : Nat) : Int); rw [if_pos c']; rfl)
      · have c' : ¬ x ≤ 1 := fun z => c (decide_eq_true z)
        exact fin 0 (by show (0 : Int) = ((if x ≤ 1 then 1 else 0 : Nat) : Int); rw [if_neg c']; rfl)
    · rintro H2 ⟨s2, gD⟩
      rw [List.length_map, List.take_length] at gD
      refine ⟨z1, fun e he => ?_⟩
      have eH : H e = none := s1.free (s2.free he)
      have eD : D ≠ e := ne_of_none gD he
      refine ⟨_, rfl, (n : Int), rfl, by decide, by decide, by omega, by omega, for_rangeC (lo := 0 + ((((n : Int) - 0).toNat : Nat) : Int) - 1) (c := -1) (n := ((n : Int) - 0).toNat) (fun i σ H' => ∃ bs y5 y6, σ = [some (.int (n : Int)), some (.int g), some (.int L), some (.ref d), some (.ref e), y5, y6] ∧ (∀ b o, H1 b = some o → H' b = some o) ∧ H' e = some (.lst (bs.map V.ref)) ∧ e ∉ bs ∧ bs.length = i + 1 ∧
          ∀ j r, j ≤ i → rows[n - j]? = some r → ∃ a, bs[j]? = some a ∧ H' a = some (.dK (kvF r fun x => (cnt g j x : Nat))))
        ⟨[D], none, none, rfl, fun b o z => same_new he _ _ (s2 b o z), upd_same, fun z => eD (List.mem_singleton.mp z).symm, rfl, fun j r hj er => ?_⟩ ?_ ?_⟩
      · obtain rfl : j = 0 := by omega
        rw [Nat.sub_zero, hrn] at er
        cases er
        exact ⟨D, rfl, by rw [upd_ne eD]; exact gD⟩
      · rintro i σ H3 hi ⟨bs, y5, y6, rfl, s3, ge, ne, lb, cb⟩
        have hi' : i < n := by omega
        have plc : 0 + ((((n : Int) - 0).toNat : Nat) : Int) - 1 + (i : Nat) * -1 = ((n - (i + 1) : Nat) : Int) := by omega
        rw [plc]
        have ea : n - (i + 1) + 1 = n - i := by omega
        have eb : n - (n - (i + 1) + 1) = i := by omega
        obtain ⟨r, hr'⟩ := row (n - (i + 1)) (by omega)
        obtain ⟨r2, hr2⟩ := row (n - i) (by omega)
        obtain ⟨pa, hpa, gpa⟩ := R.get hr'
        obtain ⟨qa, hqa, gqa⟩ := cb i r2 (Nat.le_refl _) hr2
        have lastB : (bs.map V.ref).getLast? = some (.ref qa) := by
          rw [List.getLast?_eq_getElem?, List.length_map, List.getElem?_map, show bs.length - 1 = i by omega, hqa]
          rfl
        refine ⟨_, rfl, .inl ⟨rfl, _, SqL.of ge⟩, _, rfl, _, rfl, d, _, ((n - (i + 1) : Nat) : Int), .ref pa, rfl, rfl, SqL.of (s3 _ _ gd), at_of (j := n - (i + 1)) (by omega) (refAt hpa), _, rfl, _, rfl, 1, rfl, e, _, -1, .ref qa, rfl, rfl, SqL.of ge, atI_last _ _ lastB, ?_⟩
        refine ⟨pa, qa, r, g, _, cnt g i, rfl, SqL.of (s3 _ _ gpa), gqa, asc_nodup (S.asc _ r hr'), by have := rlen _ r hr'; omega, g1, g2, fun x hx k k1 k2 => ?_, fun p H4 hp4 s4 gp4 => ?_⟩
        · rw [valV_kvF]
          have x0 := S.mem _ r hr' x hx
          have nx := S.next (n - (i + 1)) r r2 hr' (by rw [ea]; exact hr2) (la x k)
          by_cases m : la x k ∈ r2
          · rw [if_pos m]
            rfl
          · rw [if_neg m]
            have gt : up i 1 < la x k := by
              by_cases z : la x k ≤ up i 1
              · exact absurd (nx.mpr ⟨⟨x, hx, k, k1, k2, rfl⟩, by rw [eb]; exact z⟩) m
              · omega
            show V.int 0 = _
            rw [cnt_zero (la_le k1 x0.1).1 gt]
            rfl
        · have ge4 := s4 _ _ ge
          have nep : e ≠ p := ne_of_none ge hp4
          refine ⟨e, _, _, rfl, rfl, ge4, (by rw [List.length_map, lb]; exact small1000 (by omega)), ?_⟩
          refine ⟨bs ++ [p], _, _, rfl, fun b o z => ?_, ?_, fun z => ?_, by rw [List.length_append, lb]; rfl, fun j r' hj er => ?_⟩
          · rw [upd_ne (ne_of_none (s2 b o z) he)]
            exact s4 _ _ (s3 _ _ z)
          · rw [upd_same, List.map_append]
            rfl
          · rcases List.mem_append.mp z with z | z
            · exact ne z
            · exact nep (List.mem_singleton.mp z)
          · by_cases c : j ≤ i
            · obtain ⟨a, ea, ga⟩ := cb j r' c er
              refine ⟨a, by rw [List.getElem?_append_left (by omega)]; exact ea, ?_⟩
              rw [upd_ne (fun z => ne (by rw [← z]; exact List.mem_of_getElem? ea))]
              exact s4 _ _ ga
            · obtain rfl : j = i + 1 := by omega
              rw [hr'] at er
              cases er
              refine ⟨p, by rw [List.getElem?_append_right (by omega), lb, Nat.sub_self]; rfl, ?_⟩
              rw [upd_ne nep.symm]
              exact gp4
      · rintro σ H3 ⟨bs, y5, y6, rfl, s3, ge, ne, lb, cb⟩
        have en : ((n : Int) - 0).toNat = n := by omega
        rw [en] at lb cb
        refine ⟨_, rfl, .inl ⟨rfl, _, SqL.of ge⟩, e, _, rfl, rfl, ge, _, rfl, q e bs.reverse rows _ eH (fun b o z => ?_) S ?_ ⟨by rw [List.length_reverse]; exact lb, fun p r er => ?_⟩⟩
        · rw [upd_ne (ne_of_none z eH)]
          exact s3 _ _ (s1 _ _ z)
        · rw [upd_same, List.map_reverse]
        · have hp : p ≤ n := by
            have := (List.getElem?_eq_some_iff.mp er).1
            omega
          obtain ⟨a, ea, ga⟩ := cb (n - p) r (by omega) (by rw [show n - (n - p) = p by omega]; exact er)
          refine ⟨a, ?_, ?_⟩
          · rw [List.getElem?_reverse (by omega), lb, show n + 1 - 1 - p = n - p by omega]
            exact ea
          · rw [upd_ne (fun z => ne (by rw [← z]; exact List.mem_of_getElem? ea))]
            exact ga
end
end Sq

set_option Elab.async false
set_option linter.all false
set_option maxRecDepth 100000
set_option maxHeartbeats 4000000
namespace Sq
open PySem PySem.Spec PyProof.Rows L2
section
variable {P : Program} {w : World} {K : PySem.W.Frag} {mg : Str → Option Value} {base : Heap} {c fI : Nat → Addr} {qn : Nat → Str} {cB : Addr}
theorem z2 : 2 ≤ sizeLine := Nat.le_of_lt (small1000 (by decide))
def spChoose : Sp := fun vs H Q _ => ∃ (L g : Int) (e : Addr) (r : Nat) (kvs : List (Key × V)) (f : Int → Nat), vs = [.int L, .ref e, .int (r : Int)] ∧ H e = some (.dK kvs) ∧ g ≤ 1000 ∧ (∀ k, 2 ≤ k → k ≤ g → (valV kvs (.inl (la L k))).getD (.int 0) = .int (f k)) ∧ r < ((cand g).map f).sum ∧
  ∀ p H', H p = none → Same H H' → H' p = some (.tup [.int (pik f (cand g) r).1, .int ((pik f (cand g) r).2 : Nat)]) → Q (.ref p) H'
theorem ok_choose {f : Addr} {fd : FuncData} (F : Fun K "choose" "choose" s_choose f fd) (D_longestafter : Df P w K mg base 1 "longest_after" ["longest", "number"] spAfter) : FnOk P w K mg base CX0 2 f fd ["longest", "counts", "index"] spChoose := by
  refine F.ok sc_choose (fun vs H Q E h => ?_) (fun cdv A outer s H vs Q E hr h => ?_)
  · obtain ⟨L, g, e, r, kvs, f, rfl, _⟩ := h
    rfl
  · obtain ⟨L, g, e, r, kvs, f, rfl, he, g2, hf, hr0, q⟩ := h
    refine ⟨_, (pss_cons (ps_set (i := 3) sc_choose.nd rfl (Or.inl rfl) pe_int)
 (pss_cons (ps_set (i := 4) sc_choose.nd rfl (Or.inl rfl) (pv 2))
 (pss_cons (ps_set (i := 5) sc_choose.nd rfl (Or.inl rfl) (pe_dget2 (hu_of hr) (pv 1) (pe_callD D_longestafter (hr.mono (by omega)) (by rfl) (pa_cons (pv 0) (pa_cons (pv 3) pa_nil))) pe_int ⟨by rfl, by rfl, by rfl, by rfl⟩))
 (pss_cons (ps_while PassesOwn.never (pt_cmpR op_ge (pv 4) (pv 5) (nomark _))
 (pss_cons (ps_set (i := 4) sc_choose.nd rfl (Or.inl rfl) (pe_op op_sub (pv 4) (pv 5)))
 (pss_cons (ps_aug (i := 3) sc_choose.nd rfl (Or.inl rfl) pe_int ip_add)
 (pss_one (ps_set (i := 5) sc_choose.nd rfl (Or.inl rfl) (pe_dget2 (hu_of hr) (pv 1) (pe_callD D_longestafter (hr.mono (by omega)) (by rfl) (pa_cons (pv 0) (pa_cons (pv 3) pa_nil))) pe_int ⟨by rfl, by rfl, by rfl, by rfl⟩))))))
 (pss_one (ps_ret (pe_tup (pa_cons (pv 3) (pa_cons (pv 4) pa_nil))))))))), ?_⟩
    have some1 : ∀ b : Nat, ∀ r' : Nat, r' < (((cand g).drop b).map f).sum → b < (g - 1).toNat := fun b r' h => by
      by_cases z : b < (g - 1).toNat
      · exact z
      · rw [List.drop_eq_nil_of_le (by rw [cand_len]; omega)] at h
        exact absurd h (Nat.not_lt_zero _)
    have b0 := some1 0 r (by rw [List.drop_zero]; exact hr0)
    refine ⟨_, rfl, _, rfl, e, rfl, .inl ⟨kvs, .of he⟩, _, rfl, _, rfl, L, 2, rfl, by decide, by decide, _, DGet.k (k := .inl (la L 2)) he, ?_⟩
    rw [hf 2 (by decide) (by omega)]
    refine ⟨fun m σ H' => ∃ (b r' : Nat), b + m = (g - 1).toNat ∧ H' = H ∧ σ = [some (.int L), some (.ref e), some (.int (r : Int)), some (.int (2 + (b : Int))), some (.int (r' : Int)), some (.int (f (2 + (b : Int)) : Nat))] ∧ r' < (((cand g).drop b).map f).sum ∧ pik f (cand g) r = pik f ((cand g).drop b) r',
      ⟨(g - 1).toNat, 0, r, by omega, rfl, rfl, by rw [List.drop_zero]; exact hr0, by rw [List.drop_zero]⟩, ?_⟩
    rintro m σ H' ⟨b, r', hm, rfl, rfl, hr1, ep⟩
    have bl := some1 b r' hr1
    rw [cand_drop bl] at hr1 ep
    have hr2 : r' < f (2 + (b : Int)) + (((cand g).drop (b + 1)).map f).sum := hr1
    refine ⟨_, rfl, _, rfl, _, _, rfl, rfl, _, rfl, ?_⟩
    by_cases cc : r' < f (2 + (b : Int))
    · rw [decide_eq_false (by omega)]
      refine iteF ?_
      have ep2 : pik f (cand g) r = (2 + (b : Int), r') := ep.trans (if_pos cc)
      rw [ep2] at q
      exact ⟨_, rfl, _, rfl, z2, fun p hp => q p _ hp (same_new hp) upd_same⟩
    · rw [decide_eq_true (by omega)]
      have ep2 : pik f (cand g) r = pik f ((cand g).drop (b + 1)) (r' - f (2 + (b : Int))) := ep.trans (if_neg cc)
      have b1 := some1 (b + 1) (r' - f (2 + (b : Int))) (by omega)
      refine iteT ⟨fun σ' H'' => ∃ m', m' < m ∧ ∃ (b r' : Nat), b + m' = (g - 1).toNat ∧ H'' = H' ∧ σ' = [some (.int L), some (.ref e), some (.int (r : Int)), some (.int (2 + (b : Int))), some (.int (r' : Int)), some (.int (f (2 + (b : Int)) : Nat))] ∧ r' < (((cand g).drop b).map f).sum ∧ pik f (cand g) r = pik f ((cand g).drop b) r', fun _ _ h => h, ?_⟩
      refine ⟨_, rfl, _, rfl, (r' : Int), _, rfl, rfl, _, rfl, 2 + (b : Int), 1, rfl, rfl, ?_⟩
      have e1 : (2 + (b : Int) + 1) = 2 + ((b + 1 : Nat) : Int) := by omega
      refine ⟨_, rfl, e, rfl, .inl ⟨kvs, .of he⟩, _, rfl, _, rfl, L, 2 + (b : Int) + 1, rfl, by omega, by omega, _, DGet.k (k := .inl (la L (2 + (b : Int) + 1))) he, ?_⟩
      rw [hf _ (by omega) (by omega)]
      refine ⟨m - 1, by omega, b + 1, r' - f (2 + (b : Int)), by omega, rfl, ?_, by omega, ep2⟩
      rw [← e1, show ((r' - f (2 + (b : Int)) : Nat) : Int) = ((r' : Int) - (f (2 + (b : Int)) : Nat)) by omega]
      rfl
def Lim (n : Nat) (g L : Int) : Prop := n ≤ 900 ∧ g ≤ 1000 ∧ L ≤ 10000 ∧ (n ≤ 8 ∧ g ≤ 60)
def spCountLists (c : Nat → Addr) : Sp := fun vs H Q E => ∃ (n g L : Int), vs = [.int n, .int g, .int L] ∧ (dueCh n g L = none → Lim n.toNat g L ∧ ∀ H', Same H H' → Q (.int (cnt g n.toNat L : Nat)) H') ∧ (∀ z, dueCh n g L = some z → Wish E (c 1) (.int z) H)
theorem due_none {n g L : Int} (h : dueCh n g L = none) : 0 ≤ n ∧ 2 ≤ g ∧ 0 ≤ L := by
  unfold dueCh at h
  split at h
  · cases h
  · split at h
    · cases h
    · split at h
      · cases h
      · omega
theorem ok_countlists {f : Addr} {fd : FuncData} (F : Fun K "count_lists" "count_lists" s_countlists f fd) (X_checkchoice : Dn P w K mg base 2 "check_choice" ["steps", "greatest", "length"] (spChoice c)) (D_countsbyplace : Df P w K mg base 5 "counts_by_place" ["steps", "greatest", "length"] spCounts) :
    FnOk P w K mg base (L2N.CX P w) 6 f fd ["steps", "greatest", "length"] (spCountLists c) := by
  refine okN F sc_countlists (fun vs H Q E h => ?_) (fun cdv A outer s H vs Q E hr h => ?_)
  · obtain ⟨n, g, L, rfl, _⟩ := h
    rfl
  · obtain ⟨n, g, L, rfl, q, e⟩ := h
    refine ⟨_, (pss_cons (ps_expr (pe_callN X_checkchoice takesN (hr.mono (by omega)) (by rfl) (pa_cons (pv 0) (pa_cons (pv 1) (pa_cons (pv 2) pa_nil)))))
 (pss_one (ps_ret (pe_dget (hu_of hr) (pe_ix (r := rIxL K) ix_list (pe_callD D_countsbyplace (hr.mono (by omega)) (by rfl) (pa_cons (pv 0) (pa_cons (pv 1) (pa_cons (pv 2) pa_nil)))) pe_int (fun _ _ => rfl)) (pv 2) (fun _ _ => rfl))))), ?_⟩
    refine ⟨_, rfl, _, rfl, _, rfl, n, g, L, rfl, fun d0 => ?_, e⟩
    obtain ⟨⟨l1, l2, l3, l4⟩, q⟩ := q d0
    obtain ⟨n0, g0, L0⟩ := due_none d0
    obtain ⟨m, rfl⟩ := Int.eq_ofNat_of_zero_le n0
    rw [Int.toNat_natCast] at l1 l4 q
    refine ⟨_, rfl, _, rfl, _, rfl, m, g, L, rfl, l1, g0, l2, L0, l3, l4, fun d as rows H' hd s1 S gd C => ?_⟩
    obtain ⟨a, ea, ga⟩ := C.2 0 [L] S.zero
    refine ⟨d, _, 0, .ref a, rfl, rfl, SqL.of gd, at_of (j := 0) rfl (by rw [List.getElem?_map, ea]; rfl), _, rfl, a, .int (cnt g m L : Nat), rfl, ?_, q H' s1⟩
    have v : valV (kvF [L] fun x => (cnt g (m - 0) x : Nat)) (.inl L) = some (.int (cnt g m L : Nat)) := by
      rw [valV_kvF, if_pos (List.mem_cons_self ..)]
      rfl
    rw [← v]
    exact DGet.k (k := .inl L) ga
def spNth (c : Nat → Addr) : Sp := fun vs H Q E => ∃ (n g L z : Int), vs = [.int n, .int g, .int L, .int z] ∧ (∀ x, dueCh n g L = some x → Wish E (c 1) (.int x) H) ∧
  (dueCh n g L = none → Lim n.toNat g L ∧ ((z < 0 ∨ (cnt g n.toNat L : Int) ≤ z) → ∀ H', Same H H' → Wish E (c 1) (.int z) H') ∧
    (0 ≤ z → z < (cnt g n.toNat L : Int) → ∀ p H', H p = none → Same H H' → H' p = some (.lst ((nthL g n.toNat L z.toNat).map V.int)) → Q (.ref p) H'))
theorem ok_nthlist {f : Addr} {fd : FuncData} (F : Fun K "nth_list" "nth_list" s_nthlist f fd) (B : Bi mg) (Z : Errs1 P K mg c fI qn cB) (X_checkchoice : Dn P w K mg base 2 "check_choice" ["steps", "greatest", "length"] (spChoice c)) (D_countsbyplace : Df P w K mg base 5 "counts_by_place" ["steps", "greatest", "length"] spCounts)
    (D_choose : Df P w K mg base 2 "choose" ["longest", "counts", "index"] spChoose) (D_longestafter : Df P w K mg base 1 "longest_after" ["longest", "number"] spAfter) :
    FnOk P w K mg base (L2N.CX P w) 6 f fd ["steps", "greatest", "length", "number"] (spNth c) := by
  refine okN F sc_nthlist (fun vs H Q E h => ?_) (fun cdv A outer s H vs Q E hr h => ?_)
  · obtain ⟨n, g, L, z, rfl, _⟩ := h
    rfl
  · obtain ⟨n, g, L, z, rfl, e, q⟩ := h
    refine ⟨_, (pss_cons (ps_expr (pe_callN X_checkchoice takesN (hr.mono (by omega)) (by rfl) (pa_cons (pv 0) (pa_cons (pv 1) (pa_cons (pv 2) pa_nil)))))
 (pss_cons (ps_set (i := 4) sc_nthlist.nd rfl (Or.inl rfl) (pe_callD D_countsbyplace (hr.mono (by omega)) (by rfl) (pa_cons (pv 0) (pa_cons (pv 1) (pa_cons (pv 2) pa_nil)))))
 (pss_cons (ps_if (PW.pt (pw_or (pt_cmpR op_lt (pv 3) pe_int (nomark _)) (pw_or1 (pt_cmpR op_ge (pv 3) (pe_dget (hu_of hr) (pe_ix (r := rIxL K) ix_list (pv 4) pe_int (fun _ _ => rfl)) (pv 2) (fun _ _ => rfl)) (nomark _)))))
 (pss_one (L2N.ps_raise rfl takesN (pmk_erN (Z.er 1 (by decide)).2 Z.g1 hr (by rfl) (pv 3))))
 pss_nil)
 (pss_cons (ps_set (i := 5) sc_nthlist.nd rfl (Or.inl rfl) (pe_lst pa_nil))
 (pss_cons (ps_set (i := 6) sc_nthlist.nd rfl (Or.inl rfl) (pv 2))
 (pss_cons (ps_set (i := 7) sc_nthlist.nd rfl (Or.inl rfl) (pv 3))
 (pss_cons (ps_for ownsN rfl (pi_range1 (by rfl) B.n_range (pa_cons (pv 0) pa_nil)) (pg_name (i := 8) sc_nthlist.nd rfl (Or.inl rfl))
 (pss_cons (ps_asg (pe_callD D_choose (hr.mono (by omega)) (by rfl) (pa_cons (pv 6) (pa_cons (pe_ix (r := rIxL K) ix_list (pv 4) (pe_op op_add (pv 8) pe_int) (fun _ _ => rfl)) (pa_cons (pv 7) pa_nil)))) (pg_tup rfl (pgs_cons (pg_name (i := 9) sc_nthlist.nd rfl (Or.inl rfl)) (pgs_cons (pg_name (i := 7) sc_nthlist.nd rfl (Or.inl rfl)) pgs_nil))))
 (pss_cons (ps_expr (pe_bm PySem.F.plainAttrs_list PySem.F.slot_list_append PySem.F.type_list_append mt_append (pv 5) (pa_cons (pv 9) pa_nil)))
 (pss_one (ps_set (i := 6) sc_nthlist.nd rfl (Or.inl rfl) (pe_callD D_longestafter (hr.mono (by omega)) (by rfl) (pa_cons (pv 6) (pa_cons (pv 9) pa_nil))))))))
 (pss_one (ps_ret (pv 5)))))))))), ?_⟩
    refine ⟨_, rfl, _, rfl, _, rfl, n, g, L, rfl, fun d0 => ?_, e⟩
    obtain ⟨⟨l1, l2, l3, l4⟩, qe, q⟩ := q d0
    obtain ⟨n0, g0, L0⟩ := due_none d0
    obtain ⟨m, rfl⟩ := Int.eq_ofNat_of_zero_le n0
    rw [Int.toNat_natCast] at l1 l4 qe q
    refine ⟨_, rfl, _, rfl, _, rfl, m, g, L, rfl, l1, g0, l2, L0, l3, l4, fun d as rows H1 hd s1 S gd C => ?_⟩
    obtain ⟨a, ea, ga⟩ := C.2 0 [L] S.zero
    have v0 : valV (kvF [L] fun x => (cnt g (m - 0) x : Nat)) (.inl L) = some (.int (cnt g m L : Nat)) := by
      rw [valV_kvF, if_pos (List.mem_cons_self ..)]
      rfl
    have dg : DGet H1 a (.int L) (some (.int (cnt g m L : Nat))) := by
      rw [← v0]
      exact DGet.k (k := .inl L) ga
    refine ⟨_, rfl, z, 0, rfl, rfl, _, rfl, ite2 (fun c1 => ?_) (fun c1 => ?_)⟩
    · exact ⟨_, rfl, qe (.inl (of_decide_eq_true c1)) H1 s1⟩
    have c1' : ¬ z < 0 := fun y => c1 (decide_eq_true y)
    refine ⟨_, rfl, _, rfl, d, _, 0, .ref a, rfl, rfl, SqL.of gd, at_of (j := 0) rfl (by rw [List.getElem?_map, ea]; rfl), _, rfl, a, _, rfl, dg, z, (cnt g m L : Nat), rfl, rfl, _, rfl, ite2 (fun c2 => ?_) (fun c2 => ?_)⟩
    · exact ⟨_, rfl, qe (.inr (of_decide_eq_true c2)) H1 s1⟩
    have c2' : ¬ (cnt g m L : Int) ≤ z := fun y => c2 (decide_eq_true y)
    obtain ⟨x, rfl⟩ := Int.eq_ofNat_of_zero_le (by omega : 0 ≤ z)
    have q := q (by omega) (by omega)
    rw [Int.toNat_natCast] at q
    refine ⟨Nat.zero_le _, fun p hp => ?_⟩
    have pH : H p = none := s1.free hp
    refine ⟨_, rfl, _, rfl, _, rfl, (m : Int), rfl, by omega, by omega, for_range (lo := 0) (n := (m : Int).toNat) (fun i σ H' => ∃ (Li : Int) (ri : Nat) (ks : List Int) (y8 y9 : Option V) (r : List Int), σ = [some (.int (m : Int)), some (.int g), some (.int L), some (.int (x : Int)), some (.ref d), some (.ref p), some (.int Li), some (.int (ri : Int)), y8, y9] ∧ (∀ b o, H1 b = some o → H' b = some o) ∧ H' p = some (.lst (ks.map V.int)) ∧ ks.length = i ∧ rows[i]? = some r ∧ Li ∈ r ∧ ri < cnt g (m - i) Li ∧ nthL g m L x = ks ++ nthL g (m - i) Li ri)
      ⟨L, x, [], none, none, [L], rfl, same_new hp, upd_same, rfl, S.zero, List.mem_cons_self .., by show x < cnt g (m - 0) L; rw [Nat.sub_zero]; omega, by rw [Nat.sub_zero]; rfl⟩ ?_ ?_⟩
    · rintro i σ H2 hi ⟨Li, ri, ks, y8, y9, r, rfl, s2, gp, lk, er, hm, hri, en⟩
      have hi' : i < m := by omega
      obtain ⟨j, ej⟩ : ∃ j, m - i = j + 1 := ⟨m - i - 1, by omega⟩
      have ej1 : m - (i + 1) = j := by omega
      rw [ej] at hri en
      have lenr := S.len
      obtain ⟨r2, er2⟩ : ∃ r2, rows[i + 1]? = some r2 := ⟨rows[i + 1], List.getElem?_eq_getElem (by omega)⟩
      obtain ⟨a2, ea2, ga2⟩ := C.2 (i + 1) r2 er2
      rw [ej1] at ga2
      have Lb := S.mem i r er Li hm
      have nx := S.next i r r2 er er2
      rw [ej1] at nx
      have hf : ∀ k, 2 ≤ k → k ≤ g → (valV (kvF r2 fun x => (cnt g j x : Nat)) (.inl (la Li k))).getD (.int 0) = .int (cnt g j (la Li k) : Nat) := fun k k1 k2 => by
        rw [valV_kvF]
        by_cases z : la Li k ∈ r2
        · rw [if_pos z]
          rfl
        · rw [if_neg z, cnt_zero (la_le k1 Lb.1).1]
          · rfl
          · by_cases y : la Li k ≤ up j 1
            · exact absurd ((nx _).mpr ⟨⟨Li, hm, k, k1, k2, rfl⟩, y⟩) z
            · omega
      refine ⟨_, rfl, _, rfl, _, rfl, 0 + (i : Int), 1, rfl, rfl, d, _, 0 + (i : Int) + 1, .ref a2, rfl, rfl, SqL.of (s2 _ _ gd), at_of (j := i + 1) (by omega) (by rw [List.getElem?_map, ea2]; rfl), _, rfl, ?_⟩
      refine ⟨Li, g, a2, ri, _, fun k => cnt g j (la Li k), rfl, s2 _ _ ga2, l2, hf, hri, fun t H3 ht s3 gt => ?_⟩
      obtain ⟨pm, pl⟩ := pik_ok (fun k => cnt g j (la Li k)) (cand g) ri hri
      obtain ⟨k, ek⟩ : ∃ k, k = (pik (fun k => cnt g j (la Li k)) (cand g) ri).1 := ⟨_, rfl⟩
      obtain ⟨r', er'⟩ : ∃ r', r' = (pik (fun k => cnt g j (la Li k)) (cand g) ri).2 := ⟨_, rfl⟩
      have en2 : nthL g (j + 1) Li ri = k :: nthL g j (la Li k) r' := by rw [ek, er']; rfl
      rw [← ek] at pm pl gt
      rw [← er'] at pl gt
      have km := mem_cand.mp pm
      have gp3 := s3 _ _ gp
      refine ⟨t, _, rfl, .inl (.inl gt), rfl, _, _, rfl, _, _, rfl, rfl, ?_⟩
      refine ⟨_, rfl, .inl ⟨rfl, _, SqL.of gp3⟩, _, rfl, p, _, _, rfl, rfl, gp3, (by rw [List.length_map]; exact small1000 (by omega)), ?_⟩
      refine ⟨_, rfl, _, rfl, Li, k, rfl, km.1, by omega, ?_⟩
      have inr2 : la Li k ∈ r2 := by
        refine (nx _).mpr ⟨⟨Li, hm, k, km.1, km.2, rfl⟩, ?_⟩
        by_cases y : la Li k ≤ up j 1
        · exact y
        · have pl' : r' < cnt g j (la Li k) := pl
          rw [cnt_zero (la_le km.1 Lb.1).1 (by omega)] at pl'
          omega
      refine ⟨la Li k, r', ks ++ [k], _, _, r2, rfl, fun b o e => ?_, ?_, by rw [List.length_append, lk]; rfl, er2, inr2, by rw [ej1]; exact pl, by rw [en, en2, ej1, List.append_assoc]; rfl⟩
      · rw [upd_ne (ne_of_none e hp)]
        exact s3 _ _ (s2 _ _ e)
      · rw [upd_same, List.map_append]
        rfl
    · rintro σ H2 ⟨Li, ri, ks, y8, y9, r, rfl, s2, gp, lk, er, hm, hri, en⟩
      rw [Int.toNat_natCast, Nat.sub_self] at en
      have e2 : nthL g m L x = ks := by rw [en]; exact List.append_nil _
      exact ⟨_, rfl, q p H2 pH (fun b o e => s2 _ _ (s1 _ _ e)) (by rw [e2]; exact gp)⟩
end

end Sq

set_option Elab.async false
set_option linter.all false
set_option maxRecDepth 100000
set_option maxHeartbeats 4000000
namespace Sq
open PySem PySem.Spec PyProof.Rows L2
/-! ### the bag of draws: at b, its great numbers at d -/
def bagK (d : Addr) (left turn blend : Int) : List (Key × V) := [(.inr "great", .ref d), (.inr "left", .int left), (.inr "turn", .int turn), (.inr "blend", .int blend)]
structure Bag (H : Hp) (b d : Addr) (blend turn : Int) : Prop where
  ob : ∃ left ds, H b = some (.dK (bagK d left turn blend)) ∧ H d = some (.lst (List.map V.int ds))
  m0 : 0 ≤ blend
  m1 : blend < 2305843009213693951
  c0 : 0 ≤ turn
  ne : b ≠ d
def Keep (H H' : Hp) (l d : Addr) : Prop := ∀ b o, H b = some o → b ≠ l → b ≠ d → H' b = some o
theorem Keep.refl (H : Hp) (l d : Addr) : Keep H H l d := fun _ _ h _ _ => h
theorem Keep.trans {H H1 H2 : Hp} {l d : Addr} (a : Keep H H1 l d) (b : Keep H1 H2 l d) : Keep H H2 l d := fun c o h n1 n2 => b c o (a c o h n1 n2) n1 n2
theorem Keep.of {H H' : Hp} {l d : Addr} (s : Same H H') : Keep H H' l d := fun b o h _ _ => s b o h
theorem Keep.l {H H' : Hp} {l d : Addr} {o : HO} (a : Keep H H' l d) : Keep H (upd H' l o) l d := fun c x h n1 n2 => by
  rw [upd_ne n1]
  exact a c x h n1 n2
theorem Keep.d {H H' : Hp} {l d : Addr} {o : HO} (a : Keep H H' l d) : Keep H (upd H' d o) l d := fun c x h n1 n2 => by
  rw [upd_ne n2]
  exact a c x h n1 n2
theorem Keep.young {H H' : Hp} {l d p : Addr} {o : HO} (k : Keep H H' l d) (h : H p = none) : Keep H (upd H' p o) l d := fun b x e n1 n2 => by
  rw [upd_ne (ne_of_none e h)]
  exact k b x e n1 n2
theorem Bag.same {H H' : Hp} {b d : Addr} {blend turn : Int} (S : Bag H b d blend turn) (s : Same H H') : Bag H' b d blend turn :=
  let ⟨left, ds, h1, h2⟩ := S.ob
  ⟨⟨left, ds, s _ _ h1, s _ _ h2⟩, S.m0, S.m1, S.c0, S.ne⟩
theorem Bag.nel {H : Hp} {b d p : Addr} {blend turn : Int} (S : Bag H b d blend turn) (h : H p = none) : p ≠ b := fun z => by
  obtain ⟨left, ds, h1, h2⟩ := S.ob
  rw [z, h1] at h
  cases h
theorem Bag.ned {H : Hp} {b d p : Addr} {blend turn : Int} (S : Bag H b d blend turn) (h : H p = none) : p ≠ d := fun z => by
  obtain ⟨left, ds, h1, h2⟩ := S.ob
  rw [z, h2] at h
  cases h
theorem Keep.free {H H' : Hp} {b d p : Addr} {blend turn : Int} (k : Keep H H' b d) (S : Bag H' b d blend turn) (h : H' p = none) : H p = none := by
  cases e : H p with
  | none => rfl
  | some o =>
    have := k p o e (S.nel h) (S.ned h)
    rw [h] at this
    cases this
section
variable {P : Program} {w : World} {K : PySem.W.Frag} {mg : Str → Option Value} {base : Heap}
theorem bag_great {H : Hp} {b d : Addr} {l t m : Int} (h : H b = some (.dK (bagK d l t m))) : DGet H b (.str "great") (some (.ref d)) := DGet.k (k := .inr "great") h
theorem bag_left {H : Hp} {b d : Addr} {l t m : Int} (h : H b = some (.dK (bagK d l t m))) : DGet H b (.str "left") (some (.int l)) := DGet.k (k := .inr "left") h
theorem bag_turn {H : Hp} {b d : Addr} {l t m : Int} (h : H b = some (.dK (bagK d l t m))) : DGet H b (.str "turn") (some (.int t)) := DGet.k (k := .inr "turn") h
theorem bag_blend {H : Hp} {b d : Addr} {l t m : Int} (h : H b = some (.dK (bagK d l t m))) : DGet H b (.str "blend") (some (.int m)) := DGet.k (k := .inr "blend") h
theorem bag_small {d : Addr} {l t m : Int} : (bagK d l t m).length < sizeLine := small1000 (show 4 ≤ 1000 by decide)
theorem put_left {H : Hp} {b d : Addr} {l t m z : Int} (h : H b = some (.dK (bagK d l t m))) : DPut H b (.str "left") (.int z) (upd H b (.dK (bagK d z t m))) := DPut.k (k := .inr "left") (v := .int z) h bag_small
theorem put_turn {H : Hp} {b d : Addr} {l t m z : Int} (h : H b = some (.dK (bagK d l t m))) : DPut H b (.str "turn") (.int z) (upd H b (.dK (bagK d l z m))) := DPut.k (k := .inr "turn") (v := .int z) h bag_small
def spDraw : Sp := fun vs H Q _ => ∃ (b d : Addr) (blend turn many : Int), vs = [.ref b, .int many] ∧ Bag H b d blend turn ∧ turn < 1000000 ∧ 0 < many ∧ many.natAbs < 2 ^ 200 ∧
  ∀ z turn' H', 0 ≤ z → z < many → Bag H' b d blend turn' → turn' ≤ turn + 1 → Keep H H' b d → Q (.int z) H'
theorem ok_lawdraw {f : Addr} {fd : FuncData} (F : Fun K "_law_draw" "_law_draw" s_lawdraw f fd) (B : Bi mg) : FnOk P w K mg base CX0 1 f fd ["bag", "many"] spDraw := by
  refine F.ok sc_lawdraw (fun vs H Q E h => ?_) (fun cdv A outer s H vs Q E hr h => ?_)
  · obtain ⟨b, d, blend, turn, many, rfl, _⟩ := h
    rfl
  · obtain ⟨b, d, blend, turn, many, rfl, S, hc, hm, hw, q⟩ := h
    refine ⟨_, (pss_cons (ps_if (PW.pt (pw_and (pt_cmpR op_lt (pe_dget (hu_of hr) (pv 0) pe_str (fun _ _ => rfl)) (pv 1) (nomark _)) (pw_and1 (pt_cmpR op_gt (pe_callB (id := "len") (r := rLenK K) call_lenK (by rfl) B.n_len (by decide +kernel) (pa_cons (pe_dget (hu_of hr) (pv 0) pe_str (fun _ _ => rfl)) pa_nil)) pe_int (nomark _)))))
 (pss_one (ps_dput (hu_of hr) (pv 0) pe_str (pe_bm PySem.F.plainAttrs_list PySem.F.slot_list_pop PySem.F.type_list_pop mt_popAt (pe_dget (hu_of hr) (pv 0) pe_str (fun _ _ => rfl)) (pa_cons pe_int pa_nil)) rfl))
 pss_nil)
 (pss_cons (ps_if (pt_cmpR op_ge (pe_dget (hu_of hr) (pv 0) pe_str (fun _ _ => rfl)) (pv 1) (nomark _))
 (pss_cons (ps_set (i := 2) sc_lawdraw.nd rfl (Or.inl rfl) (pe_op op_mod (pe_dget (hu_of hr) (pv 0) pe_str (fun _ _ => rfl)) (pv 1)))
 (pss_cons (ps_dput (hu_of hr) (pv 0) pe_str (pe_op op_fdivW (pe_dget (hu_of hr) (pv 0) pe_str (fun _ _ => rfl)) (pv 1)) rfl)
 (pss_one (ps_ret (pv 2)))))
 pss_nil)
 (pss_cons (ps_daug (hu_of hr) (pv 0) pe_str pe_int in_add (fun _ _ _ => rfl))
 (pss_cons (ps_set (i := 3) sc_lawdraw.nd rfl (Or.inl rfl) (pe_dget (hu_of hr) (pv 0) pe_str (fun _ _ => rfl)))
 (pss_cons (ps_set (i := 4) sc_lawdraw.nd rfl (Or.inl rfl) (pe_op op_add (pe_op op_mul (pe_op op_add (pe_dget (hu_of hr) (pv 0) pe_str (fun _ _ => rfl)) (pe_op op_mul pe_int (pv 3))) (pe_op op_pow (pe_op op_add (pv 3) pe_int) pe_int)) (pe_op op_mul pe_int (pv 3))))
 (pss_one (ps_ret (pe_op op_mod (pe_op op_fdiv (pe_op op_mod (pe_op op_pow (pe_op op_mod (pv 4) pe_int) pe_int) (pe_op op_add (pe_op op_pow pe_int pe_int) pe_int)) pe_int) (pv 1))))))))), ?_⟩
    have c0 := S.c0
    have m0 := S.m0
    have m1 := S.m1
    have nbd := S.ne
    obtain ⟨l0, ds0, hb0, hd0⟩ := S.ob
    refine tellSeq (fun σ2 H2 => σ2 = [some (.ref b), some (.int many), none, none, none] ∧ Keep H H2 b d ∧ ∃ left ds, H2 b = some (.dK (bagK d left turn blend)) ∧ H2 d = some (.lst (List.map V.int ds))) (fun N hN => ?_) (fun σ2 H2 h => ?_)
    · have stay : N [some (.ref b), some (.int many), none, none, none] H := hN _ _ ⟨rfl, Keep.refl H b d, l0, ds0, hb0, hd0⟩
      refine ⟨_, rfl, b, _, rfl, bag_left hb0, _, rfl, l0, many, rfl, rfl, _, rfl, ite2 (fun c1 => ?_) (fun c1 => iteF stay)⟩
      refine ⟨_, rfl, b, _, rfl, bag_great hb0, d, _, rfl, .inl (SqL.of hd0), _, 0, rfl, rfl, _, rfl, ite2 (fun c2 => ?_) (fun c2 => stay)⟩
      obtain ⟨x, r, rfl⟩ : ∃ x r, ds0 = x :: r := by
        cases ds0 with
        | nil => simp at c2
        | cons x r => exact ⟨x, r, rfl⟩
      refine ⟨_, rfl, b, _, rfl, bag_great hb0, .inl ⟨rfl, _, SqL.of hd0⟩, d, _, 0, 0, .int x, rfl, rfl, hd0, by decide, by decide, seqIndex_of (Int.le_refl 0) (by rw [List.length_map, List.length_cons]; omega), rfl, ?_⟩
      have hb1 : (upd H d (.lst (((x :: r).map V.int).eraseIdx (0 : Int).toNat))) b = some (.dK (bagK d l0 turn blend)) := by rw [upd_ne nbd]; exact hb0
      refine ⟨_, rfl, b, _, rfl, put_left hb1, hN _ _ ⟨rfl, ((Keep.refl H b d).d).l, x, r, upd_same, ?_⟩⟩
      rw [upd_ne nbd.symm, upd_same]
      rfl
    · obtain ⟨rfl, kp, left, ds, hb, hd⟩ := h
      refine ⟨_, rfl, b, _, rfl, bag_left hb, _, rfl, left, many, rfl, rfl, _, rfl, ite2 (fun c1 => ?_) (fun c1 => ?_)⟩
      · refine ⟨_, rfl, b, _, rfl, bag_left hb, _, rfl, left, many, rfl, rfl, hm, ?_⟩
        refine ⟨_, rfl, b, _, rfl, bag_left hb, _, rfl, left, many, rfl, rfl, wide_div hm hw (by decide) (by decide), _, rfl, b, _, rfl, put_left hb, _, rfl, ?_⟩
        exact q _ turn _ (Int.emod_nonneg _ (by omega)) (Int.emod_lt_of_pos _ hm) ⟨⟨left / many, ds, upd_same, by rw [upd_ne nbd.symm]; exact hd⟩, m0, m1, c0, nbd⟩ (by omega) kp.l
      · refine ⟨_, rfl, b, _, rfl, bag_turn hb, turn, 1, rfl, rfl, ?_⟩
        have hb2 : (upd H2 b (.dK (bagK d left (turn + 1) blend))) b = some (.dK (bagK d left (turn + 1) blend)) := upd_same
        have cc : (turn + 1 + 29).natAbs < 2 ^ 64 := by omega
        have m61 : ∀ x : Int, (x % 2305843009213693951).natAbs < 2 ^ 64 := fun x => by
          have h1 := Int.emod_nonneg x (by decide : (2305843009213693951 : Int) ≠ 0)
          have h2 := Int.emod_lt_of_pos x (by decide : (0 : Int) < 2305843009213693951)
          omega
        refine ⟨_, put_turn hb, _, rfl, b, _, rfl, bag_turn hb2, ?_⟩
        refine ⟨_, rfl, b, _, rfl, bag_blend hb2, _, rfl, 17, turn + 1, rfl, rfl, .inl ⟨by decide, by decide⟩, blend, _, rfl, rfl, _, rfl, turn + 1, 29, rfl, rfl, turn + 1 + 29, 2, rfl, rfl, ⟨by decide, by decide, cc⟩, _, _, rfl, rfl, .inl ⟨by omega, by omega⟩, ?_⟩
        refine ⟨_, rfl, 7919, turn + 1, rfl, rfl, .inl ⟨by decide, by decide⟩, _, _, rfl, rfl, ?_⟩
        refine ⟨_, rfl, _, _, rfl, rfl, (by decide : (0 : Int) < 2305843009213693951), _, 3, rfl, rfl, ⟨by decide, by decide, m61 _⟩, 10, 18, rfl, rfl, ⟨by decide, by decide, by decide⟩, _, 9, rfl, rfl, _, _, rfl, rfl, (by decide : (0 : Int) < 10 ^ Int.toNat 18 + 9), _, 64, rfl, rfl, ⟨by decide, by decide⟩, _, rfl, _, many, rfl, rfl, hm, ?_⟩
        exact q _ (turn + 1) _ (Int.emod_nonneg _ (by omega)) (Int.emod_lt_of_pos _ hm) ⟨⟨left, ds, hb2, by rw [upd_ne nbd.symm]; exact hd⟩, m0, m1, by omega, nbd⟩ (by omega) kp.l
def spBag (K : PySem.W.Frag) : Sp := fun vs H Q _ => ∃ (a : Addr) (ns : List Int), vs = [.ref a] ∧ SqL K H a (ns.map V.int) ∧ ns.length ≤ 63 ∧ ∀ b d blend H', H b = none → H d = none → Same H H' → Bag H' b d blend 0 → Q (.ref b) H'
theorem ok_lawbag {f : Addr} {fd : FuncData} (F : Fun K "_law_bag" "_law_bag" s_lawbag f fd) (B : Bi mg) : FnOk P w K mg base CX0 1 f fd ["script"] (spBag K) := by
  refine F.ok sc_lawbag (fun vs H Q E h => ?_) (fun cdv A outer s H vs Q E hr h => ?_)
  · obtain ⟨a, ns, rfl, _⟩ := h
    rfl
  · obtain ⟨a, ns, rfl, hS, hn, q⟩ := h
    refine ⟨_, (pss_cons (ps_par (i := 1) (j := 2) (by rfl) sc_lawbag.nd rfl rfl (by decide) rfl rfl (pa_cons pe_int (pa_cons (pe_lst pa_nil) pa_nil)) (by rfl))
 (pss_cons (ps_for PassesOwn.never rfl (pi_list (pv 0)) (pg_name (i := 3) sc_lawbag.nd rfl (Or.inl rfl))
 (pss_cons (ps_set (i := 1) sc_lawbag.nd rfl (Or.inl rfl) (pe_op op_mod (pe_op op_add (pe_op op_mul (pv 1) pe_int) (pv 3)) pe_int))
 (pss_one (ps_if (pt_cmpR op_ge (pe_callB (id := "abs") call_abs (by rfl) B.n_abs (by decide +kernel) (pa_cons (pv 3) pa_nil)) (pe_op op_pow pe_int pe_int) (nomark _))
 (pss_one (ps_expr (pe_bm PySem.F.plainAttrs_list PySem.F.slot_list_append PySem.F.type_list_append mt_append (pv 2) (pa_cons (pe_callB (id := "abs") call_abs (by rfl) B.n_abs (by decide +kernel) (pa_cons (pv 3) pa_nil)) pa_nil))))
 pss_nil))))
 (pss_one (ps_ret (pe_disp (pps_cons pe_str (pv 2) (pps_cons pe_str pe_int (pps_cons pe_str pe_int (pps_cons pe_str (pv 1) pps_nil)))) rfl rfl (by simp) (by decide)))))), ?_⟩
    refine ⟨Nat.zero_le _, fun d hd => ⟨_, _, rfl, ?_⟩⟩
    refine ⟨_, rfl, a, rfl, ⟨_, (same_new hd).seq hS⟩, for_list (K := K) (a := a) (xs := ns.map V.int) (fun i σ H' => Same H H' ∧ ∃ mix ds y3, σ = [some (.ref a), some (.int mix), some (.ref d), y3] ∧ 0 ≤ mix ∧ mix < 2305843009213693951 ∧ ds.length ≤ i ∧ H' d = some (.lst (List.map V.int ds)))
      ⟨same_new hd, 11, [], none, rfl, by decide, by decide, Nat.le_refl _, upd_same⟩ (fun i σ H' _ h => h.1.seq hS) ?_ ?_⟩
    · rintro i x σ H' hi ⟨sm, mix, ds, y3, rfl, m0, m1, hlen, hdd⟩
      have hil : i < ns.length := by
        have := (List.getElem?_eq_some_iff.mp hi).1
        rwa [List.length_map] at this
      obtain ⟨c, hc, rfl⟩ := map_at hi
      have m0' : 0 ≤ (mix * 1000003 + c) % 2305843009213693951 := Int.emod_nonneg _ (by decide)
      have m1' : (mix * 1000003 + c) % 2305843009213693951 < 2305843009213693951 := Int.emod_lt_of_pos _ (by decide)
      refine ⟨_, rfl, mix, 1000003, rfl, rfl, .inr ⟨by decide, by decide⟩, _, rfl, _, c, rfl, rfl, _, _, rfl, rfl, (by decide : (0 : Int) < 2305843009213693951), ?_⟩
      refine ⟨_, rfl, c, rfl, ?_⟩
      generalize (if c < 0 then -c else c) = sp
      refine ⟨10, 18, rfl, rfl, ⟨by decide, by decide, by decide⟩, _, _, rfl, rfl, _, rfl, ite2 (fun _ => ?_) (fun _ => ?_)⟩
      · refine ⟨_, rfl, .inl ⟨rfl, _, SqL.of hdd⟩, _, rfl, c, rfl, ?_⟩
        generalize (if c < 0 then -c else c) = sp2
        refine ⟨d, _, _, rfl, rfl, hdd, (by rw [List.length_map]; exact small1000 (by omega)), ?_⟩
        refine ⟨fun b o e => ?_, (mix * 1000003 + c) % 2305843009213693951, ds ++ [sp2], _, rfl, m0', m1', by rw [List.length_append]; show ds.length + 1 ≤ i + 1; omega, ?_⟩
        · rw [upd_ne (ne_of_none e hd)]
          exact sm _ _ e
        · rw [upd_same, List.map_append]
          rfl
      · exact ⟨sm, (mix * 1000003 + c) % 2305843009213693951, ds, _, rfl, m0', m1', by omega, hdd⟩
    · rintro σ H' ⟨sm, mix, ds, y3, rfl, m0, m1, hlen, hdd⟩
      refine fun b hb => ⟨_, rfl, _, rfl, ?_⟩
      have nbd : b ≠ d := (ne_of_none hdd hb).symm
      refine ⟨upd_same, bagK d 0 0 mix, rfl, (show 4 ≤ 15 by decide), ?_⟩
      have em : mergeK [] (bagK d 0 0 mix) = bagK d 0 0 mix := rfl
      rw [em]
      refine q b d mix _ (sm.free hb) hd (fun b0 o e => ?_) ⟨⟨0, ds, upd_same, ?_⟩, m0, m1, Int.le_refl 0, nbd⟩
      · rw [upd_ne (ne_of_none (sm _ _ e) hb), upd_ne (ne_of_none (sm _ _ e) hb)]
        exact sm _ _ e
      · rw [upd_ne nbd.symm, upd_ne nbd.symm]
        exact hdd
end

end Sq

set_option Elab.async false
set_option linter.all false
set_option maxRecDepth 100000
set_option maxHeartbeats 4000000
namespace Sq
open PySem PySem.Spec PyProof.Rows L2
section
variable {P : Program} {w : World} {K : PySem.W.Frag} {mg : Str → Option Value} {base : Heap} {c fI : Nat → Addr} {qn : Nat → Str} {cB : Addr}
/-- from the last number to the first one -/
def lchr (ks : List Int) : Int := ks.foldl (fun R k => rw1 k R) 1
theorem lchr_rev (ks : List Int) : lchr ks.reverse = rch ks 1 := by
  unfold lchr
  rw [List.foldl_reverse]
  rfl
def spLawReach : Sp := fun vs H Q _ => ∃ (a : Addr) (ks : List Int), vs = [.ref a] ∧ H a = some (.lst (ks.map V.int)) ∧ ks.length ≤ 1000 ∧ (∀ k ∈ ks, 2 ≤ k ∧ k < 1073741824) ∧ ∀ H', Same H H' → Q (.int (rch ks 1)) H'
theorem ok_lawreach {f : Addr} {fd : FuncData} (F : Fun K "_law_reach" "_law_reach" s_lawreach f fd) : FnOk P w K mg base CX0 1 f fd ["steps_now"] spLawReach := by
  refine F.ok sc_lawreach (fun vs H Q E h => ?_) (fun cdv A outer s H vs Q E hr h => ?_)
  · obtain ⟨a, ks, rfl, _⟩ := h
    rfl
  · obtain ⟨a, ks, rfl, hS, hl, hk, q⟩ := h
    refine ⟨_, (pss_cons (ps_set (i := 1) sc_lawreach.nd rfl (Or.inl rfl) pe_int)
 (pss_cons (ps_for PassesOwn.never rfl (pi_list (pe_revL (pv 0))) (pg_name (i := 2) sc_lawreach.nd rfl (Or.inl rfl))
 (pss_one (ps_if (pt_cmpR op_le (pv 2) (pe_op op_add (pv 1) pe_int) (nomark _))
 (pss_one (ps_set (i := 1) sc_lawreach.nd rfl (Or.inl rfl) (pe_op op_sub (pe_op op_mul (pe_op op_sub (pe_op op_add (pv 1) pe_int) (pv 2)) (pv 2)) pe_int)))
 pss_nil)))
 (pss_one (ps_ret (pv 1))))), ?_⟩
    have er : (ks.map V.int).reverse = ks.reverse.map V.int := List.map_reverse.symm
    refine ⟨_, rfl, a, _, rfl, .inl (.inl hS), fun p hp => ?_⟩
    rw [er]
    have gp : SqL K (upd H p (.lst (ks.reverse.map V.int))) p (ks.reverse.map V.int) := .inl (.inl upd_same)
    refine ⟨p, rfl, ⟨_, gp⟩, for_list (K := K) (a := p) (xs := ks.reverse.map V.int) (fun i σ H' => H' = upd H p (.lst (ks.reverse.map V.int)) ∧ ∃ y, σ = [some (.ref a), some (.int (lchr (ks.reverse.take i))), y]) ⟨rfl, none, rfl⟩ (fun i σ H' _ h => by rw [h.1]; exact gp) ?_ ?_⟩
    · rintro i x σ H' hi ⟨rfl, y, rfl⟩
      obtain ⟨k, e, rfl⟩ := map_at hi
      have hm := hk k (List.mem_reverse.mp (List.mem_of_getElem? e))
      obtain ⟨R, eR⟩ : ∃ R, R = lchr (ks.reverse.take i) := ⟨_, rfl⟩
      have nx : lchr (ks.reverse.take (i + 1)) = rw1 k R := by
        rw [List.take_add_one, e, eR]
        unfold lchr
        rw [List.foldl_append]
        rfl
      rw [← eR]
      refine ⟨_, rfl, _, rfl, _, 1, rfl, rfl, k, R + 1, rfl, rfl, _, rfl, ite2 (fun c1 => ?_) (fun c1 => ?_)⟩
      · have c' : k ≤ R + 1 := of_decide_eq_true c1
        have e1 : rw1 k R = (R + 3 - k) * k - 2 := by
          unfold rw1
          rw [if_neg (show ¬ k > R + 1 by omega)]
        refine ⟨_, rfl, _, 3, rfl, rfl, _, rfl, _, _, rfl, rfl, _, rfl, _, _, rfl, rfl, .inr ⟨by omega, by omega⟩, _, 2, rfl, rfl, rfl, some (.int k), ?_⟩
        rw [nx, e1]
        rfl
      · have c' : ¬ k ≤ R + 1 := fun z => c1 (decide_eq_true z)
        have e1 : rw1 k R = R := by
          unfold rw1
          rw [if_pos (show k > R + 1 by omega)]
        refine ⟨rfl, some (.int k), ?_⟩
        rw [nx, e1]
        rfl
    · rintro σ H' ⟨rfl, y, rfl⟩
      rw [List.length_map, List.take_length, lchr_rev]
      exact ⟨_, rfl, q _ (same_new hp)⟩
def spCheckList (K : PySem.W.Frag) : Sp := fun vs H Q _ => ∃ (a : Addr) (ks : List Int), vs = [.ref a] ∧ SqL K H a (ks.map V.int) ∧ (∀ k ∈ ks, 2 ≤ k) ∧ ∀ H', Same H H' → Q .non H'
theorem ok_checklist {f : Addr} {fd : FuncData} (F : Fun K "check_list" "check_list" s_checklist f fd) (B : Bi mg) : FnOk P w K mg base CX0 1 f fd ["replacements"] (spCheckList K) := by
  refine F.ok sc_checklist (fun vs H Q E h => ?_) (fun cdv A outer s H vs Q E hr h => ?_)
  · obtain ⟨a, ks, rfl, _⟩ := h
    rfl
  · obtain ⟨a, ks, rfl, hS, hk, q⟩ := h
    refine ⟨_, (pss_one (ps_for PassesOwn.never rfl (pi_enum (by rfl) B.n_enumerate (pa_cons (pv 0) pa_nil)) (pg_tup rfl (pgs_cons (pg_name (i := 1) sc_checklist.nd rfl (Or.inl rfl)) (pgs_cons (pg_name (i := 2) sc_checklist.nd rfl (Or.inl rfl)) pgs_nil)))
 (pss_one (ps_if (pt_cmpR op_lt (pv 2) pe_int (nomark _))
 (pss_one ps_never)
 pss_nil)))), ?_⟩
    refine ⟨_, rfl, a, ks.map V.int, rfl, hS, for_it walk_enum (fun i σ H' => Same H H' ∧ ∃ y z, σ = [some (.ref a), y, z]) ⟨Same.refl H, none, none, rfl⟩ (fun i σ H' _ h => h.1.seq hS) ?_ ?_⟩
    · rintro i σ H' v H2 hi ⟨sm, y, z, rfl⟩ ⟨T, x1, x2, rfl, nT, rfl, e1, e2⟩
      obtain ⟨k, hk', rfl⟩ := map_at e2
      cases e1
      refine ⟨T, _, rfl, .inl (.inl upd_same), rfl, _, _, rfl, _, _, rfl, rfl, ?_⟩
      refine ⟨_, rfl, _, _, rfl, rfl, _, rfl, ite2 (fun c => ?_) (fun c => ?_)⟩
      · have := hk k (List.mem_of_getElem? hk')
        have c' : k < 2 := of_decide_eq_true c
        omega
      · exact ⟨sm.trans (same_new nT), _, _, rfl⟩
    · rintro σ H' ⟨sm, y, z, rfl⟩
      exact q H' sm
theorem rch_bound : ∀ l : List Int, (∀ k ∈ l, 2 ≤ k ∧ k ≤ 60) → rch l 1 + 3 ≤ 4 * 60 ^ l.length
  | [], _ => by decide
  | k :: l, h => by
    have hk := h k List.mem_cons_self
    have ih := rch_bound l fun x hx => h x (List.mem_cons_of_mem _ hx)
    have p := rch_pos l 1 (fun x hx => (h x (List.mem_cons_of_mem _ hx)).1) (by decide)
    show rw1 k (rch l 1) + 3 ≤ 4 * 60 ^ (l.length + 1)
    rw [Int.pow_succ]
    unfold rw1
    split
    · omega
    · have m : (rch l 1 + 3 - k) * k ≤ (rch l 1 + 3 - k) * 60 := Int.mul_le_mul_of_nonneg_left hk.2 (by omega)
      have e : (rch l 1 + 3 - k) * 60 = (rch l 1 + 3) * 60 - k * 60 := Int.sub_mul _ _ _
      omega
theorem rch_small {l : List Int} (h : ∀ k ∈ l, 2 ≤ k ∧ k ≤ 60) (hl : l.length ≤ 8) : 1 ≤ rch l 1 ∧ rch l 1 < 1000000000000000 := by
  have a := rch_bound l h
  have p := rch_pos l 1 (fun x hx => (h x hx).1) (by decide)
  have m : 60 ^ l.length ≤ 60 ^ 8 := Nat.pow_le_pow_right (by decide) hl
  have e2 : ((60 ^ l.length : Nat) : Int) = (60 : Int) ^ l.length := by push_cast; rfl
  have e : 60 ^ 8 = 167961600000000 := by decide
  omega
def spReach (K : PySem.W.Frag) : Sp := fun vs H Q _ => ∃ (a : Addr) (ks : List Int), vs = [.ref a, .int 1] ∧ SqL K H a (ks.map V.int) ∧ (∀ k ∈ ks, 2 ≤ k ∧ k ≤ 60) ∧ ks.length ≤ 8 ∧ ∀ H', Same H H' → Q (.int (rch ks 1)) H'
abbrev FReach (K : PySem.W.Frag) (f : Addr) (fd : FuncData) : Prop := FunD K "reach" "reach" (defArgs s_reach) (defBody s_reach) (defScope s_reach) [.int 1] [] f fd
theorem ok_reach {f : Addr} {fd : FuncData} (F : FReach K f fd) (B : Bi mg) (D_checklist : Df P w K mg base 1 "check_list" ["replacements"] (spCheckList K))
    (D_checknumber : Df P w K mg base 1 "check_number" ["number", "least"] spChkN) (D_reachwith : Df P w K mg base 1 "reach_with" ["number", "longest"] spReachWith) :
    FnOk P w K mg base CX0 2 f fd ["replacements", "most"] (spReach K) := by
  refine okD F sc_reach (fun vs H Q E h => ?_) (fun cdv A outer s H vs Q E hr h => ?_)
  · obtain ⟨a, ks, rfl, _⟩ := h
    rfl
  · obtain ⟨a, ks, rfl, hS, hk, l8, q⟩ := h
    refine ⟨_, (pss_cons (ps_expr (pe_callD D_checklist (hr.mono (by omega)) (by rfl) (pa_cons (pv 0) pa_nil)))
 (pss_cons (ps_expr (pe_callD D_checknumber (hr.mono (by omega)) (by rfl) (pa_cons (pv 1) (pa_cons pe_int pa_nil))))
 (pss_cons (ps_set (i := 2) sc_reach.nd rfl (Or.inl rfl) (pv 1))
 (pss_cons (ps_for PassesOwn.never rfl (pi_reversed (by rfl) B.n_reversed (pa_cons (pv 0) pa_nil)) (pg_name (i := 3) sc_reach.nd rfl (Or.inl rfl))
 (pss_one (ps_set (i := 2) sc_reach.nd rfl (Or.inl rfl) (pe_callD D_reachwith (hr.mono (by omega)) (by rfl) (pa_cons (pv 3) (pa_cons (pv 2) pa_nil))))))
 (pss_one (ps_ret (pv 2))))))), ?_⟩
    refine ⟨.ref a, rfl, a, ks, rfl, hS, fun k m => (hk k m).1, fun H1 s1 => ?_⟩
    refine ⟨_, rfl, 1, 1, rfl, by decide, ?_⟩
    refine ⟨_, rfl, ?_⟩
    have h1 := s1.seq hS
    refine ⟨_, rfl, a, ks.map V.int, rfl, h1, for_it walk_rev (fun i σ H' => H' = H1 ∧ i ≤ ks.length ∧ ∃ y, σ = [some (.ref a), some (.int 1), some (.int (rch (ks.drop (ks.length - i)) 1)), y]) ⟨rfl, Nat.zero_le _, none, ?_⟩ (fun i σ H' _ h => by rw [h.1]; exact h1) ?_ ?_⟩
    · rw [Nat.sub_zero, List.drop_length]
      rfl
    · rintro i x σ H' H2 hi ⟨rfl, hle, y, rfl⟩ ⟨rfl, e⟩
      rw [List.length_map] at hi e
      obtain ⟨k, hk', rfl⟩ := map_at e
      have hm := hk k (List.mem_of_getElem? hk')
      have sm := rch_small (l := ks.drop (ks.length - i)) (fun x hx => hk x (List.mem_of_mem_drop hx)) (by rw [List.length_drop]; omega)
      refine ⟨_, rfl, _, rfl, k, _, rfl, hm.1, fun _ => wide_mul (a := 64) (b := 64) (by omega) (by omega) (by omega) (by omega) (by omega), rfl, hi, some (.int k), ?_⟩
      have hj : ks.length - 1 - i < ks.length := by omega
      have ed : ks.drop (ks.length - (i + 1)) = k :: ks.drop (ks.length - i) := by
        rw [show ks.length - (i + 1) = ks.length - 1 - i by omega, List.drop_eq_getElem_cons hj]
        rw [List.getElem?_eq_getElem hj] at hk'
        rw [Option.some.inj hk', show ks.length - 1 - i + 1 = ks.length - i by omega]
      rw [ed]
      rfl
    · rintro σ H' ⟨rfl, hle, y, rfl⟩
      refine ⟨_, rfl, ?_⟩
      rw [List.length_map, Nat.sub_self, List.drop_zero]
      exact q _ s1
theorem reach_v {f : Addr} {fd : FuncData} (F : FReach K f fd) (G : FnOk P w K mg base CX0 2 f fd ["replacements", "most"] (spReach K)) (g : mg "reach" = some (.ref f)) :
    Dv P w K mg base 2 "reach" ["replacements", "most"] [.int 1] (spReach K) := by
  obtain ⟨ds, hd, hb⟩ := F.binds1 (ps := ["replacements", "most"]) 1 0 (by simp) rfl (fun T kV doc pm an cdv ct us its h1 h2 => match us, its, h1, h2 with | [_], [_], _, _ => ⟨_, rfl, rfl⟩)
  exact ⟨⟨f, fd, ds, G, g, F.kp, hd, hb⟩⟩
end
end Sq

set_option Elab.async false
set_option linter.all false
set_option maxRecDepth 100000
set_option maxHeartbeats 4000000
namespace Sq
open PySem PySem.Spec PyProof.Rows L2
section
variable {P : Program} {w : World} {K : PySem.W.Frag} {mg : Str → Option Value} {base : Heap} {c fI : Nat → Addr} {qn : Nat → Str} {cB : Addr}
def spRefused : Sp := fun vs H Q _ => ∃ (n g L z : Int), vs = [.int n, .int g, .int L, .int z] ∧ dueCh n g L = none ∧ Lim n.toNat g L ∧ (z < 0 ∨ (cnt g n.toNat L : Int) ≤ z) ∧ ∀ H', Same H H' → Q (.bl true) H'
theorem ok_lawisrefused {f : Addr} {fd : FuncData} (F : Fun K "_law_is_refused" "_law_is_refused" s_lawisrefused f fd) (Z : Errs1 P K mg c fI qn cB) (M1 : PySem.W.exmOne K (.ref (c 1)) (.ref (c 1)) = some true)
    (X_nthlist : Dn P w K mg base 6 "nth_list" ["steps", "greatest", "length", "number"] (spNth c)) :
    FnOk P w K mg base CX0 7 f fd ["many", "largest", "far", "spot"] spRefused := by
  refine F.ok sc_lawisrefused (fun vs H Q E h => ?_) (fun cdv A outer s H vs Q E hr h => ?_)
  · obtain ⟨n, g, L, z, rfl, _⟩ := h
    rfl
  · obtain ⟨n, g, L, z, rfl, d0, lim, hz, q⟩ := h
    refine ⟨_, (pss_cons (L2N.ps_try_as (i := 4) rfl rfl sc_lawisrefused.nd rfl rfl ⟨by rfl, by decide, .inl Z.g1⟩ takesN0 (fun W_ pn_ xe_ tk_ own_ => (pss_one (ps_expr (pe_callN X_nthlist tk_ (hr.mono (by omega)) (by rfl) (pa_cons (pv 0) (pa_cons (pv 1) (pa_cons (pv 2) (pa_cons (pv 3) pa_nil))))))))
 (fun a_ oe_ cls_ d_ pn_ hz_ hf_ => (pss_one (ps_ret (pe_cmpR op_eq (pe_sv hz_ hf_ (pv 4)) (pv 3) (nomark _))))))
 (pss_one (ps_ret pe_bl))), ?_⟩
    refine ⟨_, rfl, _, rfl, _, rfl, _, rfl, n, g, L, z, rfl, fun x dx => absurd (d0.symm.trans dx) (fun z => nomatch z), fun _ => ⟨lim, fun bad H' s' d hd => ⟨true, M1, fun _ p hp => ?_, fun z => nomatch z⟩, fun b1 b2 => absurd hz (by omega)⟩⟩
    refine ⟨_, rfl, ?_⟩
    have q' := q _ (s'.trans (same_new (o := exd d [(("value" : Str), .int z)]) hd))
    rw [show true = decide (V.int z = V.int z) from (decide_eq_true rfl).symm] at q'
    exact ⟨c 1, d, .int z, rfl, rfl, rfl, upd_same, Z.xf 1 (by decide), Z.nv 1 (by decide), _, rfl, rfl, q'⟩
end
end Sq

set_option Elab.async false
set_option maxRecDepth 100000
/-! The hash of None is no hash of a pair of small numbers. -/
namespace Sq
open PySem PySem.Spec PyProof.Rows L2
def gM (x : Nat) : Nat := ((x * 2 ^ 31) % 2 ^ 64 + x / 2 ^ 33) * 11400714785074694791 % 2 ^ 64
theorem rot_eq (x : Nat) : (x * 2 ^ 31) % 2 ^ 64 = (x % 2 ^ 33) * 2 ^ 31 := by
  rw [show (2 : Nat) ^ 64 = 2 ^ 33 * 2 ^ 31 by decide]
  exact Nat.mul_mod_mul_right _ _ _
theorem rot_inj {x y : Nat} (hx : x < 2 ^ 64) (hy : y < 2 ^ 64) (h : (x * 2 ^ 31) % 2 ^ 64 + x / 2 ^ 33 = (y * 2 ^ 31) % 2 ^ 64 + y / 2 ^ 33) : x = y := by
  rw [rot_eq, rot_eq] at h
  have a := Nat.div_add_mod x (2 ^ 33)
  have b := Nat.div_add_mod y (2 ^ 33)
  have ax : x / 2 ^ 33 < 2 ^ 31 := by rw [Nat.div_lt_iff_lt_mul (by decide)]; exact hx
  have ay : y / 2 ^ 33 < 2 ^ 31 := by rw [Nat.div_lt_iff_lt_mul (by decide)]; exact hy
  generalize x / 2 ^ 33 = q at *
  generalize y / 2 ^ 33 = r at *
  generalize x % 2 ^ 33 = u at *
  generalize y % 2 ^ 33 = v at *
  have : u = v ∧ q = r := by omega
  rw [← a, ← b, this.1, this.2]
theorem mul_inj {x y : Nat} (hx : x < 2 ^ 64) (hy : y < 2 ^ 64) (h : x * 11400714785074694791 % 2 ^ 64 = y * 11400714785074694791 % 2 ^ 64) : x = y := by
  have back : ∀ z : Nat, z < 2 ^ 64 → (z * 11400714785074694791 % 2 ^ 64) * 614540362697595703 % 2 ^ 64 = z := fun z hz => by
    rw [Nat.mod_mul_mod, Nat.mul_assoc, Nat.mul_mod, show 11400714785074694791 * 614540362697595703 % 2 ^ 64 = 1 by decide, Nat.mul_one, Nat.mod_mod, Nat.mod_eq_of_lt hz]
  rw [← back x hx, h, back y hy]
theorem rot_lt {x : Nat} (hx : x < 2 ^ 64) : (x * 2 ^ 31) % 2 ^ 64 + x / 2 ^ 33 < 2 ^ 64 := by
  rw [rot_eq]
  have ax : x / 2 ^ 33 < 2 ^ 31 := by rw [Nat.div_lt_iff_lt_mul (by decide)]; exact hx
  have := Nat.mod_lt x (show 0 < 2 ^ 33 by decide)
  generalize x / 2 ^ 33 = q at *
  generalize x % 2 ^ 33 = u at *
  omega
theorem gM_inj {x y : Nat} (hx : x < 2 ^ 64) (hy : y < 2 ^ 64) (h : gM x = gM y) : x = y := rot_inj hx hy (mul_inj (rot_lt hx) (rot_lt hy) h)
theorem p2_back (z : Nat) (hz : z < 2 ^ 64) : (z * 14029467366897019727 % 2 ^ 64) * 839798700976720815 % 2 ^ 64 = z := by
  rw [Nat.mod_mul_mod, Nat.mul_assoc, Nat.mul_mod, show 14029467366897019727 * 839798700976720815 % 2 ^ 64 = 1 by decide, Nat.mul_one, Nat.mod_mod, Nat.mod_eq_of_lt hz]
theorem gM_lt (x : Nat) : gM x < 2 ^ 64 := Nat.mod_lt _ (by decide)
theorem hash_b (m f a : Nat) (hm : m ≤ 8) (hf : f ≤ 10000) (la : a < 2 ^ 64) (ea : (gM ((2870177450012600261 + m * 14029467366897019727) % 2 ^ 64) + f * 14029467366897019727) % 2 ^ 64 = a) (et : gM a = 15576566627934973804) : False := by
  have e5 : gM a = gM 10274444032720658015 := by rw [et]; decide
  have e6 := gM_inj la (by decide) e5
  rw [e6] at ea
  have key : ∀ z w c' : Nat, c' < 2 ^ 64 → (c' + z) % 2 ^ 64 = w → z % 2 ^ 64 = (w + 2 ^ 64 - c') % 2 ^ 64 := fun z w c' h1 h2 => by omega
  have cases : m = 0 ∨ m = 1 ∨ m = 2 ∨ m = 3 ∨ m = 4 ∨ m = 5 ∨ m = 6 ∨ m = 7 ∨ m = 8 := by omega
  have b := p2_back f (by omega)
  have k := key _ _ _ (gM_lt _) ea
  rw [k] at b
  rcases cases with rfl | rfl | rfl | rfl | rfl | rfl | rfl | rfl | rfl
  · rw [show gM ((2870177450012600261 + 0 * 14029467366897019727) % 2 ^ 64) = 6823068795704846497 by decide, show (10274444032720658015 + 2 ^ 64 - 6823068795704846497) % 2 ^ 64 * 839798700976720815 % 2 ^ 64 = 4315940552913807074 by decide] at b
    omega
  · rw [show gM ((2870177450012600261 + 1 * 14029467366897019727) % 2 ^ 64) = 8932352168822476794 by decide, show (10274444032720658015 + 2 ^ 64 - 8932352168822476794) % 2 ^ 64 * 839798700976720815 % 2 ^ 64 = 17650724218664300043 by decide] at b
    omega
  · rw [show gM ((2870177450012600261 + 2 * 14029467366897019727) % 2 ^ 64) = 4039278139849780428 by decide, show (10274444032720658015 + 2 ^ 64 - 4039278139849780428) % 2 ^ 64 * 839798700976720815 % 2 ^ 64 = 1572524871303033981 by decide] at b
    omega
  · rw [show gM ((2870177450012600261 + 3 * 14029467366897019727) % 2 ^ 64) = 10546918895951778853 by decide, show (10274444032720658015 + 2 ^ 64 - 10546918895951778853) % 2 ^ 64 * 839798700976720815 % 2 ^ 64 = 3625791077500926886 by decide] at b
    omega
  · rw [show gM ((2870177450012600261 + 4 * 14029467366897019727) % 2 ^ 64) = 5653844866979082487 by decide, show (10274444032720658015 + 2 ^ 64 - 5653844866979082487) % 2 ^ 64 * 839798700976720815 % 2 ^ 64 = 5994335803849212440 by decide] at b
    omega
  · rw [show gM ((2870177450012600261 + 5 * 14029467366897019727) % 2 ^ 64) = 7763128240096712784 by decide, show (10274444032720658015 + 2 ^ 64 - 7763128240096712784) % 2 ^ 64 * 839798700976720815 % 2 ^ 64 = 882375395890153793 by decide] at b
    omega
  · rw [show gM ((2870177450012600261 + 6 * 14029467366897019727) % 2 ^ 64) = 14270768996198711209 by decide, show (10274444032720658015 + 2 ^ 64 - 14270768996198711209) % 2 ^ 64 * 839798700976720815 % 2 ^ 64 = 2935641602088046698 by decide] at b
    omega
  · rw [show gM ((2870177450012600261 + 7 * 14029467366897019727) % 2 ^ 64) = 9377694967226014843 by decide, show (10274444032720658015 + 2 ^ 64 - 9377694967226014843) % 2 ^ 64 * 839798700976720815 % 2 ^ 64 = 5304186328436332252 by decide] at b
    omega
  · rw [show gM ((2870177450012600261 + 8 * 14029467366897019727) % 2 ^ 64) = 15885335723328013268 by decide, show (10274444032720658015 + 2 ^ 64 - 15885335723328013268) % 2 ^ 64 * 839798700976720815 % 2 ^ 64 = 7357452534634225157 by decide] at b
    omega

def hashG (m p1 p2 p5 a b c e : Nat) (z : Int) (hashes : List Int) : Int :=
  let acc := hashes.foldl (init := p5) fun acc h =>
    let acc := (acc + (h % (m : Int)).toNat * p2) % m
    let acc := (acc * a) % m + acc / b
    (acc * p1) % m
  let acc := (acc + (hashes.length ^^^ (p5 ^^^ e))) % m
  if acc == m - 1 then z else if acc < c then acc else (acc : Int) - m
theorem hash_g (hs : List Int) : Builtin.Tuple.tupleHashOf hs = hashG (2 ^ 64) 11400714785074694791 14029467366897019727 2870177450012600261 (2 ^ 31) (2 ^ 33) (2 ^ 63) 3527539 1546275796 hs := by
  unfold Builtin.Tuple.tupleHashOf hashG
  with_reducible rfl
def stpG (m p1 p2 a b acc : Nat) (h : Int) : Nat := (((acc + (h % (m : Int)).toNat * p2) % m) * a % m + (acc + (h % (m : Int)).toNat * p2) % m / b) * p1 % m
def finG (m c : Nat) (z : Int) (acc : Nat) : Int := if acc == m - 1 then z else if acc < c then acc else (acc : Int) - m
theorem hash_g2 (m p1 p2 p5 a b c e : Nat) (z : Int) (h1 h2 : Int) : hashG m p1 p2 p5 a b c e z [h1, h2] = finG m c z ((stpG m p1 p2 a b (stpG m p1 p2 a b p5 h1) h2 + ([h1, h2].length ^^^ (p5 ^^^ e))) % m) := rfl
theorem fin_g {m c y : Nat} (hm : m = 2 ^ 64) (hc : c = 2 ^ 63) (hy : y < m) (h : finG m c 1546275796 y = 4238894112) : y = 4238894112 := by
  unfold finG at h
  split at h
  · exact absurd h (by decide)
  · split at h
    · omega
    · omega
theorem stp_g {m a b : Nat} (hm : m = 2 ^ 64) (ha : a = 2 ^ 31) (hb : b = 2 ^ 33) (acc n : Nat) (hn : n < 2 ^ 64) : stpG m 11400714785074694791 14029467366897019727 a b acc (n : Int) = gM ((acc + n * 14029467366897019727) % 2 ^ 64) := by
  have e1 : ((n : Int) % (m : Int)).toNat = n := by
    rw [← Int.natCast_emod, Int.toNat_natCast]
    exact Nat.mod_eq_of_lt (by omega)
  unfold stpG gM
  rw [e1, hm, ha, hb]
theorem hash_none (m f : Nat) (hm : m ≤ 8) (hf : f ≤ 10000) : Builtin.Tuple.tupleHashOf [(m : Int), (f : Int)] ≠ 4238894112 := fun h => by
  rw [hash_g] at h
  obtain ⟨M, eM⟩ : ∃ M, M = 2 ^ 64 := ⟨_, rfl⟩
  obtain ⟨a, ea⟩ : ∃ M, M = 2 ^ 31 := ⟨_, rfl⟩
  obtain ⟨b, eb⟩ : ∃ M, M = 2 ^ 33 := ⟨_, rfl⟩
  obtain ⟨c, ec⟩ : ∃ M, M = 2 ^ 63 := ⟨_, rfl⟩
  rw [← eM, ← ea, ← eb, ← ec, hash_g2] at h
  have mp : 0 < M := by omega
  have y := fin_g eM ec (Nat.mod_lt _ mp) h
  rw [stp_g eM ea eb _ m (by omega), stp_g eM ea eb _ f (by omega)] at y
  have xc : ([(m : Int), (f : Int)].length ^^^ (2870177450012600261 ^^^ 3527539)) = 2870177450013471924 := by
    rw [List.length_cons, List.length_cons, List.length_nil]
    decide
  rw [xc] at y
  have lg := gM_lt ((gM ((2870177450012600261 + m * 14029467366897019727) % 2 ^ 64) + f * 14029467366897019727) % 2 ^ 64)
  have key : ∀ t : Nat, t < 2 ^ 64 → (t + 2870177450013471924) % M = 4238894112 → t = 15576566627934973804 := fun t h1 h2 => by
    rw [eM] at h2
    omega
  exact hash_b m f _ hm hf (Nat.mod_lt _ (by decide)) rfl (key _ lg y)

theorem fin_range {m c y : Nat} (hm : m = 2 ^ 64) (hc : c = 2 ^ 63) (hy : y < m) : -(2 ^ 63 : Int) ≤ finG m c 1546275796 y ∧ finG m c 1546275796 y < 2 ^ 63 := by
  unfold finG
  split
  · exact ⟨by decide, by decide⟩
  · split
    · omega
    · omega
theorem hash_range (h1 h2 : Int) : -(2 ^ 63 : Int) ≤ Builtin.Tuple.tupleHashOf [h1, h2] ∧ Builtin.Tuple.tupleHashOf [h1, h2] < 2 ^ 63 := by
  rw [hash_g]
  obtain ⟨M, eM⟩ : ∃ M, M = 2 ^ 64 := ⟨_, rfl⟩
  obtain ⟨c, ec⟩ : ∃ M, M = 2 ^ 63 := ⟨_, rfl⟩
  rw [← eM, ← ec, hash_g2]
  exact fin_range eM ec (Nat.mod_lt _ (by omega))
theorem reduce_ne {x : Int} (r : -(2 ^ 63 : Int) ≤ x ∧ x < 2 ^ 63) (n : x ≠ 4238894112) : reduceHash x ≠ 4238894112 := by
  unfold reduceHash
  have e : ((decide (-(2 ^ 63 : Int) ≤ x)) && decide (x < 2 ^ 63)) = true := by
    rw [decide_eq_true r.1, decide_eq_true r.2]
    rfl
  rw [if_pos e]
  split
  · decide
  · exact n
theorem raw_small {i : Int} (h0 : 0 ≤ i) (h : i < 2 ^ 60) : hashInt i = i := by
  have e : ((i.natAbs % (2 ^ 61 - 1) : Nat) : Int) = i := by
    rw [Nat.mod_eq_of_lt (by omega)]
    omega
  have r : rawHash i = i := by
    unfold rawHash
    show (if (if i < 0 then -((i.natAbs % (2 ^ 61 - 1) : Nat) : Int) else ((i.natAbs % (2 ^ 61 - 1) : Nat) : Int)) == -1 then -2 else (if i < 0 then -((i.natAbs % (2 ^ 61 - 1) : Nat) : Int) else ((i.natAbs % (2 ^ 61 - 1) : Nat) : Int))) = i
    rw [e, if_neg (show ¬ i < 0 by omega), if_neg (by simp; omega)]
  unfold hashInt
  rw [r, if_neg (by simp; omega)]
theorem pair_none {P : Program} {w : World} {m f : Int} (m0 : 0 ≤ m) (m1 : m ≤ 8) (f0 : 0 ≤ f) (f1 : f ≤ 10000) : (tupleKind (mixKind P w)).hash [.inl m, .inl f] ≠ 4238894112 := by
  show reduceHash (Builtin.Tuple.tupleHashOf [hashInt m, hashInt f]) ≠ 4238894112
  rw [raw_small m0 (by omega), raw_small f0 (by omega)]
  refine reduce_ne (hash_range m f) ?_
  obtain ⟨a, rfl⟩ := Int.eq_ofNat_of_zero_le m0
  obtain ⟨b, rfl⟩ := Int.eq_ofNat_of_zero_le f0
  exact hash_none a b (by omega) (by omega)
theorem none_hash : reduceHash 0xFCA86420 = 4238894112 := by decide
end Sq

set_option Elab.async false
set_option linter.all false
set_option maxRecDepth 100000
set_option maxHeartbeats 2000000
/-! A dict with None first, and pairs of ints as its other keys. -/
namespace Sq
open PySem PySem.Spec PyProof.Rows L2
section
variable {prog : Program} {w : World} {A : Around} {E : Value → Shared → Prop} {s : Shared} {d a : Addr} {k : List Key} {xs : List (List Key × Addr × Value)} {vN : Value}
abbrev TK (prog : Program) (w : World) : HeapKind prog w (List Key) := tupleKind (mixKind prog w)
def esN (prog : Program) (w : World) (vN : Value) (xs : List (List Key × Addr × Value)) : List DictEntry := ⟨4238894112, .none, vN⟩ :: xs.map (entryOfKey (TK prog w))
/-- the dict's object -/
def DictN (prog : Program) (w : World) (h : Heap) (d : Addr) (vN : Value) (xs : List (List Key × Addr × Value)) : Prop := ∃ o es ep, h.get? d = some o ∧ o.ExactDict ∧ o.data = .dict es ep ∧ es.toList = esN prog w vN xs
theorem DictN.typeIs (x : DictN prog w s.heap d vN xs) : s.TypeIs (.ref d) "dict" := let ⟨o, _, _, ho, hc, _⟩ := x; ⟨o, ho, hc.1⟩
theorem esN_get (j : Nat) : (esN prog w vN xs)[j + 1]? = (xs[j]?).map (entryOfKey (TK prog w)) := by
  unfold esN
  rw [List.getElem?_cons_succ, List.getElem?_map]
theorem find_pair {o : Obj} {es : Array DictEntry} {ep : Nat} {Q : Option Nat → Shared → Prop} (hu : (TK prog w).room A) (hkey : (TK prog w).is s.heap k a) (ho : s.heap.get? d = some o) (hd : o.data = .dict es ep) (he : es.toList = esN prog w vN xs)
    (all : ∀ x ∈ xs, (TK prog w).is s.heap x.1 x.2.1) (once : (xs.map (·.1)).Nodup) (ne : (TK prog w).hash k ≠ 4238894112)
    (no : (∀ (j : Nat) (p : Addr × Value), xs[j]? ≠ some (k, p)) → Q none s) (yes : ∀ (j : Nat) (p : Addr × Value), xs[j]? = some (k, p) → Q (some (j + 1)) s) :
    wpAny (model prog w) A (dictFind d (.ref a) ((TK prog w).hash k)) Q E s := by
  have entry : ∀ i : Nat, es[i]? = (esN prog w vN xs)[i]? := fun i => by rw [← Array.getElem?_toList, he]
  obtain ⟨P, eP⟩ : ∃ P : Nat → Bool, P = fun i => (es[i]?.map (·.hash)) == some ((TK prog w).hash k) := ⟨_, rfl⟩
  have P0 : P 0 = false := by
    rw [eP]
    show ((es[0]?).map (·.hash) == some ((TK prog w).hash k)) = false
    rw [entry 0]
    show (some (4238894112 : Int) == some ((TK prog w).hash k)) = false
    have : ¬ (some (4238894112 : Int) = some ((TK prog w).hash k)) := fun z => ne (Option.some.inj z).symm
    simpa using this
  have Pk : ∀ (j : Nat) (p : Addr × Value), xs[j]? = some (k, p) → P (j + 1) = true := fun j p hj => by
    rw [eP]
    show ((es[j + 1]?).map (·.hash) == some ((TK prog w).hash k)) = true
    rw [entry, esN_get, hj]
    simp [entryOfKey]
  have here : ∀ i : Nat, P i = true → ∃ (j : Nat) (x : List Key × Addr × Value), i = j + 1 ∧ xs[j]? = some x ∧ es[i]? = some (entryOfKey (TK prog w) x) := fun i hi => by
    cases i with
    | zero => rw [P0] at hi; cases hi
    | succ j =>
      cases hx : xs[j]? with
      | none =>
        rw [eP] at hi
        have hi' : ((es[j + 1]?).map (·.hash) == some ((TK prog w).hash k)) = true := hi
        rw [entry, esN_get, hx] at hi'
        cases hi'
      | some x => exact ⟨j, x, rfl, hx, by rw [entry, esN_get, hx]; rfl⟩
  obtain ⟨L, eL⟩ : ∃ L, L = placesWithHash es.size (fun i => es[i]?.map (·.hash)) ((TK prog w).hash k) := ⟨_, rfl⟩
  have memL : ∀ i, i ∈ L ↔ i < es.size ∧ P i = true := fun i => by
    rw [eL, eP]
    unfold placesWithHash
    rw [List.mem_filter, List.mem_range]
  have ndL : L.Nodup := by
    rw [eL]
    exact List.nodup_range.filter _
  have any : ¬ (es.any fun e => e.key == Value.ref a && e.hash != (TK prog w).hash k) = true := by
    rw [← Array.any_toList, List.any_eq_true, he]
    rintro ⟨e, hin, hc⟩
    rcases List.mem_cons.mp hin with z | z
    · rw [z] at hc
      cases hc
    · obtain ⟨x, hx, rfl⟩ := List.mem_map.mp z
      simp only [entryOfKey, Bool.and_eq_true, beq_iff_eq, bne_iff_ne, ne_eq, Value.ref.injEq] at hc
      have t := all x hx
      rw [hc.1] at t
      exact hc.2 (by rw [(TK prog w).inj t hkey])
  have stored : ∀ v ∈ L.filterMap (fun i => es[i]?.map (·.key)), ∃ k' b, v = .ref b ∧ (TK prog w).is s.heap k' b := fun v hv => by
    obtain ⟨i, hi, hv⟩ := List.mem_filterMap.mp hv
    obtain ⟨j, x, rfl, hx, hes⟩ := here i ((memL i).mp hi).2
    rw [hes] at hv
    obtain rfl : (entryOfKey (TK prog w) x).key = v := Option.some.inj hv
    exact ⟨x.1, x.2.1, rfl, all x (List.mem_of_getElem? hx)⟩
  unfold dictFind
  try with_reducible refine wpAny_holding ?_
  refine wpAny_bind (wpAny_dictEntries ho hd ?_)
  dsimp only
  rw [← eL]
  rw [if_neg (show ¬ ((Value.ref a :: L.filterMap (fun i => es[i]?.map (·.key))).all carriedByValue) = true by simp [carriedByValue])]
  rw [if_neg any]
  by_cases sole : (L.filterMap (fun i => es[i]?.map (·.key)) == [Value.ref a]) = true <;>
  (first | rw [if_pos sole] | rw [if_neg sole]) <;> (first | refine wpAny_bind (wpAny_pure ?_) | refine wpAny_bind (wpAny_tableMayTell_quiet hkey stored ?_)) <;> (
    rw [if_neg (by simp)]
    refine wpAny_bind ?_
    refine wpAny_forIn_list _ (fun rest b s' => s' = s ∧ ∃ hit : Option Nat, b = (none, hit) ∧ (∀ i ∈ rest, P i = true) ∧ rest.Nodup ∧
      ((hit = none ∧ ∀ (j : Nat) (p : Addr × Value), xs[j]? = some (k, p) → j + 1 ∈ rest) ∨ ∃ (j : Nat) (p : Addr × Value), hit = some (j + 1) ∧ xs[j]? = some (k, p) ∧ j + 1 ∉ rest)) _ ?_ ?_ _ _
      ⟨rfl, none, rfl, fun i hi => ((memL i).mp hi).2, ndL, .inl ⟨rfl, fun j p hj => (memL _).mpr ⟨?_, Pk j p hj⟩⟩⟩
    · rintro x rest b s' ⟨rfl, hit, rfl, hP, nd, hH⟩
      obtain ⟨j, y, rfl, hx, hes⟩ := here x (hP x List.mem_cons_self)
      obtain ⟨k', b, v'⟩ := y
      rw [List.nodup_cons] at nd
      have isb : (TK prog w).is s'.heap k' b := all _ (List.mem_of_getElem? hx)
      have more : ∀ i ∈ rest, P i = true := fun i hi => hP i (List.mem_cons_of_mem _ hi)
      rw [hes]
      dsimp only [entryOfKey]
      have same : ((TK prog w).hash k' == (TK prog w).hash k) = true := by
        have q := hP (j + 1) List.mem_cons_self
        rw [eP] at q
        have q' : ((es[j + 1]?).map (·.hash) == some ((TK prog w).hash k)) = true := q
        rw [hes] at q'
        simpa [entryOfKey] using q'
      rw [if_pos same]
      refine wpAny_bind (wpAny_dictEpoch ho hd (wpAny_bind ((TK prog w).eqBool (x := k') (y := k) hu isb hkey (wpAny_bind (wpAny_dictEpoch ho hd ?_)))))
      show wpAny _ _ (if (ep != ep) = true then _ else _) _ E _
      rw [if_neg (by simp)]
      by_cases hkk : k' = k
      · rw [decide_eq_true hkk]
        subst hkk
        rcases hH with ⟨rfl, _⟩ | ⟨j2, p2, _, h2, h3⟩
        · first | rw [if_pos rfl] | skip
          simp only [Option.isSome_none, Bool.false_eq_true, if_false]
          first | refine wpAny_bind (wpAny_pure ?_) | skip
          refine wpAny_bind (wpAny_rule ?_)
          split
          · exact wpAny_pure (wpAny_pure (yes j _ hx))
          · exact wpAny_pure ⟨rfl, some (j + 1), rfl, more, nd.2, .inr ⟨j, _, rfl, hx, nd.1⟩⟩
        · obtain rfl := idxH_unique once h2 hx
          exact absurd List.mem_cons_self h3
      · rw [decide_eq_false hkk]
        simp only [Bool.false_eq_true, if_false]
        refine wpAny_bind (wpAny_rule ?_)
        have go : (hit = none ∧ ∀ (j : Nat) (p : Addr × Value), xs[j]? = some (k, p) → j + 1 ∈ rest) ∨ ∃ (j : Nat) (p : Addr × Value), hit = some (j + 1) ∧ xs[j]? = some (k, p) ∧ j + 1 ∉ rest := by
          rcases hH with ⟨h1, h2⟩ | ⟨j2, p2, h1, h2, h3⟩
          · refine .inl ⟨h1, fun j2 p2 hj2 => ?_⟩
            rcases List.mem_cons.mp (h2 j2 p2 hj2) with z | z
            · have : j2 = j := by omega
              rw [this, hx] at hj2
              injection hj2 with hj2
              injection hj2 with hj2
              exact absurd hj2 hkk
            · exact z
          · exact .inr ⟨j2, p2, h1, h2, fun z => h3 (List.mem_cons_of_mem _ z)⟩
        first | rw [if_neg (by simp)] | skip
        first
          | exact wpAny_pure ⟨rfl, hit, rfl, more, nd.2, go⟩
          | exact wpAny_bind (wpAny_pure (wpAny_pure ⟨rfl, hit, rfl, more, nd.2, go⟩))
    · rintro b s' ⟨rfl, hit, rfl, _, _, hH⟩
      rcases hH with ⟨rfl, h2⟩ | ⟨j, p, rfl, h2, _⟩
      · exact wpAny_pure (no fun j p hj => nomatch h2 j p hj)
      · exact wpAny_pure (yes j p h2)
    · have lt : (esN prog w vN xs).length = xs.length + 1 := by
        unfold esN
        rw [List.length_cons, List.length_map]
      have l2 : es.size = xs.length + 1 := by rw [← Array.length_toList, he, lt]
      have := (List.getElem?_eq_some_iff.mp hj).1
      omega)
end
end Sq

set_option Elab.async false
set_option linter.all false
set_option maxRecDepth 100000
set_option maxHeartbeats 2000000
namespace Sq
open PySem PySem.Spec PyProof.Rows L2
section
variable {prog : Program} {w : World} {A : Around} {E : Value → Shared → Prop} {s : Shared} {d a : Addr} {k : List Key} {xs : List (List Key × Addr × Value)} {vN : Value}
/-- what a look-up of a pair asks -/
structure Ask (prog : Program) (w : World) (h : Heap) (d a : Addr) (k : List Key) (vN : Value) (xs : List (List Key × Addr × Value)) : Prop where
  ob : DictN prog w h d vN xs
  key : (TK prog w).is h k a
  all : ∀ x ∈ xs, (TK prog w).is h x.1 x.2.1
  once : (xs.map (·.1)).Nodup
  ne : (TK prog w).hash k ≠ 4238894112
theorem get_pair {Q : Option Value → Shared → Prop} (hu : (TK prog w).room A) (K : Ask prog w s.heap d a k vN xs) (h : Q ((atKey xs k).map (·.2)) { s with toks := s.toks + (TK prog w).draws k }) : wpAny (model prog w) A (dictGet d (.ref a)) Q E s := by
  obtain ⟨o, es, ep, ho, _, hd, he⟩ := K.ob
  unfold dictGet
  try with_reducible refine wpAny_holding ?_
  refine wpAny_bind ((TK prog w).pyHash hu K.key (wpAny_bind (find_pair (s := { s with toks := s.toks + (TK prog w).draws k }) hu K.key ho hd he K.all K.once K.ne (fun no => ?_) fun j p hj => ?_)))
  · rw [atKey_none_of_get no] at h
    exact wpAny_pure h
  · rw [atKey_of_get K.once hj] at h
    refine wpAny_bind (wpAny_dictEntries (s := { s with toks := s.toks + (TK prog w).draws k }) ho hd ?_)
    rw [← Array.getElem?_toList, he, esN_get, hj]
    exact wpAny_pure h
theorem notIn_pair {Q : Value → Shared → Prop} (hu : (TK prog w).room A.in1) (K : Ask prog w s.heap d a k vN xs) (hd : (d == sysModules) = false) (h : Q (.bool (!(atKey xs k).isSome)) { s with toks := s.toks + (TK prog w).draws k }) :
    wpAny (model prog w) A (compareOp .NotIn (.ref a) (.ref d)) Q E s := by
  show wpAny _ _ (do return .bool (!(← contains (.ref d) (.ref a)))) Q E s
  refine wpAny_bind ?_
  unfold contains
  try with_reducible refine wpAny_holding ?_
  refine wpAny_bind (wpAny_specialOf K.ob.typeIs PySem.F.slot_dict_contains.lookup ?_)
  show wpAny _ _ (if (some (Value.builtin "dict.__contains__") == some Value.none) = true then _ else _) _ E s
  rw [if_neg (by rw [beq_builtin_none]; exact Bool.false_ne_true)]
  refine wpAny_bind (wpAny_callSpecialUnlessNone?_slot (name := Str.ofString "__contains__") K.ob.typeIs PySem.F.slot_dict_contains (wpAny_call_entry PySem.F.slot_dict_contains K.ob.typeIs PySem.F.entry_dict_contains ?_ (PySem.F.args_dict_contains_2 _ _)))
  show wpAny _ _ (dictGet d (.ref a) >>= _) _ _ s
  refine wpAny_bind (get_pair hu K ?_)
  cases q : atKey xs k with
  | some p =>
    rw [q] at h
    show wpAny _ _ (ret (.bool true)) _ _ _
    exact wpAny_pure ⟨_, rfl, wpAny_truthy_bool (wpAny_pure h)⟩
  | none =>
    rw [q] at h
    show wpAny _ _ (Builtin.Dict.pendingKey? d (.ref a) >>= _) _ _ _
    exact wpAny_bind (wpAny_pendingKey_other hd (wpAny_pure ⟨_, rfl, wpAny_truthy_bool (wpAny_pure h)⟩))
theorem item_pair {p : Addr × Value} {Q : Value → Shared → Prop} (hu : (TK prog w).room A.in1) (K : Ask prog w s.heap d a k vN xs) (hp : atKey xs k = some p) (h : Q p.2 { s with toks := s.toks + (TK prog w).draws k }) : wpAny (model prog w) A (getItem (.ref d) (.ref a)) Q E s := by
  unfold getItem
  try with_reducible refine wpAny_holding ?_
  refine wpAny_bind (wpAny_sequenceKey K.ob.typeIs (by decide) ?_)
  refine wpAny_bind (wpAny_callSpecial?_slot (name := Str.ofString "__getitem__") K.ob.typeIs PySem.F.slot_dict_getitem (wpAny_call_entry PySem.F.slot_dict_getitem K.ob.typeIs PySem.F.entry_dict_getitem ?_ (PySem.F.args_dict_getitem_2 _ _)))
  show wpAny _ _ (dictGet d (.ref a) >>= _) _ _ s
  refine wpAny_bind (get_pair hu K ?_)
  rw [hp]
  exact wpAny_pure ⟨p.2, rfl, wpAny_pure h⟩
theorem set_pair {v : Value} {Q : Unit → Shared → Prop} (hu : (TK prog w).room A.in1) (K : Ask prog w s.heap d a k vN xs) (new : atKey xs k = none) (few : xs.length < sizeLine)
    (h : ∀ h', DictN prog w h' d vN (xs ++ [(k, a, v)]) → Heap.SameBut d s.heap h' → Q () { s with heap := h', toks := s.toks + (TK prog w).draws k }) : wpAny (model prog w) A (setItem (.ref d) (.ref a) v) Q E s := by
  obtain ⟨o, es, ep, ho, hc, hd, he⟩ := K.ob
  have size : es.size = xs.length + 1 := by
    rw [← Array.length_toList, he]
    unfold esN
    rw [List.length_cons, List.length_map]
  unfold setItem
  try with_reducible refine wpAny_holding ?_
  refine wpAny_bind (wpAny_sequenceKey K.ob.typeIs (by decide) ?_)
  refine wpAny_bind (wpAny_callSpecial?_slot (name := Str.ofString "__setitem__") K.ob.typeIs PySem.F.slot_dict_setitem (wpAny_call_entry PySem.F.slot_dict_setitem K.ob.typeIs PySem.F.entry_dict_setitem ?_ (PySem.F.args_dict_setitem_3 _ _ _)))
  show wpAny _ _ (Builtin.Dict.notOrdered "__setitem__" ⟨[.ref d, .ref a, v], []⟩ >>= _) _ _ s
  refine wpAny_bind (wpAny_notOrdered_dict K.ob.typeIs ?_)
  show wpAny _ _ (dictSet d (.ref a) v >>= _) _ _ s
  refine wpAny_bind ?_
  unfold dictSet
  try with_reducible refine wpAny_holding ?_
  refine wpAny_bind ((TK prog w).pyHash hu K.key ?_)
  unfold dictSetHashed
  try with_reducible refine wpAny_holding ?_
  refine wpAny_bind (find_pair (s := { s with toks := s.toks + (TK prog w).draws k }) hu K.key ho hd he K.all K.once K.ne (fun no => ?_) fun j p hj => ?_)
  · refine wpAny_bind (wpAny_rule (wpAny_updateDictKeys (hz := by omega) (s := { s with toks := s.toks + (TK prog w).draws k }) ho hd (wpAny_pure ⟨.none, rfl, wpAny_pure (h _ ⟨_, _, ep + 1, Heap.get?_update_self _ ho (Obj.isFreed_of_dict (Obj.data_mapDictKeys hd _)), hc.mapDictKeys _, Obj.data_mapDictKeys hd _, ?_⟩ (Heap.SameBut.update ..))⟩)))
    unfold esN
    rw [List.map_append]
    simp only [Array.toList_push, he]
    rfl
  · rw [atKey_of_get K.once hj] at new
    cases new
/-- None's entry -/
theorem find_none {o : Obj} {es : Array DictEntry} {ep : Nat} {Q : Option Nat → Shared → Prop} (ho : s.heap.get? d = some o) (hd : o.data = .dict es ep) (he : es.toList = esN prog w vN xs) (apart : ∀ x ∈ xs, (TK prog w).hash x.1 ≠ 4238894112) (h : Q (some 0) s) :
    wpAny (model prog w) A (dictFind d .none 4238894112) Q E s := by
  have entry : ∀ i : Nat, es[i]? = (esN prog w vN xs)[i]? := fun i => by rw [← Array.getElem?_toList, he]
  have e0 : es[0]? = some ⟨4238894112, .none, vN⟩ := entry 0
  have pos : 0 < es.size := (Array.getElem?_eq_some_iff.mp e0).1
  have only : placesWithHash es.size (fun i => es[i]?.map (·.hash)) 4238894112 = [0] := by
    unfold placesWithHash
    obtain ⟨n, en⟩ : ∃ n, es.size = n + 1 := ⟨es.size - 1, by omega⟩
    rw [en, List.range_succ_eq_map, List.filter_cons, if_pos (by show ((es[0]?).map (·.hash) == some (4238894112 : Int)) = true; rw [e0]; rfl)]
    congr 1
    rw [List.filter_eq_nil_iff]
    intro i hi
    obtain ⟨j, _, rfl⟩ := List.mem_map.mp hi
    show ¬ (((es[j + 1]?).map (·.hash)) == some (4238894112 : Int)) = true
    rw [entry, esN_get]
    cases hx : xs[j]? with
    | none => exact Bool.false_ne_true
    | some x =>
      have q := apart x (List.mem_of_getElem? hx)
      simpa [entryOfKey] using q
  unfold dictFind
  try with_reducible refine wpAny_holding ?_
  refine wpAny_bind (wpAny_dictEntries ho hd ?_)
  dsimp only
  rw [only]
  have st : ([0].filterMap fun i => es[i]?.map (·.key)) = [Value.none] := by
    rw [List.filterMap_cons, e0]
    rfl
  rw [st, if_pos (by rfl)]
  refine wpAny_bind ?_
  rw [List.forIn_cons, e0]
  dsimp only
  rw [if_pos (by rfl)]
  refine wpAny_bind (wpAny_bind (wpAny_dictEpoch ho hd (wpAny_bind (SeqAt.EqAt.same _ _ _ _ _ (wpAny_bind (wpAny_dictEpoch ho hd ?_))))))
  rw [if_neg (by simp)]
  simp only [if_true]
  exact wpAny_bind (wpAny_rule (wpAny_pure (wpAny_pure (wpAny_pure h))))
theorem item_none {Q : Value → Shared → Prop} (D : DictN prog w s.heap d vN xs) (apart : ∀ x ∈ xs, (TK prog w).hash x.1 ≠ 4238894112) (h : Q vN { s with toks := s.toks + 1 }) : wpAny (model prog w) A (getItem (.ref d) .none) Q E s := by
  obtain ⟨o, es, ep, ho, hc, hd, he⟩ := id D
  unfold getItem
  try with_reducible refine wpAny_holding ?_
  refine wpAny_bind (wpAny_sequenceKey D.typeIs (by decide) ?_)
  refine wpAny_bind (wpAny_callSpecial?_slot (name := Str.ofString "__getitem__") D.typeIs PySem.F.slot_dict_getitem (wpAny_call_entry PySem.F.slot_dict_getitem D.typeIs PySem.F.entry_dict_getitem ?_ (PySem.F.args_dict_getitem_2 _ _)))
  show wpAny _ _ (dictGet d .none >>= _) _ _ s
  refine wpAny_bind ?_
  unfold dictGet
  try with_reducible refine wpAny_holding ?_
  refine wpAny_bind ((noneKind prog w).pyHash (k := none) (v := .none) rfl ?_)
  show wpAny _ _ (dictFind d .none (reduceHash 0xFCA86420) >>= _) _ _ _
  rw [none_hash]
  refine wpAny_bind (find_none (s := { s with toks := s.toks + 1 }) ho hd he apart ?_)
  refine wpAny_bind (wpAny_dictEntries (s := { s with toks := s.toks + 1 }) ho hd ?_)
  rw [← Array.getElem?_toList, he]
  exact wpAny_pure (wpAny_pure ⟨vN, rfl, wpAny_pure h⟩)
end
end Sq

set_option Elab.async false
set_option linter.all false
set_option maxRecDepth 100000
set_option maxHeartbeats 2000000
/-! The rules: d[None], d[m, f], (m, f) not in d, d[m, f] = n, {None: e}. -/
namespace Sq
open PySem PySem.Spec PyProof.Rows L2
/-- an entry: the pair, its tuple's address, the number -/
abbrev En := Int × Int × Addr × Nat
def EnR (p : En) (x : List Key × Addr × Value) : Prop := x.1 = [.inl p.1, .inl p.2.1] ∧ x.2.1 = p.2.2.1 ∧ ∃ t, x.2.2 = .int (p.2.2.2 : Nat) t
def KnO (P : Program) (w : World) (d lst : Addr) (ms : List En) : HO := .ext fun h => (d == sysModules) = false ∧ ∃ xs, DictN P w h d (.ref lst) xs ∧ Paired EnR ms xs
def look (ms : List En) (m f : Int) : Option Nat := (ms.find? fun p => decide (p.1 = m ∧ p.2.1 = f)).map (·.2.2.2)
structure Kn (P : Program) (w : World) (H : Hp) (d lst : Addr) (ms : List En) : Prop where
  ob : H d = some (KnO P w d lst ms)
  tup : ∀ p ∈ ms, H p.2.2.1 = some (.tup [.int p.1, .int p.2.1])
  once : (ms.map fun p => (p.1, p.2.1)).Nodup
  rng : ∀ p ∈ ms, 0 ≤ p.1 ∧ p.1 ≤ 8 ∧ 0 ≤ p.2.1 ∧ p.2.1 ≤ 10000
section
variable {P : Program} {w : World} {H H' : Hp} {d lst : Addr} {ms : List En}
theorem Kn.same (k : Kn P w H d lst ms) (s : Same H H') : Kn P w H' d lst ms := ⟨s _ _ k.ob, fun p hp => s _ _ (k.tup p hp), k.once, k.rng⟩
theorem Kn.few (k : Kn P w H d lst ms) : ms.length ≤ 90009 := by
  have inj : (ms.map fun p => p.1 * 10001 + p.2.1).Nodup := by
    have a := k.once
    have r := k.rng
    clear k
    induction ms with
    | nil => exact List.nodup_nil
    | cons p ps ih =>
      rw [List.map_cons, List.nodup_cons] at a ⊢
      refine ⟨fun z => ?_, ih a.2 fun q hq => r q (List.mem_cons_of_mem _ hq)⟩
      obtain ⟨q, hq, e⟩ := List.mem_map.mp z
      have r1 := r p List.mem_cons_self
      have r2 := r q (List.mem_cons_of_mem _ hq)
      refine a.1 (List.mem_map.mpr ⟨q, hq, ?_⟩)
      have : q.1 = p.1 ∧ q.2.1 = p.2.1 := by omega
      rw [this.1, this.2]
  have l := few_ints (L := 90008) inj (fun x hx => by
    obtain ⟨q, hq, rfl⟩ := List.mem_map.mp hx
    have r2 := k.rng q hq
    omega) (by decide)
  rw [List.length_map] at l
  have e : (90008 : Int).toNat + 1 = 90009 := rfl
  omega
theorem enr_keys : ∀ {ms : List En} {xs : List (List Key × Addr × Value)}, Paired EnR ms xs → xs.map (·.1) = ms.map fun p => [Sum.inl p.1, Sum.inl p.2.1]
  | [], [], _ => rfl
  | p :: ms, x :: xs, h => by
    cases h with
    | cons a r => rw [List.map_cons, List.map_cons, a.1, enr_keys r]
theorem enr_mem {ms : List En} {xs : List (List Key × Addr × Value)} (h : Paired EnR ms xs) : ∀ x ∈ xs, ∃ p ∈ ms, EnR p x := by
  induction h with
  | nil => exact fun x hx => nomatch hx
  | cons a r ih =>
    intro x hx
    rcases List.mem_cons.mp hx with z | z
    · rw [z]
      exact ⟨_, List.mem_cons_self, a⟩
    · obtain ⟨p, hp, e⟩ := ih x z
      exact ⟨p, List.mem_cons_of_mem _ hp, e⟩
theorem enr_look {m f : Int} {ms : List En} {xs : List (List Key × Addr × Value)} (h : Paired EnR ms xs) : (match look ms m f with | some n => ∃ b t, atKey xs [.inl m, .inl f] = some (b, .int (n : Nat) t) | none => atKey xs [.inl m, .inl f] = none) := by
  induction h with
  | nil => rfl
  | @cons p x ps ys a r ih =>
    obtain ⟨k, b, v⟩ := x
    obtain ⟨a1, a2, t, a3⟩ := a
    have a1 : k = [.inl p.1, .inl p.2.1] := a1
    have a3 : v = .int (p.2.2.2 : Nat) t := a3
    unfold look atKey
    by_cases c : p.1 = m ∧ p.2.1 = f
    · rw [List.find?_cons, decide_eq_true c, List.find?_cons, decide_eq_true (show k = [Sum.inl m, Sum.inl f] by rw [a1, c.1, c.2])]
      exact ⟨b, t, by rw [a3]; rfl⟩
    · rw [List.find?_cons, decide_eq_false c, List.find?_cons, decide_eq_false (show ¬ k = [Sum.inl m, Sum.inl f] from fun z => c (by
        rw [a1] at z
        injection z with z1 z2
        injection z1 with z1
        injection z2 with z2
        injection z2 with z2
        exact ⟨z1, z2⟩))]
      exact ih
theorem look_none {m f : Int} : look ms m f = none ↔ (m, f) ∉ ms.map fun p => (p.1, p.2.1) := by
  unfold look
  rw [Option.map_eq_none_iff, List.find?_eq_none]
  constructor
  · intro h z
    obtain ⟨p, hp, e⟩ := List.mem_map.mp z
    refine h p hp (decide_eq_true ?_)
    injection e with e1 e2
    exact ⟨e1, e2⟩
  · intro h p hp z
    have z := of_decide_eq_true z
    exact h (List.mem_map.mpr ⟨p, hp, by rw [z.1, z.2]⟩)
theorem look_some {m f : Int} {n : Nat} (h : look ms m f = some n) : ∃ b, (m, f, b, n) ∈ ms := by
  unfold look at h
  obtain ⟨p, hp, e⟩ := Option.map_eq_some_iff.mp h
  have a := List.find?_some hp
  have b := List.mem_of_find?_eq_some hp
  have a := of_decide_eq_true a
  obtain ⟨p1, p2, p3, p4⟩ := p
  obtain ⟨rfl, rfl⟩ := a
  cases e
  exact ⟨p3, b⟩
/-- what the object says -/
theorem Kn.open' (k : Kn P w H d lst ms) {h : Heap} (ok : HOk P w H h) : (d == sysModules) = false ∧ ∃ xs, DictN P w h d (.ref lst) xs ∧ Paired EnR ms xs := (ok d _ k.ob).1
theorem nodup_keys {ms : List En} (h : (ms.map fun p => (p.1, p.2.1)).Nodup) : (ms.map fun p : En => ([Sum.inl p.1, Sum.inl p.2.1] : List Key)).Nodup := by
  induction ms with
  | nil => exact List.nodup_nil
  | cons p ps ih =>
    rw [List.map_cons, List.nodup_cons] at h ⊢
    refine ⟨fun z => ?_, ih h.2⟩
    obtain ⟨q, hq, e⟩ := List.mem_map.mp z
    refine h.1 (List.mem_map.mpr ⟨q, hq, ?_⟩)
    injection e with e1 e2
    injection e1 with e1
    injection e2 with e2
    injection e2 with e2
    rw [e1, e2]
theorem Kn.ask (k : Kn P w H d lst ms) {h : Heap} (ok : HOk P w H h) {b : Addr} {m f : Int} (hb : H b = some (.tup [.int m, .int f])) (m0 : 0 ≤ m) (m1 : m ≤ 8) (f0 : 0 ≤ f) (f1 : f ≤ 10000) {xs : List (List Key × Addr × Value)} (D : DictN P w h d (.ref lst) xs) (r : Paired EnR ms xs) : Ask P w h d b [.inl m, .inl f] (.ref lst) xs := by
  refine ⟨D, key_of (ks := [.inl m, .inl f]) ok hb, fun x hx => ?_, by rw [enr_keys r]; exact nodup_keys k.once, pair_none m0 m1 f0 f1⟩
  obtain ⟨p, hp, e1, e2, _⟩ := enr_mem r x hx
  rw [e1, e2]
  exact key_of (ks := [.inl p.1, .inl p.2.1]) ok (k.tup p hp)
end
section
variable {X : Cx}
def rNotInKn (P : Program) (w : World) : R2 := fun x y H Q => ∃ (b d lst : Addr) (ms : List En) (m f : Int), x = .ref b ∧ y = .ref d ∧ H b = some (.tup [.int m, .int f]) ∧ Kn P w H d lst ms ∧ 0 ≤ m ∧ m ≤ 8 ∧ 0 ≤ f ∧ f ≤ 10000 ∧ Q (.bl (!(look ms m f).isSome)) H
theorem op_notInKn (hu : X.A.units + 1 < cLine) : OpR X (compareOp .NotIn) (rNotInKn X.prog X.w) := by
  intro pins s σ H x y v u Q I rx ry h
  obtain ⟨b, d, lst, ms, m, f, rfl, rfl, hb, k, m0, m1, f0, f1, q⟩ := h
  obtain rfl : v = Value.ref b := rx
  obtain rfl : u = Value.ref d := ry
  obtain ⟨nd, xs, D, r⟩ := k.open' I.hok
  refine notIn_pair (tupleKind_room_in1 hu) (k.ask I.hok hb m0 m1 f0 f1 D r) nd ?_
  have e : (atKey xs [Sum.inl m, Sum.inl f]).isSome = (look ms m f).isSome := by
    have z := enr_look (m := m) (f := f) r
    cases l : look ms m f with
    | none => rw [l] at z; rw [z]; rfl
    | some n => rw [l] at z; obtain ⟨b', t, z⟩ := z; rw [z]; rfl
  rw [e]
  exact ⟨.bl (!(look ms m f).isSome), H, I.tok _, rfl, q⟩
def rIxKn (P : Program) (w : World) : R2 := fun x y H Q => ∃ (d lst : Addr) (ms : List En), x = .ref d ∧ Kn P w H d lst ms ∧ ((y = .non ∧ Q (.ref lst) H) ∨ ∃ (b : Addr) (m f : Int) (n : Nat), y = .ref b ∧ H b = some (.tup [.int m, .int f]) ∧ 0 ≤ m ∧ m ≤ 8 ∧ 0 ≤ f ∧ f ≤ 10000 ∧ look ms m f = some n ∧ Q (.int (n : Nat)) H)
theorem ix_kn (hu : X.A.units + 1 < cLine) : IxR X (rIxKn X.prog X.w) := by
  intro value slice pins s σ H x y v u Q I rx ry h hs
  obtain ⟨d, lst, ms, rfl, k, h⟩ := h
  obtain rfl : v = Value.ref d := rx
  obtain ⟨nd, xs, D, r⟩ := k.open' I.hok
  refine tail_any D.typeIs PySem.F.slot_dict_getitem.lookup ?_ hs
  rcases h with ⟨rfl, q⟩ | ⟨b, m, f, n, rfl, hb, m0, m1, f0, f1, l, q⟩
  · obtain rfl : u = Value.none := ry
    refine item_none D (fun x hx => ?_) ⟨.ref lst, H, I.tok _, rfl, q⟩
    obtain ⟨p, hp, e1, _, _⟩ := enr_mem r x hx
    obtain ⟨a1, a2, a3, a4⟩ := k.rng p hp
    rw [e1]
    exact pair_none a1 a2 a3 a4
  · obtain rfl : u = Value.ref b := ry
    have z := enr_look (m := m) (f := f) r
    rw [l] at z
    obtain ⟨b', t, z⟩ := z
    exact item_pair (tupleKind_room_in1 hu) (k.ask I.hok hb m0 m1 f0 f1 D r) z ⟨.int (n : Nat), H, I.tok _, ⟨t, rfl⟩, q⟩
def rSetKn (P : Program) (w : World) : V → V → V → Hp → (Hp → Prop) → Prop := fun o i v H Q => ∃ (d lst b : Addr) (ms : List En) (m f : Int) (n : Nat), o = .ref d ∧ i = .ref b ∧ v = .int (n : Nat) ∧ H b = some (.tup [.int m, .int f]) ∧ Kn P w H d lst ms ∧ 0 ≤ m ∧ m ≤ 8 ∧ 0 ≤ f ∧ f ≤ 10000 ∧ look ms m f = none ∧ Q (upd H d (KnO P w d lst (ms ++ [(m, f, b, n)])))
theorem set_kn (hu : X.A.units + 1 < cLine) : PSet X (rSetKn X.prog X.w) := by
  intro pins s σ H o i v ov iv u Q I ro ri rv h
  obtain ⟨d, lst, b, ms, m, f, n, rfl, rfl, rfl, hb, k, m0, m1, f0, f1, l, q⟩ := h
  obtain rfl : ov = Value.ref d := ro
  obtain rfl : iv = Value.ref b := ri
  obtain ⟨t, rfl⟩ := rv
  obtain ⟨nd, xs, D, r⟩ := k.open' I.hok
  have z := enr_look (m := m) (f := f) r
  rw [l] at z
  have lx := r.length
  have few := k.few
  refine set_pair (tupleKind_room_in1 hu) (k.ask I.hok hb m0 m1 f0 f1 D r) z (by rw [sizeLine_eq]; omega) fun h' D' sb => ?_
  obtain ⟨o', _, _, ho', _⟩ := id D'
  refine ⟨_, I.write (t' := s.toks + (TK X.prog X.w).draws [.inl m, .inl f]) (x := d) (e := d) (o := KnO X.prog X.w d lst (ms ++ [(m, f, b, n)])) (by rw [k.ob]; exact True.intro) (.inl rfl) (fun b u hb q => (sb.2 b hb).trans q) ⟨o', ho'⟩ ?_, q⟩
  refine ⟨⟨nd, _, D', r.snoc ⟨rfl, rfl, t, rfl⟩⟩, ⟨o', ho'⟩, fun h1 h2 hφ st => ?_⟩
  obtain ⟨nd, ys, ⟨oy, es, ep, e1, e2⟩, ry⟩ := hφ
  exact ⟨nd, ys, ⟨oy, es, ep, st _ e1, e2⟩, ry⟩
end
end Sq

set_option Elab.async false
set_option linter.all false
set_option maxRecDepth 100000
set_option maxHeartbeats 2000000
namespace Sq
open PySem PySem.Spec PyProof.Rows L2
section
variable {X : Cx}
/-- {None: e}, e a list -/
def tDispN (P : Program) (w : World) (trs : List (TE × TE)) : TE := fun σ H Q => ∀ p, H p = none → tPairs trs σ (upd H p (.dK [])) fun ps H2 => H2 p = some (.dK []) ∧ ∃ lst, ps = [(V.non, V.ref lst)] ∧ Q (.ref p) (upd H2 p (KnO P w p lst []))
theorem pe_dispN {pos : Pos} {keys : List (Option Expr)} {values : List Expr} {trs : List (TE × TE)} (h : PPs X pos keys values trs) (some' : keys.all (·.isSome) = true) (even : keys.length = values.length) (ne : keys ≠ []) (few : keys.length ≤ 15) : PE X (.Dict keys values pos) (tDispN X.prog X.w trs) := by
  refine ⟨fun pins s σ H Q I q => ?_⟩
  have fresh := I.hok.fresh (Nat.le_refl s.heap.objs.size)
  have I1 := I.laid (a := s.heap.objs.size) (o := .dK []) (h' := s.heap.push { cls := .type "dict", data := .dict #[] }) (t' := s.toks) (fun _ _ q => Heap.get?_push_of_some _ q) (Nat.le_refl _) (dk_empty s.heap I.big)
  refine wpAny_Dict_walk (knd := noneKind X.prog X.w) some' even ne few (thn (h.run pins _ σ _ _ I1 (q _ fresh)) fun ws s2 got => ?_)
  obtain ⟨ps, H2, I2, rel, e, lst, ep, q2⟩ := got
  subst ep
  obtain ⟨u1, u2, rfl, r1, r2⟩ : ∃ u1 u2, ws = [(u1, u2)] ∧ RelV V.non u1 ∧ RelV (V.ref lst) u2 := by
    cases rel with
    | @cons p q ps qs a r =>
      cases r
      exact ⟨q.1, q.2, rfl, a.1, a.2⟩
  obtain rfl : u1 = Value.none := r1
  obtain rfl : u2 = Value.ref lst := r2
  obtain ⟨z, nd, vs0, r0, dd⟩ := dk_of I2.hok e
  cases r0
  obtain ⟨o, es, ep, ho, hx, hdt, hk, hp, hn⟩ := id dd
  have e0 : es.toList = [] := by
    cases hp' : es.toList with
    | nil => rfl
    | cons _ _ => rw [hp'] at hp; cases hp
  refine ⟨[(none, .ref lst)], ⟨rfl, rfl, trivial⟩, ⟨o, es, ep, ho, hx, hdt, fun e' he' => ?_, by rw [e0]; exact .nil, List.nodup_nil⟩, fun h' dd' hs => ?_⟩
  · have := Array.mem_toList_iff.mpr he'
    rw [e0] at this
    cases this
  obtain ⟨o2, es2, ep2, ho2, hx2, hd2, hk2, hp2, _⟩ := id dd'
  have shape : es2.toList = esN X.prog X.w (.ref lst) [] := by
    have m : merged [] [((none : Option Key), Value.ref lst)] = [(none, Value.ref lst)] := rfl
    rw [m] at hp2
    cases q : es2.toList with
    | nil => rw [q] at hp2; cases hp2
    | cons e1 r =>
      rw [q] at hp2
      cases hp2 with
      | cons a b c =>
        cases c
        have mem : e1 ∈ es2 := Array.mem_toList_iff.mp (by rw [q]; exact List.mem_cons_self)
        obtain ⟨k, k1, k2⟩ := hk2 e1 mem
        have kn : e1.key = Value.none := nk_none a
        rw [kn] at k1
        have ek : k = none := by
          cases k with
          | none => rfl
          | some k => exact absurd k1 (keyIs_none k)
        subst ek
        obtain ⟨eh, ekey, ev⟩ := e1
        simp only at kn k2 b
        subst kn b
        have k3 : eh = reduceHash 0xFCA86420 := k2
        rw [none_hash] at k3
        rw [k3]
        rfl
  refine ⟨.ref s.heap.objs.size, _, ?_, rfl, q2⟩
  refine d_write I2 (by rw [e]; exact True.intro) hs ⟨o2, ho2⟩ ⟨⟨nd, [], ⟨o2, es2, ep2, ho2, hx2, hd2, shape⟩, .nil⟩, ⟨o2, ho2⟩, fun h1 h2 hφ st => ?_⟩
  obtain ⟨nd, ys, ⟨oy, es, ep, e1, e2⟩, ry⟩ := hφ
  exact ⟨nd, ys, ⟨oy, es, ep, st _ e1, e2⟩, ry⟩
end
end Sq

set_option Elab.async false
set_option linter.all false
set_option maxRecDepth 100000
set_option maxHeartbeats 4000000
namespace Sq
open PySem PySem.Spec PyProof.Rows L2
/-! ### the least reach that the others need -/
def lw (L k : Int) : Int := if la L k < 1 then 1 else la L k
theorem lw_iff {L k R : Int} (hk : 2 ≤ k) (hR : 1 ≤ R) (h0 : 0 ≤ L) : lw L k ≤ R ↔ L ≤ rw1 k R := by
  rw [← la_iff hk hR h0]
  unfold lw
  split <;> omega
theorem lw_one (L k : Int) : 1 ≤ lw L k := by
  unfold lw
  split <;> omega
theorem lw_le {L k : Int} (hk : 2 ≤ k) (h0 : 0 ≤ L) : lw L k ≤ (if L > 1 then L else 1) := by
  have := la_le hk h0
  unfold lw
  split <;> split <;> omega
theorem la_one {k : Int} (hk : 2 ≤ k) : la 1 k = 1 ∧ la 0 k = 0 := by
  unfold la
  rw [if_pos (by omega), if_pos (by omega)]
  exact ⟨rfl, rfl⟩
theorem cnt_one {g : Int} : ∀ n : Nat, cnt g n 0 = cnt g n 1
  | 0 => rfl
  | n + 1 => by
    show ((cand g).map fun k => cnt g n (la 0 k)).sum = ((cand g).map fun k => cnt g n (la 1 k)).sum
    congr 1
    refine List.map_congr_left fun k hk => ?_
    have a := la_one (mem_cand.mp hk).1
    rw [a.1, a.2]
    exact cnt_one n
theorem cnt_lw {g L k : Int} (n : Nat) (hk : 2 ≤ k) (h0 : 0 ≤ L) : cnt g n (lw L k) = cnt g n (la L k) := by
  have a := (la_le hk h0).1
  unfold lw
  split
  · have e : la L k = 0 := by omega
    rw [e, cnt_one]
  · rfl
section
variable {P : Program} {w : World} {K : PySem.W.Frag} {mg : Str → Option Value} {base : Heap} {c fI : Nat → Addr} {qn : Nat → Str} {cB : Addr}
def spLeast : Sp := fun vs H Q _ => ∃ (k L : Int), vs = [.int k, .int L] ∧ 2 ≤ k ∧ k ≤ 60 ∧ 0 ≤ L ∧ L ≤ 10000 ∧ Q (.int (lw L k)) H
theorem ok_least {f : Addr} {fd : FuncData} (F : Fun K "_law_least" "_law_least" s_lawleast f fd) (B : Bi mg) : FnOk P w K mg base CX0 1 f fd ["k", "far"] spLeast := by
  refine F.ok sc_lawleast (fun vs H Q E h => ?_) (fun cdv A outer s H vs Q E hr h => ?_)
  · obtain ⟨k, L, rfl, _⟩ := h
    rfl
  · obtain ⟨k, L, rfl, k2, k60, L0, L1, q⟩ := h
    refine ⟨_, (pss_cons (ps_par (i := 2) (j := 3) (by rfl) sc_lawleast.nd rfl rfl (by decide) rfl rfl (pa_cons pe_int (pa_cons (pe_callB (id := "max") (call_max2 rfl) (by rfl) B.n_max (by decide +kernel) (pa_cons pe_int (pa_cons (pv 1) pa_nil))) pa_nil)) (by rfl))
 (pss_cons (ps_while PassesOwn.never (pt_cmpR op_lt (pv 2) (pv 3) (nomark _))
 (pss_cons (ps_set (i := 4) sc_lawleast.nd rfl (Or.inl rfl) (pe_op op_fdiv (pe_op op_add (pv 2) (pv 3)) pe_int))
 (pss_one (ps_if (pt_cmpR op_lt (pe_ifExp (pt_cmpR op_gt (pv 0) (pe_op op_add (pv 4) pe_int) (nomark _)) (pv 4) (pe_op op_sub (pe_op op_mul (pe_op op_sub (pe_op op_add (pv 4) pe_int) (pv 0)) (pv 0)) pe_int)) (pv 1) (nomark _))
 (pss_one (ps_set (i := 2) sc_lawleast.nd rfl (Or.inl rfl) (pe_op op_add (pv 4) pe_int)))
 (pss_one (ps_set (i := 3) sc_lawleast.nd rfl (Or.inl rfl) (pv 4)))))))
 (pss_one (ps_ret (pv 2))))), ?_⟩
    have t1 := lw_one L k
    have t2 := lw_le k2 L0
    obtain ⟨t, et⟩ : ∃ t, t = lw L k := ⟨_, rfl⟩
    have iff : ∀ R, 1 ≤ R → (t ≤ R ↔ L ≤ rw1 k R) := fun R hR => by rw [et]; exact lw_iff k2 hR L0
    rw [← et] at q t1 t2
    clear et
    refine ⟨_, rfl, 1, L, rfl, _, _, rfl, ?_⟩
    obtain ⟨top, etop⟩ : ∃ top : Int, top = (if L > 1 then L else 1) := ⟨_, rfl⟩
    have topb : 1 ≤ top ∧ top ≤ 10000 := by
      rw [etop]
      split <;> omega
    rw [← etop] at t2
    have e0 : (if L > 1 then L else 1) = top := etop.symm
    rw [e0]
    clear e0 etop
    refine ⟨fun m σ H' => ∃ lo hi y, H' = H ∧ σ = [some (.int k), some (.int L), some (.int lo), some (.int hi), y] ∧ 1 ≤ lo ∧ lo ≤ t ∧ t ≤ hi ∧ hi ≤ top ∧ (m : Int) = hi - lo, ⟨(top - 1).toNat, 1, top, none, rfl, rfl, by decide, t1, t2, Int.le_refl _, by omega⟩, ?_⟩
    rintro m σ H' ⟨lo, hi, y, rfl, rfl, l1, l2, l3, l4, hm⟩
    refine ⟨_, rfl, _, rfl, lo, hi, rfl, rfl, _, rfl, ?_⟩
    by_cases c : lo < hi
    · rw [decide_eq_true c]
      refine iteT ⟨fun σ' H'' => ∃ m', m' < m ∧ ∃ lo hi y, H'' = H' ∧ σ' = [some (.int k), some (.int L), some (.int lo), some (.int hi), y] ∧ 1 ≤ lo ∧ lo ≤ t ∧ t ≤ hi ∧ hi ≤ top ∧ (m' : Int) = hi - lo, fun _ _ h => h, ?_⟩
      obtain ⟨md, emd⟩ : ∃ md, md = (lo + hi) / 2 := ⟨_, rfl⟩
      refine ⟨_, rfl, _, rfl, lo, hi, rfl, rfl, _, 2, rfl, rfl, ⟨by decide, by decide⟩, ?_⟩
      have em : (lo + hi) / 2 = md := emd.symm
      have mb : lo ≤ md ∧ md < hi := by omega
      refine tellSeq (fun σ2 H2 => σ2 = [some (.int k), some (.int L), some (.int lo), some (.int hi), some (.int md)] ∧ H2 = H') (fun N hN => ?_) (fun σ2 H2 h => ?_)
      · exact hN _ _ ⟨by rw [← em]; rfl, rfl⟩
      · obtain ⟨rfl, rfl⟩ := h
        have low : ¬ (t ≤ md) → ∃ m', m' < m ∧ ∃ lo' hi' y, H2 = H2 ∧ [some (V.int k), some (.int L), some (.int (md + 1)), some (.int hi), some (.int md)] = [some (V.int k), some (.int L), some (.int lo'), some (.int hi'), y] ∧ 1 ≤ lo' ∧ lo' ≤ t ∧ t ≤ hi' ∧ hi' ≤ top ∧ (m' : Int) = hi' - lo' := fun z => ⟨(hi - (md + 1)).toNat, by omega, md + 1, hi, _, rfl, rfl, by omega, by omega, l3, l4, by omega⟩
        have high : t ≤ md → ∃ m', m' < m ∧ ∃ lo' hi' y, H2 = H2 ∧ [some (V.int k), some (.int L), some (.int lo), some (.int md), some (.int md)] = [some (V.int k), some (.int L), some (.int lo'), some (.int hi'), y] ∧ 1 ≤ lo' ∧ lo' ≤ t ∧ t ≤ hi' ∧ hi' ≤ top ∧ (m' : Int) = hi' - lo' := fun z => ⟨(md - lo).toNat, by omega, lo, md, _, rfl, rfl, l1, l2, z, by omega, by omega⟩
        have im := iff md (by omega)
        refine ⟨_, rfl, _, rfl, md, 1, rfl, rfl, k, md + 1, rfl, rfl, _, rfl, ite2 (fun c1 => ?_) (fun c1 => ?_)⟩
        · have c1' : md + 1 < k := of_decide_eq_true c1
          have e1 : rw1 k md = md := by
            unfold rw1
            rw [if_pos (show k > md + 1 from c1')]
          rw [e1] at im
          refine ⟨_, rfl, _, rfl, md, L, rfl, rfl, _, rfl, ite2 (fun c2 => ?_) (fun c2 => ?_)⟩
          · have c2' : md < L := of_decide_eq_true c2
            exact ⟨_, rfl, md, 1, rfl, rfl, low (by omega)⟩
          · have c2' : ¬ md < L := fun z => c2 (decide_eq_true z)
            exact ⟨_, rfl, high (by omega)⟩
        · have c1' : ¬ md + 1 < k := fun z => c1 (decide_eq_true z)
          have e1 : rw1 k md = (md + 3 - k) * k - 2 := by
            unfold rw1
            rw [if_neg (show ¬ k > md + 1 from c1')]
          rw [e1] at im
          refine ⟨_, rfl, md, 3, rfl, rfl, _, rfl, _, _, rfl, rfl, _, rfl, _, k, rfl, rfl, .inr ⟨by omega, by omega⟩, _, 2, rfl, rfl, _, rfl, _, L, rfl, rfl, _, rfl, ite2 (fun c2 => ?_) (fun c2 => ?_)⟩
          · have c2' : (md + 3 - k) * k - 2 < L := of_decide_eq_true c2
            exact ⟨_, rfl, md, 1, rfl, rfl, low (by omega)⟩
          · have c2' : ¬ (md + 3 - k) * k - 2 < L := fun z => c2 (decide_eq_true z)
            exact ⟨_, rfl, high (by omega)⟩
    · rw [decide_eq_false c]
      have e : lo = t := by omega
      subst e
      exact iteF ⟨_, rfl, q⟩
def Mst (g : Int) (M : List Int) : Prop := (∀ x ∈ M, 1 ≤ x) ∧ M[0]? = some 1 ∧ ∀ (j : Nat) (x y : Int), M[j]? = some x → M[j + 1]? = some y → ∀ k, 2 ≤ k → k ≤ g → rw1 k x ≤ y
def spMost : Sp := fun vs H Q _ => ∃ (n : Nat) (g : Int), vs = [.int n, .int g] ∧ n ≤ 8 ∧ 2 ≤ g ∧ g ≤ 60 ∧ ∀ p M H', H p = none → Same H H' → H' p = some (.lst (M.map V.int)) → M.length = n + 1 → Mst g M → Q (.ref p) H'
theorem ok_most {f : Addr} {fd : FuncData} (F : Fun K "_law_most" "_law_most" s_lawmost f fd) (B : Bi mg) : FnOk P w K mg base CX0 1 f fd ["many", "largest"] spMost := by
  refine F.ok sc_lawmost (fun vs H Q E h => ?_) (fun cdv A outer s H vs Q E hr h => ?_)
  · obtain ⟨n, g, rfl, _⟩ := h
    rfl
  · obtain ⟨n, g, rfl, n8, g2, g60, q⟩ := h
    refine ⟨_, (pss_cons (ps_set (i := 2) sc_lawmost.nd rfl (Or.inl rfl) (pe_lst (pa_cons pe_int pa_nil)))
 (pss_cons (ps_for PassesOwn.never rfl (pi_range1 (by rfl) B.n_range (pa_cons (pv 0) pa_nil)) (pg_name (i := 3) sc_lawmost.nd rfl (Or.inl rfl))
 (pss_cons (ps_set (i := 4) sc_lawmost.nd rfl (Or.inr rfl) (pe_ix (r := rIxL K) ix_list (pv 2) (pe_un un_neg pe_int) (fun _ _ => rfl)))
 (pss_one (ps_expr (pe_bm PySem.F.plainAttrs_list PySem.F.slot_list_append PySem.F.type_list_append mt_append (pv 2) (pa_cons (pe_callB (id := "max") (cr_max rfl) (by rfl) B.n_max (by decide +kernel) (pa_cons (pe_op op_cat (pe_lst (pa_cons (pv 4) pa_nil)) (pe_lc (own := [("k", 5)]) (g := gName 5) rfl sc_lawmost.nd (pi_range2 (by rfl) B.n_range (pa_cons pe_int (pa_cons (pe_op op_add (pe_callB (id := "min") (call_min2 rfl) (by rfl) B.n_min (by decide +kernel) (pa_cons (pv 1) (pa_cons (pe_op op_add (pv 4) pe_int) pa_nil))) pe_int) pa_nil))) (blkOk_by (own := [("k", 5)]) (N := ["many", "largest", "found", "number", "now", "k"]) (sc := defScope s_lawmost) (by decide +kernel)) (fun _ _ _ _ _ => (pg_name (i := 5) sc_lawmost.nd rfl (Or.inl rfl))) (fun _ _ _ _ _ => pts_nil) (fun _ _ _ _ _ => (pe_op op_sub (pe_op op_mul (pe_op op_sub (pe_op op_add (pv 4) pe_int) (pv 5)) (pv 5)) pe_int)))) pa_nil)) pa_nil))))))
 (pss_one (ps_ret (pv 2))))), ?_⟩
    have lim : sizeLine = 16777216 := sizeLine_eq
    have w1 : 1 ≤ sizeLine := by omega
    refine ⟨w1, fun p hp => ?_⟩
    refine ⟨_, rfl, (n : Int), rfl, by omega, by omega, for_range (lo := 0) (n := n) (fun j σ H' => ∃ M y3 y4 y5, σ = [some (.int (n : Int)), some (.int g), some (.ref p), y3, y4, y5] ∧ Same H (wo H' p) ∧ H' p = some (.lst (List.map V.int M)) ∧ M.length = j + 1 ∧ Mst g M)
      ⟨[1], none, none, none, rfl, by rw [wo_upd]; exact same_wo (Same.refl _) hp, upd_same, rfl, fun x hx => by rw [List.mem_singleton.mp hx]; decide, rfl, fun j x y _ e => by
        cases j with
        | zero => cases e
        | succ j => cases e⟩ ?_ ?_⟩
    · rintro j σ H1 hj ⟨M, y3, y4, y5, rfl, s1, gp, lM, ms⟩
      obtain ⟨m1, m2, m3⟩ := ms
      obtain ⟨x, ex⟩ : ∃ x, M[j]? = some x := ⟨M[j], List.getElem?_eq_getElem (by omega)⟩
      have xp := m1 x (List.mem_of_getElem? ex)
      have last : (M.map V.int).getLast? = some (.int x) := by
        rw [List.getLast?_eq_getElem?, List.length_map, List.getElem?_map, show M.length - 1 = j by omega, ex]
        rfl
      refine ⟨_, rfl, 1, rfl, p, _, -1, .int x, rfl, rfl, SqL.of gp, atI_last _ _ last, ?_⟩
      refine ⟨_, rfl, .inl ⟨rfl, _, SqL.of gp⟩, _, rfl, w1, fun t ht => ?_⟩
      have npt : p ≠ t := ne_of_none gp ht
      obtain ⟨top, etop⟩ : ∃ top : Int, top = (if x + 1 < g then x + 1 else g) := ⟨_, rfl⟩
      have topb : 2 ≤ top ∧ top ≤ g ∧ (∀ k, 2 ≤ k → k ≤ g → top < k → x + 1 < k) := by
        rw [etop]
        refine ⟨by split <;> omega, by split <;> omega, fun k k1 k2 => by split <;> omega⟩
      have top2 : ∀ k, k ≤ top → k ≤ x + 1 := fun k hk => by
        rw [etop] at hk
        split at hk <;> omega
      have gt := (upd_same (H := H1) (a := t) (o := .lst [V.int x]))
      have gp1 := same_new (o := .lst [V.int x]) ht _ _ gp
      refine ⟨_, rfl, _, rfl, x, 1, rfl, rfl, g, x + 1, rfl, _, 1, rfl, rfl, 2, top + 1, by rw [etop], ⟨by decide, by decide, by omega, by omega⟩, fun D hD => ?_⟩
      obtain ⟨fv, efv⟩ : ∃ fv : Nat → Int, fv = fun b : Nat => (x + 3 - (2 + (b : Int))) * (2 + (b : Int)) - 2 := ⟨_, rfl⟩
      have nD : t ≠ D := fun z => by rw [← z, upd_same] at hD; cases hD
      have pD : p ≠ D := ne_of_none gp1 hD
      have hD1 : H1 D = none := by rw [upd_ne nD.symm] at hD; exact hD
      refine lc_range (lo := 2) (n := (top + 1 - 2).toNat) (fun i H' => Same (upd H1 t (.lst [.int x])) (wo H' D) ∧ H' D = some (.lst (((List.range i).map fv).map V.int))) ⟨by rw [wo_upd]; exact same_wo (Same.refl _) hD, upd_same⟩ ?_ ?_
      · rintro i H2 hi ⟨s2, gD⟩
        refine ⟨rfl, _, rfl, x, 3, rfl, rfl, _, rfl, _, _, rfl, rfl, _, rfl, _, _, rfl, rfl, .inr ⟨by omega, by omega⟩, _, 2, rfl, rfl, _, gD, by rw [List.length_map, List.length_map, List.length_range]; omega, by rw [wo_upd]; exact s2, ?_⟩
        rw [upd_same, List.range_succ, List.map_append, List.map_append, efv]
        rfl
      · rintro H2 ⟨s2, gD⟩
        have s2' : Same (upd H1 t (.lst [.int x])) H2 := s2.trans wo_same
        have gp2 := s2' _ _ gp1
        refine ⟨t, D, _, _, rfl, rfl, s2' _ _ gt, gD, by rw [List.length_map, List.length_map, List.length_range]; show 1 + _ ≤ _; omega, fun r hr => ?_⟩
        have e1 : [V.int x] ++ ((List.range (top + 1 - 2).toNat).map fv).map V.int = (x :: (List.range (top + 1 - 2).toNat).map fv).map V.int := rfl
        rw [e1]
        refine ⟨r, _, rfl, SqL.of upd_same, Nat.succ_pos _, fun y ym ymax => ?_⟩
        have npr : p ≠ r := ne_of_none gp2 hr
        have gp3 := same_new (o := .lst ((x :: (List.range (top + 1 - 2).toNat).map fv).map V.int)) hr _ _ gp2
        refine ⟨p, _, _, rfl, rfl, gp3, by rw [List.length_map]; omega, M ++ [y], _, _, _, rfl, ?_, by rw [upd_same, List.map_append]; rfl, by rw [List.length_append, lM]; rfl, ?_⟩
        · rw [wo_upd]
          intro b o e
          have b1 := s1 b o e
          have nb : b ≠ p := fun z => by rw [z, wo_self] at b1; cases b1
          rw [wo_ne nb] at b1 ⊢
          exact same_new hr _ _ (s2' _ _ (same_new ht _ _ b1))
        · have yx : x ≤ y := ymax x List.mem_cons_self
          refine ⟨fun z hz => ?_, by rw [List.getElem?_append_left (by omega)]; exact m2, fun i u v eu ev k k1 k2 => ?_⟩
          · rcases List.mem_append.mp hz with hz | hz
            · exact m1 z hz
            · rw [List.mem_singleton.mp hz]
              omega
          · have il := (List.getElem?_eq_some_iff.mp ev).1
            rw [List.length_append, List.length_singleton] at il
            by_cases ci : i + 1 < M.length
            · rw [List.getElem?_append_left (by omega)] at eu
              rw [List.getElem?_append_left ci] at ev
              exact m3 i u v eu ev k k1 k2
            · have ij : i = j := by omega
              subst ij
              rw [List.getElem?_append_left (by omega), ex] at eu
              rw [List.getElem?_append_right (by omega), show i + 1 - M.length = 0 by omega] at ev
              obtain rfl : x = u := Option.some.inj eu
              obtain rfl : y = v := Option.some.inj ev
              unfold rw1
              split
              · exact yx
              · rename_i c
                have kt : k ≤ top := by
                  by_cases z : k ≤ top
                  · exact z
                  · have := topb.2.2 k k1 k2 (by omega)
                    omega
                refine ymax _ (List.mem_cons_of_mem _ (List.mem_map.mpr ⟨(k - 2).toNat, List.mem_range.mpr (by omega), ?_⟩))
                rw [efv]
                show (x + 3 - (2 + ((k - 2).toNat : Int))) * (2 + ((k - 2).toNat : Int)) - 2 = _
                rw [show 2 + ((k - 2).toNat : Int) = k by omega]
    · rintro σ H1 ⟨M, y3, y4, y5, rfl, s1, gp, lM, ms⟩
      exact ⟨_, rfl, q p M H1 hp (s1.trans wo_same) gp lM ms⟩
end
end Sq

set_option Elab.async false
set_option linter.all false
set_option maxRecDepth 100000
set_option maxHeartbeats 4000000
namespace Sq
open PySem PySem.Spec PyProof.Rows L2
theorem cnt_most {g : Int} {M : List Int} (ms : Mst g M) : ∀ (n : Nat) (x L : Int), M[n]? = some x → 0 ≤ L → x < L → cnt g n L = 0
  | 0, x, L, e, _, h => by
    rw [ms.2.1] at e
    have : x = 1 := (Option.some.inj e).symm
    exact if_neg (by omega)
  | n + 1, x, L, e, h0, h => by
    have lt := (List.getElem?_eq_some_iff.mp e).1
    obtain ⟨u, eu⟩ : ∃ u, M[n]? = some u := ⟨M[n], List.getElem?_eq_getElem (by omega)⟩
    have up := ms.1 u (List.mem_of_getElem? eu)
    have all : ∀ y ∈ (cand g).map (fun k => cnt g n (la L k)), y = 0 := fun y hy => by
      obtain ⟨k, hk, rfl⟩ := List.mem_map.mp hy
      have km := mem_cand.mp hk
      refine cnt_most ms n u (la L k) eu (la_le km.1 h0).1 ?_
      have i := la_iff (L := L) km.1 up h0
      have j := ms.2.2 n u x eu e k km.1 km.2
      omega
    show ((cand g).map fun k => cnt g n (la L k)).sum = 0
    generalize (cand g).map (fun k => cnt g n (la L k)) = xs at all
    induction xs with
    | nil => rfl
    | cons y ys ih => rw [List.sum_cons, all y List.mem_cons_self, ih fun z hz => all z (List.mem_cons_of_mem _ hz)]
def Memo (g : Int) (ms : List En) : Prop := ∀ p ∈ ms, p.2.2.2 = cnt g p.1.toNat p.2.1
theorem Kn.keep {P : Program} {w : World} {H H' : Hp} {d lst : Addr} {ms : List En} (k : Kn P w H d lst ms) (ob : H' d = H d) (kp : ∀ b o, H b = some o → b ≠ d → H' b = some o) : Kn P w H' d lst ms :=
  ⟨ob.trans k.ob, fun p hp => kp _ _ (k.tup p hp) (fun z => by
    have a := k.tup p hp
    rw [z, k.ob] at a
    cases a), k.once, k.rng⟩
theorem Kn.more {P : Program} {w : World} {H : Hp} {d lst b : Addr} {ms : List En} {m f : Int} {n : Nat} (k : Kn P w H d lst ms) (hb : H b = some (.tup [.int m, .int f])) (l : look ms m f = none) (m0 : 0 ≤ m) (m1 : m ≤ 8) (f0 : 0 ≤ f) (f1 : f ≤ 10000) :
    Kn P w (upd H d (KnO P w d lst (ms ++ [(m, f, b, n)]))) d lst (ms ++ [(m, f, b, n)]) := by
  have ne : ∀ {a : Addr} {xs : List V}, H a = some (.tup xs) → a ≠ d := fun h z => by
    rw [z, k.ob] at h
    cases h
  refine ⟨upd_same, fun p hp => ?_, ?_, fun p hp => ?_⟩
  · rcases List.mem_append.mp hp with z | z
    · have t := k.tup p z
      rw [upd_ne (ne t)]
      exact t
    · rw [List.mem_singleton.mp z]
      show upd H d _ b = _
      rw [upd_ne (ne hb)]
      exact hb
  · rw [List.map_append, List.nodup_append]
    refine ⟨k.once, by simp, fun x hx y hy e => ?_⟩
    obtain rfl : y = (m, f) := by simpa using hy
    rw [e] at hx
    exact look_none.mp l hx
  · rcases List.mem_append.mp hp with z | z
    · exact k.rng p z
    · rw [List.mem_singleton.mp z]
      exact ⟨m0, m1, f0, f1⟩
section
variable {P : Program} {w : World} {K : PySem.W.Frag} {mg : Str → Option Value} {base : Heap} {c fI : Nat → Addr} {qn : Nat → Str} {cB : Addr}
def spCountN (P : Program) (w : World) (N : Nat) : Sp := fun vs H Q _ => ∃ (d lst : Addr) (ms : List En) (M : List Int) (n : Nat) (g L : Int), n < N ∧ vs = [.ref d, .int n, .int g, .int L] ∧ Kn P w H d lst ms ∧ H lst = some (.lst (M.map V.int)) ∧ n < M.length ∧ Mst g M ∧ Memo g ms ∧ n ≤ 8 ∧ 2 ≤ g ∧ g ≤ 60 ∧ 0 ≤ L ∧ L ≤ 10000 ∧
  ∀ H' ms', (∀ b o, H b = some o → b ≠ d → H' b = some o) → Kn P w H' d lst ms' → Memo g ms' → (∀ p ∈ ms', p ∈ ms ∨ p.1 ≤ n) → Q (.int (cnt g n L : Nat)) H'
theorem ok_count1 {f : Addr} {fd : FuncData} (F : Fun K "_law_count" "_law_count" s_lawcount f fd) (B : Bi mg) (D_lawleast : Df P w K mg base 1 "_law_least" ["k", "far"] spLeast) (N : Nat)
    (D_lawcount : Df P w K mg base (N + 1) "_law_count" ["known", "many", "largest", "far"] (spCountN P w N)) : FnOk P w K mg base CX0 (N + 2) f fd ["known", "many", "largest", "far"] (spCountN P w (N + 1)) := by
  refine F.ok sc_lawcount (fun vs H Q E h => ?_) (fun cdv A outer s H vs Q E hr h => ?_)
  · obtain ⟨d, lst, ms, M, n, g, L, _, rfl, _⟩ := h
    rfl
  · obtain ⟨d, lst, ms, M, n, g, L, nN, rfl, kn, gM, lM, mst, memo, n8, g2, g60, L0, L1, q⟩ := h
    refine ⟨_, (pss_cons (ps_if (pt_cmpR op_gt (pv 3) (pe_ix (r := rIxL K) ix_list (pe_ix (r := rIxKn P w) (ix_kn (hu_of hr)) (pv 0) pe_non (fun _ _ => rfl)) (pv 1) (fun _ _ => rfl)) (nomark _))
 (pss_one (ps_ret pe_int))
 pss_nil)
 (pss_cons (ps_if (pt_cmpR op_eq (pv 1) pe_int (nomark _))
 (pss_one (ps_ret pe_int))
 pss_nil)
 (pss_cons (ps_if (pt_cmpR (r := rNotInKn P w) (op_notInKn (hu_of hr)) (pe_tup (pa_cons (pv 1) (pa_cons (pv 3) pa_nil))) (pv 0) rfl)
 (pss_cons (ps_set (i := 4) sc_lawcount.nd rfl (Or.inl rfl) pe_int)
 (pss_cons (ps_for PassesOwn.never rfl (pi_range2 (by rfl) B.n_range (pa_cons pe_int (pa_cons (pe_op op_add (pv 2) pe_int) pa_nil))) (pg_name (i := 5) sc_lawcount.nd rfl (Or.inl rfl))
 (pss_one (ps_aug (i := 4) sc_lawcount.nd rfl (Or.inl rfl) (pe_callD D_lawcount (hr.mono (by omega)) (by rfl) (pa_cons (pv 0) (pa_cons (pe_op op_sub (pv 1) pe_int) (pa_cons (pv 2) (pa_cons (pe_callD D_lawleast (hr.mono (by omega)) (by rfl) (pa_cons (pv 5) (pa_cons (pv 3) pa_nil))) pa_nil))))) ip_add)))
 (pss_one (ps_asg (pv 4) (pg_sub (pv 0) (pe_tup (pa_cons (pv 1) (pa_cons (pv 3) pa_nil))) (set_kn (hu_of hr)))))))
 pss_nil)
 (pss_one (ps_ret (pe_ix (r := rIxKn P w) (ix_kn (hu_of hr)) (pv 0) (pe_tup (pa_cons (pv 1) (pa_cons (pv 3) pa_nil))) (fun _ _ => rfl))))))), ?_⟩
    have lim : sizeLine = 16777216 := sizeLine_eq
    obtain ⟨x, ex⟩ : ∃ x, M[n]? = some x := ⟨M[n], List.getElem?_eq_getElem lM⟩
    have xp := mst.1 x (List.mem_of_getElem? ex)
    have z2 : 2 ≤ sizeLine := by omega
    refine ⟨_, rfl, _, rfl, d, lst, ms, rfl, kn, .inl ⟨rfl, _, rfl, lst, _, (n : Int), .int x, rfl, rfl, SqL.of gM, at_of (j := n) rfl (by rw [List.getElem?_map, ex]; rfl), L, x, rfl, rfl, _, rfl, ite2 (fun c1 => ?_) (fun c1 => ?_)⟩⟩
    · have c1' : x < L := of_decide_eq_true c1
      have e0 := cnt_most mst n x L ex L0 c1'
      have q0 := q H ms (fun b o e _ => e) kn memo (fun p hp => .inl hp)
      rw [e0] at q0
      exact q0
    have c1' : ¬ x < L := fun z => c1 (decide_eq_true z)
    refine ⟨_, rfl, rfl, _, rfl, ?_⟩
    cases n with
    | zero =>
      rw [show decide (V.int ((0 : Nat) : Int) = V.int 0) = true from rfl]
      have ex1 : x = 1 := by
        rw [mst.2.1] at ex
        exact (Option.some.inj ex).symm
      have q0 := q H ms (fun b o e _ => e) kn memo (fun p hp => .inl hp)
      have e1 : cnt g 0 L = 1 := if_pos (by omega)
      rw [e1] at q0
      exact iteT q0
    | succ n =>
      rw [show decide (V.int ((n + 1 : Nat) : Int) = V.int 0) = false from decide_eq_false fun z => by injection z with z; omega]
      refine iteF ?_
      have n0 : (0 : Int) ≤ ((n + 1 : Nat) : Int) := by omega
      have n8' : ((n + 1 : Nat) : Int) ≤ 8 := by omega
      have ne : ∀ {H' : Hp} {T : Addr} {ms' : List En}, Kn P w H' d lst ms' → H' T = none → d ≠ T := fun k h z => by
        rw [← z, k.ob] at h
        cases h
      -- behind the test, the entry is there
      refine tellNx (fun σ2 H' => ∃ ms' y4 y5, σ2 = [some (.ref d), some (.int ((n + 1 : Nat) : Int)), some (.int g), some (.int L), y4, y5] ∧ (∀ b o, H b = some o → b ≠ d → H' b = some o) ∧ Kn P w H' d lst ms' ∧ Memo g ms' ∧ (∀ p ∈ ms', p ∈ ms ∨ p.1 ≤ ((n + 1 : Nat) : Int)) ∧ look ms' ((n + 1 : Nat) : Int) L = some (cnt g (n + 1) L)) (fun Nx hN => ?_) (fun σ2 H' h => ?_)
      · refine ⟨_, rfl, _, rfl, z2, fun T hT => ?_⟩
        have sT := same_new (o := .tup [V.int ((n + 1 : Nat) : Int), .int L]) hT
        have knT := kn.same sT
        refine ⟨_, rfl, T, d, lst, ms, _, L, rfl, rfl, upd_same, knT, n0, n8', L0, L1, _, rfl, ?_⟩
        cases l : look ms ((n + 1 : Nat) : Int) L with
        | some v =>
          refine iteF ?_
          have ev : v = cnt g (n + 1) L := by
            obtain ⟨b, mb⟩ := look_some l
            have e := memo _ mb
            have e : v = cnt g (((n + 1 : Nat) : Int)).toNat L := e
            rw [Int.toNat_natCast] at e
            exact e
          rw [ev] at l
          exact hN _ _ ⟨ms, _, _, rfl, fun b o e _ => sT _ _ e, knT, memo, fun p hp => .inl hp, l⟩
        | none =>
          refine iteT ?_
          generalize upd H T (.tup [V.int ((n + 1 : Nat) : Int), .int L]) = H1 at sT knT ⊢
          have gM1 := sT _ _ gM
          refine ⟨_, rfl, g, 1, rfl, rfl, 2, g + 1, rfl, ⟨by decide, by decide, by omega, by omega⟩, for_range (lo := 2) (n := (g + 1 - 2).toNat) (fun b σ H' => ∃ ms' y5, σ = [some (.ref d), some (.int ((n + 1 : Nat) : Int)), some (.int g), some (.int L), some (.int ((((cand g).take b).map fun k => cnt g n (la L k)).sum : Nat)), y5] ∧ (∀ c o, H1 c = some o → c ≠ d → H' c = some o) ∧ Kn P w H' d lst ms' ∧ Memo g ms' ∧ (∀ p ∈ ms', p ∈ ms ∨ p.1 ≤ (n : Int)))
            ⟨ms, _, rfl, fun c o e _ => e, knT, memo, fun p hp => .inl hp⟩ ?_ ?_⟩
          · rintro b σ H2 hb ⟨ms2, y5, rfl, kp2, kn2, memo2, new2⟩
            have hb' : b < (g - 1).toNat := by omega
            have ec : (cand g).take (b + 1) = (cand g).take b ++ [2 + (b : Int)] := by
              rw [List.take_add_one]
              congr 1
              unfold cand
              rw [List.getElem?_map, List.getElem?_range (by omega)]
              rfl
            have gM2 : H2 lst = some (.lst (M.map V.int)) := kp2 _ _ gM1 (fun z => by
              have a := knT.ob
              rw [← z, gM1] at a
              cases a)
            have kk : (2 : Int) ≤ 2 + (b : Int) ∧ 2 + (b : Int) ≤ g := by omega
            have w1 := lw_one L (2 + (b : Int))
            have w2 := lw_le kk.1 L0
            have w3 : lw L (2 + (b : Int)) ≤ 10000 := by
              split at w2 <;> omega
            refine ⟨_, rfl, _, rfl, _, rfl, ((n + 1 : Nat) : Int), 1, rfl, rfl, _, rfl, _, rfl, _, rfl, 2 + (b : Int), L, rfl, kk.1, by omega, L0, L1, ?_⟩
            refine ⟨d, lst, ms2, M, n, g, lw L (2 + (b : Int)), by omega, by show [V.ref d, V.int (((n + 1 : Nat) : Int) - 1), V.int g, V.int (lw L (2 + (b : Int)))] = _; rw [show ((n + 1 : Nat) : Int) - 1 = (n : Int) by omega], kn2, gM2, by omega, mst, memo2, by omega, g2, g60, by omega, w3, fun H3 ms3 kp3 kn3 memo3 new3 => ?_⟩
            refine ⟨_, _, rfl, rfl, ms3, some (.int (2 + (b : Int))), ?_, fun c o e nc => kp3 _ _ (kp2 c o e nc) nc, kn3, memo3, fun p hp => ?_⟩
            · rw [ec, List.map_append, List.sum_append, cnt_lw n kk.1 L0]
              show _ = [_, _, _, _, some (V.int ((_ + (cnt g n (la L (2 + (b : Int))) + 0) : Nat) : Int)), _]
              rw [Nat.add_zero, Int.natCast_add]
              rfl
            · rcases new3 p hp with z | z
              · exact new2 p z
              · exact .inr z
          · rintro σ H2 ⟨ms2, y5, rfl, kp2, kn2, memo2, new2⟩
            have e1 : (cand g).take (g + 1 - 2).toNat = cand g := List.take_of_length_le (by rw [cand_len]; omega)
            rw [e1]
            have l2 : look ms2 ((n + 1 : Nat) : Int) L = none := look_none.mpr fun z => by
              obtain ⟨p, hp, e⟩ := List.mem_map.mp z
              injection e with e1 e2
              rcases new2 p hp with z | z
              · exact look_none.mp l (List.mem_map.mpr ⟨p, z, by rw [e1, e2]⟩)
              · omega
            refine ⟨_, rfl, _, rfl, _, rfl, _, rfl, z2, fun T2 hT2 => ?_⟩
            have sT2 := same_new (o := .tup [V.int ((n + 1 : Nat) : Int), .int L]) hT2
            have g2 := (upd_same (H := H2) (a := T2) (o := .tup [V.int ((n + 1 : Nat) : Int), .int L]))
            refine ⟨d, lst, T2, ms2, _, L, cnt g (n + 1) L, rfl, rfl, rfl, upd_same, kn2.same sT2, n0, n8', L0, L1, l2, ?_⟩
            refine hN _ _ ⟨ms2 ++ [(((n + 1 : Nat) : Int), L, T2, cnt g (n + 1) L)], _, _, rfl, fun b o e nb => ?_, Kn.more (kn2.same sT2) g2 l2 n0 n8' L0 L1, fun p hp => ?_, fun p hp => ?_, ?_⟩
            · rw [upd_ne nb]
              exact sT2 _ _ (kp2 _ _ (sT _ _ e) nb)
            · rcases List.mem_append.mp hp with z | z
              · exact memo2 p z
              · rw [List.mem_singleton.mp z]
                show cnt g (n + 1) L = cnt g (((n + 1 : Nat) : Int)).toNat L
                rw [Int.toNat_natCast]
            · rcases List.mem_append.mp hp with z | z
              · rcases new2 p z with z | z
                · exact .inl z
                · exact .inr (by omega)
              · rw [List.mem_singleton.mp z]
                exact .inr (Int.le_refl _)
            · unfold look at l2 ⊢
              rw [Option.map_eq_none_iff] at l2
              rw [List.find?_append, l2, Option.none_or, List.find?_cons, decide_eq_true ⟨rfl, rfl⟩]
              rfl
      · obtain ⟨ms', y4, y5, rfl, kp, kn', memo', new', l'⟩ := h
        refine ⟨_, rfl, _, rfl, _, rfl, z2, fun T2 hT2 => ?_⟩
        have sT2 := same_new (o := .tup [V.int ((n + 1 : Nat) : Int), .int L]) hT2
        refine ⟨d, lst, ms', rfl, kn'.same sT2, .inr ⟨T2, _, L, _, rfl, upd_same, n0, n8', L0, L1, l', ?_⟩⟩
        exact q _ ms' (fun b o e nb => sT2 _ _ (kp b o e nb)) (kn'.same sT2) memo' new'
end
end Sq

set_option Elab.async false
set_option linter.all false
set_option maxRecDepth 100000
set_option maxHeartbeats 4000000
namespace Sq
open PySem PySem.Spec PyProof.Rows L2
/-- how many lists stand before one -/
def bef (g : Int) : List Int → Int → Nat
  | [], _ => 0
  | k :: l, L => ((cand (k - 1)).map fun j => cnt g l.length (la L j)).sum + bef g l (lw L k)
section
variable {P : Program} {w : World} {K : PySem.W.Frag} {mg : Str → Option Value} {base : Heap} {c fI : Nat → Addr} {qn : Nat → Str} {cB : Addr}
theorem ok_count {f : Addr} {fd : FuncData} (F : Fun K "_law_count" "_law_count" s_lawcount f fd) (B : Bi mg) (D_lawleast : Df P w K mg base 1 "_law_least" ["k", "far"] spLeast) (g : mg "_law_count" = some (.ref f)) (b : Binds K fd ["known", "many", "largest", "far"] []) :
    ∀ N : Nat, FnOk P w K mg base CX0 (N + 1) f fd ["known", "many", "largest", "far"] (spCountN P w N)
  | 0 => ⟨fun vs H Q E h => by
      obtain ⟨d, lst, ms, M, n, g, L, z, _⟩ := h
      exact absurd z (Nat.not_lt_zero _), fun A outer s H args us vs Q E _ _ _ _ h => by
      obtain ⟨d, lst, ms, M, n, g, L, z, _⟩ := h
      exact absurd z (Nat.not_lt_zero _)⟩
  | N + 1 => ok_count1 F B D_lawleast N (.mk' F (ok_count F B D_lawleast g b N) g b)
def spBef (P : Program) (w : World) : Sp := fun vs H Q _ => ∃ (d lst o : Addr) (ms : List En) (M ks : List Int) (g L : Int), vs = [.ref d, .ref o, .int g, .int L] ∧ Kn P w H d lst ms ∧ H lst = some (.lst (M.map V.int)) ∧ H o = some (.lst (ks.map V.int)) ∧ ks.length < M.length ∧ ks.length ≤ 8 ∧ Mst g M ∧ Memo g ms ∧ (∀ k ∈ ks, 2 ≤ k ∧ k ≤ g) ∧ 2 ≤ g ∧ g ≤ 60 ∧ 0 ≤ L ∧ L ≤ 10000 ∧
  ∀ H' ms', (∀ b o, H b = some o → b ≠ d → H' b = some o) → Kn P w H' d lst ms' → Memo g ms' → Q (.int (bef g ks L : Nat)) H'
theorem ok_bef {f : Addr} {fd : FuncData} (F : Fun K "_law_before" "_law_before" s_lawbefore f fd) (B : Bi mg) (D_lawleast : Df P w K mg base 1 "_law_least" ["k", "far"] spLeast)
    (D_lawcount : Df P w K mg base 10 "_law_count" ["known", "many", "largest", "far"] (spCountN P w 9)) : FnOk P w K mg base CX0 11 f fd ["known", "one", "largest", "far"] (spBef P w) := by
  refine F.ok sc_lawbefore (fun vs H Q E h => ?_) (fun cdv A outer s H vs Q E hr h => ?_)
  · obtain ⟨d, lst, o, ms, M, ks, g, L, rfl, _⟩ := h
    rfl
  · obtain ⟨d, lst, o, ms, M, ks, g, L, rfl, kn, gM, go, lM, l8, mst, memo, hk, g2, g60, L0, L1, q⟩ := h
    refine ⟨_, (pss_cons (ps_set (i := 4) sc_lawbefore.nd rfl (Or.inl rfl) pe_int)
 (pss_cons (ps_for PassesOwn.never rfl (pi_range1 (by rfl) B.n_range (pa_cons (pe_callB (id := "len") (r := rLenK K) call_lenK (by rfl) B.n_len (by decide +kernel) (pa_cons (pv 1) pa_nil)) pa_nil)) (pg_name (i := 5) sc_lawbefore.nd rfl (Or.inl rfl))
 (pss_cons (ps_for PassesOwn.never rfl (pi_range2 (by rfl) B.n_range (pa_cons pe_int (pa_cons (pe_ix (r := rIxL K) ix_list (pv 1) (pv 5) (fun _ _ => rfl)) pa_nil))) (pg_name (i := 6) sc_lawbefore.nd rfl (Or.inl rfl))
 (pss_one (ps_aug (i := 4) sc_lawbefore.nd rfl (Or.inl rfl) (pe_callD D_lawcount (hr.mono (by omega)) (by rfl) (pa_cons (pv 0) (pa_cons (pe_op op_sub (pe_op op_sub (pe_callB (id := "len") (r := rLenK K) call_lenK (by rfl) B.n_len (by decide +kernel) (pa_cons (pv 1) pa_nil)) (pv 5)) pe_int) (pa_cons (pv 2) (pa_cons (pe_callD D_lawleast (hr.mono (by omega)) (by rfl) (pa_cons (pv 6) (pa_cons (pv 3) pa_nil))) pa_nil))))) ip_add)))
 (pss_one (ps_set (i := 3) sc_lawbefore.nd rfl (Or.inl rfl) (pe_callD D_lawleast (hr.mono (by omega)) (by rfl) (pa_cons (pe_ix (r := rIxL K) ix_list (pv 1) (pv 5) (fun _ _ => rfl)) (pa_cons (pv 3) pa_nil)))))))
 (pss_one (ps_ret (pv 4))))), ?_⟩
    have lim : sizeLine = 16777216 := sizeLine_eq
    have nd : ∀ {a : Addr} {xs : List V}, H a = some (.lst xs) → a ≠ d := fun h z => by
      rw [z, kn.ob] at h
      cases h
    have lM' := nd gM
    have lo' := nd go
    refine ⟨_, rfl, o, _, rfl, .inl (SqL.of go), ?_⟩
    refine ⟨((ks.map V.int).length : Int), rfl, by rw [List.length_map]; omega, by rw [List.length_map]; omega, for_range (lo := 0) (n := (((ks.map V.int).length : Nat) : Int).toNat) (fun i σ H' => ∃ ms' L' fo y5 y6, σ = [some (.ref d), some (.ref o), some (.int g), some (.int L'), some (.int ((fo : Nat) : Int)), y5, y6] ∧ (∀ b o, H b = some o → b ≠ d → H' b = some o) ∧ Kn P w H' d lst ms' ∧ Memo g ms' ∧ 0 ≤ L' ∧ L' ≤ 10000 ∧ bef g ks L = fo + bef g (ks.drop i) L')
      ⟨ms, L, 0, none, none, rfl, fun b o e _ => e, kn, memo, L0, L1, by rw [List.drop_zero, Nat.zero_add]⟩ ?_ ?_⟩
    · rintro i σ H1 hi ⟨ms1, L', fo, y5, y6, rfl, kp1, kn1, memo1, a0, a1, eb⟩
      rw [Int.toNat_natCast, List.length_map] at hi
      obtain ⟨k, ek⟩ : ∃ k, ks[i]? = some k := ⟨ks[i], List.getElem?_eq_getElem hi⟩
      have km := hk k (List.mem_of_getElem? ek)
      have ed : ks.drop i = k :: ks.drop (i + 1) := by
        obtain ⟨_, e⟩ := List.getElem?_eq_some_iff.mp ek
        rw [List.drop_eq_getElem_cons hi, e]
      rw [ed] at eb
      have lr : (ks.drop (i + 1)).length = ks.length - (i + 1) := List.length_drop
      obtain ⟨n, en⟩ : ∃ n, n = ks.length - (i + 1) := ⟨_, rfl⟩
      have eb2 : bef g ks L = fo + (((cand (k - 1)).map fun j => cnt g n (la L' j)).sum + bef g (ks.drop (i + 1)) (lw L' k)) := by
        rw [eb]
        show _ = fo + (((cand (k - 1)).map fun j => cnt g n (la L' j)).sum + bef g (ks.drop (i + 1)) (lw L' k))
        rw [en, ← lr]
        rfl
      have go1 := kp1 _ _ go lo'
      refine ⟨_, rfl, _, rfl, o, _, 0 + (i : Int), .int k, rfl, rfl, SqL.of go1, at_of (j := i) (by omega) (by rw [List.getElem?_map, ek]; rfl), 2, k, rfl, ⟨by decide, by decide, by omega, by omega⟩, for_range (lo := 2) (n := (k - 2).toNat) (fun b σ H' => ∃ ms' y6, σ = [some (.ref d), some (.ref o), some (.int g), some (.int L'), some (.int ((fo + (((cand (k - 1)).take b).map fun j => cnt g n (la L' j)).sum : Nat) : Int)), some (.int (0 + (i : Int))), y6] ∧ (∀ b o, H b = some o → b ≠ d → H' b = some o) ∧ Kn P w H' d lst ms' ∧ Memo g ms')
        ⟨ms1, y6, rfl, kp1, kn1, memo1⟩ ?_ ?_⟩
      · rintro b σ H2 hb ⟨ms2, y6, rfl, kp2, kn2, memo2⟩
        have hb' : b < ((k - 1) - 1).toNat := by omega
        have ec : (cand (k - 1)).take (b + 1) = (cand (k - 1)).take b ++ [2 + (b : Int)] := by
          rw [List.take_add_one]
          congr 1
          unfold cand
          rw [List.getElem?_map, List.getElem?_range (by omega)]
          rfl
        have gM2 := kp2 _ _ gM lM'
        have kk : (2 : Int) ≤ 2 + (b : Int) ∧ 2 + (b : Int) ≤ g := by omega
        have w1 := lw_one L' (2 + (b : Int))
        have w2 := lw_le kk.1 a0
        have w3 : lw L' (2 + (b : Int)) ≤ 10000 := by
          split at w2 <;> omega
        refine ⟨_, rfl, _, rfl, _, rfl, o, _, rfl, .inl (SqL.of (kp2 _ _ go lo')), _, rfl, _, _, rfl, rfl, _, 1, rfl, rfl, _, rfl, _, rfl, _, rfl, 2 + (b : Int), L', rfl, kk.1, by omega, a0, a1, ?_⟩
        refine ⟨d, lst, ms2, M, n, g, lw L' (2 + (b : Int)), by omega, ?_, kn2, gM2, by omega, mst, memo2, by omega, g2, g60, by omega, w3, fun H3 ms3 kp3 kn3 memo3 new3 => ?_⟩
        · show [V.ref d, V.int (((ks.map V.int).length : Int) - (0 + (i : Int)) - 1), V.int g, V.int (lw L' (2 + (b : Int)))] = _
          rw [List.length_map, show (ks.length : Int) - (0 + (i : Int)) - 1 = (n : Int) by omega]
        refine ⟨_, _, rfl, rfl, ms3, some (.int (2 + (b : Int))), ?_, fun c o e nc => kp3 _ _ (kp2 c o e nc) nc, kn3, memo3⟩
        rw [ec, List.map_append, List.sum_append, cnt_lw n kk.1 a0]
        show _ = [_, _, _, _, some (V.int ((fo + (_ + (cnt g n (la L' (2 + (b : Int))) + 0)) : Nat) : Int)), _, _]
        rw [Nat.add_zero, ← Nat.add_assoc, Int.natCast_add (fo + _)]
        rfl
      · rintro σ H2 ⟨ms2, y6, rfl, kp2, kn2, memo2⟩
        have e1 : (cand (k - 1)).take (k - 2).toNat = cand (k - 1) := List.take_of_length_le (by rw [cand_len]; omega)
        rw [e1]
        have w1 := lw_one L' k
        have w2 := lw_le km.1 a0
        have w3 : lw L' k ≤ 10000 := by
          split at w2 <;> omega
        refine ⟨_, rfl, _, rfl, o, _, 0 + (i : Int), .int k, rfl, rfl, SqL.of (kp2 _ _ go lo'), at_of (j := i) (by omega) (by rw [List.getElem?_map, ek]; rfl), _, rfl, k, L', rfl, km.1, by omega, a0, a1, ?_⟩
        exact ⟨ms2, lw L' k, _, _, _, rfl, kp2, kn2, memo2, by omega, w3, by rw [eb2, Nat.add_assoc]⟩
    · rintro σ H1 ⟨ms1, L', fo, y5, y6, rfl, kp1, kn1, memo1, a0, a1, eb⟩
      rw [Int.toNat_natCast, List.length_map, List.drop_length] at eb
      have e : bef g ks L = fo := eb
      rw [← e]
      exact ⟨_, rfl, q H1 ms1 kp1 kn1 memo1⟩
end
end Sq

set_option Elab.async false
set_option linter.all false
set_option maxRecDepth 100000
set_option maxHeartbeats 4000000
namespace Sq
open PySem PySem.Spec PyProof.Rows L2
theorem pik_at (f : Int → Nat) : ∀ (ks : List Int) (r : Nat), r < (ks.map f).sum → ∃ b, ks[b]? = some (pik f ks r).1 ∧ r = ((ks.take b).map f).sum + (pik f ks r).2
  | [], r, h => absurd h (Nat.not_lt_zero _)
  | k :: ks, r, h => by
    unfold pik
    by_cases c : r < f k
    · rw [if_pos c]
      exact ⟨0, rfl, (Nat.zero_add r).symm⟩
    · rw [if_neg c]
      rw [List.map_cons, List.sum_cons] at h
      obtain ⟨b, e1, e2⟩ := pik_at f ks (r - f k) (by omega)
      refine ⟨b + 1, e1, ?_⟩
      rw [List.take_succ_cons, List.map_cons, List.sum_cons]
      omega
theorem cand_at {g k : Int} {b : Nat} (h : (cand g)[b]? = some k) : (cand g).take b = cand (k - 1) := by
  have hb := (List.getElem?_eq_some_iff.mp h).1
  rw [cand_len] at hb
  have ek : k = 2 + (b : Int) := by
    unfold cand at h
    rw [List.getElem?_map, List.getElem?_range hb] at h
    exact (Option.some.inj h).symm
  unfold cand
  rw [← List.map_take, List.take_range, show min b (g - 1).toNat = (k - 1 - 1).toNat by omega]
theorem bef_one {g : Int} : ∀ ks : List Int, (∀ k ∈ ks, 2 ≤ k) → bef g ks 0 = bef g ks 1
  | [], _ => rfl
  | k :: l, h => by
    have hk := h k List.mem_cons_self
    have a := la_one hk
    have e : lw 0 k = lw 1 k := by
      unfold lw
      rw [a.1, a.2]
      rfl
    show ((cand (k - 1)).map fun j => cnt g l.length (la 0 j)).sum + bef g l (lw 0 k) = ((cand (k - 1)).map fun j => cnt g l.length (la 1 j)).sum + bef g l (lw 1 k)
    rw [e]
    congr 2
    refine List.map_congr_left fun j hj => ?_
    have b := la_one (mem_cand.mp hj).1
    rw [b.1, b.2]
    exact cnt_one _
theorem bef_lw {g L k : Int} {l : List Int} (hl : ∀ x ∈ l, 2 ≤ x) (hk : 2 ≤ k) (h0 : 0 ≤ L) : bef g l (lw L k) = bef g l (la L k) := by
  have a := (la_le hk h0).1
  unfold lw
  split
  · have e : la L k = 0 := by omega
    rw [e, bef_one l hl]
  · rfl
theorem nth_facts {g L : Int} {n r : Nat} (h0 : 0 ≤ L) (h : r < cnt g n L) : (nthL g n L r).length = n ∧ (∀ k ∈ nthL g n L r, 2 ≤ k ∧ k ≤ g) ∧ L ≤ rch (nthL g n L r) 1 := by
  have m := List.mem_of_getElem? (nth_due n r h0 h)
  obtain ⟨a, b⟩ := List.mem_filter.mp m
  obtain ⟨c, d⟩ := allF_mem a
  exact ⟨c, d, of_decide_eq_true b⟩
theorem bef_nth {g : Int} : ∀ (n : Nat) (L : Int) (r : Nat), 0 ≤ L → r < cnt g n L → bef g (nthL g n L r) L = r
  | 0, L, r, _, h => by
    have h' : r < (if L ≤ 1 then 1 else 0) := h
    show 0 = r
    split at h' <;> omega
  | n + 1, L, r, h0, h => by
    have h' : r < ((cand g).map fun k => cnt g n (la L k)).sum := h
    obtain ⟨p, ep⟩ : ∃ p, p = pik (fun k => cnt g n (la L k)) (cand g) r := ⟨_, rfl⟩
    have ok := pik_ok _ _ _ h'
    obtain ⟨b, e1, e2⟩ := pik_at _ _ _ h'
    rw [← ep] at ok e1 e2
    have km := mem_cand.mp ok.1
    have la0 := (la_le km.1 h0).1
    have nf := nth_facts la0 ok.2
    have ih := bef_nth n (la L p.1) p.2 la0 ok.2
    have en : nthL g (n + 1) L r = p.1 :: nthL g n (la L p.1) p.2 := by rw [ep]; rfl
    rw [en]
    show ((cand (p.1 - 1)).map fun j => cnt g (nthL g n (la L p.1) p.2).length (la L j)).sum + bef g (nthL g n (la L p.1) p.2) (lw L p.1) = r
    rw [bef_lw (fun x hx => (nf.2.1 x hx).1) km.1 h0, ih, nf.1, ← cand_at e1]
    exact e2.symm
end Sq

set_option Elab.async false
set_option linter.all false
set_option maxRecDepth 100000
set_option maxHeartbeats 4000000
namespace Sq
open PySem PySem.Spec PyProof.Rows L2
theorem nth_of {xs : List Int} {z : Int} (h0 : 0 ≤ z) (h : z < xs.length) : ∃ k, k ∈ xs ∧ xs[z.toNat]? = some k ∧ atI (xs.map V.int) z = some (.int k) := by
  have lt : z.toNat < xs.length := by omega
  refine ⟨xs[z.toNat], List.getElem_mem lt, List.getElem?_eq_getElem lt, at_of (j := z.toNat) (by omega) ?_⟩
  rw [List.getElem?_map, List.getElem?_eq_getElem lt]
  rfl
theorem Bag.put {H : Hp} {b d p : Addr} {blend turn : Int} {o : HO} (S : Bag H b d blend turn) (h1 : p ≠ b) (h2 : p ≠ d) : Bag (upd H p o) b d blend turn := by
  obtain ⟨⟨left, ds, gb, gd⟩, m0, m1, c0, ne⟩ := S
  exact ⟨⟨left, ds, by rw [upd_ne h1.symm]; exact gb, by rw [upd_ne h2.symm]; exact gd⟩, m0, m1, c0, ne⟩
theorem keep_wo {G H : Hp} {b d D : Addr} (k : Keep G H b d) : Keep (wo G D) (wo H D) b d := fun x o e n1 n2 => by
  by_cases h : x = D
  · rw [h, wo_self] at e
    cases e
  · rw [wo_ne h] at e ⊢
    exact k x o e n1 n2
theorem kn_bag {P : Program} {w : World} {H H' : Hp} {b d dk lst : Addr} {blend turn : Int} {ms : List En} (k : Kn P w H dk lst ms) (kp : Keep H H' b d) (S : Bag H b d blend turn) (n1 : dk ≠ b) (n2 : dk ≠ d) : Kn P w H' dk lst ms := by
  obtain ⟨left, ds, gb, gd⟩ := S.ob
  refine ⟨kp _ _ k.ob n1 n2, fun p hp => ?_, k.once, k.rng⟩
  have t := k.tup p hp
  refine kp _ _ t (fun z => ?_) (fun z => ?_)
  · rw [z, gb] at t
    cases t
  · rw [z, gd] at t
    cases t
section
variable {P : Program} {w : World} {K : PySem.W.Frag} {mg : Str → Option Value} {base : Heap} {c fI : Nat → Addr} {qn : Nat → Str} {cB : Addr}
def spCnt (c : Nat → Addr) : Sp := fun vs H Q _ => spCountLists c vs H Q fun _ _ _ => False
def spNthC (c : Nat → Addr) : Sp := fun vs H Q _ => spNth c vs H Q fun _ _ _ => False
def spLaw (K : PySem.W.Frag) : Sp := fun vs H Q _ => ∃ (a : Addr) (ns : List Int), vs = [.ref a] ∧ SqL K H a (ns.map V.int) ∧ ns.length ≤ 63 ∧ ∀ H', Q (.bl true) H'
theorem ok_law {f : Addr} {fd : FuncData} (F : Fun K "law" "law" s_law f fd) (B : Bi mg)
    (D_lawbag : Df P w K mg base 1 "_law_bag" ["script"] (spBag K)) (D_lawdraw : Df P w K mg base 1 "_law_draw" ["bag", "many"] spDraw) (D_lawreach : Df P w K mg base 1 "_law_reach" ["steps_now"] spLawReach)
    (D_lawmost : Df P w K mg base 1 "_law_most" ["many", "largest"] spMost) (D_lawcount : Df P w K mg base 10 "_law_count" ["known", "many", "largest", "far"] (spCountN P w 9)) (D_lawbefore : Df P w K mg base 11 "_law_before" ["known", "one", "largest", "far"] (spBef P w))
    (D_lawisrefused : Df P w K mg base 7 "_law_is_refused" ["many", "largest", "far", "spot"] spRefused) (D_countlists : Df P w K mg base 6 "count_lists" ["steps", "greatest", "length"] (spCnt c)) (D_nthlist : Df P w K mg base 6 "nth_list" ["steps", "greatest", "length", "number"] (spNthC c))
    (V_reach : Dv P w K mg base 2 "reach" ["replacements", "most"] [.int 1] (spReach K))
     : Top P w K mg base 12 f fd "script" (spLaw K) := by
  refine atTop F sc_law ⟨rfl, by decide, by decide⟩ (fun vs H Q E h => ?_) (fun cdv outer s H vs Q E hr h => ?_)
  · obtain ⟨a, ns, rfl, _⟩ := h
    rfl
  · obtain ⟨a, ns, rfl, hS, hn, q⟩ := h
    refine ⟨_, (pss_cons (ps_set (i := 1) sc_law.nd rfl (Or.inr rfl) (pe_callD D_lawbag (hr.mono (by omega)) (by rfl) (pa_cons (pv 0) pa_nil)))
 (pss_cons (ps_for PassesOwn.never rfl (pi_range1 (by rfl) B.n_range (pa_cons (pe_op op_add pe_int (pe_callB (id := "min") (call_min2 rfl) (by rfl) B.n_min (by decide +kernel) (pa_cons pe_int (pa_cons (pe_callB (id := "len") (r := rLenK K) call_lenK (by rfl) B.n_len (by decide +kernel) (pa_cons (pv 0) pa_nil)) pa_nil)))) pa_nil)) (pg_name (i := 2) sc_law.nd rfl (Or.inl rfl))
 (pss_cons (ps_asg (pe_tup (pa_cons (pe_callD D_lawdraw (hr.mono (by omega)) (by rfl) (pa_cons (pv 1) (pa_cons pe_int pa_nil))) (pa_cons (pe_op op_add pe_int (pe_callD D_lawdraw (hr.mono (by omega)) (by rfl) (pa_cons (pv 1) (pa_cons (pe_ix ix_tup (pe_tup (pa_cons pe_int (pa_cons pe_int pa_nil))) (pe_callD D_lawdraw (hr.mono (by omega)) (by rfl) (pa_cons (pv 1) (pa_cons pe_int pa_nil))) (fun _ _ => rfl)) pa_nil)))) pa_nil))) (pg_tup rfl (pgs_cons (pg_name (i := 3) sc_law.nd rfl (Or.inl rfl)) (pgs_cons (pg_name (i := 4) sc_law.nd rfl (Or.inr rfl)) pgs_nil))))
 (pss_cons (ps_setLc (own := [("number", 6)]) (g := gName 6) (i := 5) rfl sc_law.nd rfl rfl (sw_true rfl rfl rfl (by decide +kernel)) (pi_range1 (by rfl) B.n_range (pa_cons (pv 3) pa_nil)) (blkOk_by (own := [("number", 6)]) (N := ["script", "bag", "turn", "many", "largest", "drawn", "number", "far", "known", "due", "spot", "told", "k"]) (sc := defScope s_law) (by decide +kernel)) (fun _ _ _ _ _ => (pg_name (i := 6) sc_law.nd rfl (Or.inl rfl))) (fun _ _ _ _ _ => pts_nil) (fun _ _ _ _ _ => (pe_op op_add pe_int (pe_callD D_lawdraw (hr.mono (by omega)) (by rfl) (pa_cons (pv 1) (pa_cons (pe_op op_sub (pv 4) pe_int) pa_nil))))))
 (pss_cons (ps_set (i := 7) sc_law.nd rfl (Or.inl rfl) (pe_ix ix_tup (pe_tup (pa_cons (pe_callD D_lawreach (hr.mono (by omega)) (by rfl) (pa_cons (pv 5) pa_nil)) (pa_cons (pe_callD D_lawdraw (hr.mono (by omega)) (by rfl) (pa_cons (pv 1) (pa_cons (pe_op op_add pe_int (pe_callD D_lawreach (hr.mono (by omega)) (by rfl) (pa_cons (pv 5) pa_nil))) pa_nil))) (pa_cons pe_int pa_nil)))) (pe_op op_fdiv (pe_callD D_lawdraw (hr.mono (by omega)) (by rfl) (pa_cons (pv 1) (pa_cons pe_int pa_nil))) pe_int) (fun _ _ => rfl)))
 (pss_cons (ps_set (i := 7) sc_law.nd rfl (Or.inl rfl) (pe_callB (id := "min") (call_min2 rfl) (by rfl) B.n_min (by decide +kernel) (pa_cons pe_int (pa_cons (pv 7) pa_nil))))
 (pss_cons (ps_set (i := 8) sc_law.nd rfl (Or.inl rfl) (pe_dispN (pps_cons pe_non (pe_callD D_lawmost (hr.mono (by omega)) (by rfl) (pa_cons (pv 3) (pa_cons (pv 4) pa_nil))) pps_nil) rfl rfl (by simp) (by decide)))
 (pss_cons (ps_set (i := 9) sc_law.nd rfl (Or.inl rfl) (pe_callD D_lawcount (hr.mono (by omega)) (by rfl) (pa_cons (pv 8) (pa_cons (pv 3) (pa_cons (pv 4) (pa_cons (pv 7) pa_nil))))))
 (pss_cons (ps_if (pt_cmpR op_ne (pe_callB (id := "repr") (call_reprV rfl hr.units) (by rfl) B.n_repr (by decide +kernel) (pa_cons (pe_callD D_countlists (hr.mono (by omega)) (by rfl) (pa_cons (pv 3) (pa_cons (pv 4) (pa_cons (pv 7) pa_nil)))) pa_nil)) (pe_callB (id := "repr") (call_reprV rfl hr.units) (by rfl) B.n_repr (by decide +kernel) (pa_cons (pv 9) pa_nil)) (nomark _))
 (pss_one (ps_ret pe_bl))
 pss_nil)
 (pss_cons (ps_if (pt_not (pt_val (pe_callD D_lawisrefused (hr.mono (by omega)) (by rfl) (pa_cons (pv 3) (pa_cons (pv 4) (pa_cons (pv 7) (pa_cons (pv 9) pa_nil)))))))
 (pss_one (ps_ret pe_bl))
 pss_nil)
 (pss_one (ps_for PassesOwn.never rfl (pi_tup (pe_tup (pa_cons pe_int (pa_cons (pe_op op_sub (pv 9) pe_int) (pa_cons (pe_callD D_lawdraw (hr.mono (by omega)) (by rfl) (pa_cons (pv 1) (pa_cons (pe_callB (id := "max") (call_max2 rfl) (by rfl) B.n_max (by decide +kernel) (pa_cons pe_int (pa_cons (pv 9) pa_nil))) pa_nil))) (pa_cons (pe_callD D_lawdraw (hr.mono (by omega)) (by rfl) (pa_cons (pv 1) (pa_cons (pe_callB (id := "max") (call_max2 rfl) (by rfl) B.n_max (by decide +kernel) (pa_cons pe_int (pa_cons (pv 9) pa_nil))) pa_nil))) pa_nil)))))) (pg_name (i := 10) sc_law.nd rfl (Or.inl rfl))
 (pss_one (ps_if (pt_chain op_le op_lt pe_int (pv 10) (pv 9))
 (pss_cons (ps_set (i := 11) sc_law.nd rfl (Or.inl rfl) (pe_callD D_nthlist (hr.mono (by omega)) (by rfl) (pa_cons (pv 3) (pa_cons (pv 4) (pa_cons (pv 7) (pa_cons (pv 10) pa_nil))))))
 (pss_cons (ps_if (PW.pt (pw_or (pt_cmpR op_ne (pe_callB (id := "len") (r := rLenK K) call_lenK (by rfl) B.n_len (by decide +kernel) (pa_cons (pv 11) pa_nil)) (pv 3) (nomark _)) (pw_or1 (pt_not (pt_val (pe_callB (id := "all") (r := rAll K) (cr_all rfl) (by rfl) B.n_all (by decide +kernel) (pa_cons (pe_lc (own := [("k", 12)]) (g := gName 12) rfl sc_law.nd (pi_list (pv 11)) (blkOk_by (own := [("k", 12)]) (N := ["script", "bag", "turn", "many", "largest", "drawn", "number", "far", "known", "due", "spot", "told", "k"]) (sc := defScope s_law) (by decide +kernel)) (fun _ _ _ _ _ => (pg_name (i := 12) sc_law.nd rfl (Or.inl rfl))) (fun _ _ _ _ _ => pts_nil) (fun _ _ _ _ _ => (pe_chain op_le op_le pe_int (pv 12) (pv 4)))) pa_nil)))))))
 (pss_one (ps_ret pe_bl))
 pss_nil)
 (pss_cons (ps_if (PW.pt (pw_or (pt_cmpR op_lt (pe_callV V_reach (hr.mono (by omega)) (by rfl) (pa_cons (pv 11) pa_nil)) (pv 7) (nomark _)) (pw_or1 (pt_cmpR op_ne (pe_callD D_lawbefore (hr.mono (by omega)) (by rfl) (pa_cons (pv 8) (pa_cons (pv 11) (pa_cons (pv 4) (pa_cons (pv 7) pa_nil))))) (pv 10) (nomark _)))))
 (pss_one (ps_ret pe_bl))
 pss_nil)
 (pss_cons (ps_expr (pe_bm PySem.F.plainAttrs_list PySem.F.slot_list_append PySem.F.type_list_append mt_append (pv 11) (pa_cons pe_int pa_nil)))
 (pss_one (ps_if (pt_cmpR op_ne (pe_callB (id := "len") (r := rLenK K) call_lenK (by rfl) B.n_len (by decide +kernel) (pa_cons (pe_callD D_nthlist (hr.mono (by omega)) (by rfl) (pa_cons (pv 3) (pa_cons (pv 4) (pa_cons (pv 7) (pa_cons (pv 10) pa_nil))))) pa_nil)) (pv 3) (nomark _))
 (pss_one (ps_ret pe_bl))
 pss_nil))))))
 pss_nil)))))))))))))
 (pss_one (ps_ret pe_bl)))), ?_⟩
    refine ⟨_, rfl, a, ns, rfl, hS, hn, fun b d blend H1 hb hd s1 S1 => ?_⟩
    have z2 : 2 ≤ sizeLine := Nat.le_of_lt (small1000 (by decide))
    have szl : sizeLine = 16777216 := sizeLine_eq
    refine ⟨_, rfl, a, _, rfl, .inl (s1.seq hS), 4, _, rfl, 2, _, rfl, rfl, ?_⟩
    rw [List.length_map]
    have hN : 2 + (if (ns.length : Int) < 4 then (ns.length : Int) else 4) ≤ 6 ∧ 0 ≤ 2 + (if (ns.length : Int) < 4 then (ns.length : Int) else 4) := by
      split <;> omega
    obtain ⟨N, eN⟩ : ∃ N, N = 2 + (if (ns.length : Int) < 4 then (ns.length : Int) else 4) := ⟨_, rfl⟩
    rw [← eN] at hN
    refine ⟨N, by subst eN; rfl, by omega, by omega, for_range (lo := 0) (n := N.toNat) (fun i σ H' => ∃ turn y2 y3 y4 y5 y6 y7 y8 y9 y10 y11 y12, σ = [some (.ref a), some (.ref b), y2, y3, y4, y5, y6, y7, y8, y9, y10, y11, y12] ∧ Bag H' b d blend turn ∧ turn ≤ 20 * i)
      ⟨0, none, none, none, none, none, none, none, none, none, none, none, rfl, S1, by omega⟩ ?_ ?_⟩
    · rintro i σ H2 hi ⟨turn, y2, y3, y4, y5, y6, y7, y8, y9, y10, y11, y12, rfl, S2, hc2⟩
      have zz : ∀ k : Nat, k ≤ 4 → k ≤ sizeLine := fun k h => by omega
      refine ⟨_, rfl, b, d, blend, turn, 9, rfl, S2, by omega, by decide, by decide, fun m t3 H3 m0 m1 S3 hc3 k3 => ?_⟩
      refine ⟨_, rfl, zz 2 (by decide), fun p8 h8 => ?_⟩
      refine ⟨_, rfl, b, d, blend, t3, 2, rfl, S3.same (same_new h8), by omega, by decide, by decide, fun z4 t4 H4 z40 z41 S4 hc4 k4 => ?_⟩
      obtain ⟨gg, gm, _, ga⟩ := nth_of (xs := [8, 59]) z40 z41
      have ggb : 0 < gg ∧ gg ≤ 59 := by
        rcases List.mem_cons.mp gm with e | e
        · omega
        · rw [List.mem_singleton.mp e]
          omega
      refine ⟨p8, _, z4, .int gg, rfl, rfl, .inl (.inl (k4 _ _ upd_same (S3.nel h8) (S3.ned h8))), ga, ?_⟩
      refine ⟨b, d, blend, t4, gg, rfl, S4, by omega, ggb.1, Nat.lt_of_le_of_lt (m := 59) (by omega) (by decide), fun g0 t5 H5 g1 g2 S5 hc5 k5 => ?_⟩
      obtain ⟨n, rfl⟩ := Int.eq_ofNat_of_zero_le m0
      obtain ⟨g, eg⟩ : ∃ g, g = 2 + g0 := ⟨_, rfl⟩
      refine ⟨2, g0, rfl, rfl, zz 2 (by decide), fun pt hpt => ?_⟩
      have S6 := S5.same (same_new (o := .tup [.int n, .int (2 + g0)]) hpt)
      have s6 := same_new (o := .tup [.int n, .int (2 + g0)]) hpt
      refine ⟨pt, [.int n, .int g], rfl, .inl (.inl (by rw [eg]; exact upd_same)), rfl, _, _, rfl, _, _, rfl, rfl, ?_⟩
      clear k3 k4 k5 S3 S4
      refine ⟨_, rfl, (n : Int), rfl, by omega, by omega, fun D hD => lc_range (lo := 0) (n := (n : Int).toNat) (fun e Hq => ∃ tt zs, Bag Hq b d blend tt ∧ tt ≤ t5 + e ∧ zs.length = e ∧ (∀ k ∈ zs, 2 ≤ k ∧ k ≤ g) ∧ Hq D = some (.lst (zs.map V.int)))
        ⟨t5, [], S6.same (same_new hD), by omega, rfl, (fun _ z => nomatch z), upd_same⟩ ?_ ?_⟩
      · rintro e Hq he ⟨tt, zs, Sq, htt, lz, zk, gD⟩
        have Db : D ≠ b := S6.nel hD
        have Dd : D ≠ d := S6.ned hD
        refine ⟨rfl, _, rfl, _, rfl, g, 1, rfl, rfl, b, d, blend, tt, _, rfl, Sq, by omega, by omega, Nat.lt_of_le_of_lt (m := 61) (by omega) (by decide), fun z ttn Hn z0 z1 Sn hcn kn => ⟨2, z, rfl, rfl, _, kn _ _ gD Db Dd, ?_, ttn, zs ++ [2 + z], Sn.put Db Dd, by omega, ?_, fun k hk => ?_, ?_⟩⟩
        · rw [List.length_map]
          omega
        · rw [List.length_append, lz]
          rfl
        · rcases List.mem_append.mp hk with hk | hk
          · exact zk k hk
          · rw [List.mem_singleton.mp hk]
            omega
        · rw [upd_same, List.map_append]
          rfl
      · rintro H7 ⟨t7, zs, S7, htt, lz, zk, gD⟩
        have zl : zs.length ≤ 8 := by omega
        have rs := rch_small (l := zs) (fun k hk => by have := zk k hk; omega) zl
        have zk' : ∀ k ∈ zs, 2 ≤ k ∧ k < 1073741824 := fun k hk => by have := zk k hk; omega
        obtain ⟨R, eR⟩ : ∃ R, R = rch zs 1 := ⟨_, rfl⟩
        rw [← eR] at rs
        refine ⟨_, rfl, D, zs, rfl, gD, by omega, zk', fun H8 s8 => ?_⟩
        have gD8 := s8 _ _ gD
        refine ⟨_, rfl, _, rfl, D, zs, rfl, gD8, by omega, zk', fun H9 s9 => ?_⟩
        rw [← eR]
        have S9 := (S7.same s8).same s9
        refine ⟨1, R, rfl, rfl, b, d, blend, t7, 1 + R, rfl, S9, by omega, by omega, Nat.lt_of_le_of_lt (m := 1000000000000000) (by omega) (by decide), fun f1 t10 H10 f10 f11 S10 hc10 k10 => ?_⟩
        refine ⟨zz 3 (by decide), fun tp htp => ?_⟩
        refine ⟨_, rfl, b, d, blend, t10, 5, rfl, S10.same (same_new htp), by omega, by decide, by decide, fun z11 t11 H11 z110 z111 S11 hc11 k11 => ?_⟩
        obtain ⟨f2, fm, _, fa⟩ := nth_of (xs := [R, f1, 10000]) (z := z11 / 2) (by omega) (by show _ < ((3 : Nat) : Int); omega)
        have fb : 0 ≤ f2 := by
          rcases List.mem_cons.mp fm with e | e
          · omega
          · rcases List.mem_cons.mp e with e | e
            · omega
            · rw [List.mem_singleton.mp e]
              decide
        refine ⟨z11, 2, rfl, rfl, ⟨by decide, by decide⟩, tp, _, z11 / 2, .int f2, rfl, rfl, .inl (.inl (k11 _ _ upd_same (S10.nel htp) (S10.ned htp))), fa, ?_⟩
        refine ⟨_, rfl, 10000, f2, rfl, ?_⟩
        obtain ⟨far, ef⟩ : ∃ far : Int, far = (if f2 < 10000 then f2 else 10000) := ⟨_, rfl⟩
        have fb2 : 0 ≤ far ∧ far ≤ 10000 := by
          rw [ef]
          split <;> omega
        have ef' : (if f2 < 10000 then f2 else 10000) = far := ef.symm
        rw [ef']
        clear ef' k10 k11 fa fm
        refine fun dk hdk => ⟨_, rfl, _, rfl, n, g, rfl, by omega, by omega, by omega, fun lst M H12 hlst s12 gM lM mst => ⟨s12 _ _ upd_same, lst, rfl, ?_⟩⟩
        have nbk : dk ≠ b := S11.nel hdk
        have ndk : dk ≠ d := S11.ned hdk
        have lk : lst ≠ dk := fun z => by
          rw [z, upd_same] at hlst
          cases hlst
        have S12 := ((S11.same (same_new (o := .dK []) hdk)).same s12).put (o := KnO P w dk lst []) nbk ndk
        have kn0 : Kn P w (upd H12 dk (KnO P w dk lst [])) dk lst [] := ⟨upd_same, (fun _ z => nomatch z), List.nodup_nil, (fun _ z => nomatch z)⟩
        have gM12 : (upd H12 dk (KnO P w dk lst [])) lst = some (.lst (M.map V.int)) := by
          rw [upd_ne lk]
          exact gM
        refine ⟨_, rfl, _, rfl, _, rfl, _, rfl, dk, lst, [], M, n, g, far, by omega, rfl, kn0, gM12, by omega, mst, (fun _ z => nomatch z), by omega, by omega, by omega, fb2.1, fb2.2, fun H13 ms13 kp13 kn13 memo13 _ => ?_⟩
        have kp13 : ∀ x o, (upd H12 dk (KnO P w dk lst [])) x = some o → x ≠ dk → H13 x = some o := kp13
        generalize upd H12 dk (KnO P w dk lst []) = G at S12 kn0 gM12 kp13
        have bd : ∀ {t : Int}, Bag G b d blend t → Bag H13 b d blend t := fun S => by
          obtain ⟨left, ds, gb, gd⟩ := S.ob
          exact ⟨⟨left, ds, kp13 _ _ gb nbk.symm, kp13 _ _ gd ndk.symm⟩, S.m0, S.m1, S.c0, S.ne⟩
        have S13 := bd S12
        have gM13 := kp13 _ _ gM12 lk
        obtain ⟨due, edue⟩ : ∃ due : Int, due = (cnt g n far : Nat) := ⟨_, rfl⟩
        have d0 : dueCh n g far = none := by
          unfold dueCh
          rw [if_neg (by omega), if_neg (by omega), if_neg (by omega)]
        have lim : Lim (n : Int).toNat g far := ⟨by omega, by omega, by omega, by omega, by omega⟩
        have dn : ∀ {z : Int}, dueCh n g far = some z → False := fun {z} dz => by
          rw [d0] at dz
          cases dz
        have cd : (cnt g (n : Int).toNat far : Int) = due := by rw [edue, Int.toNat_natCast]
        have Lb : 0 ≤ due ∧ due < 1000000000000000 := by
          have e1 := cnt_due (g := g) n fb2.1
          have e2 : (dueL g n far).length ≤ (g - 1).toNat ^ n := by
            rw [← allF_len]
            exact List.length_filter_le _ _
          have e3 : (g - 1).toNat ^ n ≤ 59 ^ 8 := Nat.le_trans (Nat.pow_le_pow_left (by omega) n) (Nat.pow_le_pow_right (by decide) (by omega))
          have e4 : 59 ^ 8 = 146830437604321 := by decide
          omega
        rw [← edue]
        have shL : ∀ H', Shown K H' (.int due) (.int due) := fun H' => (gd_int (by omega)).shown (by decide) (.int due)
        refine ⟨_, rfl, _, rfl, _, rfl, n, g, far, rfl, fun _ => ⟨lim, fun H14 s14 => ?_⟩, fun z dz => (dn dz).elim⟩
        rw [cd]
        refine ⟨.int due, .int due, rfl, shL _, _, rfl, .int due, .int due, rfl, shL _, rfl, _, rfl, ?_⟩
        rw [show (!decide (V.str (PyData.int due).shown = V.str (PyData.int due).shown)) = false by rw [decide_eq_true rfl]; rfl]
        refine iteF ?_
        refine ⟨_, rfl, _, rfl, _, rfl, _, rfl, n, g, far, due, rfl, d0, lim, .inr (by rw [cd]; exact Int.le_refl _), fun H15 s15 => ⟨_, rfl, iteF ?_⟩⟩
        have s15' := s14.trans s15
        refine ⟨_, rfl, due, 1, rfl, rfl, _, rfl, _, rfl, 1, due, rfl, ?_⟩
        obtain ⟨mx, emx⟩ : ∃ mx : Int, mx = (if due > 1 then due else 1) := ⟨_, rfl⟩
        have emx' : (if due > 1 then due else 1) = mx := emx.symm
        have mb : 0 < mx ∧ mx < 1000000000000000 := by
          rw [emx]
          split <;> omega
        have mw : mx.natAbs < 2 ^ 200 := Nat.lt_of_le_of_lt (m := 1000000000000000) (by omega) (by decide)
        rw [emx']
        refine ⟨b, d, blend, t11, mx, rfl, S13.same s15', by omega, mb.1, mw, fun z16 t16 H16 z160 z161 S16 hc16 k16 => ?_⟩
        refine ⟨_, rfl, _, rfl, 1, due, rfl, ?_⟩
        rw [emx']
        refine ⟨b, d, blend, t16, mx, rfl, S16, by omega, mb.1, mw, fun z17 t17 H17 z170 z171 S17 hc17 k17 => ?_⟩
        refine ⟨zz 4 (by decide), fun tt htt => ?_⟩
        have nbl : lst ≠ b := (S11.same (same_new (o := .dK []) hdk)).nel hlst
        have ndl : lst ≠ d := (S11.same (same_new (o := .dK []) hdk)).ned hlst
        have kn17 := (kn_bag (kn_bag (kn13.same s15') k16 (S13.same s15') nbk ndk) k17 S16 nbk ndk).same (same_new (o := .tup [.int 0, .int (due - 1), .int z16, .int z17]) htt)
        have gM17 := same_new (o := .tup [.int 0, .int (due - 1), .int z16, .int z17]) htt _ _ (k17 _ _ (k16 _ _ (s15' _ _ gM13) nbl ndl) nbl ndl)
        have S18 := S17.same (same_new (o := .tup [.int 0, .int (due - 1), .int z16, .int z17]) htt)
        have gtt := upd_same (H := H17) (a := tt) (o := .tup [.int 0, .int (due - 1), .int z16, .int z17])
        obtain ⟨vs, evs⟩ : ∃ vs : List Int, vs = [0, due - 1, z16, z17] := ⟨_, rfl⟩
        have evs' : [V.int 0, .int (due - 1), .int z16, .int z17] = vs.map V.int := by rw [evs]; rfl
        refine ⟨tt, rfl, ⟨_, .inl (.inl gtt)⟩, for_tup (K := K) (a := tt) (xs := vs.map V.int) (fun e σ H' => ∃ ms' y10 y11 y12, σ = [some (.ref a), some (.ref b), some (.int (0 + (i : Int))), some (.int n), some (.int g), some (.ref D), y6, some (.int far), some (.ref dk), some (.int due), y10, y11, y12] ∧
            (∀ x o, (upd H17 tt (.tup [.int 0, .int (due - 1), .int z16, .int z17])) x = some o → x ≠ dk → H' x = some o) ∧ Kn P w H' dk lst ms' ∧ Memo g ms')
          ⟨ms13, y10, y11, y12, rfl, fun x o e _ => e, kn17, memo13⟩ (fun e σ H' _ h => ?_) ?_ ?_⟩
        · obtain ⟨_, _, _, _, _, h, _⟩ := h
          rw [← evs']
          refine .inl (.inl (h _ _ gtt fun z => ?_))
          have := kn17.ob
          rw [← z, gtt] at this
          cases this
        · rintro e x σ H18 hx ⟨ms', y10, y11, y12, rfl, kp, kn, memo⟩
          obtain ⟨z, hz, rfl⟩ := map_at hx
          generalize upd H17 tt (.tup [.int 0, .int (due - 1), .int z16, .int z17]) = G at kn17 gM17 S18 gtt kp
          have done : ∀ H' ms2 y10 y11 y12, (∀ x o, H18 x = some o → x ≠ dk → H' x = some o) → Kn P w H' dk lst ms2 → Memo g ms2 → ∃ ms' y10' y11' y12', [some (V.ref a), some (.ref b), some (.int (0 + (i : Int))), some (.int n), some (.int g), some (.ref D), y6, some (.int far), some (.ref dk), some (.int due), y10, y11, y12] = [some (V.ref a), some (.ref b), some (.int (0 + (i : Int))), some (.int n), some (.int g), some (.ref D), y6, some (.int far), some (.ref dk), some (.int due), y10', y11', y12'] ∧
            (∀ x o, G x = some o → x ≠ dk → H' x = some o) ∧ Kn P w H' dk lst ms' ∧ Memo g ms' := fun H' ms2 y10 y11 y12 k kn2 m2 => ⟨ms2, y10, y11, y12, rfl, fun x o e ne => k x o (kp x o e ne) ne, kn2, m2⟩
          refine ⟨_, rfl, 0, z, rfl, rfl, _, rfl, ite2 (fun c1 => ?_) (fun c1 => ⟨_, rfl, iteF (done H18 ms' _ _ _ (fun x o e _ => e) kn memo)⟩)⟩
          refine ⟨_, rfl, z, due, rfl, rfl, _, rfl, ite2 (fun c2 => ?_) (fun c2 => done H18 ms' _ _ _ (fun x o e _ => e) kn memo)⟩
          have z0 : 0 ≤ z := of_decide_eq_true c1
          have z1 : z < due := of_decide_eq_true c2
          have lt : z.toNat < cnt g n far := by omega
          refine ⟨_, rfl, _, rfl, _, rfl, _, rfl, n, g, far, z, rfl, fun x dx => (dn dx).elim, fun _ => ⟨lim, fun bad => absurd bad (by rw [cd]; omega), fun _ _ pl H19 hpl s19 gpl => ?_⟩⟩
          rw [Int.toNat_natCast] at gpl
          obtain ⟨ln, lm, lr⟩ := nth_facts fb2.1 lt
          have bn := bef_nth n far z.toNat fb2.1 lt
          obtain ⟨l, el⟩ : ∃ l, l = nthL g n far z.toNat := ⟨_, rfl⟩
          rw [← el] at gpl ln lm lr bn
          refine ⟨_, rfl, pl, _, rfl, .inl (SqL.of gpl), ?_⟩
          rw [List.length_map, ln]
          refine ⟨_, rfl, rfl, _, rfl, ?_⟩
          rw [show (!decide (V.int (n : Int) = V.int n)) = false by rw [decide_eq_true rfl]; rfl]
          refine iteF ?_
          refine ⟨_, rfl, pl, rfl, ⟨_, SqL.of gpl⟩, fun D2 hD2 => lc_list (K := K) (a := pl) (xs := l.map V.int) (fun j Hc => Same H19 (wo Hc D2) ∧ Hc D2 = some (.lst ((List.replicate j true).map V.bl)))
            ⟨by rw [wo_upd]; exact same_wo (Same.refl _) hD2, upd_same⟩ (fun j Hc _ h => SqL.of ((h.1.trans wo_same) _ _ gpl)) ?_ ?_⟩
          · rintro j x Hc hx ⟨sc, gD2⟩
            obtain ⟨k, hk, rfl⟩ := map_at hx
            have km := lm k (List.mem_of_getElem? hk)
            have jl := (List.getElem?_eq_some_iff.mp hk).1
            refine ⟨rfl, _, rfl, 2, k, rfl, rfl, _, rfl, ite2 (fun c3 => ?_) (fun c3 => absurd (decide_eq_true km.1) c3)⟩
            refine ⟨_, rfl, k, g, rfl, rfl, _, gD2, ?_, ?_, ?_⟩
            · rw [List.length_map, List.length_replicate]
              omega
            · rw [wo_upd]
              exact sc
            · rw [upd_same]
              show some (HO.lst (_ ++ [V.bl (decide (k ≤ g))])) = _
              rw [decide_eq_true km.2, List.replicate_succ', List.map_append]
              rfl
          · rintro H20 ⟨sc, gD2⟩
            have s20 : Same H19 H20 := sc.trans wo_same
            refine ⟨D2, _, rfl, SqL.of gD2, _, rfl, ?_⟩
            rw [show ((List.replicate (l.map V.int).length true).all id) = true by rw [List.all_replicate]; split <;> rfl]
            refine iteF ?_
            have gpl20 := s20 _ _ gpl
            refine ⟨_, rfl, pl, l, rfl, SqL.of gpl20, fun k hk => ⟨(lm k hk).1, by have := (lm k hk).2; omega⟩, by omega, fun H21 s21 => ?_⟩
            refine ⟨_, rfl, _, far, rfl, rfl, _, rfl, ite2 (fun c3 => absurd (of_decide_eq_true c3) (by omega)) (fun _ => ?_)⟩
            have s21' := (s19.trans s20).trans s21
            have gpl21 := s21 _ _ gpl20
            have gM21 := s21' _ _ (kp _ _ gM17 lk)
            refine ⟨_, rfl, _, rfl, _, rfl, _, rfl, dk, lst, pl, ms', M, l, g, far, rfl, kn.same s21', gM21, gpl21, by omega, by omega, mst, memo, lm, by omega, by omega, fb2.1, fb2.2, fun H22 ms22 kp22 kn22 memo22 => ?_⟩
            have npk : pl ≠ dk := fun z => by rw [z, kn.ob] at hpl; cases hpl
            have gpl22 := kp22 _ _ gpl21 npk
            have ez : ((bef g l far : Nat) : Int) = z := by omega
            rw [ez]
            refine ⟨_, rfl, rfl, _, rfl, ?_⟩
            rw [show (!decide (V.int z = V.int z)) = false by rw [decide_eq_true rfl]; rfl]
            refine iteF ?_
            refine ⟨_, rfl, .inl ⟨rfl, _, SqL.of gpl22⟩, pl, _, _, rfl, rfl, gpl22, by rw [List.length_map]; omega, ?_⟩
            refine ⟨_, rfl, _, rfl, _, rfl, _, rfl, n, g, far, z, rfl, fun x dx => (dn dx).elim, fun _ => ⟨lim, fun bad => absurd bad (by rw [cd]; omega), fun _ _ p2 H23 hp2 s23 gp2 => ?_⟩⟩
            rw [Int.toNat_natCast, ← el] at gp2
            refine ⟨p2, _, rfl, .inl (SqL.of gp2), ?_⟩
            rw [List.length_map, ln]
            refine ⟨_, rfl, rfl, _, rfl, ?_⟩
            rw [show (!decide (V.int (n : Int) = V.int n)) = false by rw [decide_eq_true rfl]; rfl]
            refine iteF ?_
            refine done H23 ms22 _ _ _ (fun x o e ne => ?_) ?_ memo22
            · have np : x ≠ pl := fun z => by rw [z, hpl] at e; cases e
              refine s23 _ _ ?_
              rw [upd_ne np]
              exact kp22 _ _ (s21' _ _ e) ne
            · refine Kn.same ⟨?_, fun p hp => ?_, kn22.once, kn22.rng⟩ s23
              · rw [upd_ne npk.symm]
                exact kn22.ob
              · have t := kn22.tup p hp
                rw [upd_ne (fun z => by rw [z, gpl22] at t; cases t)]
                exact t
        · rintro σ H18 ⟨ms', y10, y11, y12, rfl, kp, kn, memo⟩
          refine ⟨t17, _, _, _, _, _, _, _, _, _, _, _, rfl, ?_, by omega⟩
          obtain ⟨left, ds, gb, gd⟩ := S18.ob
          exact ⟨⟨left, ds, kp _ _ gb nbk.symm, kp _ _ gd ndk.symm⟩, S18.m0, S18.m1, S18.c0, S18.ne⟩
    · rintro σ H2 ⟨turn, y2, y3, y4, y5, y6, y7, y8, y9, y10, y11, y12, rfl, S2, hc2⟩
      exact q _
end
end Sq

set_option Elab.async false
set_option linter.all false
set_option maxRecDepth 100000
set_option maxHeartbeats 4000000
namespace Sq
open PySem PySem.Spec PyProof.Rows L2
theorem all_mk {l : PySem.W.OpenLaw} {w : World} {K : PySem.W.Frag} {h : Heap} {mg : Str → Option Value} {fa : Addr} (X : K.In h) (G : h.Ns mainGlobals mg) (hfa : mg "law" = some (.ref fa))
    {f_checklist : Addr} {od_checklist an_checklist : Option Addr} {sl_checklist : Array (Option Value)} {oc_checklist kV_checklist dc_checklist pm_checklist cd_checklist ct_checklist : Value}
    (a_checklist : PySem.W.nsIn K mainGlobals "check_list" = some (some (.ref f_checklist)))
    (l_checklist : K.lookup f_checklist = some ⟨oc_checklist, od_checklist, .func (PySem.W.fnOf "check_list" "check_list" (defArgs s_checklist) (defBody s_checklist) (defScope s_checklist) .none kV_checklist dc_checklist pm_checklist an_checklist cd_checklist ct_checklist), sl_checklist⟩)
    (c_checklist : PySem.W.codeIn K cd_checklist "check_list" = true) (k_checklist : PySem.W.keepIn K (.ref f_checklist) = true)
    {f_checknumber : Addr} {od_checknumber an_checknumber : Option Addr} {sl_checknumber : Array (Option Value)} {oc_checknumber kV_checknumber dc_checknumber pm_checknumber cd_checknumber ct_checknumber : Value}
    (a_checknumber : PySem.W.nsIn K mainGlobals "check_number" = some (some (.ref f_checknumber)))
    (l_checknumber : K.lookup f_checknumber = some ⟨oc_checknumber, od_checknumber, .func (PySem.W.fnOf "check_number" "check_number" (defArgs s_checknumber) (defBody s_checknumber) (defScope s_checknumber) .none kV_checknumber dc_checknumber pm_checknumber an_checknumber cd_checknumber ct_checknumber), sl_checknumber⟩)
    (c_checknumber : PySem.W.codeIn K cd_checknumber "check_number" = true) (k_checknumber : PySem.W.keepIn K (.ref f_checknumber) = true)
    {f_reach : Addr} {od_reach an_reach : Option Addr} {sl_reach : Array (Option Value)} {oc_reach kV_reach dc_reach pm_reach cd_reach ct_reach : Value}
    (a_reach : PySem.W.nsIn K mainGlobals "reach" = some (some (.ref f_reach)))
    {T_reach : Addr} {oT_reach : Value} {dT_reach : Option Addr} {nT_reach : Nat} {sT_reach : Array (Option Value)} {t_reach0 : Tok}
    (l_reach : K.lookup f_reach = some ⟨oc_reach, od_reach, .func (PySem.W.fnOf "reach" "reach" (defArgs s_reach) (defBody s_reach) (defScope s_reach) (.ref T_reach) kV_reach dc_reach pm_reach an_reach cd_reach ct_reach), sl_reach⟩)
    (c_reach : PySem.W.codeIn K cd_reach "reach" = true) (k_reach : PySem.W.keepIn K (.ref f_reach) = true)
    (lT_reach : K.lookup T_reach = some ⟨oT_reach, dT_reach, .seq #[.int 1 t_reach0] nT_reach, sT_reach⟩)
    {f_feweststeps : Addr} {od_feweststeps an_feweststeps : Option Addr} {sl_feweststeps : Array (Option Value)} {oc_feweststeps kV_feweststeps dc_feweststeps pm_feweststeps cd_feweststeps ct_feweststeps : Value}
    (a_feweststeps : PySem.W.nsIn K mainGlobals "fewest_steps" = some (some (.ref f_feweststeps)))
    {T_feweststeps : Addr} {oT_feweststeps : Value} {dT_feweststeps : Option Addr} {nT_feweststeps : Nat} {sT_feweststeps : Array (Option Value)} {t_feweststeps0 : Tok}
    (l_feweststeps : K.lookup f_feweststeps = some ⟨oc_feweststeps, od_feweststeps, .func (PySem.W.fnOf "fewest_steps" "fewest_steps" (defArgs s_feweststeps) (defBody s_feweststeps) (defScope s_feweststeps) (.ref T_feweststeps) kV_feweststeps dc_feweststeps pm_feweststeps an_feweststeps cd_feweststeps ct_feweststeps), sl_feweststeps⟩)
    (c_feweststeps : PySem.W.codeIn K cd_feweststeps "fewest_steps" = true) (k_feweststeps : PySem.W.keepIn K (.ref f_feweststeps) = true)
    (lT_feweststeps : K.lookup T_feweststeps = some ⟨oT_feweststeps, dT_feweststeps, .seq #[.int 1 t_feweststeps0] nT_feweststeps, sT_feweststeps⟩)
    {f_reachwith : Addr} {od_reachwith an_reachwith : Option Addr} {sl_reachwith : Array (Option Value)} {oc_reachwith kV_reachwith dc_reachwith pm_reachwith cd_reachwith ct_reachwith : Value}
    (a_reachwith : PySem.W.nsIn K mainGlobals "reach_with" = some (some (.ref f_reachwith)))
    (l_reachwith : K.lookup f_reachwith = some ⟨oc_reachwith, od_reachwith, .func (PySem.W.fnOf "reach_with" "reach_with" (defArgs s_reachwith) (defBody s_reachwith) (defScope s_reachwith) .none kV_reachwith dc_reachwith pm_reachwith an_reachwith cd_reachwith ct_reachwith), sl_reachwith⟩)
    (c_reachwith : PySem.W.codeIn K cd_reachwith "reach_with" = true) (k_reachwith : PySem.W.keepIn K (.ref f_reachwith) = true)
    {f_bestnumbers : Addr} {od_bestnumbers an_bestnumbers : Option Addr} {sl_bestnumbers : Array (Option Value)} {oc_bestnumbers kV_bestnumbers dc_bestnumbers pm_bestnumbers cd_bestnumbers ct_bestnumbers : Value}
    (a_bestnumbers : PySem.W.nsIn K mainGlobals "best_numbers" = some (some (.ref f_bestnumbers)))
    (l_bestnumbers : K.lookup f_bestnumbers = some ⟨oc_bestnumbers, od_bestnumbers, .func (PySem.W.fnOf "best_numbers" "best_numbers" (defArgs s_bestnumbers) (defBody s_bestnumbers) (defScope s_bestnumbers) .none kV_bestnumbers dc_bestnumbers pm_bestnumbers an_bestnumbers cd_bestnumbers ct_bestnumbers), sl_bestnumbers⟩)
    (c_bestnumbers : PySem.W.codeIn K cd_bestnumbers "best_numbers" = true) (k_bestnumbers : PySem.W.keepIn K (.ref f_bestnumbers) = true)
    {f_greatestreachwithone : Addr} {od_greatestreachwithone an_greatestreachwithone : Option Addr} {sl_greatestreachwithone : Array (Option Value)} {oc_greatestreachwithone kV_greatestreachwithone dc_greatestreachwithone pm_greatestreachwithone cd_greatestreachwithone ct_greatestreachwithone : Value}
    (a_greatestreachwithone : PySem.W.nsIn K mainGlobals "greatest_reach_with_one" = some (some (.ref f_greatestreachwithone)))
    (l_greatestreachwithone : K.lookup f_greatestreachwithone = some ⟨oc_greatestreachwithone, od_greatestreachwithone, .func (PySem.W.fnOf "greatest_reach_with_one" "greatest_reach_with_one" (defArgs s_greatestreachwithone) (defBody s_greatestreachwithone) (defScope s_greatestreachwithone) .none kV_greatestreachwithone dc_greatestreachwithone pm_greatestreachwithone an_greatestreachwithone cd_greatestreachwithone ct_greatestreachwithone), sl_greatestreachwithone⟩)
    (c_greatestreachwithone : PySem.W.codeIn K cd_greatestreachwithone "greatest_reach_with_one" = true) (k_greatestreachwithone : PySem.W.keepIn K (.ref f_greatestreachwithone) = true)
    {f_countlists : Addr} {od_countlists an_countlists : Option Addr} {sl_countlists : Array (Option Value)} {oc_countlists kV_countlists dc_countlists pm_countlists cd_countlists ct_countlists : Value}
    (a_countlists : PySem.W.nsIn K mainGlobals "count_lists" = some (some (.ref f_countlists)))
    (l_countlists : K.lookup f_countlists = some ⟨oc_countlists, od_countlists, .func (PySem.W.fnOf "count_lists" "count_lists" (defArgs s_countlists) (defBody s_countlists) (defScope s_countlists) .none kV_countlists dc_countlists pm_countlists an_countlists cd_countlists ct_countlists), sl_countlists⟩)
    (c_countlists : PySem.W.codeIn K cd_countlists "count_lists" = true) (k_countlists : PySem.W.keepIn K (.ref f_countlists) = true)
    {f_nthlist : Addr} {od_nthlist an_nthlist : Option Addr} {sl_nthlist : Array (Option Value)} {oc_nthlist kV_nthlist dc_nthlist pm_nthlist cd_nthlist ct_nthlist : Value}
    (a_nthlist : PySem.W.nsIn K mainGlobals "nth_list" = some (some (.ref f_nthlist)))
    (l_nthlist : K.lookup f_nthlist = some ⟨oc_nthlist, od_nthlist, .func (PySem.W.fnOf "nth_list" "nth_list" (defArgs s_nthlist) (defBody s_nthlist) (defScope s_nthlist) .none kV_nthlist dc_nthlist pm_nthlist an_nthlist cd_nthlist ct_nthlist), sl_nthlist⟩)
    (c_nthlist : PySem.W.codeIn K cd_nthlist "nth_list" = true) (k_nthlist : PySem.W.keepIn K (.ref f_nthlist) = true)
    {f_checkchoice : Addr} {od_checkchoice an_checkchoice : Option Addr} {sl_checkchoice : Array (Option Value)} {oc_checkchoice kV_checkchoice dc_checkchoice pm_checkchoice cd_checkchoice ct_checkchoice : Value}
    (a_checkchoice : PySem.W.nsIn K mainGlobals "check_choice" = some (some (.ref f_checkchoice)))
    (l_checkchoice : K.lookup f_checkchoice = some ⟨oc_checkchoice, od_checkchoice, .func (PySem.W.fnOf "check_choice" "check_choice" (defArgs s_checkchoice) (defBody s_checkchoice) (defScope s_checkchoice) .none kV_checkchoice dc_checkchoice pm_checkchoice an_checkchoice cd_checkchoice ct_checkchoice), sl_checkchoice⟩)
    (c_checkchoice : PySem.W.codeIn K cd_checkchoice "check_choice" = true) (k_checkchoice : PySem.W.keepIn K (.ref f_checkchoice) = true)
    {f_longestafter : Addr} {od_longestafter an_longestafter : Option Addr} {sl_longestafter : Array (Option Value)} {oc_longestafter kV_longestafter dc_longestafter pm_longestafter cd_longestafter ct_longestafter : Value}
    (a_longestafter : PySem.W.nsIn K mainGlobals "longest_after" = some (some (.ref f_longestafter)))
    (l_longestafter : K.lookup f_longestafter = some ⟨oc_longestafter, od_longestafter, .func (PySem.W.fnOf "longest_after" "longest_after" (defArgs s_longestafter) (defBody s_longestafter) (defScope s_longestafter) .none kV_longestafter dc_longestafter pm_longestafter an_longestafter cd_longestafter ct_longestafter), sl_longestafter⟩)
    (c_longestafter : PySem.W.codeIn K cd_longestafter "longest_after" = true) (k_longestafter : PySem.W.keepIn K (.ref f_longestafter) = true)
    {f_countsbyplace : Addr} {od_countsbyplace an_countsbyplace : Option Addr} {sl_countsbyplace : Array (Option Value)} {oc_countsbyplace kV_countsbyplace dc_countsbyplace pm_countsbyplace cd_countsbyplace ct_countsbyplace : Value}
    (a_countsbyplace : PySem.W.nsIn K mainGlobals "counts_by_place" = some (some (.ref f_countsbyplace)))
    (l_countsbyplace : K.lookup f_countsbyplace = some ⟨oc_countsbyplace, od_countsbyplace, .func (PySem.W.fnOf "counts_by_place" "counts_by_place" (defArgs s_countsbyplace) (defBody s_countsbyplace) (defScope s_countsbyplace) .none kV_countsbyplace dc_countsbyplace pm_countsbyplace an_countsbyplace cd_countsbyplace ct_countsbyplace), sl_countsbyplace⟩)
    (c_countsbyplace : PySem.W.codeIn K cd_countsbyplace "counts_by_place" = true) (k_countsbyplace : PySem.W.keepIn K (.ref f_countsbyplace) = true)
    {f_lengthsbyplace : Addr} {od_lengthsbyplace an_lengthsbyplace : Option Addr} {sl_lengthsbyplace : Array (Option Value)} {oc_lengthsbyplace kV_lengthsbyplace dc_lengthsbyplace pm_lengthsbyplace cd_lengthsbyplace ct_lengthsbyplace : Value}
    (a_lengthsbyplace : PySem.W.nsIn K mainGlobals "lengths_by_place" = some (some (.ref f_lengthsbyplace)))
    (l_lengthsbyplace : K.lookup f_lengthsbyplace = some ⟨oc_lengthsbyplace, od_lengthsbyplace, .func (PySem.W.fnOf "lengths_by_place" "lengths_by_place" (defArgs s_lengthsbyplace) (defBody s_lengthsbyplace) (defScope s_lengthsbyplace) .none kV_lengthsbyplace dc_lengthsbyplace pm_lengthsbyplace an_lengthsbyplace cd_lengthsbyplace ct_lengthsbyplace), sl_lengthsbyplace⟩)
    (c_lengthsbyplace : PySem.W.codeIn K cd_lengthsbyplace "lengths_by_place" = true) (k_lengthsbyplace : PySem.W.keepIn K (.ref f_lengthsbyplace) = true)
    {f_countsbefore : Addr} {od_countsbefore an_countsbefore : Option Addr} {sl_countsbefore : Array (Option Value)} {oc_countsbefore kV_countsbefore dc_countsbefore pm_countsbefore cd_countsbefore ct_countsbefore : Value}
    (a_countsbefore : PySem.W.nsIn K mainGlobals "counts_before" = some (some (.ref f_countsbefore)))
    (l_countsbefore : K.lookup f_countsbefore = some ⟨oc_countsbefore, od_countsbefore, .func (PySem.W.fnOf "counts_before" "counts_before" (defArgs s_countsbefore) (defBody s_countsbefore) (defScope s_countsbefore) .none kV_countsbefore dc_countsbefore pm_countsbefore an_countsbefore cd_countsbefore ct_countsbefore), sl_countsbefore⟩)
    (c_countsbefore : PySem.W.codeIn K cd_countsbefore "counts_before" = true) (k_countsbefore : PySem.W.keepIn K (.ref f_countsbefore) = true)
    {f_choose : Addr} {od_choose an_choose : Option Addr} {sl_choose : Array (Option Value)} {oc_choose kV_choose dc_choose pm_choose cd_choose ct_choose : Value}
    (a_choose : PySem.W.nsIn K mainGlobals "choose" = some (some (.ref f_choose)))
    (l_choose : K.lookup f_choose = some ⟨oc_choose, od_choose, .func (PySem.W.fnOf "choose" "choose" (defArgs s_choose) (defBody s_choose) (defScope s_choose) .none kV_choose dc_choose pm_choose an_choose cd_choose ct_choose), sl_choose⟩)
    (c_choose : PySem.W.codeIn K cd_choose "choose" = true) (k_choose : PySem.W.keepIn K (.ref f_choose) = true)
    {f_lawbag : Addr} {od_lawbag an_lawbag : Option Addr} {sl_lawbag : Array (Option Value)} {oc_lawbag kV_lawbag dc_lawbag pm_lawbag cd_lawbag ct_lawbag : Value}
    (a_lawbag : PySem.W.nsIn K mainGlobals "_law_bag" = some (some (.ref f_lawbag)))
    (l_lawbag : K.lookup f_lawbag = some ⟨oc_lawbag, od_lawbag, .func (PySem.W.fnOf "_law_bag" "_law_bag" (defArgs s_lawbag) (defBody s_lawbag) (defScope s_lawbag) .none kV_lawbag dc_lawbag pm_lawbag an_lawbag cd_lawbag ct_lawbag), sl_lawbag⟩)
    (c_lawbag : PySem.W.codeIn K cd_lawbag "_law_bag" = true) (k_lawbag : PySem.W.keepIn K (.ref f_lawbag) = true)
    {f_lawdraw : Addr} {od_lawdraw an_lawdraw : Option Addr} {sl_lawdraw : Array (Option Value)} {oc_lawdraw kV_lawdraw dc_lawdraw pm_lawdraw cd_lawdraw ct_lawdraw : Value}
    (a_lawdraw : PySem.W.nsIn K mainGlobals "_law_draw" = some (some (.ref f_lawdraw)))
    (l_lawdraw : K.lookup f_lawdraw = some ⟨oc_lawdraw, od_lawdraw, .func (PySem.W.fnOf "_law_draw" "_law_draw" (defArgs s_lawdraw) (defBody s_lawdraw) (defScope s_lawdraw) .none kV_lawdraw dc_lawdraw pm_lawdraw an_lawdraw cd_lawdraw ct_lawdraw), sl_lawdraw⟩)
    (c_lawdraw : PySem.W.codeIn K cd_lawdraw "_law_draw" = true) (k_lawdraw : PySem.W.keepIn K (.ref f_lawdraw) = true)
    {f_lawreach : Addr} {od_lawreach an_lawreach : Option Addr} {sl_lawreach : Array (Option Value)} {oc_lawreach kV_lawreach dc_lawreach pm_lawreach cd_lawreach ct_lawreach : Value}
    (a_lawreach : PySem.W.nsIn K mainGlobals "_law_reach" = some (some (.ref f_lawreach)))
    (l_lawreach : K.lookup f_lawreach = some ⟨oc_lawreach, od_lawreach, .func (PySem.W.fnOf "_law_reach" "_law_reach" (defArgs s_lawreach) (defBody s_lawreach) (defScope s_lawreach) .none kV_lawreach dc_lawreach pm_lawreach an_lawreach cd_lawreach ct_lawreach), sl_lawreach⟩)
    (c_lawreach : PySem.W.codeIn K cd_lawreach "_law_reach" = true) (k_lawreach : PySem.W.keepIn K (.ref f_lawreach) = true)
    {f_lawmost : Addr} {od_lawmost an_lawmost : Option Addr} {sl_lawmost : Array (Option Value)} {oc_lawmost kV_lawmost dc_lawmost pm_lawmost cd_lawmost ct_lawmost : Value}
    (a_lawmost : PySem.W.nsIn K mainGlobals "_law_most" = some (some (.ref f_lawmost)))
    (l_lawmost : K.lookup f_lawmost = some ⟨oc_lawmost, od_lawmost, .func (PySem.W.fnOf "_law_most" "_law_most" (defArgs s_lawmost) (defBody s_lawmost) (defScope s_lawmost) .none kV_lawmost dc_lawmost pm_lawmost an_lawmost cd_lawmost ct_lawmost), sl_lawmost⟩)
    (c_lawmost : PySem.W.codeIn K cd_lawmost "_law_most" = true) (k_lawmost : PySem.W.keepIn K (.ref f_lawmost) = true)
    {f_lawcount : Addr} {od_lawcount an_lawcount : Option Addr} {sl_lawcount : Array (Option Value)} {oc_lawcount kV_lawcount dc_lawcount pm_lawcount cd_lawcount ct_lawcount : Value}
    (a_lawcount : PySem.W.nsIn K mainGlobals "_law_count" = some (some (.ref f_lawcount)))
    (l_lawcount : K.lookup f_lawcount = some ⟨oc_lawcount, od_lawcount, .func (PySem.W.fnOf "_law_count" "_law_count" (defArgs s_lawcount) (defBody s_lawcount) (defScope s_lawcount) .none kV_lawcount dc_lawcount pm_lawcount an_lawcount cd_lawcount ct_lawcount), sl_lawcount⟩)
    (c_lawcount : PySem.W.codeIn K cd_lawcount "_law_count" = true) (k_lawcount : PySem.W.keepIn K (.ref f_lawcount) = true)
    {f_lawleast : Addr} {od_lawleast an_lawleast : Option Addr} {sl_lawleast : Array (Option Value)} {oc_lawleast kV_lawleast dc_lawleast pm_lawleast cd_lawleast ct_lawleast : Value}
    (a_lawleast : PySem.W.nsIn K mainGlobals "_law_least" = some (some (.ref f_lawleast)))
    (l_lawleast : K.lookup f_lawleast = some ⟨oc_lawleast, od_lawleast, .func (PySem.W.fnOf "_law_least" "_law_least" (defArgs s_lawleast) (defBody s_lawleast) (defScope s_lawleast) .none kV_lawleast dc_lawleast pm_lawleast an_lawleast cd_lawleast ct_lawleast), sl_lawleast⟩)
    (c_lawleast : PySem.W.codeIn K cd_lawleast "_law_least" = true) (k_lawleast : PySem.W.keepIn K (.ref f_lawleast) = true)
    {f_lawbefore : Addr} {od_lawbefore an_lawbefore : Option Addr} {sl_lawbefore : Array (Option Value)} {oc_lawbefore kV_lawbefore dc_lawbefore pm_lawbefore cd_lawbefore ct_lawbefore : Value}
    (a_lawbefore : PySem.W.nsIn K mainGlobals "_law_before" = some (some (.ref f_lawbefore)))
    (l_lawbefore : K.lookup f_lawbefore = some ⟨oc_lawbefore, od_lawbefore, .func (PySem.W.fnOf "_law_before" "_law_before" (defArgs s_lawbefore) (defBody s_lawbefore) (defScope s_lawbefore) .none kV_lawbefore dc_lawbefore pm_lawbefore an_lawbefore cd_lawbefore ct_lawbefore), sl_lawbefore⟩)
    (c_lawbefore : PySem.W.codeIn K cd_lawbefore "_law_before" = true) (k_lawbefore : PySem.W.keepIn K (.ref f_lawbefore) = true)
    {f_lawisrefused : Addr} {od_lawisrefused an_lawisrefused : Option Addr} {sl_lawisrefused : Array (Option Value)} {oc_lawisrefused kV_lawisrefused dc_lawisrefused pm_lawisrefused cd_lawisrefused ct_lawisrefused : Value}
    (a_lawisrefused : PySem.W.nsIn K mainGlobals "_law_is_refused" = some (some (.ref f_lawisrefused)))
    (l_lawisrefused : K.lookup f_lawisrefused = some ⟨oc_lawisrefused, od_lawisrefused, .func (PySem.W.fnOf "_law_is_refused" "_law_is_refused" (defArgs s_lawisrefused) (defBody s_lawisrefused) (defScope s_lawisrefused) .none kV_lawisrefused dc_lawisrefused pm_lawisrefused an_lawisrefused cd_lawisrefused ct_lawisrefused), sl_lawisrefused⟩)
    (c_lawisrefused : PySem.W.codeIn K cd_lawisrefused "_law_is_refused" = true) (k_lawisrefused : PySem.W.keepIn K (.ref f_lawisrefused) = true)
    {f_law : Addr} {od_law an_law : Option Addr} {sl_law : Array (Option Value)} {oc_law kV_law dc_law pm_law cd_law ct_law : Value}
    (a_law : PySem.W.nsIn K mainGlobals "law" = some (some (.ref f_law)))
    (l_law : K.lookup f_law = some ⟨oc_law, od_law, .func (PySem.W.fnOf "law" "law" (defArgs s_law) (defBody s_law) (defScope s_law) .none kV_law dc_law pm_law an_law cd_law ct_law), sl_law⟩)
    (c_law : PySem.W.codeIn K cd_law "law" = true) (k_law : PySem.W.keepIn K (.ref f_law) = true)
    (z_len : PySem.W.nsIn K mainGlobals "len" = some none)
    (z_min : PySem.W.nsIn K mainGlobals "min" = some none)
    (z_max : PySem.W.nsIn K mainGlobals "max" = some none)
    (z_abs : PySem.W.nsIn K mainGlobals "abs" = some none)
    (z_range : PySem.W.nsIn K mainGlobals "range" = some none)
    (z_isinstance : PySem.W.nsIn K mainGlobals "isinstance" = some none)
    (z_repr : PySem.W.nsIn K mainGlobals "repr" = some none)
    (z_enumerate : PySem.W.nsIn K mainGlobals "enumerate" = some none)
    (z_reversed : PySem.W.nsIn K mainGlobals "reversed" = some none)
    (z_sorted : PySem.W.nsIn K mainGlobals "sorted" = some none)
    (z_bool : PySem.W.nsIn K mainGlobals "bool" = some none)
    (z_int : PySem.W.nsIn K mainGlobals "int" = some none)
    (z_str : PySem.W.nsIn K mainGlobals "str" = some none)
    (z_list : PySem.W.nsIn K mainGlobals "list" = some none)
    (z_tuple : PySem.W.nsIn K mainGlobals "tuple" = some none)
    (z_set : PySem.W.nsIn K mainGlobals "set" = some none)
    (z_sum : PySem.W.nsIn K mainGlobals "sum" = some none)
    (z_zip : PySem.W.nsIn K mainGlobals "zip" = some none)
    (z_all : PySem.W.nsIn K mainGlobals "all" = some none)
    (z_any : PySem.W.nsIn K mainGlobals "any" = some none)
    (z_ValueError : PySem.W.nsIn K mainGlobals "ValueError" = some none)
    (z_divmod : PySem.W.nsIn K mainGlobals "divmod" = some none)
    {CB : Addr} (aCB : PySem.W.nsIn K mainGlobals "SqueezeError" = some (some (.ref CB))) (iCB : PySem.W.isClsIn K CB = true) (tCB : PySem.W.typeIn K (.ref CB) = some (.type "type"))
    (third : PySem.W.nsIn K cStatics "thirdparty.any" = some none) (zSup : PySem.W.nsIn K mainGlobals "super" = some none) (hTop : (l.prog.main.scope.names.lookup ("super" : Str)).isSome = false)
    (spC : PySem.W.specialIn K (.builtin "object.__class__") "__get__" = some (some (.builtin "getset_descriptor.__get__"))) (tkC : PySem.W.takesIn K (.builtin "object.__class__") = some true)
    {C0 I0 N0 cda0 cc0 : Addr} {nm0 qn0 msg0 file0 : Str} {bs0 sub0 : List Value} {sn0 : List Str} {ab0 : Bool} {col0 : Option Bool} {dd0 od0 an0 cdd0 cld0 : Option Addr} {ka0 kb0 kc0 kd0 ke0 : Option Value}
    {oc0 doc0 pm0 ct0 ccl0 cl0 : Value} {osl0 ccs0 csl0 : Array (Option Value)} {vs0 : Array Value} {tf0 : Tok} {j0 : Nat} {p0_1 p0_2 q0_0 q0_1 q0_2 q0_3 q0_4 q0_5 r0_1 r0_2 r0_3 r0_4 : Pos}
    (aC0 : PySem.W.nsIn K mainGlobals "InvalidNumber" = some (some (.ref C0)))
    (xL0 : K.lookup C0 = some (excClassObj nm0 qn0 C0 N0 bs0 [.ref CB, .type "ValueError", .type "Exception", .type "BaseException", .type "object"] true sn0 sub0 ab0 col0 dd0 ka0 kb0 kc0 kd0 ke0 "ValueError.__new__"))
    (sa0 : PySem.W.findIn K (.ref C0) "__setattr__" = some (some (.builtin "object.__setattr__")))
    (nv0 : PySem.W.findIn K (.ref C0) "value" = some none)
    (iC0 : PySem.W.findIn K (.ref C0) "__init__" = some (some (.ref I0)))
    (tI0 : PySem.W.typeIn K (.ref I0) = some (.type "function"))
    (kC0 : PySem.W.keepIn K (.ref C0) = true)
    (eC0 : PySem.W.subIn K (.ref C0) (.type "BaseException") = some true)
    (vC0 : PySem.W.subIn K (.ref C0) (.type "ValueError") = some true)
    (tC0 : PySem.W.typeIn K (.ref C0) = some (.type "type"))
    (mC0 : PySem.W.mroIn K C0 (.ref C0) = some true)
    (su0 : PySem.W.ks_superIn K C0 C0 "__init__" = some (some (.builtin "ValueError.__init__")))
    (fI0 : K.lookup I0 = some ⟨oc0, od0, .func (PySem.W.ksFn "__init__" "InvalidNumber.__init__" (SqX.xA p0_1 p0_2) (SqX.xB msg0 j0 q0_0 q0_1 q0_2 q0_3 q0_4 q0_5 r0_1 r0_2 r0_3 r0_4) SqX.xS .none .none doc0 pm0 an0 (.ref cda0) ct0 cc0), osl0⟩)
    (cI0 : PySem.W.codeIn K (.ref cda0) "InvalidNumber.__init__" = true)
    (lc0 : K.lookup cda0 = some ⟨ccl0, cdd0, .fields vs0, ccs0⟩)
    (vf0 : vs0[2]? = some (.str file0 tf0))
    (mf0 : ((l.prog.main.file : Str) == file0) = true)
    (lk0 : K.lookup cc0 = some ⟨cl0, cld0, .cell (some (.ref C0)), csl0⟩)
    (ln0 : (q0_2.endLine == q0_4.line) = true)
    (ga0 : PySem.W.findIn K (.ref C0) "__getattribute__" = some (some (.builtin "BaseException.__getattribute__")))
    (gg0 : PySem.W.findIn K (.ref C0) "__getattr__" = some none)
    (hd0 : PySem.W.hasDictIn K C0 = true)
    (ha0 : PySem.W.findIn K (.ref C0) "__class__" = some (some (.builtin "object.__class__")))
    (mo0 : PySem.W.mroIn K C0 (.type "object") = some true)
    (ic0 : PySem.W.isClsIn K C0 = true)
    (sB0 : PySem.W.subIn K (.ref C0) (.ref CB) = some true)
    (s0_0 : PySem.W.subIn K (.ref C0) (.ref C0) = some true)
    : ∃ fd : FuncData, (∀ (s : Shared) (v : Value), BindsTo s fd ⟨[v], []⟩ [("script", v)]) ∧ ∀ base : Heap, K.In base → base.Ns mainGlobals mg → Top l.prog w K mg base 12 fa fd "script" (spLaw K) := by
  have e := hfa.symm.trans (PySem.W.mg_of X G a_law)
  cases e
  have B : Bi mg := ⟨PySem.W.mg_none_of X G z_len, PySem.W.mg_none_of X G z_min, PySem.W.mg_none_of X G z_max, PySem.W.mg_none_of X G z_abs, PySem.W.mg_none_of X G z_range, PySem.W.mg_none_of X G z_isinstance, PySem.W.mg_none_of X G z_repr, PySem.W.mg_none_of X G z_enumerate, PySem.W.mg_none_of X G z_reversed, PySem.W.mg_none_of X G z_sorted, PySem.W.mg_none_of X G z_bool, PySem.W.mg_none_of X G z_int, PySem.W.mg_none_of X G z_str, PySem.W.mg_none_of X G z_list, PySem.W.mg_none_of X G z_tuple, PySem.W.mg_none_of X G z_set, PySem.W.mg_none_of X G z_sum, PySem.W.mg_none_of X G z_zip, PySem.W.mg_none_of X G z_all, PySem.W.mg_none_of X G z_any, PySem.W.mg_none_of X G z_ValueError, PySem.W.mg_none_of X G z_divmod⟩
  have F_checklist := fun_mk (st := s_checklist) l_checklist c_checklist k_checklist
  have b_checklist := F_checklist.binds (ps := ["replacements"]) fun _ _ _ _ _ _ us hl => match us, hl with | [_], _ => rfl
  have g_checklist := PySem.W.mg_of X G a_checklist
  have F_checknumber := fun_mk (st := s_checknumber) l_checknumber c_checknumber k_checknumber
  have b_checknumber := F_checknumber.binds (ps := ["number", "least"]) fun _ _ _ _ _ _ us hl => match us, hl with | [_, _], _ => rfl
  have g_checknumber := PySem.W.mg_of X G a_checknumber
  have F_reach : FunD K "reach" "reach" (defArgs s_reach) (defBody s_reach) (defScope s_reach) [.int 1] [] f_reach _ := ⟨⟨_, _, _, _, _, _, _, _, _, _, rfl, l_reach, c_reach, .inr ⟨by simp, T_reach, _, _, _, rfl, lT_reach, rfl, .cons ⟨_, rfl⟩ (.nil)⟩, .inl rfl⟩, k_reach⟩
  have g_reach := PySem.W.mg_of X G a_reach
  have F_feweststeps : FunD K "fewest_steps" "fewest_steps" (defArgs s_feweststeps) (defBody s_feweststeps) (defScope s_feweststeps) [.int 1] [] f_feweststeps _ := ⟨⟨_, _, _, _, _, _, _, _, _, _, rfl, l_feweststeps, c_feweststeps, .inr ⟨by simp, T_feweststeps, _, _, _, rfl, lT_feweststeps, rfl, .cons ⟨_, rfl⟩ (.nil)⟩, .inl rfl⟩, k_feweststeps⟩
  have g_feweststeps := PySem.W.mg_of X G a_feweststeps
  have F_reachwith := fun_mk (st := s_reachwith) l_reachwith c_reachwith k_reachwith
  have b_reachwith := F_reachwith.binds (ps := ["number", "longest"]) fun _ _ _ _ _ _ us hl => match us, hl with | [_, _], _ => rfl
  have g_reachwith := PySem.W.mg_of X G a_reachwith
  have F_bestnumbers := fun_mk (st := s_bestnumbers) l_bestnumbers c_bestnumbers k_bestnumbers
  have b_bestnumbers := F_bestnumbers.binds (ps := ["longest"]) fun _ _ _ _ _ _ us hl => match us, hl with | [_], _ => rfl
  have g_bestnumbers := PySem.W.mg_of X G a_bestnumbers
  have F_greatestreachwithone := fun_mk (st := s_greatestreachwithone) l_greatestreachwithone c_greatestreachwithone k_greatestreachwithone
  have b_greatestreachwithone := F_greatestreachwithone.binds (ps := ["longest"]) fun _ _ _ _ _ _ us hl => match us, hl with | [_], _ => rfl
  have g_greatestreachwithone := PySem.W.mg_of X G a_greatestreachwithone
  have F_countlists := fun_mk (st := s_countlists) l_countlists c_countlists k_countlists
  have b_countlists := F_countlists.binds (ps := ["steps", "greatest", "length"]) fun _ _ _ _ _ _ us hl => match us, hl with | [_, _, _], _ => rfl
  have g_countlists := PySem.W.mg_of X G a_countlists
  have F_nthlist := fun_mk (st := s_nthlist) l_nthlist c_nthlist k_nthlist
  have b_nthlist := F_nthlist.binds (ps := ["steps", "greatest", "length", "number"]) fun _ _ _ _ _ _ us hl => match us, hl with | [_, _, _, _], _ => rfl
  have g_nthlist := PySem.W.mg_of X G a_nthlist
  have F_checkchoice := fun_mk (st := s_checkchoice) l_checkchoice c_checkchoice k_checkchoice
  have b_checkchoice := F_checkchoice.binds (ps := ["steps", "greatest", "length"]) fun _ _ _ _ _ _ us hl => match us, hl with | [_, _, _], _ => rfl
  have g_checkchoice := PySem.W.mg_of X G a_checkchoice
  have F_longestafter := fun_mk (st := s_longestafter) l_longestafter c_longestafter k_longestafter
  have b_longestafter := F_longestafter.binds (ps := ["longest", "number"]) fun _ _ _ _ _ _ us hl => match us, hl with | [_, _], _ => rfl
  have g_longestafter := PySem.W.mg_of X G a_longestafter
  have F_countsbyplace := fun_mk (st := s_countsbyplace) l_countsbyplace c_countsbyplace k_countsbyplace
  have b_countsbyplace := F_countsbyplace.binds (ps := ["steps", "greatest", "length"]) fun _ _ _ _ _ _ us hl => match us, hl with | [_, _, _], _ => rfl
  have g_countsbyplace := PySem.W.mg_of X G a_countsbyplace
  have F_lengthsbyplace := fun_mk (st := s_lengthsbyplace) l_lengthsbyplace c_lengthsbyplace k_lengthsbyplace
  have b_lengthsbyplace := F_lengthsbyplace.binds (ps := ["steps", "greatest", "length"]) fun _ _ _ _ _ _ us hl => match us, hl with | [_, _, _], _ => rfl
  have g_lengthsbyplace := PySem.W.mg_of X G a_lengthsbyplace
  have F_countsbefore := fun_mk (st := s_countsbefore) l_countsbefore c_countsbefore k_countsbefore
  have b_countsbefore := F_countsbefore.binds (ps := ["lengths", "greatest", "counts"]) fun _ _ _ _ _ _ us hl => match us, hl with | [_, _, _], _ => rfl
  have g_countsbefore := PySem.W.mg_of X G a_countsbefore
  have F_choose := fun_mk (st := s_choose) l_choose c_choose k_choose
  have b_choose := F_choose.binds (ps := ["longest", "counts", "index"]) fun _ _ _ _ _ _ us hl => match us, hl with | [_, _, _], _ => rfl
  have g_choose := PySem.W.mg_of X G a_choose
  have F_lawbag := fun_mk (st := s_lawbag) l_lawbag c_lawbag k_lawbag
  have b_lawbag := F_lawbag.binds (ps := ["script"]) fun _ _ _ _ _ _ us hl => match us, hl with | [_], _ => rfl
  have g_lawbag := PySem.W.mg_of X G a_lawbag
  have F_lawdraw := fun_mk (st := s_lawdraw) l_lawdraw c_lawdraw k_lawdraw
  have b_lawdraw := F_lawdraw.binds (ps := ["bag", "many"]) fun _ _ _ _ _ _ us hl => match us, hl with | [_, _], _ => rfl
  have g_lawdraw := PySem.W.mg_of X G a_lawdraw
  have F_lawreach := fun_mk (st := s_lawreach) l_lawreach c_lawreach k_lawreach
  have b_lawreach := F_lawreach.binds (ps := ["steps_now"]) fun _ _ _ _ _ _ us hl => match us, hl with | [_], _ => rfl
  have g_lawreach := PySem.W.mg_of X G a_lawreach
  have F_lawmost := fun_mk (st := s_lawmost) l_lawmost c_lawmost k_lawmost
  have b_lawmost := F_lawmost.binds (ps := ["many", "largest"]) fun _ _ _ _ _ _ us hl => match us, hl with | [_, _], _ => rfl
  have g_lawmost := PySem.W.mg_of X G a_lawmost
  have F_lawcount := fun_mk (st := s_lawcount) l_lawcount c_lawcount k_lawcount
  have b_lawcount := F_lawcount.binds (ps := ["known", "many", "largest", "far"]) fun _ _ _ _ _ _ us hl => match us, hl with | [_, _, _, _], _ => rfl
  have g_lawcount := PySem.W.mg_of X G a_lawcount
  have F_lawleast := fun_mk (st := s_lawleast) l_lawleast c_lawleast k_lawleast
  have b_lawleast := F_lawleast.binds (ps := ["k", "far"]) fun _ _ _ _ _ _ us hl => match us, hl with | [_, _], _ => rfl
  have g_lawleast := PySem.W.mg_of X G a_lawleast
  have F_lawbefore := fun_mk (st := s_lawbefore) l_lawbefore c_lawbefore k_lawbefore
  have b_lawbefore := F_lawbefore.binds (ps := ["known", "one", "largest", "far"]) fun _ _ _ _ _ _ us hl => match us, hl with | [_, _, _, _], _ => rfl
  have g_lawbefore := PySem.W.mg_of X G a_lawbefore
  have F_lawisrefused := fun_mk (st := s_lawisrefused) l_lawisrefused c_lawisrefused k_lawisrefused
  have b_lawisrefused := F_lawisrefused.binds (ps := ["many", "largest", "far", "spot"]) fun _ _ _ _ _ _ us hl => match us, hl with | [_, _, _, _], _ => rfl
  have g_lawisrefused := PySem.W.mg_of X G a_lawisrefused
  have F_law := fun_mk (st := s_law) l_law c_law k_law
  exact ⟨_, fun s v => .of_eq rfl, fun base _ _ => by
    have bmV : PySem.HandSPX.refsVE [.ref CB, .type "ValueError", .type "Exception", .type "BaseException", .type "object"] = true := (show PySem.HandSPX.refsVE [.type "ValueError", .type "Exception", .type "BaseException", .type "object"] = true by decide +kernel)
    have neB : ∀ C : Addr, PySem.W.subIn K (.ref C) (.ref CB) = some true → C = CB → true = true := fun _ _ _ => rfl
    have Er0 : SqX.Er K l.prog C0 I0 "InvalidNumber.__init__" := ⟨⟨_, _, _, _, _, _, _, _, _, _, _, _, _, _, _, xL0, bmV⟩, sa0, nv0, iC0, tI0, kC0, eC0, vC0, tC0, mC0, su0, third, zSup, hTop, ⟨_, _, _, _, _, _, _, _, _, _, _, _, _, _, _, _, _, _, _, _, _, _, _, _, _, _, _, _, _, _, _, _, fI0, cI0, lc0, vf0, mf0, lk0, ln0⟩⟩
    have Ex0 : ExcC K C0 := ⟨ga0, gg0, eC0, hd0, ha0, spC, tkC, mo0⟩
    have Xf0 : XfC K C0 := ⟨ga0, gg0, eC0, hd0⟩
    have Z : Errs1 l.prog K mg (fun _ => C0) (fun _ => I0) (fun _ => ("InvalidNumber.__init__" : Str)) CB := {
      er := fun n hn => ⟨trivial, Er0⟩
      g1 := PySem.W.mg_of X G aC0
      xf := fun _ _ => Xf0
      nv := fun _ _ => nv0 }
    have D_checknumber : Df l.prog w K mg base 1 "check_number" ["number", "least"] spChkN := .mk' F_checknumber (ok_chkn F_checknumber) g_checknumber b_checknumber
    have X_checknumber : Dn l.prog w K mg base 1 "check_number" ["number", "least"] (spCheckNumber (fun _ => C0)) := .mk' F_checknumber (ok_checknumber F_checknumber Z) g_checknumber b_checknumber
    have X_checkchoice : Dn l.prog w K mg base 2 "check_choice" ["steps", "greatest", "length"] (spChoice (fun _ => C0)) := .mk' F_checkchoice (ok_checkchoice F_checkchoice X_checknumber) g_checkchoice b_checkchoice
    have D_reachwith : Df l.prog w K mg base 1 "reach_with" ["number", "longest"] spReachWith := .mk' F_reachwith (ok_reachwith F_reachwith) g_reachwith b_reachwith
    have D_bestnumbers : Df l.prog w K mg base 1 "best_numbers" ["longest"] spBestNumbers := .mk' F_bestnumbers (ok_bestnumbers F_bestnumbers) g_bestnumbers b_bestnumbers
    have D_grow : Df l.prog w K mg base 2 "greatest_reach_with_one" ["longest"] spGrow := .mk' F_greatestreachwithone (ok_grow F_greatestreachwithone D_reachwith D_bestnumbers) g_greatestreachwithone b_greatestreachwithone
    have V_feweststeps : Dv l.prog w K mg base 3 "fewest_steps" ["length", "most"] [.int 1] spFewest := fewest_v F_feweststeps (ok_feweststeps F_feweststeps B D_checknumber D_grow) g_feweststeps
    have D_longestafter : Df l.prog w K mg base 1 "longest_after" ["longest", "number"] spAfter := .mk' F_longestafter (ok_longestafter F_longestafter) g_longestafter b_longestafter
    have D_lengthsbyplace : Df l.prog w K mg base 4 "lengths_by_place" ["steps", "greatest", "length"] spLengths := .mk' F_lengthsbyplace (ok_lengths F_lengthsbyplace B D_longestafter V_feweststeps) g_lengthsbyplace b_lengthsbyplace
    have D_countsbefore : Df l.prog w K mg base 2 "counts_before" ["lengths", "greatest", "counts"] (spBefore K) := .mk' F_countsbefore (ok_before F_countsbefore B D_longestafter) g_countsbefore b_countsbefore
    have D_countsbyplace : Df l.prog w K mg base 5 "counts_by_place" ["steps", "greatest", "length"] spCounts := .mk' F_countsbyplace (ok_counts F_countsbyplace B D_lengthsbyplace D_countsbefore) g_countsbyplace b_countsbyplace
    have D_choose : Df l.prog w K mg base 2 "choose" ["longest", "counts", "index"] spChoose := .mk' F_choose (ok_choose F_choose D_longestafter) g_choose b_choose
    have X_countlists : Dn l.prog w K mg base 6 "count_lists" ["steps", "greatest", "length"] (spCountLists (fun _ => C0)) := .mk' F_countlists (ok_countlists F_countlists X_checkchoice D_countsbyplace) g_countlists b_countlists
    have X_nthlist : Dn l.prog w K mg base 6 "nth_list" ["steps", "greatest", "length", "number"] (spNth (fun _ => C0)) := .mk' F_nthlist (ok_nthlist F_nthlist B Z X_checkchoice D_countsbyplace D_choose D_longestafter) g_nthlist b_nthlist
    have D_lawbag : Df l.prog w K mg base 1 "_law_bag" ["script"] (spBag K) := .mk' F_lawbag (ok_lawbag F_lawbag B) g_lawbag b_lawbag
    have D_lawdraw : Df l.prog w K mg base 1 "_law_draw" ["bag", "many"] spDraw := .mk' F_lawdraw (ok_lawdraw F_lawdraw B) g_lawdraw b_lawdraw
    have M1 : PySem.W.exmOne K (.ref C0) (.ref C0) = some true := PySem.W.exm_ref eC0 hd0 tC0 s0_0
    have D_lawreach : Df l.prog w K mg base 1 "_law_reach" ["steps_now"] spLawReach := .mk' F_lawreach (ok_lawreach F_lawreach) g_lawreach b_lawreach
    have D_lawisrefused : Df l.prog w K mg base 7 "_law_is_refused" ["many", "largest", "far", "spot"] spRefused := .mk' F_lawisrefused (ok_lawisrefused F_lawisrefused Z M1 X_nthlist) g_lawisrefused b_lawisrefused
    have Y_countlists : FnOk l.prog w K mg base CX0 6 f_countlists _ ["steps", "greatest", "length"] (spCnt (fun _ => C0)) := calmly (ok_countlists F_countlists X_checkchoice D_countsbyplace)
    have Y_nthlist : FnOk l.prog w K mg base CX0 6 f_nthlist _ ["steps", "greatest", "length", "number"] (spNthC (fun _ => C0)) := calmly (ok_nthlist F_nthlist B Z X_checkchoice D_countsbyplace D_choose D_longestafter)
    have D_countlists : Df l.prog w K mg base 6 "count_lists" ["steps", "greatest", "length"] (spCnt (fun _ => C0)) := .mk' F_countlists Y_countlists g_countlists b_countlists
    have D_nthlist : Df l.prog w K mg base 6 "nth_list" ["steps", "greatest", "length", "number"] (spNthC (fun _ => C0)) := .mk' F_nthlist Y_nthlist g_nthlist b_nthlist
    have D_checklist : Df l.prog w K mg base 1 "check_list" ["replacements"] (spCheckList K) := .mk' F_checklist (ok_checklist F_checklist B) g_checklist b_checklist
    have V_reach : Dv l.prog w K mg base 2 "reach" ["replacements", "most"] [.int 1] (spReach K) := reach_v F_reach (ok_reach F_reach B D_checklist D_checknumber D_reachwith) g_reach
    have D_lawmost : Df l.prog w K mg base 1 "_law_most" ["many", "largest"] spMost := .mk' F_lawmost (ok_most F_lawmost B) g_lawmost b_lawmost
    have D_lawleast : Df l.prog w K mg base 1 "_law_least" ["k", "far"] spLeast := .mk' F_lawleast (ok_least F_lawleast B) g_lawleast b_lawleast
    have D_lawcount : Df l.prog w K mg base 10 "_law_count" ["known", "many", "largest", "far"] (spCountN l.prog w 9) := .mk' F_lawcount (ok_count F_lawcount B D_lawleast g_lawcount b_lawcount 9) g_lawcount b_lawcount
    have D_lawbefore : Df l.prog w K mg base 11 "_law_before" ["known", "one", "largest", "far"] (spBef l.prog w) := .mk' F_lawbefore (ok_bef F_lawbefore B D_lawleast D_lawcount) g_lawbefore b_lawbefore
    exact ok_law F_law B D_lawbag D_lawdraw D_lawreach D_lawmost D_lawcount D_lawbefore D_lawisrefused D_countlists D_nthlist V_reach⟩
end Sq
open PySem PySem.W PyProof.Rows
set_option maxRecDepth 100000 in
set_option maxHeartbeats 0 in
theorem PySem.Challenge.cw_squeezelists_k25_whole_longer_lists_numb_holds : PySem.Challenge.rw_squeezelists_k25_whole_longer_lists_numb.Holds := by
  w_on; o_law; k_head; (case hw => w_witness2)
  k_fill
  refine Sq.walkAt (l := PySem.Challenge.rw_squeezelists_k25_whole_longer_lists_numb) (n := 63) (k := 12) (x := "script") (sp := fun w => Sq.spLaw _) rfl (by decide) rfl (fun w h Y => PySem.W.kIn_of Y) ?F (fun _ _ a ns hl _ hS => ⟨a, ns, rfl, hS, hl, fun _ => rfl⟩)
  case F =>
    intro w mg fa h KX G hmg
    refine' Sq.all_mk KX G hmg ?a_checklist ?l_checklist ?c_checklist ?k_checklist ?a_checknumber ?l_checknumber ?c_checknumber ?k_checknumber ?a_reach ?l_reach ?c_reach ?k_reach ?lT_reach ?a_feweststeps ?l_feweststeps ?c_feweststeps ?k_feweststeps ?lT_feweststeps ?a_reachwith ?l_reachwith ?c_reachwith ?k_reachwith ?a_bestnumbers ?l_bestnumbers ?c_bestnumbers ?k_bestnumbers ?a_greatestreachwithone ?l_greatestreachwithone ?c_greatestreachwithone ?k_greatestreachwithone ?a_countlists ?l_countlists ?c_countlists ?k_countlists ?a_nthlist ?l_nthlist ?c_nthlist ?k_nthlist ?a_checkchoice ?l_checkchoice ?c_checkchoice ?k_checkchoice ?a_longestafter ?l_longestafter ?c_longestafter ?k_longestafter ?a_countsbyplace ?l_countsbyplace ?c_countsbyplace ?k_countsbyplace ?a_lengthsbyplace ?l_lengthsbyplace ?c_lengthsbyplace ?k_lengthsbyplace ?a_countsbefore ?l_countsbefore ?c_countsbefore ?k_countsbefore ?a_choose ?l_choose ?c_choose ?k_choose ?a_lawbag ?l_lawbag ?c_lawbag ?k_lawbag ?a_lawdraw ?l_lawdraw ?c_lawdraw ?k_lawdraw ?a_lawreach ?l_lawreach ?c_lawreach ?k_lawreach ?a_lawmost ?l_lawmost ?c_lawmost ?k_lawmost ?a_lawcount ?l_lawcount ?c_lawcount ?k_lawcount ?a_lawleast ?l_lawleast ?c_lawleast ?k_lawleast ?a_lawbefore ?l_lawbefore ?c_lawbefore ?k_lawbefore ?a_lawisrefused ?l_lawisrefused ?c_lawisrefused ?k_lawisrefused ?a_law ?l_law ?c_law ?k_law ?z_len ?z_min ?z_max ?z_abs ?z_range ?z_isinstance ?z_repr ?z_enumerate ?z_reversed ?z_sorted ?z_bool ?z_int ?z_str ?z_list ?z_tuple ?z_set ?z_sum ?z_zip ?z_all ?z_any ?z_ValueError ?z_divmod ?aCB ?iCB ?tCB ?third ?zSup ?hTop ?spC ?tkC ?aC0 ?xL0 ?sa0 ?nv0 ?iC0 ?tI0 ?kC0 ?eC0 ?vC0 ?tC0 ?mC0 ?su0 ?fI0 ?cI0 ?lc0 ?vf0 ?mf0 ?lk0 ?ln0 ?ga0 ?gg0 ?hd0 ?ha0 ?mo0 ?ic0 ?sB0 ?s0_0
    (case a_checklist => k_is); (case l_checklist => k_is); (case c_checklist => k_is); (case k_checklist => k_is); (case a_checknumber => k_is); (case l_checknumber => k_is); (case c_checknumber => k_is); (case k_checknumber => k_is); (case a_reach => k_is); (case l_reach => k_is); (case c_reach => k_is); (case k_reach => k_is); (case lT_reach => k_is); (case a_feweststeps => k_is); (case l_feweststeps => k_is); (case c_feweststeps => k_is); (case k_feweststeps => k_is); (case lT_feweststeps => k_is); (case a_reachwith => k_is); (case l_reachwith => k_is); (case c_reachwith => k_is); (case k_reachwith => k_is); (case a_bestnumbers => k_is); (case l_bestnumbers => k_is); (case c_bestnumbers => k_is); (case k_bestnumbers => k_is); (case a_greatestreachwithone => k_is); (case l_greatestreachwithone => k_is); (case c_greatestreachwithone => k_is); (case k_greatestreachwithone => k_is); (case a_countlists => k_is); (case l_countlists => k_is); (case c_countlists => k_is); (case k_countlists => k_is); (case a_nthlist => k_is); (case l_nthlist => k_is); (case c_nthlist => k_is); (case k_nthlist => k_is); (case a_checkchoice => k_is); (case l_checkchoice => k_is); (case c_checkchoice => k_is); (case k_checkchoice => k_is); (case a_longestafter => k_is); (case l_longestafter => k_is); (case c_longestafter => k_is); (case k_longestafter => k_is); (case a_countsbyplace => k_is); (case l_countsbyplace => k_is); (case c_countsbyplace => k_is); (case k_countsbyplace => k_is); (case a_lengthsbyplace => k_is); (case l_lengthsbyplace => k_is); (case c_lengthsbyplace => k_is); (case k_lengthsbyplace => k_is); (case a_countsbefore => k_is); (case l_countsbefore => k_is); (case c_countsbefore => k_is); (case k_countsbefore => k_is); (case a_choose => k_is); (case l_choose => k_is); (case c_choose => k_is); (case k_choose => k_is); (case a_lawbag => k_is); (case l_lawbag => k_is); (case c_lawbag => k_is); (case k_lawbag => k_is); (case a_lawdraw => k_is); (case l_lawdraw => k_is); (case c_lawdraw => k_is); (case k_lawdraw => k_is); (case a_lawreach => k_is); (case l_lawreach => k_is); (case c_lawreach => k_is); (case k_lawreach => k_is); (case a_lawmost => k_is); (case l_lawmost => k_is); (case c_lawmost => k_is); (case k_lawmost => k_is); (case a_lawcount => k_is); (case l_lawcount => k_is); (case c_lawcount => k_is); (case k_lawcount => k_is); (case a_lawleast => k_is); (case l_lawleast => k_is); (case c_lawleast => k_is); (case k_lawleast => k_is); (case a_lawbefore => k_is); (case l_lawbefore => k_is); (case c_lawbefore => k_is); (case k_lawbefore => k_is); (case a_lawisrefused => k_is); (case l_lawisrefused => k_is); (case c_lawisrefused => k_is); (case k_lawisrefused => k_is); (case a_law => k_is); (case l_law => k_is); (case c_law => k_is); (case k_law => k_is); (case z_len => k_is); (case z_min => k_is); (case z_max => k_is); (case z_abs => k_is); (case z_range => k_is); (case z_isinstance => k_is); (case z_repr => k_is); (case z_enumerate => k_is); (case z_reversed => k_is); (case z_sorted => k_is); (case z_bool => k_is); (case z_int => k_is); (case z_str => k_is); (case z_list => k_is); (case z_tuple => k_is); (case z_set => k_is); (case z_sum => k_is); (case z_zip => k_is); (case z_all => k_is); (case z_any => k_is); (case z_ValueError => k_is); (case z_divmod => k_is); (case aCB => k_is); (case iCB => k_is); (case tCB => k_is); (case third => k_is); (case zSup => k_is); (case hTop => decide +kernel); (case spC => k_is); (case tkC => k_is); (case aC0 => k_is); (case xL0 => k_is); (case sa0 => k_is); (case nv0 => k_is); (case iC0 => k_is); (case tI0 => k_is); (case kC0 => k_is); (case eC0 => k_is); (case vC0 => k_is); (case tC0 => k_is); (case mC0 => k_is); (case su0 => ks_is); (case fI0 => k_is); (case cI0 => k_is); (case lc0 => k_is); (case vf0 => rfl); (case mf0 => decide +kernel); (case lk0 => k_is); (case ln0 => rfl); (case ga0 => k_is); (case gg0 => k_is); (case hd0 => k_is); (case ha0 => k_is); (case mo0 => k_is); (case ic0 => k_is); (case sB0 => k_is); (case s0_0 => k_is)


