import PyProof.Rows.All
import Wide.All
import OpenK.AllK
import Wide.FinOn
import HandS.ForMost
import HandS.IsInst
import HandS.Walk
import HandS.Defaults
import HandS.RaiseMore
import HandS.Wide
import HandS.Exc
import HandS.ExcOwn
import HandS.ExcInit
import HandS.ExcSuper
import KE.KExcSuper
import HandS.ExcValue
import HandS.ExcIs
import HandS.ExcField
import HandS.GenList
import HandS.WordsExc
import HandS.HotCalls
import HandS.Comp
import HandS.Deep
import HandS.Property
import HandS.MakeKw
import HandS.MakeKwOnly
import HandS.Style
import HandS.GenBody
import HandS.GenYield
import PyProof.GenComp
import PyProof.ForAny
import HandS.More
import HandS.NoneIn
import PySem.Challenge.RW_squeezelists_k18_hidden_lists_answer
set_option Elab.async false
set_option linter.all false
set_option maxRecDepth 100000
set_option maxHeartbeats 2000000
/-! The layer for the laws: a def of the law run at the outermost call (where no repr is under way), repr of data, calls by keywords alone. -/
namespace Sq
open PySem PySem.Spec PyProof.Rows L2

/-! ### the law's own def, at one given surrounding -/
theorem fnAt {CX : CXT} {P : Program} {w : World} {K : PySem.W.Frag} {mg : Str → Option Value} {base : Heap} {k : Nat} {f : Addr} {nmF qualF : Str} {prm : Arguments} {bd : List Stmt} {scp : Scope}
    {dflt kwd docv pmv cdv ctv ocv : Value} {anv odv : Option Addr} {slv : Array (Option Value)} {names prs : List Str} {sp : Sp} {A : Around}
    (stands : K.lookup f = some ⟨ocv, odv, .func (PySem.W.fnOf nmF qualF prm bd scp dflt kwd docv pmv anv cdv ctv), slv⟩)
    (code : PySem.W.codeIn K cdv qualF = true) (sc : FnScope names prs scp)
    (count : ∀ vs H Q E, sp vs H Q E → vs.length = prs.length)
    (inner : ∀ (outer : List Env) (s : Shared) (H : Hp) (vs : List V) (Q : VK) (E : XK), Room k (A.deeper (envOfC qualF scp s.heap.objs.size f cdv)) → sp vs H Q E →
      ∃ t, PSs (cxOf CX P w K mg base names qualF scp f cdv A outer s H E) bd t ∧ t { nx := fun _ H' => Q .non H', rt := Q } (start names vs) H)
    {outer : List Env} {s : Shared} {H : Hp} {ag : Args} {us : List Value} {vs : List V} {Q : VK} {E : XK}
    (room : Room (k + 1) A) (entry : Env0 P w K mg base A outer s H)
    (bound : BindsTo s (PySem.W.fnOf nmF qualF prm bd scp dflt kwd docv pmv anv cdv ctv) ag (prs.zip us)) (rel : Vals vs us) (wish : sp vs H Q E) :
    codeAny (model P w) A (.call (.ref f) ag) (CR CX outer P w H s Q E) s := by
  have written : K.In s.heap := entry.mod.kin.keeps (fun b o e => (entry.bs b o e).1)
  have roomy : s.heap.NoLimit := entry.mod.nolimit.keeps (fun b o e => (entry.bs b o e).1)
  refine codeAny_call_function room.depth (written _ _ stands) rfl sc.co sc.gen rfl (PySem.W.codeRec_of written code) (bound _ _ _ _ ?_)
  refine wpAny_newFunctionEnv_cells sc.kind ?kinds ?body
  case kinds =>
    rintro ⟨n, v⟩ hn
    have inP := (List.of_mem_zip hn).1
    cases sc.par n inP with
    | inl q => exact Or.inl q
    | inr q => exact Or.inr ⟨q, PySem.W.cellsFrom_some _ _ _ (Or.inl q)⟩
  case body =>
    intro env eqn s1 fresh
    subst eqn
    refine ⟨roomy.keeps fresh.toInCall.keep, codeAny_func ?_⟩
    obtain ⟨t, steps, holds⟩ := inner outer s H vs Q E (room.deeper _) wish
    have inv := inv_start (CX := CX) (mg := mg) (base := base) (E := E) sc room.hd entry (count _ _ _ _ wish) rel fresh
    refine wpAny_mono (steps.run [] s1 (start names vs) H _ inv holds) ?_ (fun _ _ q => q)
    intro flow s' got
    cases flow with
    | ret u =>
      obtain ⟨v, σ', H', J, rv, q⟩ := got
      exact ⟨v, H', J.os, J.bare, J.base, J.hok, rv, q⟩
    | next =>
      obtain ⟨σ', H', J, q⟩ := got
      exact ⟨V.non, H', J.os, J.bare, J.base, J.hok, rfl, q⟩
    | brk => exact got.elim fun _ h => h.elim fun _ h => False.elim h.2
    | cont => exact got.elim fun _ h => h.elim fun _ h => False.elim h.2

/-- what the top's def promises at the outermost call alone -/
def Top (P : Program) (w : World) (K : PySem.W.Frag) (mg : Str → Option Value) (base : Heap) (k : Nat) (f : Addr) (fd : FuncData) (x : Str) (sp : Sp) : Prop :=
  ∀ (s : Shared) (H : Hp) (ag : Args) (u : Value) (v : V) (Q : VK), Env0 P w K mg base callerA [] s H → BindsTo s fd ag [(x, u)] → RelV v u → sp [v] H Q (fun _ _ _ => False) →
    codeAny (model P w) callerA (.call (.ref f) ag) (CR CX0 [] P w H s Q (fun _ _ _ => False)) s

theorem atTop {P : Program} {w : World} {K : PySem.W.Frag} {mg : Str → Option Value} {base : Heap} {k : Nat} {f : Addr} {fd : FuncData} {x y qual : Str} {st : Stmt} {names : List Str} {sp : Sp}
    (F : Fun K y qual st f fd) (sc : FnScope names [x] (defScope st)) (room : Room (k + 1) callerA) (count : ∀ vs H Q E, sp vs H Q E → vs.length = 1)
    (inner : ∀ (cdv : Value) (outer : List Env) (s : Shared) (H : Hp) (vs : List V) (Q : VK) (E : XK), Room k (callerA.deeper (envOfC qual (defScope st) s.heap.objs.size f cdv)) → sp vs H Q E →
      ∃ t, PSs (cxOf CX0 P w K mg base names qual (defScope st) f cdv callerA outer s H E).nox (defBody st) t ∧ t { nx := fun _ H' => Q .non H', rt := Q } (start names vs) H) :
    Top P w K mg base k f fd x sp := by
  intro s H ag u v Q e0 hb hv hs
  obtain ⟨oc, od, kV, doc, pm, an, cdv, ct, osl, rfl, lk, hcd⟩ := F.ex
  refine fnAt (us := [u]) (vs := [v]) lk hcd sc count (fun outer s' H' vs' Q' E' room' wish => ?_) room e0 hb (.cons hv .nil) hs
  obtain ⟨t, h, q⟩ := inner cdv outer s' H' vs' Q' E' room' wish
  exact ⟨t, h.nox, q⟩

/-- from the def's promise at the outermost call to the row's claim about that call -/
theorem lawAt {P : Program} {w : World} {K : PySem.W.Frag} {mg mb : Str → Option Value} {k : Nat} {fa a : Addr} {fd : FuncData} {x : Str} {sp : Sp} {s₁ : Shared} {cells : List Value} {nums : List Int}
    (inK : K.In s₁.heap) (nsM : s₁.heap.Ns mainGlobals mg) (nsB : s₁.heap.Ns builtinsNs mb) (boot : ∀ y : Str, y ≠ "__name__" → mb y = bootBuiltins y) (lim : s₁.heap.NoLimit) (gens : s₁.gens = #[])
    (script : s₁.heap.get? a = some { cls := .type "list", data := .seq cells.toArray }) (are : IntsAre cells nums) (few : nums.length ≤ sizeLine)
    (main : ∀ base : Heap, K.In base → base.Ns mainGlobals mg → Top P w K mg base k fa fd x sp) (binds : ∀ (s : Shared) (u : Value), BindsTo s fd ⟨[u], []⟩ [(x, u)])
    (told : ∀ H : Hp, Only H → SqL K H a (nums.map V.int) → sp [.ref a] H (fun v _ => v = .bl true) fun _ _ _ => False) :
    codeAny (model P w) callerA (.call (.ref fa) ⟨[.ref a], []⟩) (fun r s' => r = .ok (.ret (.bool true)) ∧ OldK s₁.heap s'.heap ∧ s'.os = s₁.os ∧ AllBare s'.gens) s₁ := by
  have rel := vals_ints are
  have same := are.length
  suffices goal : ∀ H : Hp, Only H → SqL K H a (nums.map V.int) → HOk P w H s₁.heap → (∀ b o, H b = some o → b = a ∧ K.lookup a = none) →
      codeAny (model P w) callerA (.call (.ref fa) ⟨[.ref a], []⟩) (fun r s' => r = .ok (.ret (.bool true)) ∧ OldK s₁.heap s'.heap ∧ s'.os = s₁.os ∧ AllBare s'.gens) s₁ by
    cases look : K.lookup a with
    | some o =>
      have here := inK a o look
      rw [script] at here
      cases here
      exact goal (fun _ => none) (fun _ => Or.inl rfl) (Or.inr ⟨_, cells.toArray, _, look, rfl, rfl, rfl, (by rw [List.size_toArray, same]; exact few), (by simpa using rel)⟩) (fun b u z => by cases (show (none : Option HO) = some u from z)) (fun b o z => by cases (show (none : Option HO) = some o from z))
    | none =>
      let Ha : Hp := fun b => if b = a then some (.frz { cls := .type "list", data := .seq cells.toArray } (.lst (nums.map V.int))) else none
      have at_a : Ha a = some (.frz { cls := .type "list", data := .seq cells.toArray } (.lst (nums.map V.int))) := if_pos rfl
      have off : ∀ b o, Ha b = some o → b = a := fun b o z => by
        by_cases hb : b = a
        · exact hb
        · rw [show Ha b = none from if_neg hb] at z
          cases z
      refine goal Ha (fun b => ?_) (Or.inl (Or.inr ⟨_, at_a⟩)) (fun b u z => ?_) (fun b o z => ⟨off b o z, look⟩)
      · by_cases hb : b = a
        · exact Or.inr ⟨_, _, if_pos hb⟩
        · exact Or.inl (if_neg hb)
      · obtain rfl := off b u z
        rw [at_a] at z
        cases z
        exact ⟨script, by rw [List.length_map]; exact few, cells, _, rel, script⟩
  intro H only seq hok apart
  have free : ∀ {b : Addr} {o : Obj}, s₁.heap.get? b = some o → (∀ u, H b = some u → False) → (hidT s₁.heap H).get? b = some o := fun {b o} e n =>
    hidT_get e (by
      cases q : H b with
      | none => rfl
      | some u => exact (n u q).elim)
  have nsH : ∀ {b : Addr} {m : Str → Option Value}, s₁.heap.Ns b m → (hidT s₁.heap H).Ns b m := by
    rintro b m ⟨o, es, ep, e, d, r⟩
    refine ⟨o, es, ep, free e fun u z => ?_, d, r⟩
    obtain ⟨rfl, _⟩ := apart b u z
    rw [script] at e
    cases e
    cases (show Data.seq cells.toArray _ = Data.dict es ep from d)
  have kH : K.In (hidT s₁.heap H) := fun b o e => free (inK b o e) fun u z => by
    obtain ⟨rfl, n⟩ := apart b u z
    rw [n] at e
    cases e
  have mod : Mod K mg (hidT s₁.heap H) := ⟨kH, nsH nsM, ⟨mb, nsH nsB, boot⟩, let ⟨mc, h1, h2⟩ := lim; ⟨mc, nsH h1, h2⟩⟩
  have entry : Env0 P w K mg (hidT s₁.heap H) callerA [] s₁ H :=
    ⟨rfl, mod, fun b o e => of_hidT e, Nat.le_of_eq (hidT_size _ _), trivial, fun b hb => absurd (show b ∈ ([] : List Addr) from hb) (by simp), hok, .of_eq gens⟩
  refine codeAny_mono (main _ kH (nsH nsM) s₁ H ⟨[.ref a], []⟩ (.ref a) (.ref a) _ entry (binds s₁ (.ref a)) rfl (told H only seq)) ?_
  intro r s' got
  match r, got with
  | .ok (.ret u), got =>
    obtain ⟨v, H', os, bare, un, hok', rv, q⟩ := got
    obtain rfl : v = .bl true := q
    obtain rfl : u = Value.bool true := rv
    refine ⟨rfl, OldK.of_keep fun b o e => ?_, os, bare⟩
    rcases only b with z | ⟨ob, xs, z⟩
    · exact un.keep b o e z (by intro y; exact absurd (show b ∈ ([] : List Addr) from y) (by simp)) (by simp)
    · obtain ⟨e1, _⟩ := hok b _ z
      obtain ⟨e2, _⟩ := hok' b _ (un.frzs b ob _ z)
      rw [e] at e1
      cases e1
      exact e2

/-- the goal that k_head leaves, from the law's promise at the outermost call -/
theorem walkAt {l : PySem.W.OpenLaw} {n k : Nat} {q : Program} {loose : List Str} {XP : (Str → Option Value) → Heap → Prop} {YP : World → Heap → Prop} {d : DefRec} {K : Params → PySem.W.Frag} {sp : World → Sp} {x : Str}
    (most : l.most = some n) (line : n ≤ sizeLine) (plain : d.params.defaults = []) (inK : ∀ (w : World) (h : Heap), YP w h → (K w.params).In h)
    (F : ∀ (w : World) (mg : Str → Option Value) (fa : Addr) (h : Heap), (K w.params).In h → h.Ns mainGlobals mg → mg d.name = some (.ref fa) →
      ∃ fd : FuncData, (∀ (s : Shared) (u : Value), BindsTo s fd ⟨[u], []⟩ [(x, u)]) ∧ ∀ base : Heap, (K w.params).In base → base.Ns mainGlobals mg → Top l.prog w (K w.params) mg base k fa fd x (sp w))
    (told : ∀ (w : World) (H : Hp) (a : Addr) (ns : List Int), ns.length ≤ n → Only H → SqL (K w.params) H a (ns.map V.int) → sp w [.ref a] H (fun v _ => v = .bl true) fun _ _ _ => False) :
    PySem.W.WalkO q loose XP YP l.row.toRowW d [] (fun f vs => PySem.call f vs) := by
  refine Att.attach_call most plain ?_
  intro w s₀ s₁ mg mb fa o pm cd doc a vs ns G Y ho hd hcd hmg hobj hints hlen hg
  obtain ⟨fd, hb, hF⟩ := F w mg fa _ (inK w _ Y) G.T.g hmg
  exact lawAt (inK w _ Y) G.T.g G.T.b G.T.builtins G.T.nolimit hg hobj hints (Nat.le_trans hlen line) hF hb fun H hO hS => told w H a ns hlen hO hS

/-! ### repr of data, where no repr is under way -/
def rReprD (K : PySem.W.Frag) : List V → Hp → VK → Prop := fun xs H Q => ∃ a d, xs = [.ref a] ∧ Dp K H (.ref a) d ∧ d.showable = true ∧ d.hasDict = false ∧ d.depth ≤ 40 ∧ d.shown.length ≤ sizeLine ∧ Q (.str d.shown) H
theorem call_reprD {X : Cx} (hg : X.A.guards = some []) (hu : X.A.units + 64 < cLine) : CallR X (.builtin "repr") (rReprD X.K) := by
  intro pins s σ H xs us Q I r h
  obtain ⟨a, d, rfl, hd, sh, nd, dep, sz, q⟩ := h
  obtain ⟨u, rfl, rv⟩ := vals1 r
  obtain rfl : u = Value.ref a := rv
  obtain ⟨as, rd⟩ := Dp.reads I d _ _ hd (show RelV (.ref a) (.ref a) from rfl)
  refine repr_of_reads' rd sh (by rw [nd]; exact fun z => nomatch z) hg (by omega) (fun b o e => e) (fun h' u tk keep => ?_) sz
  exact ⟨.str _, H, I.kept keep, ⟨_, rfl⟩, q⟩

/-! ### f(k = v, ..): keywords alone -/
section
variable {X : Cx} {CX : CXT} {k : Nat} {f : Addr} {fd : FuncData} {ps ks : List Str} {sp : Sp} {E : XK} {x : Str} {p pos : Pos} {kws : List Keyword} {tk : TA} {g : List Value → List Value → List Value} {gV : List V → List V → List V}
theorem pe_callK0 (F : FnOk X.prog X.w X.K X.mg X.base CX k f fd ps sp) (hr : Room k X.A) (hg : Gl X x) (hm : X.mg x = some (.ref f)) (hk : PySem.W.keepIn X.K (.ref f) = true) (hb : KBn X.K fd ps 0 ks g gV) (hx : Passes CX X E) (hkw : PK X kws tk)
    (hall : (backToKw pos (keywordEach kws X.env)).all (·.1.isSome) = true := by rfl) (hks : (backToKw pos (keywordEach kws X.env)).filterMap (·.1) = ks := by rfl) (hdb : (x == ("__debug__" : Str)) = false := by decide)
    (hpl : ((backTo pos (starEach [] X.env)).any (·.1) || (backToKw pos (keywordEach kws X.env)).any (·.1.isNone)) = false := by rfl) :
    PE X (.Call (.Name x p) [] kws pos) (tCallN 0 ks.length sp gV E tNil tk) := by
  refine ⟨fun pins s σ H Q I h => ?_⟩
  refine wpAny_Call_Name_kw (ld_glob I hg hm ?_ hdb)
  refine PySem.W.callWith_KW0 (h₀ := X.base) I.ok.mod.kin hk hall ?_ hpl
  refine thn (hkw.run pos pins s σ H _ I h) ?_
  rintro ws s2 ⟨zs, H2, I2, rz, l1, l2, q2⟩
  refine ⟨I2.kIn, ?_⟩
  rw [hks]
  exact run_fnN F hr hb hx I2 (.nil) rz l1 l2 q2
end
end Sq

namespace Sq
open PySem PySem.Spec PyProof.Rows L2
/-- what a caller wants of a def of the text: it stands at its name and keeps its promise -/
structure Df (P : Program) (w : World) (K : PySem.W.Frag) (mg : Str → Option Value) (base : Heap) (k : Nat) (x : Str) (ps : List Str) (sp : Sp) : Prop where
  ex : ∃ f fd, FnOk P w K mg base CX0 k f fd ps sp ∧ mg x = some (.ref f) ∧ PySem.W.keepIn K (.ref f) = true ∧ Binds K fd ps []
section
variable {X : Cx} {k : Nat} {ps : List Str} {sp : Sp} {x : Str} {p pos : Pos} {e : Expr} {es : List Expr} {t : TA}
theorem pe_callD (D : Df X.prog X.w X.K X.mg X.base k x ps sp) (hr : Room k X.A) (hg : Gl X x) (ha : PA X (e :: es) t) (hdb : (x == ("__debug__" : Str)) = false := by decide)
    (he : starEach (e :: es) X.env = (false, eval e X.env) :: starEach es X.env := by rfl) (hpl : (backTo pos (starEach es X.env)).any (·.1) = false := by rfl) :
    PE X (.Call (.Name x p) (e :: es) [] pos) (tCall sp [] E0 t) := by
  obtain ⟨f, fd, F, g, kp, b⟩ := D.ex
  exact pe_call F hr hg g kp b .nil pass0 ha hdb he hpl
end
section
variable {P : Program} {w : World} {K : PySem.W.Frag} {mg : Str → Option Value} {base : Heap}
/-- a def without defaults, from its place in the text and its promise -/
theorem Df.mk' {k : Nat} {x : Str} {st : Stmt} {ps : List Str} {sp : Sp} {f : Addr} {fd : FuncData} (F : Fun K x x st f fd) (G : FnOk P w K mg base CX0 k f fd ps sp) (g : mg x = some (.ref f)) (b : Binds K fd ps []) : Df P w K mg base k x ps sp :=
  ⟨⟨f, fd, G, g, F.kp, b⟩⟩
end
end Sq

namespace Sq
open PySem PySem.Spec PyProof.Rows L2
/-- a def with defaults, no error leaves it -/
theorem okD {P : Program} {w : World} {K : PySem.W.Frag} {mg : Str → Option Value} {base : Heap} {x qual : Str} {prm : Arguments} {bd : List Stmt} {scp : Scope} {dvs : List V} {kws : List (Str × V)} {f : Addr} {fd : FuncData} {names ps : List Str} {k : Nat} {sp : Sp}
    (F : FunD K x qual prm bd scp dvs kws f fd) (sc : FnScope names ps scp) (count : ∀ vs H Q E, sp vs H Q E → vs.length = ps.length)
    (inner : ∀ (cdv : Value) (A : Around) (outer : List Env) (s : Shared) (H : Hp) (vs : List V) (Q : VK) (E : XK), Room k (A.deeper (envOfC qual scp s.heap.objs.size f cdv)) → sp vs H Q E →
      ∃ t, PSs (cxOf CX0 P w K mg base names qual scp f cdv A outer s H E).nox bd t ∧ t { nx := fun _ H' => Q .non H', rt := Q } (start names vs) H) : FnOk P w K mg base CX0 (k + 1) f fd ps sp :=
  F.ok sc count fun cdv A outer s H vs Q E hr h => let ⟨t, a, b⟩ := inner cdv A outer s H vs Q E hr h; ⟨t, a.nox, b⟩

/-- the same as Df for a call that leaves the last ones to their defaults dvs -/
structure Dv (P : Program) (w : World) (K : PySem.W.Frag) (mg : Str → Option Value) (base : Heap) (k : Nat) (x : Str) (ps : List Str) (dvs : List V) (sp : Sp) : Prop where
  ex : ∃ f fd ds, FnOk P w K mg base CX0 k f fd ps sp ∧ mg x = some (.ref f) ∧ PySem.W.keepIn K (.ref f) = true ∧ Vals dvs ds ∧ Binds K fd ps ds
/-- .. by keywords alone -/
structure Dk (P : Program) (w : World) (K : PySem.W.Frag) (mg : Str → Option Value) (base : Heap) (k : Nat) (x : Str) (ps ks : List Str) (gV : List V → List V → List V) (sp : Sp) : Prop where
  ex : ∃ f fd g, FnOk P w K mg base CX0 k f fd ps sp ∧ mg x = some (.ref f) ∧ PySem.W.keepIn K (.ref f) = true ∧ KBn K fd ps 0 ks g gV
section
variable {X : Cx} {k : Nat} {ps ks : List Str} {sp : Sp} {x : Str} {p pos : Pos} {e : Expr} {es : List Expr} {t tk : TA} {dvs : List V} {gV : List V → List V → List V} {kws : List Keyword}
theorem pe_callV (D : Dv X.prog X.w X.K X.mg X.base k x ps dvs sp) (hr : Room k X.A) (hg : Gl X x) (ha : PA X (e :: es) t) (hdb : (x == ("__debug__" : Str)) = false := by decide)
    (he : starEach (e :: es) X.env = (false, eval e X.env) :: starEach es X.env := by rfl) (hpl : (backTo pos (starEach es X.env)).any (·.1) = false := by rfl) :
    PE X (.Call (.Name x p) (e :: es) [] pos) (tCall sp dvs E0 t) := by
  obtain ⟨f, fd, ds, F, g, kp, hd, b⟩ := D.ex
  exact pe_call F hr hg g kp b hd pass0 ha hdb he hpl
theorem pe_callKD (D : Dk X.prog X.w X.K X.mg X.base k x ps ks gV sp) (hr : Room k X.A) (hg : Gl X x) (hkw : PK X kws tk)
    (hall : (backToKw pos (keywordEach kws X.env)).all (·.1.isSome) = true := by rfl) (hks : (backToKw pos (keywordEach kws X.env)).filterMap (·.1) = ks := by rfl) (hdb : (x == ("__debug__" : Str)) = false := by decide)
    (hpl : ((backTo pos (starEach [] X.env)).any (·.1) || (backToKw pos (keywordEach kws X.env)).any (·.1.isNone)) = false := by rfl) :
    PE X (.Call (.Name x p) [] kws pos) (tCallN 0 ks.length sp gV E0 tNil tk) := by
  obtain ⟨f, fd, g, F, hm, kp, b⟩ := D.ex
  exact pe_callK0 F hr hg hm kp b pass0 hkw hall hks hdb hpl
end
theorem vals_nil {ds : List Value} (h : Vals [] ds) : ds = [] := by
  cases h
  rfl
end Sq

namespace Sq
open PySem PySem.Spec PyProof.Rows L2
theorem vals_rev : ∀ {zs : List V} {ws : List Value}, Vals zs ws → Vals zs.reverse ws.reverse
  | [], [], _ => .nil
  | _ :: _, _ :: _, .cons h t => by
    rw [List.reverse_cons, List.reverse_cons]
    exact (vals_rev t).append (.cons h .nil)
/-- keywords, where the def has defaults and no keyword-only parameters -/
theorem kbinds' {K : PySem.W.Frag} {x qual : Str} {prm : Arguments} {bd : List Stmt} {scp : Scope} {dvs : List V} {f : Addr} {fd : FuncData} {ps : List Str}
    (F : FunD K x qual prm bd scp dvs [] f fd) (n : Nat) (ks : List Str) (g : List Value → List Value → List Value) (gV : List V → List V → List V) (hd : dvs ≠ [])
    (rel : ∀ {vs : List V} {us : List Value} {zs : List V} {ws : List Value}, Vals vs us → Vals zs ws → Vals (gV vs zs) (g us ws))
    (h : ∀ (T : Addr) (kV doc pm : Value) (an : Option Addr) (cdv ct : Value) (us its ws : List Value), us.length = n → its.length = dvs.length → ws.length = ks.length →
      ∃ k, bindArgs (PySem.W.fnOf x qual prm bd scp (.ref T) kV doc pm an cdv ct) ⟨us, ks.zip ws⟩ = seqItems? (.ref T) >>= k ∧ k (some its.toArray) = pure (ps.zip (g us ws))) : KBn K fd ps n ks g gV := by
  obtain ⟨oc, od, dV, kV, doc, pm, an, cdv, ct, osl, rfl, lk, hcd, hD, hK⟩ := F.ex
  rcases hD with ⟨e, _⟩ | ⟨_, T, o, its, m, rfl, lT, oT, rT⟩
  · exact absurd e hd
  · refine ⟨fun s us ws X l1 l2 => ?_, rel⟩
    obtain ⟨k, e1, e2⟩ := h T kV doc pm an cdv ct us its ws l1 rT.length.symm l2
    refine BindsTo.of_looks fun M => ?_
    rw [e1]
    exact looks_items X lT oT (.of_pure e2)
end Sq

namespace Sq
open PySem PySem.Spec PyProof.Rows L2
/-- a test whose ways are told apart from what follows -/
theorem tell {c : TT} {σ : L2.St} {H : Hp} {Q : Bool → Hp → Prop} (T F : Hp → Prop) (h : ∀ Q' : Bool → Hp → Prop, (∀ H2, T H2 → Q' true H2) → (∀ H2, F H2 → Q' false H2) → c σ H Q') (hT : ∀ H2, T H2 → Q true H2) (hF : ∀ H2, F H2 → Q false H2) : c σ H Q := h Q hT hF
/-- a value that is told apart from what follows -/
theorem tellV {c : TE} {σ : L2.St} {H : Hp} {Q : VK} (T : V → Hp → Prop) (h : ∀ Q' : VK, (∀ v H2, T v H2 → Q' v H2) → c σ H Q') (hT : ∀ v H2, T v H2 → Q v H2) : c σ H Q := h Q hT
/-- a statement that goes on alone -/
theorem tellS {c : TS} {D : Ends} {σ : L2.St} {H : Hp} (T : L2.St → Hp → Prop) (h : ∀ N : L2.St → Hp → Prop, (∀ σ2 H2, T σ2 H2 → N σ2 H2) → c { D with nx := N } σ H) (hT : ∀ σ2 H2, T σ2 H2 → D.nx σ2 H2) : c D σ H := h D.nx hT
end Sq

set_option Elab.async false
set_option linter.all false
set_option maxRecDepth 100000
set_option maxHeartbeats 2000000
/-! Own errors whose __init__ says super().__init__(..) and stores its argument as value. -/
namespace SqX
open PySem PySem.W PySem.Calls PyProof.Rows PySem.HandSPX
def xA (p1 p2 : Pos) : Arguments := { posonlyargs := [], args := [{ arg := "self", annotation := none, pos := p1 }, { arg := "value", annotation := none, pos := p2 }], vararg := none, kwonlyargs := [], kw_defaults := [], kwarg := none, defaults := [] }
def xB (msg : Str) (j : Nat) (q0 q1 q2 q3 q4 q5 r1 r2 r3 r4 : Pos) : List Stmt :=
  [.Expr (.Call (.Attribute (.Call (.Name "super" q0) [] [] q1) "__init__" q2) [.Constant (.str msg) j q3] [] q4) q5, .Assign [.Attribute (.Name "self" r1) "value" r2] (.Name "value" r3) r4]
def xS : Scope := { kind := .function, names := [(PySem.Str.ofString "self", .local), (PySem.Str.ofString "value", .local), (PySem.Str.ofString "__class__", .free), (PySem.Str.ofString "super", .globalImplicit)], isGenerator := false, isCoroutine := false, more := [] }
/-- what the written part says of such a class at C, of its __init__ at fI -/
structure Er (K : Frag) (prog : Program) (C fI : Addr) (q : Str) : Prop where
  cls : ∃ nm qn N bs bm sn sub ab col dd k0 k1 k2 k3 k5, K.lookup C = some (excClassObj nm qn C N bs bm true sn sub ab col dd k0 k1 k2 k3 k5 "ValueError.__new__") ∧ refsVE bm = true
  sa : findIn K (.ref C) "__setattr__" = some (some (.builtin "object.__setattr__"))
  noV : findIn K (.ref C) "value" = some none
  iC : findIn K (.ref C) "__init__" = some (some (.ref fI))
  tC : typeIn K (.ref fI) = some (.type "function")
  kC : keepIn K (.ref C) = true
  exC : subIn K (.ref C) (.type "BaseException") = some true
  veC : subIn K (.ref C) (.type "ValueError") = some true
  tyC : typeIn K (.ref C) = some (.type "type")
  mC : mroIn K C (.ref C) = some true
  suC : ks_superIn K C C "__init__" = some (some (.builtin "ValueError.__init__"))
  third : nsIn K cStatics "thirdparty.any" = some none
  super : nsIn K mainGlobals "super" = some none
  top : (prog.main.scope.names.lookup ("super" : Str)).isSome = false
  fn : ∃ (oc : Value) (od : Option Addr) (doc pm : Value) (an : Option Addr) (ct : Value) (osl : Array (Option Value)) (cda cc : Addr) (msg : Str) (j : Nat) (p1 p2 q0 q1 q2 q3 q4 q5 r1 r2 r3 r4 : Pos) (ccl : Value) (cdd : Option Addr) (vs : Array Value) (ccs : Array (Option Value)) (file : Str) (tf : Tok) (cl : Value) (cld : Option Addr) (csl : Array (Option Value)),
    K.lookup fI = some ⟨oc, od, .func (ksFn "__init__" q (xA p1 p2) (xB msg j q0 q1 q2 q3 q4 q5 r1 r2 r3 r4) xS .none .none doc pm an (.ref cda) ct cc), osl⟩ ∧ codeIn K (.ref cda) q = true ∧
    K.lookup cda = some ⟨ccl, cdd, .fields vs, ccs⟩ ∧ vs[2]? = some (.str file tf) ∧ ((prog.main.file : Str) == file) = true ∧ K.lookup cc = some ⟨cl, cld, .cell (some (.ref C)), csl⟩ ∧ (q2.endLine == q4.line) = true
/-- what __init__ leaves of a fresh exception at x -/
structure Inited (h h' : Heap) (x C dx t1 : Addr) (v : Value) : Prop where
  keep : ∀ b o, b ≠ x → h.get? b = some o → h'.get? b = some o
  obj : h'.get? x = some { cls := .ref C, dict := some dx, data := .fields #[.ref t1, .none, .none, .none, .bool false, .none] }
  dbig : h.objs.size ≤ dx
  dne : dx ≠ x
  ns : h'.Ns1 dx (fun y => if y = "value" then some v else none)
theorem one_size (v : Value) : [v].length ≤ sizeLine := by
  rw [sizeLine_eq]
  exact (by decide : 1 ≤ 16777216)
theorem call_is {o e : Expr} {name : Str} {apos pos : Pos} {env : Env} (hline : (apos.endLine == pos.line) = true) (he : starEach [e] env = [(false, eval e env)]) :
    eval (.Call (.Attribute o name apos) [e] [] pos) env = (do
      let ov ← attributeBase o name env (eval o env)
      standAt apos.atName
      let (f, first) ← holding [ov] (getMethod ov name (do return (← importBound o env).getD true))
      callWith pos f first (backTo pos (starEach [e] env)) []) := by
  rw [arm_eval_Call]
  have hf : methodCallForm 1 (backTo pos (starEach [e] env)) (backToKw pos (keywordEach [] env)) = true := by
    rw [he]
    rfl
  have hp : methodCallPos true o env apos pos = pure pos := by
    unfold methodCallPos
    simp [hline]
  refine congrArg _ (funext fun ov => congrArg _ (funext fun _ => ?_))
  show methodCall o name apos pos env ov 1 (backTo pos (starEach [e] env)) (backToKw pos (keywordEach [] env)) = _
  unfold methodCall
  rw [hf, hp]
  rfl
/-- the bound ValueError.__init__ called: the args are laid anew -/
theorem call_mw {prog : Program} {w : World} {A : Around} {E : Value → Shared → Prop} {h : Heap} {g : Array GenState} {d : Drawn} {t : Nat} {os : OsState}
    {nm qn : Str} {C N : Addr} {bs bm : List Value} {hdct : Bool} {sn : List Str} {sub : List Value} {ab : Bool} {col : Option Bool} {dd : Option Addr} {k0 k1 k2 k3 k5 : Option Value} {u e t0 : Addr} {rest : List Value} {Q : Value → Shared → Prop}
    (atC : h.get? C = some (excClassObj nm qn C N bs bm hdct sn sub ab col dd k0 k1 k2 k3 k5 "ValueError.__new__")) (atE : h.get? e = some (excO C t0)) (atU : h.get? u = some (kxs_mw "ValueError.__init__" e)) (line : rest.length ≤ sizeLine)
    (fin : ∀ h' t1, (∀ b o, b ≠ e → h.get? b = some o → h'.get? b = some o) → h'.get? e = some (excO C t1) → Q .none ⟨h', g, d, t, os⟩) :
    wpAny (model prog w) A (call (.ref u) rest) Q E ⟨h, g, d, t, os⟩ := by
  refine wpAny_call (codeAny_of_tree ?_)
  show wpAny _ A.in1 (callAny (.ref u) ⟨rest, []⟩) _ _ _
  simp only [callAny]
  refine wpAny_bind (wpAny_load atU ?_)
  simp only [kxs_mw, show (Value.type "method-wrapper" == Value.type "method" || Value.type "method-wrapper" == Value.type "builtin_function_or_method" || Value.type "method-wrapper" == Value.type "method-wrapper") = true by decide, if_true]
  refine W.KFB.if_so (by decide) ?_
  refine wpAny_bind (ESX.check_bound F.excBase_ValueError atC atE rfl ?_)
  refine wpAny_bind (wpAny_pure (wpAny_pure ?_))
  refine ⟨Code.quiet_builtin _ (by decide +kernel), codeAny_builtin F.excBase_ValueError.initEntry ?_⟩
  rw [Around.under_plainId F.excBase_ValueError.init.plain _]
  wp_walk
  refine fin _ h.objs.size (fun b o nb hb => ?_) ?_
  · exact (Heap.get?_update_other _ _ (Ne.symm nb)).trans (Heap.get?_push_of_some _ hb)
  · exact (Heap.get?_update_self _ (Heap.get?_push_of_some _ atE) rfl).trans rfl
section
variable {prog : Program} {w : World} {A : Around} {E : Value → Shared → Prop} {R : Result → Shared → Prop} {s : Shared} {K : Frag} {mg : Str → Option Value} {base : Heap} {C fI : Addr} {q : Str}
theorem init (T : Er K prog C fI q) {x t0 : Addr} {v : Value} {args : Args} (X : K.In s.heap) (hg : s.heap.Ns mainGlobals mg) (hlim : s.heap.NoLimit) {mb : Str → Option Value} (hb : s.heap.Ns builtinsNs mb) (boot : ∀ y : Str, y ≠ "__name__" → mb y = bootBuiltins y)
    (hx : s.heap.get? x = some (excO C t0)) (hnx : K.lookup x = none) (hroom : A.depth < recursionLimit)
    (hargs : ∀ fd : FuncData, (∃ p1 p2 bd doc pm an cda ct cc, fd = ksFn "__init__" q (xA p1 p2) bd xS .none .none doc pm an (.ref cda) ct cc) → BindsTo s fd args [("self", .ref x), ("value", v)])
    (hq : ∀ h' tk dx t1, Inited s.heap h' x C dx t1 v → R (.ok (.ret .none)) { s with heap := h', toks := tk }) :
    codeAny (model prog w) A (.call (.ref fI) args) R s := by
  obtain ⟨oc, od, doc, pm, an, ct, osl, cda, cc, msg, j, p1, p2, q0, q1, q2, q3, q4, q5, r1, r2, r3, r4, ccl, cdd, vs, ccs, file, tf, cl, cld, csl, ho, hcd, hcode, hvs, hfile, hcell, hline⟩ := T.fn
  obtain ⟨nm, qn, N, bs, bm, sn, sub, ab, col, dd, k0, k1, k2, k3, k5, hC, hbm⟩ := T.cls
  have hcl : clsIn K C = some { name := nm, bases := bs, mro := .ref C :: bm, ns := N, qualname := qn, hasDict := true, slotNames := sn, subclasses := sub, abstract := ab, collection := col, hasDel := false } := by unfold clsIn; rw [hC] <;> rfl
  refine ks_codeAny_call_defAt (fd := ksFn "__init__" q (xA p1 p2) (xB msg j q0 q1 q2 q3 q4 q5 r1 r2 r3 r4) xS .none .none doc pm an (.ref cda) ct cc) (binds := [("self", .ref x), ("value", v)]) hroom (X _ _ ho) rfl hlim (codeRec_of X hcd) rfl
    (hargs _ ⟨_, _, _, _, _, _, _, _, _, rfl⟩) (show ∀ x ∈ xS.names, x.2 ≠ .cell by decide) (fun y hy => ?loc) (fun h₁ hns k => ?_)
  case loc =>
    rcases List.mem_cons.mp hy with rfl | hy
    · exact (show xS.names.lookup ("self" : Str) = some .local by decide)
    · obtain rfl := List.mem_singleton.mp hy
      exact (show xS.names.lookup ("value" : Str) = some .local by decide)
  have X₁ : K.In h₁ := X.keeps k
  have hx₁ := k _ _ hx
  obtain ⟨hh, g, d, t, os⟩ := s
  show _root_.PySem.wpAt _ _ _ (execs (xB msg j q0 q1 q2 q3 q4 q5 r1 r2 r3 r4) _) _ _ _
  refine ks_wpAt_execs_cons (ks_wpAt_Expr_any (ks_wpAt_MethodCall ?_ (call_is hline rfl)))
  obtain ⟨oD, hD1, hD2⟩ : ∃ oD, h₁.get? C = some oD ∧ ∃ cdD, oD.data = .cls cdD := ⟨_, X₁ _ _ hC, _, rfl⟩
  obtain ⟨cdD, hD2⟩ := hD2
  have I₁ : InstAt h₁ x (excO C t0) C none := ⟨hx₁, rfl, rfl, trivial⟩
  refine ks_wpAt_super_base (f := fI) (cc := cda) rfl rfl rfl rfl (X₁ _ _ ho) rfl rfl rfl (X₁ _ _ hcode) rfl hvs hfile T.top ?_
  refine ks_loadName_global rfl rfl (loadGlobal_builtin (hg.keeps k) (mg_none_of X hg T.super) (hb.keeps k) ((boot _ (by decide +kernel)).trans (by decide +kernel)) ⟨rfl, ?_⟩)
  refine wpAny_loadName_free rfl rfl rfl ⟨_, X₁ _ _ hcell, rfl⟩ ?_
  refine wpAny_loadName_local (v := .ref x) rfl rfl hns rfl ?_
  refine ks_wpAny_isType_cls hD1 hD2 ⟨rfl, ?_⟩
  refine ks_wpAny_call_super hD1 hD2 I₁.at_ I₁.cls (fun c e => by cases e) (looks_mroIn X₁ T.mC) (fun h₂ e₂ k₂ => ?_)
  have X₂ : K.In h₂ := X₁.keeps k₂
  have hx₂ := k₂ _ _ hx₁
  have I₂ : InstAt h₂ x (excO C t0) C none := ⟨hx₂, rfl, rfl, trivial⟩
  have al := T.suC
  unfold ks_superIn at al
  rw [hcl] at al
  refine kxs_getMethod kxs_ValueError e₂ (looks_opaque X₂ T.third) (l₀ := .ref C :: bm) ((looks_clsIn X₂ hcl).andThen .now) rfl X₂ al (I₂.type.andThen (looks_subIn X₂ T.veC)) (ks_ne X₂ I₂ hcl) (by decide) ?_
  have k₃ : ∀ b o, h₂.get? b = some o → (h₂.push (kxs_mw "ValueError.__init__" x)).get? b = some o := fun b o e => Heap.get?_push_of_some _ e
  have hu : (h₂.push (kxs_mw "ValueError.__init__" x)).get? h₂.objs.size = some (kxs_mw "ValueError.__init__" x) := Heap.get?_push_at rfl rfl
  refine kxs_callWith (i := "ValueError.__init__") (x := x) rfl (evalArgs_plain ?_)
  refine Calls.spliced_cons ?_
  show wpAny _ _ (eval (.Constant (.str msg) j q3) _) _ _ _
  refine Calls.Constant_str ?_
  refine Calls.spliced_nil ⟨hu, ?_⟩
  refine call_mw (k₃ _ _ (X₂ _ _ hC)) (k₃ _ _ hx₂) hu (one_size _) (fun h₄ t1 k₄ hx₄ => ?_)
  have kk : ∀ b o, b ≠ x → hh.get? b = some o → h₄.get? b = some o := fun b o nb e => k₄ b o nb (k₃ _ _ (k₂ _ _ (k _ _ e)))
  have X₄ : K.In h₄ := fun a o e => kk a o (fun z => by rw [z, hnx] at e; cases e) (X a o e)
  have nx : hh.objs.size ≠ x := fun z => by
    have := Heap.lt_size hx
    rw [← z] at this
    exact absurd this (Nat.lt_irrefl _)
  have ns₄ : h₄.Ns hh.objs.size (fun y => List.lookup y [(("self" : Str), Value.ref x), ("value", v)].reverse) :=
    hns.at fun o e => k₄ _ _ nx (k₃ _ _ (k₂ _ _ e))
  -- self.value = value
  refine ks_wpAt_execs_cons (wpAt_of_wpAny (plainObj_wpAny_Assign_Attribute ?_))
  refine wpAny_Name (wpAny_loadName_local (v := v) rfl rfl ns₄ rfl ?_) (by decide)
  refine wpAny_Name (wpAny_loadName_local (v := .ref x) rfl rfl ns₄ rfl ?_) (by decide)
  refine set_plain X₄ (ox := excO C t1) (od := none) ⟨hx₄, rfl, rfl, trivial⟩ T.sa ?_
  refine exc_osa X₄ hx₄ hcl (show refsVE (.ref C :: bm) = true from hbm) rfl T.noV (fun h₅ tk₅ dx k₅ dn dne hx₅ hn₅ => ?_)
  have big : hh.objs.size ≤ dx := by
    have l1 : hh.objs.size < h₁.objs.size := hns.lt
    have l2 : h₁.objs.size < h₂.objs.size := Heap.lt_size e₂
    have nu : h₂.objs.size ≠ x := Nat.ne_of_gt (Heap.lt_size hx₂)
    have l4 : h₂.objs.size < h₄.objs.size := Heap.lt_size (k₄ _ _ nu hu)
    have l5 : h₄.objs.size ≤ dx := dn
    exact Nat.le_trans (Nat.le_of_lt (Nat.lt_trans l1 (Nat.lt_trans l2 l4))) l5
  refine wpAt_of_wpAny (wpAny_execs_nil ?_)
  exact hq h₅ tk₅ dx t1 ⟨fun b o nb e => k₅ b o nb (kk b o nb e), hx₅, big, dne, hn₅⟩
end
end SqX

set_option Elab.async false
set_option linter.all false
set_option maxRecDepth 100000
set_option maxHeartbeats 2000000
namespace SqX
open PySem PySem.W PySem.Calls PyProof.Rows PySem.HandSPX
/-- a new error at e, its dict at d -/
structure New (h h' : Heap) (e C d t1 : Addr) (v : Value) : Prop where
  keep : ∀ b o, h.get? b = some o → h'.get? b = some o
  big : h.objs.size ≤ e
  obj : h'.get? e = some { cls := .ref C, dict := some d, data := .fields #[.ref t1, .none, .none, .none, .bool false, .none] }
  dbig : h.objs.size ≤ d
  dne : d ≠ e
  ns : h'.Ns1 d (fun y => if y = "value" then some v else none)
section
variable {prog : Program} {w : World} {A : Around} {E : Value → Shared → Prop} {R : Result → Shared → Prop} {K : Frag} {mg mb : Str → Option Value} {C fI : Addr} {q : Str}
theorem bind2 {s : Shared} {q : Str} {x v : Value} : ∀ fd : FuncData, (∃ p1 p2 bd doc pm an cda ct cc, fd = ksFn "__init__" q (xA p1 p2) bd xS .none .none doc pm an (.ref cda) ct cc) → BindsTo s fd ⟨[x, v], []⟩ [("self", x), ("value", v)] := by
  rintro fd ⟨p1, p2, bd, doc, pm, an, cda, ct, cc, rfl⟩
  exact BindsTo.of_eq (by first | rfl | with_unfolding_all rfl)
theorem bindK {s : Shared} {q : Str} {x v : Value} : ∀ fd : FuncData, (∃ p1 p2 bd doc pm an cda ct cc, fd = ksFn "__init__" q (xA p1 p2) bd xS .none .none doc pm an (.ref cda) ct cc) → BindsTo s fd ⟨[x], [("value", v)]⟩ [("self", x), ("value", v)] := by
  rintro fd ⟨p1, p2, bd, doc, pm, an, cda, ct, cc, rfl⟩
  exact BindsTo.of_eq (by first | rfl | with_unfolding_all rfl)
theorem made {s : Shared} (T : Er K prog C fI q) {v : Value} (X : K.In s.heap) (hg : s.heap.Ns mainGlobals mg) (hlim : s.heap.NoLimit) (hb : s.heap.Ns builtinsNs mb) (boot : ∀ y : Str, y ≠ "__name__" → mb y = bootBuiltins y)
    (hroom : A.depth + 1 < recursionLimit)
    (fin : ∀ h' tk e d t1, New s.heap h' e C d t1 v → R (.ok (.ret (.ref e))) { s with heap := h', toks := tk }) :
    codeAny (model prog w) A (.call (.ref C) ⟨[v], []⟩) R s := by
  obtain ⟨nm, qn, N, bs, bm, sn, sub, ab, col, dd, k0, k1, k2, k3, k5, hC, hbm⟩ := T.cls
  obtain ⟨hp, g, dr, tk, os⟩ := s
  have k : ∀ b o, hp.get? b = some o → ((hp.push (kdv_tup [v])).push (excO C hp.objs.size)).get? b = some o := fun b o e => Heap.get?_push_of_some _ (Heap.get?_push_of_some _ e)
  have atE : ((hp.push (kdv_tup [v])).push (excO C hp.objs.size)).get? (hp.objs.size + 1) = some (excO C hp.objs.size) := by heap_get
  have off : K.lookup (hp.objs.size + 1) = none := by
    cases e : K.lookup (hp.objs.size + 1) with
    | none => rfl
    | some o => exact absurd (Nat.lt_of_succ_lt (Heap.lt_size (X _ _ e))) (Nat.lt_irrefl _)
  refine call_own F.excBase_ValueError (fun Y => refsVE_contains Y bm hbm) (X _ _ hC) (looks_findIn X T.iC) (fun self => bind_fn X self T.tC) (one_size v) ?_
  refine init (s := ⟨(hp.push (kdv_tup [v])).push (excO C hp.objs.size), g, dr, tk, os⟩) T (X.keeps k) (hg.keeps k) (hlim.keeps k) (hb.keeps k) boot atE off (show A.depth + 1 < recursionLimit from hroom) bind2 ?_
  rintro h' tk' dx t1 ⟨kp, ob, dn, dne, ns⟩
  have old : ∀ b o, hp.get? b = some o → h'.get? b = some o := fun b o e => kp b o (Nat.ne_of_lt (Nat.lt_succ_of_lt (Heap.lt_size e))) (k b o e)
  have z : hp.objs.size + 1 + 1 ≤ dx := by
    first
      | (simpa only [Heap.size_push] using dn)
      | exact dn
      | (have y := dn; rw [Heap.size_push, Heap.size_push] at y; exact y)
  exact ⟨rfl, fin h' tk' (hp.objs.size + 1) dx t1 ⟨old, Nat.le_succ _, ob, Nat.le_trans (Nat.le_trans (Nat.le_succ _) (Nat.le_succ _)) z, dne, ns⟩⟩
end
end SqX

set_option Elab.async false
set_option linter.all false
set_option maxRecDepth 100000
set_option maxHeartbeats 4000000
/-! The same by keyword. -/
namespace SqX
open PySem PySem.W PySem.Calls PySem.HandSPX
section
variable {M : Model} {prog : Program} {w : World} {A : Around} {E : Value → Shared → Prop} {R : Result → Shared → Prop} {h : Heap} {g : Array GenState} {d : Drawn} {t : Nat} {os : OsState}
variable {nm qn : Str} {C N : Addr} {bs bm : List Value} {sn : List Str} {sub : List Value} {ab : Bool} {col : Option Bool} {dd : Option Addr} {k0 k1 k2 k3 k5 : Option Value} {v : Value}
abbrev VC (nm qn : Str) (C N : Addr) (bs bm : List Value) (sn : List Str) (sub : List Value) (ab : Bool) (col : Option Bool) (dd : Option Addr) (k0 k1 k2 k3 k5 : Option Value) : Obj := excClassObj nm qn C N bs bm true sn sub ab col dd k0 k1 k2 k3 k5 "ValueError.__new__"
theorem newCheckK (refs : refsVE bm = true) {Q : Unit → Shared → Prop} (atC : h.get? C = some (VC nm qn C N bs bm sn sub ab col dd k0 k1 k2 k3 k5)) (fin : Q () ⟨h, g, d, t, os⟩) :
    wpAny M A (checkBuiltinCall "ValueError.__new__" ⟨[.ref C], [("value", v)]⟩) Q E ⟨h, g, d, t, os⟩ := by
  have F := F.excBase_ValueError
  have has : (Value.ref C :: bm).contains (.type "ValueError") = true := by
    rw [List.contains_cons, refsVE_contains _ _ refs, F.hasB, Bool.or_true]
  have star := F.noStar
  simp only [checkBuiltinCall, F.newKind, F.newSplit, F.newRow]
  repeat (first
    | refine wpAny_loadPart_at atC ?_
    | (refine wpAny_isSubtype_exc atC ?_; rw [has])
    | refine wpAny_staticBase_exc atC ?_
    | refine wpAny_madeBy_exc atC ?_
    | simp only [bne_self_eq_false, Bool.false_eq_true, if_false]
    | wp_step)
  exact fin
theorem newK (refs : refsVE bm = true) (atC : h.get? C = some (VC nm qn C N bs bm sn sub ab col dd k0 k1 k2 k3 k5))
    (fin : R (.ok (.ret (.ref (h.objs.size + 1)))) ⟨(h.push (kdv_tup [])).push (excO C h.objs.size), g, d, t, os⟩) :
    codeAny (model prog w) A (.builtin "ValueError.__new__" ⟨[.ref C], [("value", v)]⟩) R ⟨h, g, d, t, os⟩ := by
  have F := F.excBase_ValueError
  have ends := F.ends
  have has : ∀ Y : String, (Value.ref C :: bm).contains (.type Y) = veTail.contains (.type Y) := fun Y => by
    rw [List.contains_cons, refsVE_contains _ _ refs]
    rfl
  have yB : (Value.ref C :: bm).contains (.type "ValueError") = true := (has _).trans (by decide +kernel)
  have nA : (Value.ref C :: bm).contains (.type "AttributeError") = false := (has _).trans (by decide +kernel)
  have nN : (Value.ref C :: bm).contains (.type "NameError") = false := (has _).trans (by decide +kernel)
  refine codeAny_builtinAt F.entry ?_
  unfold Builtin.«BaseException.__new__»
  refine wpAt_bind ?_
  show wpAt _ _ _ (stack >>= _) _ _ _
  refine wpAt_bind (wpAt_stack fun p below => wpAt_of_wpAny ?_)
  wp_walk
  refine wpAt_of_wpAny ?_
  rw [F.owner]
  repeat (first
    | with_reducible refine wpAny_madeHere_exc F.canon atC ?_
    | with_reducible refine wpAny_loadPart_at atC ?_
    | (with_reducible refine wpAny_isSubtype_exc atC ?_; first | rw [yB] | rw [nA] | rw [nN])
    | wp_step)
  show R _ _
  rw [Heap.size_push]
  exact fin
theorem typeCheckK {Q : Unit → Shared → Prop} (atC : h.get? C = some (VC nm qn C N bs bm sn sub ab col dd k0 k1 k2 k3 k5)) (fin : Q () ⟨h, g, d, t, os⟩) :
    wpAny M A (checkBuiltinCall "type.__call__" ⟨[.ref C], [("value", v)]⟩) Q E ⟨h, g, d, t, os⟩ := by
  have f3 := tc_sub
  have isT : (⟨h, g, d, t, os⟩ : Shared).TypeIs (.ref C) "type" := ⟨_, atC, rfl⟩
  simp only [checkBuiltinCall, tc_kind, tc_split]
  repeat (any_goals (first
    | assumption
    | with_reducible refine wpAny_loadPart_at atC ?_
    | with_reducible refine wpAny_onRaise ?_
    | with_reducible refine wpAny_map ?_
    | wp_step))
theorem typeCallK (refs : refsVE bm = true) {fI : Addr} {Q : Fin → Shared → Prop} (atC : h.get? C = some (VC nm qn C N bs bm sn sub ab col dd k0 k1 k2 k3 k5))
    (lookI : W.Looks (model prog w) h (typeLookup (.ref C) "__init__") (some (.ref fI))) (bindI : ∀ self, W.Looks (model prog w) h (bindSpecial (.ref fI) self) (.ref fI, [self]))
    (fin : codeAny (model prog w) A (.call (.ref fI) ⟨[.ref (h.objs.size + 1)], [("value", v)]⟩)
      (fun r s' => match r with | .ok (.ret u) => u = .none ∧ Q (.done (.ret (.ref (h.objs.size + 1)))) s' | .ok _ => False | .error e => E e s')
      ⟨(h.push (kdv_tup [])).push (excO C h.objs.size), g, d, t, os⟩) :
    wpAny (model prog w) A (Builtin.«type.__call__» ⟨[.ref C], [("value", v)]⟩) Q E ⟨h, g, d, t, os⟩ := by
  have F := F.excBase_ValueError
  repeat (first
    | with_reducible refine wpAny_loadPart_at atC ?_
    | with_reducible refine wpAny_madeBy_exc atC ?_
    | wp_step)
  refine codeAny_call_builtin_code (Code.quiet_builtin _ F.quiet) (newCheckK refs atC ?_)
  refine newK refs atC ?_
  show wpAny _ _ _ _ _ _
  have kp : ∀ b o, h.get? b = some o → ((h.push (kdv_tup [])).push (excO C h.objs.size)).get? b = some o := fun b o e => Heap.get?_push_of_some _ (Heap.get?_push_of_some _ e)
  have atC1 := kp _ _ atC
  have atE : ((h.push (kdv_tup [])).push (excO C h.objs.size)).get? (h.objs.size + 1) = some (excO C h.objs.size) := by heap_get
  have own : (Value.ref C :: bm).contains (.ref C) = true := by simp
  have look1 := lookI.keeps kp
  have bind1 := (bindI (.ref (h.objs.size + 1))).keeps kp
  unfold isInstance
  repeat (first
    | with_reducible refine wpAny_loadPart_at atE ?_
    | (with_reducible refine wpAny_isSubtype_exc atC1 ?_; rw [own])
    | wp_step)
  show wpAny _ _ (typeLookup (.ref C) _) _ _ _
  refine look1.at ?_
  refine wpAny_holding (wpAny_bind (bind1.at ?_))
  refine wpAny_bind (wpAny_call (codeAny_mono fin fun r s' z => ?_))
  match r, z with
  | .error e, z => exact z
  | .ok (.ret u), z =>
    obtain ⟨rfl, z⟩ := z
    first
      | exact wpAny_pure (wpAny_pure z)
      | (wp_walk; exact z)
theorem callK (refs : refsVE bm = true) {fI : Addr} (atC : h.get? C = some (VC nm qn C N bs bm sn sub ab col dd k0 k1 k2 k3 k5))
    (lookI : W.Looks (model prog w) h (typeLookup (.ref C) "__init__") (some (.ref fI))) (bindI : ∀ self, W.Looks (model prog w) h (bindSpecial (.ref fI) self) (.ref fI, [self]))
    (fin : codeAny (model prog w) (A.under (.builtin "type.__call__" ⟨[.ref C], [("value", v)]⟩)) (.call (.ref fI) ⟨[.ref (h.objs.size + 1)], [("value", v)]⟩) (W.InitBack (h.objs.size + 1) R)
      ⟨(h.push (kdv_tup [])).push (excO C h.objs.size), g, d, t, os⟩) :
    codeAny (model prog w) A (.call (.ref C) ⟨[], [("value", v)]⟩) R ⟨h, g, d, t, os⟩ := by
  have f1 := tc_lookup
  have f2 := tc_bind (.ref C)
  have isT : (⟨h, g, d, t, os⟩ : Shared).TypeIs (.ref C) "type" := ⟨_, atC, rfl⟩
  refine codeAny_of_tree ?_
  show wpAny _ _ (callAny (.ref C) _) _ _ _
  repeat (any_goals (first
    | assumption
    | with_reducible refine wpAny_loadPart_at atC ?_
    | wp_step))
  refine ⟨rfl, ?_⟩
  refine codeAny_call_builtin_at (Code.quiet_builtin _ (by decide +kernel)) entry_typeCall (typeCheckK atC (typeCallK refs atC lookI bindI ?_))
  refine codeAny_mono fin fun r s' z => ?_
  match r, z with
  | .error e, z => exact z
  | .ok (.ret u), z => exact z
end
section
variable {prog : Program} {w : World} {A : Around} {R : Result → Shared → Prop} {K : Frag} {mg mb : Str → Option Value} {C fI : Addr} {q : Str}
theorem madeK {s : Shared} (T : Er K prog C fI q) {v : Value} (X : K.In s.heap) (hg : s.heap.Ns mainGlobals mg) (hlim : s.heap.NoLimit) (hb : s.heap.Ns builtinsNs mb) (boot : ∀ y : Str, y ≠ "__name__" → mb y = bootBuiltins y)
    (hroom : A.depth + 1 < recursionLimit)
    (fin : ∀ h' tk e d t1, New s.heap h' e C d t1 v → R (.ok (.ret (.ref e))) { s with heap := h', toks := tk }) :
    codeAny (model prog w) A (.call (.ref C) ⟨[], [("value", v)]⟩) R s := by
  obtain ⟨nm, qn, N, bs, bm, sn, sub, ab, col, dd, k0, k1, k2, k3, k5, hC, hbm⟩ := T.cls
  obtain ⟨hp, g, dr, tk, os⟩ := s
  have k : ∀ b o, hp.get? b = some o → ((hp.push (kdv_tup [])).push (excO C hp.objs.size)).get? b = some o := fun b o e => Heap.get?_push_of_some _ (Heap.get?_push_of_some _ e)
  have atE : ((hp.push (kdv_tup [])).push (excO C hp.objs.size)).get? (hp.objs.size + 1) = some (excO C hp.objs.size) := by heap_get
  have off : K.lookup (hp.objs.size + 1) = none := by
    cases e : K.lookup (hp.objs.size + 1) with
    | none => rfl
    | some o => exact absurd (Nat.lt_of_succ_lt (Heap.lt_size (X _ _ e))) (Nat.lt_irrefl _)
  refine callK hbm (X _ _ hC) (looks_findIn X T.iC) (fun self => bind_fn X self T.tC) ?_
  refine init (s := ⟨(hp.push (kdv_tup [])).push (excO C hp.objs.size), g, dr, tk, os⟩) T (X.keeps k) (hg.keeps k) (hlim.keeps k) (hb.keeps k) boot atE off (show A.depth + 1 < recursionLimit from hroom) bindK ?_
  rintro h' tk' dx t1 ⟨kp, ob, dn, dne, ns⟩
  have old : ∀ b o, hp.get? b = some o → h'.get? b = some o := fun b o e => kp b o (Nat.ne_of_lt (Nat.lt_succ_of_lt (Heap.lt_size e))) (k b o e)
  have z : hp.objs.size + 1 + 1 ≤ dx := by
    first
      | (simpa only [Heap.size_push] using dn)
      | exact dn
      | (have y := dn; rw [Heap.size_push, Heap.size_push] at y; exact y)
  exact ⟨rfl, fin h' tk' (hp.objs.size + 1) dx t1 ⟨old, Nat.le_succ _, ob, Nat.le_trans (Nat.le_trans (Nat.le_succ _) (Nat.le_succ _)) z, dne, ns⟩⟩
end
end SqX

set_option Elab.async false
set_option linter.all false
set_option maxRecDepth 100000
set_option maxHeartbeats 2000000
/-! Own errors as values of the layer: made by position and by name, isinstance of them, their value. -/
namespace Sq
open PySem PySem.Spec PyProof.Rows L2
/-- an error of the class at C stands at a, its dict at d; it holds v -/
def ErrAt (H : Hp) (a d C : Addr) (v : V) : Prop := H a = some (exo a C (some d)) ∧ H d = some (exd d [(("value" : Str), v)])
theorem ErrAt.same {H H' : Hp} {a d C : Addr} {v : V} (s : Same H H') (e : ErrAt H a d C v) : ErrAt H' a d C v := ⟨s _ _ e.1, s _ _ e.2⟩
def tErr (C : Addr) (te : TE) : TE := fun σ H Q => te σ H fun v H1 => ∀ a d, H1 a = none → H1 d = none → d ≠ a → Q (.ref a) (upd (upd H1 d (exd d [(("value" : Str), v)])) a (exo a C (some d)))
section
variable {X : Cx} {C fI : Addr} {q : Str} {pins : List (Addr × Obj)} {σ : L2.St} {H : Hp} {s : Shared} {Q : VK}
/-- a made error comes into the layer's heap -/
theorem err_laid {h' : Heap} {e d t1 : Addr} {v : V} {u : Value} {tk : Nat} (I : Inv X pins σ H s) (r : RelV v u) (M : SqX.New s.heap h' e C d t1 u)
    (h : ∀ a d, H a = none → H d = none → d ≠ a → Q (.ref a) (upd (upd H d (exd d [(("value" : Str), v)])) a (exo a C (some d)))) : EP X pins σ Q (.ref e) { s with heap := h', toks := tk } := by
  have he : H e = none := I.hok.fresh M.big
  have hd : H d = none := I.hok.fresh M.dbig
  obtain ⟨G, g1, g2⟩ := restrict h' fun b => decide (b ≠ e)
  have gk : ∀ b, b ≠ e → G.get? b = h'.get? b := fun b hb => g1 b (decide_eq_true hb)
  have ge : G.get? e = none := g2 e (by simp)
  have old : ∀ b o, s.heap.get? b = some o → G.get? b = some o := fun b o z => (gk b (Nat.ne_of_lt (Nat.lt_of_lt_of_le (Heap.lt_size z) M.big))).trans (M.keep b o z)
  have up : ∀ b o, G.get? b = some o → h'.get? b = some o := fun b o z => by
    by_cases hb : b = e
    · rw [hb, ge] at z
      cases z
    · rw [← gk b hb]
      exact z
  have rel : ∀ f, RelO (List.lookup f [(("value" : Str), v)]) (if f = "value" then some u else none) := relO_put (fs := []) (mA := fun _ => none) r fun g => True.intro
  have nsG : G.Ns1 d (fun y => if y = "value" then some u else none) := M.ns.at fun o z => (gk d M.dne).trans z
  have J : Inv X pins σ (upd H d (exd d [(("value" : Str), v)])) { s with heap := G, toks := tk } := I.laid (t' := tk) old M.dbig (exd_ok nsG rel)
  have he2 : (upd H d (exd d [(("value" : Str), v)])) e = none := by rw [upd_ne (Ne.symm M.dne)]; exact he
  have J2 : Inv X pins σ (upd (upd H d (exd d [(("value" : Str), v)])) e (exo e C (some d))) { s with heap := h', toks := tk } := J.laidN (t' := tk) up ge he2 (exo_ok M.obj)
  exact ⟨.ref e, _, J2, rfl, h e d he hd M.dne⟩
/-- X(e) -/
theorem pe_err {e : Expr} {te : TE} {x : Str} {p pos : Pos} {k : Nat} (T : SqX.Er X.K X.prog C fI q) (gC : X.mg x = some (.ref C)) (hr : Room k X.A) (hg : Gl X x) (he : PE X e te)
    (hs : starEach [e] X.env = (false, eval e X.env) :: starEach [] X.env := by rfl) (hdb : (x == ("__debug__" : Str)) = false := by decide) : PE X (.Call (.Name x p) [e] [] pos) (tErr C te) := by
  refine ⟨fun pins s σ H Q I h => ?_⟩
  refine wpAny_Call_Name_kw (ld_glob I hg gC ?_ hdb)
  refine PySem.W.callWith_K (h₀ := X.base) I.ok.mod.kin T.kC ?_ hs (by rfl)
  rw [hs]
  show wpAny _ _ (spliced ((false, eval e X.env) :: backTo pos (starEach [] X.env))) _ _ s
  refine Calls.spliced_cons (thn (he.run pins s σ H _ I h) fun u s1 hh => ?_)
  obtain ⟨v, H1, I1, r1, q1⟩ := hh
  refine Calls.spliced_nil ⟨I1.kIn, ?_⟩
  show wpAny _ _ (call (.ref C) [u]) _ _ _
  obtain ⟨mb, hb, boot⟩ := I1.ok.mod.blt
  exact wpAny_call (SqX.made T I1.kIn (I1.ok.mod.glob.keeps I1.bk) I1.nolimit (hb.keeps I1.bk) boot (by have := hr.dp; omega) fun h' tk e d t1 M => err_laid I1 r1 M q1)
/-- X(value=e) -/
theorem pe_errK {e : Expr} {te : TE} {x : Str} {p pos kp : Pos} {k : Nat} (T : SqX.Er X.K X.prog C fI q) (gC : X.mg x = some (.ref C)) (hr : Room k X.A) (hg : Gl X x) (he : PE X e te) (hdb : (x == ("__debug__" : Str)) = false := by decide)
    (hpl : ((backTo pos (starEach [] X.env)).any (·.1) || (backToKw pos (keywordEach [⟨some "value", e, kp⟩] X.env)).any (·.1.isNone)) = false := by rfl) : PE X (.Call (.Name x p) [] [⟨some "value", e, kp⟩] pos) (tErr C te) := by
  refine ⟨fun pins s σ H Q I h => ?_⟩
  refine wpAny_Call_Name_kw (ld_glob I hg gC ?_ hdb)
  refine PySem.W.callWith_KW0 (h₀ := X.base) I.ok.mod.kin T.kC (by rfl) ?_ hpl
  refine thn ((pk_cons he pk_nil).run pos pins s σ H (fun zs H' => match zs with | [v] => ∀ a d, H' a = none → H' d = none → d ≠ a → Q (.ref a) (upd (upd H' d (exd d [(("value" : Str), v)])) a (exo a C (some d))) | _ => False) I ?_) ?_
  · exact h
  · rintro ws s2 ⟨zs, H2, I2, rz, q2⟩
    obtain ⟨v, rfl, q2⟩ : ∃ v, zs = [v] ∧ ∀ a d, H2 a = none → H2 d = none → d ≠ a → Q (.ref a) (upd (upd H2 d (exd d [(("value" : Str), v)])) a (exo a C (some d))) := by
      match zs, q2 with
      | [v], q2 => exact ⟨v, rfl, q2⟩
    refine ⟨I2.kIn, ?_⟩
    cases rz with
    | cons r1 rn =>
      cases rn
      rename_i u
      obtain ⟨mb, hb, boot⟩ := I2.ok.mod.blt
      show wpAny _ _ (call (.ref C) [] [(("value" : Str), u)]) _ _ _
      exact wpAny_call (SqX.madeK T I2.kIn (I2.ok.mod.glob.keeps I2.bk) I2.nolimit (hb.keeps I2.bk) boot (by have := hr.dp; omega) fun h' tk e d t1 M => err_laid I2 r1 M q2)
end
end Sq

set_option Elab.async false
set_option linter.all false
set_option maxRecDepth 100000
set_option maxHeartbeats 2000000
namespace SqX
open PySem PySem.W PySem.Spec PySem.Calls
section
variable {prog : Program} {w : World} {A : Around} {E : Value → Shared → Prop} {s : Shared} {K : Frag} {x D : Addr} {ox : Obj} {od : Option Obj}
/-- err.__class__, whatever the error's own dict holds -/
theorem classOf (T : L2.ExcC K D) (X : K.In s.heap) (I : InstAt s.heap x ox D od) {Q : Option Value → Shared → Prop} (fin : Q (some (.ref D)) { s with toks := s.toks + 1 }) :
    wpAny (model prog w) A (getAttr? (.ref x) "__class__") Q E s := by
  have found : findObj K D od "__class__" = some (.bind (.builtin "getset_descriptor.__get__") (.builtin "object.__class__")) := by
    obtain ⟨cd, hc, _⟩ := any_some T.hd
    unfold findObj
    rw [hc, Option.bind_some, T.ha, Option.bind_some]
    simp [T.hn, T.ht]
  obtain ⟨hp, g, d, t, os⟩ := s
  have ty := I.type (M := model prog w)
  have hookA := looks_findIn (M := model prog w) X T.hg
  have hookB := looks_findIn (M := model prog w) X T.hk
  have look := looks_find (M := model prog w) X I found
  have isB : Looks (model prog w) hp (isInstance (.ref x) (.type "BaseException")) true := ty.andThen (looks_subIn X T.hs)
  have differ : (Value.builtin "BaseException.__getattribute__" == Value.builtin "object.__getattribute__") = false := by decide +kernel
  have off : (onTheHeap (Value.ref D) && Value.builtin "BaseException.__getattribute__" == Value.builtin "object.__getattribute__") = false := by
    rw [differ]
    rfl
  unfold getAttr? getAttrBy? getAttrBy
  refine wpAny_bind (wpAny_mkText (wpAny_bind (wpAny_attempt (wpAny_holding (wpAny_bind (ty.at (wpAny_bind (hookA.at ?_))))))))
  show wpAny _ _ (if (onTheHeap (Value.ref D) && Value.builtin "BaseException.__getattribute__" == Value.builtin "object.__getattribute__") = true then _ else _) _ _ _
  rw [off, if_neg Bool.false_ne_true]
  unfold getAttrByItsOwn hookBefore
  refine wpAny_bind ?_
  rw [if_pos (show onTheHeap (Value.ref D) = true from rfl)]
  refine hookB.at ?_
  refine wpAny_bind (wpAny_attempt (wpAny_holding ?_))
  unfold callGetattribute
  rw [show (false && onTheHeap (Value.builtin "BaseException.__getattribute__")) = false from rfl, if_neg Bool.false_ne_true]
  unfold boundAndCalled
  rw [PySem.F.excAttr_ValueError.ga.bind (.ref x)]
  refine wpAny_bind (wpAny_pure ?_)
  show wpAny _ _ (call (.builtin "BaseException.__getattribute__") [.ref x, .str "__class__" t]) _ _ _
  refine wpAny_call (codeAny_call_builtin PySem.F.excAttr_ValueError.ga.plain PySem.F.entry_bexc_ga ?_)
  refine @check_slot (model prog w) _ _ ⟨hp, g, d, t + 1, os⟩ "BaseException.__getattribute__" "BaseException" "__getattribute__" (.ref x) [.str "__class__" t] [] _ (by decide +kernel) (by decide +kernel) isB (PySem.F.args_bexc_ga (.ref x) (.str "__class__" t)) ?_
  unfold Builtin.«object.__getattribute__»
  refine wpAny_bind (wpAny_of_eq (a := ((Value.ref x : Value), [Value.str "__class__" t])) (by first | rfl | (simp only [slotArgs]; rfl)) ?_)
  refine wpAny_bind (wpAny_pure (wpAny_bind (ty.at (wpAny_bind (look.at ?_)))))
  show wpAny _ _ (holding [Value.builtin "object.__class__"] (call (.builtin "getset_descriptor.__get__") [.builtin "object.__class__", .ref x, .ref D]) >>= ret) _ _ _
  refine wpAny_bind (wpAny_holding (wpAny_call (class_get (s := ⟨hp, g, d, t + 1, os⟩) (ox := ox) (od := od) X I T.hm ?_)))
  refine wpAny_pure ?_
  show wpAny _ _ (handedOut (.ref D)) _ _ _
  rw [handedOut_of (v := .ref D) rfl]
  first
    | exact wpAny_pure (wpAny_pure fin)
    | exact wpAny_pure fin
    | exact wpAny_pure (wpAny_bind (wpAny_pure (wpAny_pure fin)))
theorem kit (T : L2.ExcC K D) : KitX K (.ref x) (.ref D) (fun h => InstAt h x ox D od) where
  ty := fun _ _ _ I => I.type
  it := fun _ _ X _ => by
    obtain ⟨cdD, found, _⟩ := any_some T.hd
    unfold clsIn at found
    split at found
    · rename_i c' d' cd' sl' there
      intro A' Q' E' s' keep q
      unfold isType loadHead
      exact wpAny_bind (wpAny_loadPart (keep _ _ (X _ _ there)) (wpAny_pure q))
    · cases found
  ne := fun h tp dd its n sl X tup => by
    obtain ⟨cdD, found, _⟩ := any_some T.hd
    refine Bool.eq_false_iff.mpr fun q => ?_
    obtain rfl : D = tp := Value.ref.inj (beq_iff_eq.mp q)
    unfold clsIn at found
    split at found
    · rename_i c' d' cd' sl' there
      cases (X _ _ there).symm.trans tup
    · cases found
  ca := fun X I fin => classOf T X I fin
end
end SqX
namespace Sq
open PySem PySem.Spec PyProof.Rows L2
theorem kit_own {K : PySem.W.Frag} {C D : Addr} {b : Bool} (h1 : PySem.W.isClsIn K D = true) (h2 : PySem.W.typeIn K (.ref D) = some (.type "type")) (h3 : PySem.W.subIn K (.ref C) (.ref D) = some b) (h4 : C = D → b = true) : PySem.W.kitOne K (.ref C) (.ref D) = some b := by
  unfold PySem.W.kitOne
  by_cases e : C = D
  · subst e
    rw [if_pos (by simp), h4 rfl]
  · rw [if_neg (by simpa using e)]
    show (if ((PySem.W.clsIn K D).isSome && PySem.W.typeIn K (.ref D) == some (.type "type")) = true then PySem.W.subIn K (.ref C) (.ref D) else none) = some b
    have h1' : (PySem.W.clsIn K D).isSome = true := h1
    rw [h1', h2, if_pos (by rfl)]
    exact h3
theorem kit_base {K : PySem.W.Frag} {C : Addr} {T : String} {b : Bool} (h1 : PySem.W.kitMeta T = true) (h3 : PySem.W.subIn K (.ref C) (.type T) = some b) : PySem.W.kitOne K (.ref C) (.type T) = some b := by
  unfold PySem.W.kitOne
  rw [if_neg (by simp)]
  show (if PySem.W.kitMeta T = true then PySem.W.subIn K (.ref C) (.type T) else none) = some b
  rw [if_pos h1]
  exact h3
def rIsiE (K : PySem.W.Frag) : List V → Hp → VK → Prop := fun xs H Q => ∃ (a d C : Addr) (v c : V) (u : Value) (b : Bool), xs = [.ref a, c] ∧ ClsV c u ∧ ErrAt H a d C v ∧ ExcC K C ∧ PySem.W.kitOne K (.ref C) u = some b ∧ Q (.bl b) H
section
variable {X : Cx}
theorem call_isiE : CallR X (.builtin "isinstance") (rIsiE X.K) := by
  intro pins s σ H xs us Q I r h
  obtain ⟨a, d, C, v, c, u, b, rfl, k, at_, T, e, q⟩ := h
  obtain ⟨u1, u2, rfl, r1, r2⟩ := vals2 r
  obtain rfl := k.eq r2
  obtain rfl : u1 = Value.ref a := r1
  obtain ⟨t1, ho⟩ := exo_at I.hok at_.1
  obtain ⟨mA, hns, _⟩ := exd_at I.hok at_.2
  obtain ⟨od, hod, _⟩ := lookIn_ns hns
  have J : PySem.W.InstAt s.heap a _ C (some od) := ⟨ho, rfl, rfl, hod⟩
  exact PySem.W.kia_one (SqX.kit (ox := _) (od := some od) T) I.kIn J e (fun z => nomatch z) fun tk => ⟨.bl b, H, I.tok tk, rfl, q⟩
/-- error.value -/
def tErrV (K : PySem.W.Frag) (te : TE) : TE := fun σ H Q => te σ H fun x H1 => ∃ (a d C : Addr) (v : V), x = .ref a ∧ ErrAt H1 a d C v ∧ XfC K C ∧ PySem.W.findIn K (.ref C) "value" = some none ∧ Q v H1
theorem pe_errV {e : Expr} {te : TE} {pos : Pos} (he : PE X e te) (hb : attributeBase e "value" X.env (eval e X.env) = eval e X.env := by rfl) : PE X (.Attribute e "value" pos) (tErrV X.K te) := by
  refine ⟨fun pins s σ H Q I h => ?_⟩
  refine attr_of hb (thn (he.run pins s σ H _ I h) fun u s1 hh => ?_)
  obtain ⟨x, H1, I1, rx, a, d, C, v, ex, at_, T, hno, q⟩ := hh
  subst ex
  obtain rfl : u = Value.ref a := rx
  obtain ⟨t1, ho⟩ := exo_at I1.hok at_.1
  obtain ⟨mA, hns, hr⟩ := exd_at I1.hok at_.2
  obtain ⟨od, hod, hl⟩ := lookIn_ns hns
  have l : List.lookup ("value" : Str) [(("value" : Str), v)] = some v := by simp [List.lookup]
  obtain ⟨u, hu, ru⟩ := RelO.some_of (v := v) (o := mA "value") (by rw [← l]; exact hr "value")
  have J : PySem.W.InstAt s1.heap a _ C (some od) := ⟨ho, rfl, rfl, hod⟩
  exact HandSPX.exc_get I1.kIn J T.ga T.gg T.exC (PySem.W.findObj_own T.hdC hno rfl (by rw [hl, hu])) (handed_of ru) ⟨v, H1, I1.tok _, ru, q⟩
end
end Sq

set_option Elab.async false
set_option linter.all false
set_option maxRecDepth 100000
set_option maxHeartbeats 2000000
/-! Own errors raised; a caught one kept behind its suite. -/
namespace Sq
open PySem PySem.Spec PyProof.Rows L2
/-- an error that was raised: its class and its dict are known -/
def exq (a C : Addr) (d : Option Addr) : HO := .ext fun h => ∃ (oe : Obj) (vs : Array Value), h.get? a = some oe ∧ Zc (.ref C) d oe ∧ oe.data = .fields vs
theorem exq_ok {P : Program} {w : World} {H : Hp} {h : Heap} {a C : Addr} {d : Option Addr} {oe : Obj} {vs : Array Value} (e : h.get? a = some oe) (z : Zc (.ref C) d oe) (hd : oe.data = .fields vs) : ObjOk P w H h a (exq a C d) :=
  ⟨⟨oe, vs, e, z, hd⟩, ⟨oe, e⟩, fun _ _ ⟨o, v, q, r⟩ k => ⟨o, v, k o q, r⟩⟩
theorem exq_at {P : Program} {w : World} {H : Hp} {h : Heap} {a C : Addr} {d : Option Addr} (hok : HOk P w H h) (e : H a = some (exq a C d)) : ∃ (oe : Obj) (vs : Array Value), h.get? a = some oe ∧ Zc (.ref C) d oe ∧ oe.data = .fields vs := by
  have x : ObjOk P w H h a (.ext fun h => ∃ (oe : Obj) (vs : Array Value), h.get? a = some oe ∧ Zc (.ref C) d oe ∧ oe.data = .fields vs) := hok a _ e
  exact x.1
section
variable {X : Cx} {pins : List (Addr × Obj)} {σ : L2.St} {H : Hp} {s : Shared}
/-- an object that came into being since the entry is tracked from now on -/
theorem tracked {a C : Addr} {d : Option Addr} {oe : Obj} {vs : Array Value} (I : Inv X pins σ H s) (na : H a = none) (n0 : X.s_0.heap.get? a = none) (e : s.heap.get? a = some oe) (z : Zc (.ref C) d oe) (hd : oe.data = .fields vs)
    (hp : ∀ p ∈ X.pn ++ pins, p.1 ≠ a) (nL : a ≠ X.env.locals) : Inv X pins σ (upd H a (exq a C d)) s := by
  refine ⟨I.ok, I.os, I.bare, ⟨I.base.keep, I.base.slot, fun b o q n hx => ?_, I.base.there, fun b xs q => ?_, fun b o xs q => ?_, fun b ps q => ?_⟩, I.loc, I.cell, ?_, fun x c q => ?_, fun p q => ?_, fun b u q => ?_, I.len⟩
  · rw [upd_ne (fun z => by rw [z, n0] at q; cases q)]
    exact I.base.free b o q n hx
  · have y := I.base.tups b xs q
    rw [upd_ne (ne_of_none y na)]
    exact y
  · have y := I.base.frzs b o xs q
    rw [upd_ne (ne_of_none y na)]
    exact y
  · obtain ⟨m, y⟩ := I.base.tbls b ps q
    exact ⟨m, by rw [upd_ne (ne_of_none y na)]; exact y⟩
  · rw [upd_ne (Ne.symm nL)]
    exact I.free
  · obtain ⟨v, o, ho, hv⟩ := I.cell x c q
    have ne : c ≠ a := fun z => by
      rw [z, e] at ho
      cases ho
      rw [hd] at hv
      cases hv
    rw [upd_ne ne]
    exact I.freeC x c q
  · obtain ⟨y1, y2, y3, y4, y5⟩ := I.pin p q
    exact ⟨y1, by rw [upd_ne (hp p q)]; exact y2, y3, y4, y5⟩
  · by_cases hb : b = a
    · subst hb
      rw [upd_same] at q
      cases q
      exact exq_ok e z hd
    · rw [upd_ne hb] at q
      exact (I.hok b u q).stay (fun _ _ _ y => y) (fun c y => by rw [upd_ne (ne_of_none y na)]; exact y) fun c xs y => by rw [upd_ne (ne_of_none y na)]; exact y
/-- the name of an except clause goes; all but the frame's own record stands -/
theorem gone_stays {M : Model} {A : Around} {E : Value → Shared → Prop} {i : Nat} {n : Str} {pos : Pos} {Q : Unit → Shared → Prop} (I : Inv X pins σ H s) (hN : X.N.Nodup) (hi : X.N[i]? = some n) (hl : X.env.kindOf n = some .local)
    (h : ∀ s', Inv X pins (σ.set i none) H s' → (∀ b o, b ≠ X.env.locals → s.heap.get? b = some o → s'.heap.get? b = some o) → Q () s') : wpAny M A (do bindName X.env n .none; unbindBehindTheSuite X.env n pos) Q E s := by
  obtain ⟨spaces, there, held⟩ := id I.loc
  have plain : (X.env.scope.kind == .class || (X.env.scope.kind == .module && X.env.locals != X.env.globals)) = false := by
    rw [I.ok.kind]
    rfl
  have older : ∀ b o, X.s_0.heap.get? b = some o → b ≠ X.env.locals := fun b o e => Nat.ne_of_lt (Nat.lt_of_lt_of_le (Heap.lt_size e) I.ok.above)
  refine wpAny_nameGoes_keeps hl there plain fun h2 v there2 but => h _ ?_ fun b o nb e => (but.2 b nb).trans e
  have base2 : Un X.fs X.ex X.H_0 H X.s_0.heap h2 := {
    keep := fun b o e n hb hx => (but.2 b (older b o e)).trans (I.base.keep b o e n hb hx)
    slot := fun b o e n hb hx => let ⟨sl, y⟩ := I.base.slot b o e n hb hx; ⟨sl, (but.2 b (older b o e)).trans y⟩
    free := I.base.free
    there := fun b o e hx => let ⟨o', y⟩ := I.base.there b o e hx; ⟨o', (but.2 b (older b o e)).trans y⟩
    tups := I.base.tups
    frzs := I.base.frzs
    tbls := I.base.tbls }
  have cells2 : ∀ y c, X.env.cells.lookup y = some c → ∃ w', h2.IsCell c w' := fun y c e => let ⟨w', z⟩ := I.cell y c e; ⟨w', z.sameBut but (I.cne y c e)⟩
  refine ⟨I.ok, I.os, I.bare, base2, ⟨_, there2, fun j y v' at_ val vis => ?_⟩, cells2, I.free, I.freeC, fun q hq => ?_, fun b ob eb => ?_, by simpa using I.len⟩
  · by_cases same : j = i
    · exfalso
      subst same
      rw [List.getElem?_set] at val
      split at val
      · split at val <;> cases val
      · rename_i z
        exact z rfl
    · rw [List.getElem?_set_ne (Ne.symm same)] at val
      obtain ⟨u', rel, place⟩ := held j y v' at_ val vis
      refine ⟨u', rel, place.elim (fun ⟨k, e⟩ => .inl ⟨k, ?_⟩) fun ⟨k, c, e, z⟩ => .inr ⟨k, c, e, z.sameBut but (I.cne y c e)⟩⟩
      have other : y ≠ n := fun e => same (nodup_ix hN at_ (e ▸ hi))
      exact (if_neg other).trans e
  · obtain ⟨y1, y2, y3, y4, y5⟩ := I.pin q hq
    exact ⟨(but.2 q.1 y3).trans y1, y2, y3, y4, y5⟩
  · refine (I.hok b ob eb).stay (fun c w' hc z => (but.2 c fun isL => ?_).trans z) (fun _ z => z) fun _ _ z => z
    subst isL
    rcases hc with hc | hc
    · rw [← hc, I.free] at eb
      cases eb
    · rw [I.free] at hc
      cases hc
/-- raise X(e): what is made -/
theorem pmk_er {C fI : Addr} {q : Str} {e : Expr} {te : TE} {x : Str} {p pos : Pos} {k : Nat} (T : SqX.Er X.K X.prog C fI q) (gC : X.mg x = some (.ref C)) (hr : Room k X.A) (hg : Gl X x) (he : PE X e te)
    (hs : starEach [e] X.env = (false, eval e X.env) :: starEach [] X.env := by rfl) (hdb : (x == ("__debug__" : Str)) = false := by decide) :
    PMk X (.Call (.Name x p) [e] [] pos) (fun σ H Q => te σ H fun v H1 => ∀ d, H1 d = none → Q (.ref C) (some d) (upd H1 d (exd d [(("value" : Str), v)]))) := by
  intro pins s σ H Q I h
  refine wpAny_Call_Name_kw (ld_glob I hg gC ?_ hdb)
  refine PySem.W.callWith_K (h₀ := X.base) I.ok.mod.kin T.kC ?_ hs (by rfl)
  rw [hs]
  show wpAny _ _ (spliced ((false, eval e X.env) :: backTo pos (starEach [] X.env))) _ _ s
  refine Calls.spliced_cons (thn (he.run pins s σ H _ I h) fun u s1 hh => ?_)
  obtain ⟨v, H1, I1, r1, q1⟩ := hh
  refine Calls.spliced_nil ⟨I1.kIn, ?_⟩
  show wpAny _ _ (call (.ref C) [u]) _ _ _
  obtain ⟨mb, hb, boot⟩ := I1.ok.mod.blt
  refine wpAny_call (SqX.made T I1.kIn (I1.ok.mod.glob.keeps I1.bk) I1.nolimit (hb.keeps I1.bk) boot (by have := hr.dp; omega) fun h' tk a d t1 M => ?_)
  have na : H1 a = none := I1.hok.fresh M.big
  have nd : H1 d = none := I1.hok.fresh M.dbig
  obtain ⟨G, g1, g2⟩ := restrict h' fun b => decide (b ≠ a)
  have gk : ∀ b, b ≠ a → G.get? b = h'.get? b := fun b hb => g1 b (decide_eq_true hb)
  have ga : G.get? a = none := g2 a (by simp)
  have old : ∀ b o, s1.heap.get? b = some o → G.get? b = some o := fun b o z => (gk b (Nat.ne_of_lt (Nat.lt_of_lt_of_le (Heap.lt_size z) M.big))).trans (M.keep b o z)
  have nsG : G.Ns1 d (fun y => if y = "value" then some u else none) := M.ns.at fun o z => (gk d M.dne).trans z
  have rel : ∀ f, RelO (List.lookup f [(("value" : Str), v)]) (if f = "value" then some u else none) := relO_put (fs := []) (mA := fun _ => none) r1 fun g => True.intro
  have J : Inv X pins σ (upd H1 d (exd d [(("value" : Str), v)])) { s1 with heap := G, toks := tk } := I1.laid (t' := tk) old M.dbig (exd_ok nsG rel)
  refine ⟨a, _, _, { s1 with heap := G, toks := tk }, _, .ref C, some d, rfl, J, fun b o z => ?_, ga, M.obj, ⟨rfl, rfl⟩, rfl, rfl, by rw [upd_ne (Ne.symm M.dne)]; exact na, rfl, I1.bare, raises_own T.exC T.tyC, q1 d nd⟩
  by_cases hb : b = a
  · rw [hb, ga] at z
    cases z
  · rw [← gk b hb]
    exact z
end
end Sq

set_option Elab.async false
set_option linter.all false
set_option maxRecDepth 100000
set_option maxHeartbeats 4000000
/-! try: .. except X as n: suite, where the caught error is still known behind it. -/
namespace Sq
open PySem PySem.Spec PyProof.Rows L2
/-- what the clause wishes of an error of the body; behind the suite the error stands at its place -/
def wKeep (K : PySem.W.Frag) (c : Value) (i : Nat) (ts : Addr → Value → Option Addr → TS) (Wout : WX) (D : Ends) : WX := fun cls d σ H =>
  ∃ b, PySem.W.exmOne K cls c = some b ∧
    (b = true → ∃ C, cls = .ref C ∧ ∀ a, H a = none → ts a cls d { nx := fun σ' H' => D.nx (σ'.set i none) (upd H' a (exq a C d)), rt := fun v H' => D.rt v (upd H' a (exq a C d)), bk := fun σ' H' => D.bk (σ'.set i none) (upd H' a (exq a C d)), ct := fun σ' H' => D.ct (σ'.set i none) (upd H' a (exq a C d)) } (σ.set i (some (.ref a))) H) ∧
    (b = false → Wout cls d σ H)
section
variable {X : Cx} {x n : Str} {c : Value} {i : Nat} {body suite : List Stmt} {b₀ : Stmt} {np pos pos' : Pos} {tb : WX → TS} {ts : Addr → Value → Option Addr → TS} {Wout : WX}
theorem ps_try_keep (stack : X.stack = X.env :: X.outer) (frame : X.env.frame = some X.env.locals) (noex : X.ex = []) (nodup : X.N.Nodup) (slot : X.N[i]? = some n) (isLocal : X.env.kindOf n = some .local) (named : Names X x c) (takes : Takes X Wout)
    (tried : ∀ (W : WX) (pn : List (Addr × Obj)) (xe : Value → Shared → Prop), Takes (X.tr pn xe) W → PassesOwn (model X.prog X.w) X.A X.env xe → PSs (X.tr pn xe) body (tb W))
    (caught : ∀ (a : Addr) (oe : Obj) (cls : Value) (d : Option Addr) (pn : List (Addr × Obj)), Zc cls d oe → (∃ vs, oe.data = .fields vs) → PSs (X.suite a ((a, oe) :: pn)) (b₀ :: suite) (ts a cls d)) :
    PS X (.Try body [.ExceptHandler (some (.Name x np)) (some n) (b₀ :: suite) pos'] [] [] pos) (fun D σ H => tb (wKeep X.K c i ts Wout D) D σ H) := by
  refine ⟨fun pins s σ H D I h => ?_⟩
  have ok := I.ok
  have frames : X.A.frames = some (X.env :: X.outer) := by rw [ok.frames, stack]
  refine wpAny_Try_except (wpAny_mono ((tried (wKeep X.K c i ts Wout D) (X.pn ++ pins) (fun e s₁ => wpAny (model X.prog X.w) X.A (noteFrame e X.env) (fun _ s₂ => wpAny (model X.prog X.w) X.A (setFlight e none) (fun _ s₃ =>
    wpAny (model X.prog X.w) X.A (handleBy e X.env [.ExceptHandler (some (.Name x np)) (some n) (b₀ :: suite) pos']) (SP X pins D) X.xe s₃) X.xe s₂) X.xe s₁) (fun u s' air => ?_) PassesOwn.looking).run [] s σ H D (I.toTry _) h) (fun f s1 done => ?_) (fun e s1 he => he))
  · obtain ⟨a, B, sI, pins2, σ2, H2, cls, d, rfl, J', ground, upto, sky, na, os, ag, b, match_, yes, no⟩ := air
    have J : Inv X pins σ2 H2 sI := J'.ofTry ok
    have sky2 : Sky B (X.env :: X.outer) a (Zc cls d) X.env.locals s'.heap := by
      rw [← stack]
      exact sky
    refine Sky.land Zc.steady frames frame sky2 fun h3 fl3 up3 => ?_
    have J3 : Inv X pins σ2 H2 { s' with heap := h3 } := J.landed ground fl3.1 (upto.trans up3) os ag
    obtain ⟨oe3, vs3, he3, hz3, hd3⟩ := fl3.there
    have noFrame : a ∉ frs (X.env :: X.outer) := fun hm => by
      obtain ⟨_, o', e', hnf⟩ := fl3.2.2.1.mem hm
      rw [he3] at e'
      cases e'
      exact hnf _ hd3
    have nL : a ≠ X.env.locals := fun z => noFrame (List.mem_filterMap.mpr ⟨X.env, List.mem_cons_self, by rw [frame, z]⟩)
    have nF : a ∉ X.fs := fun hm => by
      obtain ⟨e, he, q⟩ := List.mem_filterMap.mp hm
      exact noFrame (List.mem_filterMap.mpr ⟨e, List.mem_cons_of_mem _ he, q⟩)
    -- the error is younger than all that stood at the entry, and no pin
    have newI : sI.heap.get? a = none := by
      cases e : sI.heap.get? a with
      | none => rfl
      | some o =>
        have z := ground a o e (by rw [stack]; exact noFrame)
        rw [fl3.2.1] at z
        cases z
    have new0 : X.s_0.heap.get? a = none := by
      cases e : X.s_0.heap.get? a with
      | none => rfl
      | some o =>
        obtain ⟨o', z⟩ := J.base.there a o e (by rw [noex]; exact fun z => nomatch z)
        rw [newI] at z
        cases z
    have noPin : ∀ q ∈ X.pn ++ pins, q.1 ≠ a := fun q hq z => by
      have y := (J.pin q hq).1
      rw [z, newI] at y
      cases y
    have S3 := J3.suite he3 hd3 na nL nF
    refine wpAny_handleBy_cons (codeAny_handlers_test ?_) (by intro q; cases q)
    have LT : PySem.W.Looks (model X.prog X.w) h3 (typeOf (.ref a)) cls := fun A Q E s k q => wpAny_typeOf_ref (k _ _ he3) (by rw [hz3.1]; exact q)
    have LM := PySem.W.exm_one (M := model X.prog X.w) (J3.kIn) LT match_
    have test : ∀ {Q : Value → Shared → Prop} {E : Value → Shared → Prop}, Q c { s' with heap := h3 } → wpAny (model X.prog X.w) (X.A.mark (some (.ref a))) (eval (.Name x np) X.env) Q E { s' with heap := h3 } := fun {Q E} q => by
      obtain ⟨hg, hdbg, hm | ⟨hm, hv, hnn⟩⟩ := named
      · exact ld_glob (X := X.suite a ((a, oe3) :: (X.pn ++ pins))) S3 hg hm q hdbg
      · exact ld_blt (X := X.suite a ((a, oe3) :: (X.pn ++ pins))) S3 hg hm hv q hnn hdbg
    refine test (LM.here ?_)
    cases b with
    | true =>
      obtain ⟨C, rfl, yes⟩ := yes rfl
      refine codeAny_handlers_suite_as ?_
      refine HandSPX.lands_againZ fl3 fun h4 fl4 up4 => ?_
      have J4 : Inv X pins σ2 H2 { s' with heap := h4 } := J.landed ground fl4.1 ((upto.trans up3).trans up4) os ag
      obtain ⟨oe4, vs4, he4, hz4, hd4⟩ := fl4.there
      have S4 := J4.suite he4 hd4 na nL nF
      refine store_ok (X := X.suite a ((a, oe4) :: (X.pn ++ pins))) (v := .ref a) S4 nodup slot (.inl isLocal) rfl (fun s5 S5 => ?_) (.inr isLocal)
      refine wpAny_mono ((caught a oe4 (.ref C) d (X.pn ++ pins) hz4 ⟨_, hd4⟩).run [] s5 _ H2 _ S5 (yes a na)) (fun f s6 after => ?_) (fun _ _ z => False.elim z)
      have leave : ∀ {σ6 : L2.St} {H6 : Hp} {Q : Shared → Prop}, Inv (X.suite a ((a, oe4) :: (X.pn ++ pins))) [] σ6 H6 s6 → (∀ s7, Inv X pins (σ6.set i none) (upd H6 a (exq a C d)) s7 → Q s7) →
          wpAny (model X.prog X.w) X.A (do bindName X.env n .none; unbindBehindTheSuite X.env n pos') (fun _ s7 => Q s7) X.xe s6 := fun {σ6 H6 Q} S6 hq => by
        obtain ⟨p1, p2, _⟩ := S6.pin (a, oe4) (List.mem_append_left _ List.mem_cons_self)
        exact gone_stays (S6.unsuite ok) nodup slot isLocal fun s7 J7 stays => hq s7 (tracked J7 p2 new0 (stays a oe4 nL p1) hz4 hd4 noPin nL)
      cases f with
      | next =>
        obtain ⟨σ6, H6, S6, q6⟩ := after
        exact leave S6 fun s7 J7 => ⟨_, _, J7, q6⟩
      | brk =>
        obtain ⟨σ6, H6, S6, q6⟩ := after
        exact leave S6 fun s7 J7 => ⟨_, _, J7, q6⟩
      | cont =>
        obtain ⟨σ6, H6, S6, q6⟩ := after
        exact leave S6 fun s7 J7 => ⟨_, _, J7, q6⟩
      | ret u =>
        obtain ⟨v6, σ6, H6, S6, r6, q6⟩ := after
        exact leave S6 fun s7 J7 => ⟨_, _, _, J7, r6, q6⟩
    | false =>
      show wpAny _ X.A (handleBy (.ref a) X.env []) _ _ _
      refine wpAny_handleBy_nil ?_
      obtain ⟨k1, k2, k3, oe, vs, T, oT, ts', he, hz, hd, h1, rest⟩ := id fl3
      unfold PySem.passOn
      refine wpAny_bind (wpAny_field he hd h1 ?_)
      rw [if_neg (show ¬ ((Value.ref T == Value.none) = true) from by simp)]
      have fin : wpAny (model X.prog X.w) X.A (setFlight (.ref a) X.env.frame) (fun _ s4 => wpAny (model X.prog X.w) X.A (throw (.ref a) : Sem Flow) (SP X pins D) X.xe s4) X.xe { s' with heap := h3 } := by
        rw [frame]
        refine HandSPX.setFlight_upZ fl3 fun h4 hh4 up4 => wpAny_throw (takes _ _ ?_)
        exact ⟨a, B, sI, pins, σ2, H2, cls, d, rfl, J, ground, (upto.trans up3).trans up4, .inr (.inr (by rw [stack]; exact hh4)), na, os, ag, no rfl⟩
      first
        | exact wpAny_bind (wpAny_pure (wpAny_bind fin))
        | exact wpAny_bind fin
  · cases f with
    | next =>
      obtain ⟨σ2, H2, J', q⟩ := done
      exact wpAny_execs_nil ⟨σ2, H2, J'.ofTry ok, q⟩
    | brk =>
      obtain ⟨σ2, H2, J', q⟩ := done
      exact ⟨σ2, H2, J'.ofTry ok, q⟩
    | cont =>
      obtain ⟨σ2, H2, J', q⟩ := done
      exact ⟨σ2, H2, J'.ofTry ok, q⟩
    | ret u =>
      obtain ⟨v, σ2, H2, J', r, q⟩ := done
      exact ⟨v, σ2, H2, J'.ofTry ok, r, q⟩
end
/-! ### what is asked of a caught error -/
/-- an error of the class at C was caught at a, its dict at d; it holds v -/
def CaughtAt (H : Hp) (a d C : Addr) (v : V) : Prop := H a = some (exq a C (some d)) ∧ H d = some (exd d [(("value" : Str), v)])
theorem CaughtAt.same {H H' : Hp} {a d C : Addr} {v : V} (s : Same H H') (e : CaughtAt H a d C v) : CaughtAt H' a d C v := ⟨s _ _ e.1, s _ _ e.2⟩
theorem caught_obj {X : Cx} {pins : List (Addr × Obj)} {σ : L2.St} {H : Hp} {s : Shared} {a d C : Addr} {v : V} (I : Inv X pins σ H s) (e : CaughtAt H a d C v) :
    ∃ ox od u, PySem.W.InstAt s.heap a ox C (some od) ∧ PySem.W.lookIn "value" od = some (some u) ∧ RelV v u := by
  obtain ⟨oe, vs, ho, z, hd⟩ := exq_at I.hok e.1
  obtain ⟨mA, hns, hr⟩ := exd_at I.hok e.2
  obtain ⟨od, hod, hl⟩ := lookIn_ns hns
  have l : List.lookup ("value" : Str) [(("value" : Str), v)] = some v := by simp [List.lookup]
  obtain ⟨u, hu, ru⟩ := RelO.some_of (v := v) (o := mA "value") (by rw [← l]; exact hr "value")
  exact ⟨oe, od, u, ⟨ho, z.1, by unfold PySem.W.notCls; rw [hd] <;> rfl, by rw [z.2]; exact hod⟩, by rw [hl, hu], ru⟩
end Sq
namespace Sq
open PySem PySem.Spec PyProof.Rows L2
section
variable {X : Cx}
def rIsiQ (K : PySem.W.Frag) : List V → Hp → VK → Prop := fun xs H Q => ∃ (a d C : Addr) (v c : V) (u : Value) (b : Bool), xs = [.ref a, c] ∧ ClsV c u ∧ CaughtAt H a d C v ∧ ExcC K C ∧ PySem.W.kitOne K (.ref C) u = some b ∧ Q (.bl b) H
theorem call_isiQ : CallR X (.builtin "isinstance") (rIsiQ X.K) := by
  intro pins s σ H xs us Q I r h
  obtain ⟨a, d, C, v, c, u, b, rfl, k, at_, T, e, q⟩ := h
  obtain ⟨u1, u2, rfl, r1, r2⟩ := vals2 r
  obtain rfl := k.eq r2
  obtain rfl : u1 = Value.ref a := r1
  obtain ⟨ox, od, uv, J, _, _⟩ := caught_obj I at_
  exact PySem.W.kia_one (SqX.kit (ox := ox) (od := some od) T) I.kIn J e (fun z => nomatch z) fun tk => ⟨.bl b, H, I.tok tk, rfl, q⟩
/-- isinstance(error, (X, Y)) -/
def rIsiQT (K : PySem.W.Frag) : List V → Hp → VK → Prop := fun xs H Q => ∃ (a d C tp : Addr) (v : V) (cs : List V) (us : List Value) (b : Bool), xs = [.ref a, .ref tp] ∧ H tp = some (.tup cs) ∧ Paired ClsV cs us ∧ CaughtAt H a d C v ∧ ExcC K C ∧ PySem.W.kitAny K (.ref C) us = some b ∧ Q (.bl b) H
theorem call_isiQT : CallR X (.builtin "isinstance") (rIsiQT X.K) := by
  intro pins s σ H xs vs Q I r h
  obtain ⟨a, d, C, tp, v, cs, us, b, rfl, ht, pc, at_, T, e, q⟩ := h
  obtain ⟨u1, u2, rfl, r1, r2⟩ := vals2 r
  obtain rfl : u1 = Value.ref a := r1
  obtain rfl : u2 = Value.ref tp := r2
  obtain ⟨ox, od, uv, J, _, _⟩ := caught_obj I at_
  obtain ⟨few, its, rv, ob, there, isT, n, data⟩ := (show ObjOk X.prog X.w H s.heap tp (.tup cs) from I.hok tp _ ht)
  have same := ClsV.all pc rv
  subst same
  obtain ⟨oc, dct, dt, sl⟩ := ob
  simp only at isT data
  subst isT data
  exact PySem.W.kia_tup (SqX.kit (ox := ox) (od := some od) T) I.kIn J there e (fun z => nomatch z) fun tk => ⟨.bl b, H, I.tok tk, rfl, q⟩
/-- error.value of a caught one -/
def tQv (K : PySem.W.Frag) (te : TE) : TE := fun σ H Q => te σ H fun x H1 => ∃ (a d C : Addr) (v : V), x = .ref a ∧ CaughtAt H1 a d C v ∧ XfC K C ∧ PySem.W.findIn K (.ref C) "value" = some none ∧ Q v H1
theorem pe_qv {e : Expr} {te : TE} {pos : Pos} (he : PE X e te) (hb : attributeBase e "value" X.env (eval e X.env) = eval e X.env := by rfl) : PE X (.Attribute e "value" pos) (tQv X.K te) := by
  refine ⟨fun pins s σ H Q I h => ?_⟩
  refine attr_of hb (thn (he.run pins s σ H _ I h) fun u s1 hh => ?_)
  obtain ⟨x, H1, I1, rx, a, d, C, v, ex, at_, T, hno, q⟩ := hh
  subst ex
  obtain rfl : u = Value.ref a := rx
  obtain ⟨ox, od, uv, J, l, ru⟩ := caught_obj I1 at_
  exact HandSPX.exc_get I1.kIn J T.ga T.gg T.exC (PySem.W.findObj_own T.hdC hno rfl l) (handed_of ru) ⟨v, H1, I1.tok _, ru, q⟩
end
end Sq

set_option Elab.async false
set_option linter.all false
set_option maxRecDepth 100000
set_option maxHeartbeats 2000000
/-! A walk that is left at its first item: for x in g(..): break. -/
namespace Sq
open PySem PySem.Spec PyProof.Rows L2 GenW
def Y1 (P : Program) (w : World) (outer : List Env) (H : Hp) (s : Shared) (a : Addr) (g : Nat) (q : V → Hp → Prop) : Protocol := fun _ _ v s1 _ =>
  s1.os = s.os ∧ AllBare s1.gens ∧ s1.heap.IsGen a g ∧ ∃ x H', Un (frs outer) [] H H' s.heap s1.heap ∧ HOk P w H' s1.heap ∧ RelV x v ∧ q x H'
def R1 (P : Program) (w : World) (outer : List Env) (H : Hp) (s : Shared) (a : Addr) (g : Nat) (E : XK) : GenEnd := fun _ _ r s1 => ∃ e, r = .error e ∧ CX P w outer H s E e s1 ∧ s1.heap.IsGen a g
/-- a generator that has not begun: its first item, or an error -/
def GFst (P : Program) (w : World) (k : Nat) (outer : List Env) (H : Hp) (s : Shared) (q : V → Hp → Prop) (E : XK) (u : Value) (s' : Shared) : Prop :=
  ∃ (a : Addr) (g : Nat) (c : Code), u = .ref a ∧ s.heap.objs.size ≤ a ∧ s'.heap.IsGen a g ∧ s'.gens[g]? = some (.fresh c) ∧ s'.os = s.os ∧ AllBare s'.gens ∧ s'.heap.NoLimit ∧ (∀ b o, s.heap.get? b = some o → s'.heap.get? b = some o) ∧
    ∀ (A : Around) (s2 : Shared), Room k A → A.frames = some outer → (∀ b o, s'.heap.get? b = some o → s2.heap.get? b = some o) → s2.os = s.os → AllBare s2.gens →
      Seg (model P w) A (R1 P w outer H s a g E) (Y1 P w outer H s a g q) 1 s2 c ((model P w).den c) [] s2
abbrev SpF := List V → Hp → (V → Hp → Prop) → XK → Prop
structure GFn1 (P : Program) (w : World) (K : PySem.W.Frag) (mg : Str → Option Value) (base : Heap) (k : Nat) (f : Addr) (fd : FuncData) (ps : List Str) (sp : SpF) : Prop where
  len : ∀ vs H Q E, sp vs H Q E → vs.length = ps.length
  run : ∀ (A : Around) (outer : List Env) (s : Shared) (H : Hp) (args : Args) (us : List Value) (vs : List V) (Q : V → Hp → Prop) (E : XK), Room k A → Env0 P w K mg base A outer s H → BindsTo s fd args (ps.zip us) → Vals vs us → sp vs H Q E →
    codeAny (model P w) A (.call (.ref f) args) (fun r s' => match r with | .ok (.ret u) => GFst P w k outer H s Q E u s' | _ => False) s
/-- two statements, then the first yield -/
theorem gfn1_of {P : Program} {w : World} {K : PySem.W.Frag} {mg : Str → Option Value} {base : Heap} {k : Nat} {f : Addr} {name qual : Str} {params : Arguments} {st1 st2 : Stmt} {ey : Expr} {yp ypos : Pos} {rest : List Stmt} {scope : Scope} {dV kV doc pm cdv ct oc : Value} {an od : Option Addr}
    {osl : Array (Option Value)} {N ps : List Str} {sp : SpF} (found : K.lookup f = some ⟨oc, od, .func (PySem.W.fnOf name qual params (st1 :: st2 :: .Expr (.Yield (some ey) yp) ypos :: rest) scope dV kV doc pm an cdv ct), osl⟩) (coded : PySem.W.codeIn K cdv qual = true) (S : GScope N ps scope)
    (len : ∀ vs H Q E, sp vs H Q E → vs.length = ps.length) (inter : ∀ n : Nat, interactive (envOfC qual scope n f cdv) = false)
    (inner : ∀ (A : Around) (outer : List Env) (s : Shared) (H : Hp) (vs : List V) (Q : V → Hp → Prop) (E : XK) (pn : List (Addr × Obj)), Room k (A.deeper (envOfC qual scope s.heap.objs.size f cdv)) → sp vs H Q E →
      ∃ t1 t2 te, PS (gcxOf P w K mg base N qual scope f cdv A outer s H E pn) st1 t1 ∧ PS (gcxOf P w K mg base N qual scope f cdv A outer s H E pn) st2 t2 ∧ PE (gcxOf P w K mg base N qual scope f cdv A outer s H E pn) ey te ∧
        t1 { nx := fun σ1 H1 => t2 { nx := fun σ2 H2 => te σ2 H2 Q, rt := fun _ _ => False } σ1 H1, rt := fun _ _ => False } (start N vs) H) :
    GFn1 P w K mg base (k + 1) f (PySem.W.fnOf name qual params (st1 :: st2 :: .Expr (.Yield (some ey) yp) ypos :: rest) scope dV kV doc pm an cdv ct) ps sp := by
  refine ⟨len, fun A outer s H args us vs Q E room e0 bound rel wish => ?_⟩
  have few := len _ _ _ _ wish
  have inK : K.In s.heap := e0.mod.kin.keeps fun b o e => (e0.bs b o e).1
  have noLim : s.heap.NoLimit := e0.mod.nolimit.keeps fun b o e => (e0.bs b o e).1
  have kinds : ∀ y ∈ ps.zip us, scope.names.lookup y.1 = some .local ∨ (scope.names.lookup y.1 = some .cell ∧ ((cellsFrom (s.heap.objs.size + 1) scope.names []).lookup y.1).isSome = true) := fun ⟨n, v⟩ hy =>
    (S.par n (List.of_mem_zip hy).1).elim .inl fun z => .inr ⟨z, PySem.W.cellsFrom_some _ _ _ (.inl z)⟩
  refine codeAny_call_generator room.depth (inK _ _ found) rfl S.co S.gen rfl (PySem.W.codeRec_of inK coded) (bound _ _ _ _ ?_)
  refine wpAny_newFunctionEnv_cells S.kind kinds fun env he s1 made => ?_
  subst he
  have lim1 : s1.heap.NoLimit := noLim.keeps made.toInCall.keep
  refine ⟨lim1, ?_⟩
  obtain ⟨h1, tk, es1, keep1⟩ := made.done
  have os1 : s1.os = s.os := by rw [es1]
  have gen1 : s1.gens = s.gens := by rw [es1]
  have lt1 : s.heap.objs.size < s1.heap.objs.size := made.toInCall.ns.lt
  have keepS : ∀ b o, s.heap.get? b = some o → s1.heap.get? b = some o := made.toInCall.keep
  suffices main : ∀ (go : Obj) (nm qn : Value) (tk2 : Nat), go.cls = .type "generator" → go.data = .fields #[.int s1.gens.size 0, nm, qn] → go.slots = #[] → (∀ h : Heap, (h.push go).get? h.objs.size = some go) →
      GFst P w (k + 1) outer H s Q E (.ref s1.heap.objs.size) { s1 with gens := s1.gens.push (.fresh (.func (st1 :: st2 :: .Expr (.Yield (some ey) yp) ypos :: rest) (envOfC qual scope s.heap.objs.size f cdv))), toks := tk2, heap := s1.heap.push go } from
    main _ _ _ _ rfl rfl rfl fun h => Heap.get?_push_size _ rfl
  intro go nm qn tk2 isG dataG slotsG pushG
  have isGen : ∀ h : Heap, h.get? s1.heap.objs.size = some go → h.IsGen s1.heap.objs.size s1.gens.size := fun h e => ⟨go, nm, qn, e, isG, dataG, slotsG⟩
  refine ⟨s1.heap.objs.size, s1.gens.size, _, rfl, Nat.le_of_lt lt1, isGen _ (pushG _), Array.getElem?_push_size .., os1, AllBare.push (by rw [gen1]; exact e0.bare) rfl, lim1.keeps fun b o e => Heap.get?_push_of_some _ e, fun b o e => Heap.get?_push_of_some _ (keepS b o e), ?_⟩
  intro Aw s2 roomW framesW keep2 os2 bare2
  have e0w : Env0 P w K mg base Aw outer s H := ⟨framesW, e0.mod, e0.bs, e0.bsz, e0.funs, e0.frf, e0.hok, e0.bare⟩
  obtain ⟨t1, t2, te, p1, p2, pe, reading⟩ := inner Aw outer s H vs Q E [(s1.heap.objs.size, go)] (roomW.deeper _) wish
  have I1 : Inv (gcxOf P w K mg base N qual scope f cdv Aw outer s H E []) [] (start N vs) H s1 := inv_startG S roomW.hd e0w few rel made
  have keep12 : ∀ b o, s1.heap.get? b = some o → s2.heap.get? b = some o := fun b o e => keep2 b o (Heap.get?_push_of_some _ e)
  have I2 : Inv (gcxOf P w K mg base N qual scope f cdv Aw outer s H E []) [] (start N vs) H s2 :=
    I1.call' (ch := []) (os2.trans os1.symm) (Un.kept keep12) (I1.hok.kept keep12) bare2 fun b z => by simp at z
  have thereG : s2.heap.get? s1.heap.objs.size = some go := keep2 s1.heap.objs.size go (pushG _)
  have I3 : Inv (gcxOf P w K mg base N qual scope f cdv Aw outer s H E [(s1.heap.objs.size, go)]) [] (start N vs) H s2 := Inv.pinnedG I2 fun p hp => by
    have hp' : p = (s1.heap.objs.size, go) := by simpa using hp
    rw [hp']
    exact ⟨thereG, I1.hok.fresh (Nat.le_refl _), Nat.ne_of_gt lt1, I1.nofs (Nat.le_refl _), fun v q => by rw [dataG] at q; cases q⟩
  have stillG : ∀ {σ' : L2.St} {H' : Hp} {s' : Shared}, Inv (gcxOf P w K mg base N qual scope f cdv Aw outer s H E [(s1.heap.objs.size, go)]) [] σ' H' s' → s'.heap.IsGen s1.heap.objs.size s1.gens.size := fun J =>
    isGen _ (J.pin (s1.heap.objs.size, go) (by simp [gcxOf])).1
  refine seg_func ?_
  have away : ∀ (n : Nat) (s₀ : Shared) (e : Value) (s' : Shared), (gcxOf P w K mg base N qual scope f cdv Aw outer s H E [(s1.heap.objs.size, go)]).xe e s' →
      Seg (model P w) Aw (R1 P w outer H s s1.heap.objs.size s1.gens.size E) (Y1 P w outer H s s1.heap.objs.size s1.gens.size Q) n s₀ (.func (st1 :: st2 :: .Expr (.Yield (some ey) yp) ypos :: rest) (envOfC qual scope s.heap.objs.size f cdv))
        ((leaving (envOfC qual scope s.heap.objs.size f cdv) e).wrap (fun _ => .raise e) .raise id id) [] s' := fun n s₀ e s' hx => by
    refine seg_wrap ?_
    rw [over_func]
    refine wpAny_mono (show wpAny (model P w) (Aw.deeper (envOfC qual scope s.heap.objs.size f cdv)) (leaving (envOfC qual scope s.heap.objs.size f cdv) e) (fun _ s'' => CX P w outer H s E e s'' ∧ ∀ p ∈ [(s1.heap.objs.size, go)], s''.heap.get? p.1 = some p.2) (fun _ _ => False) s' from hx) (fun _ s'' q => ?_) fun _ s'' q => q.elim
    exact seg_end (.error e) ⟨e, rfl, q.1, isGen _ (q.2 (s1.heap.objs.size, go) (List.mem_singleton.mpr rfl))⟩
  refine seg_execs_cons (seg_wrap ?_)
  rw [over_func]
  refine wpAny_mono (p1.run [] s2 (start N vs) H _ I3 reading) (fun fl s3 q3 => ?_) fun e s3 hx => away _ _ e s3 hx
  cases fl with
  | brk => exact q3.elim fun _ z => z.elim fun _ z => False.elim z.2
  | cont => exact q3.elim fun _ z => z.elim fun _ z => False.elim z.2
  | ret u => exact q3.elim fun _ z => z.elim fun _ z => z.elim fun _ z => False.elim z.2.2
  | next =>
    obtain ⟨σ3, H3, J3, r3⟩ := q3
    refine seg_execs_cons (seg_wrap ?_)
    rw [over_func]
    refine wpAny_mono (p2.run [] s3 σ3 H3 _ J3 r3) (fun fl s4 q4 => ?_) fun e s4 hx => away _ _ e s4 hx
    cases fl with
    | brk => exact q4.elim fun _ z => z.elim fun _ z => False.elim z.2
    | cont => exact q4.elim fun _ z => z.elim fun _ z => False.elim z.2
    | ret u => exact q4.elim fun _ z => z.elim fun _ z => z.elim fun _ z => False.elim z.2.2
    | next =>
      obtain ⟨σ4, H4, J4, r4⟩ := q4
      refine seg_execs_cons (seg_Expr_Yield rfl rfl rfl ?_ S.co (inter _))
      rw [over_func]
      refine wpAny_mono (pe.run [] s4 σ4 H4 _ J4 r4) (fun v s5 q5 => ?_) fun e s5 hx => away _ _ e s5 hx
      obtain ⟨x, H5, J5, rv, q⟩ := q5
      intro kap hk
      exact ⟨J5.os, J5.bare, stillG J5, x, H5, J5.base, J5.hok, rv, q⟩
end Sq
namespace Sq
open PySem PySem.Spec PyProof.Rows L2 GenW
/-- for x in g(e, ..): break -/
def tFirst (sp : SpF) (E : L2.St → XK) (t : TA) (i : Nat) : TS := fun D σ H => t σ H fun vs H1 => sp vs H1 (fun v H2 => D.nx (σ.set i (some v)) H2) (E σ)
section
variable {X : Cx} {k i : Nat} {f : Addr} {fd : FuncData} {ps : List Str} {sp : SpF} {E : L2.St → XK} {x y : Str} {p op bp cpos pos : Pos} {e : Expr} {es : List Expr} {t : TA}
theorem ps_first (F : GFn1 X.prog X.w X.K X.mg X.base k f fd ps sp) (hr : Room (k + 1) X.A) (hg : Gl X x) (hm : X.mg x = some (.ref f)) (hk : PySem.W.keepIn X.K (.ref f) = true) (hb : Binds X.K fd ps []) (ha : PA X (e :: es) t)
    (hx : ∀ σ, PassesAt (L2.CX X.prog X.w) X σ (E σ)) (ns : ∀ σ, NoStop X.K (E σ)) (own : PassesOwn (model X.prog X.w) X.A X.env X.xe) (hN : X.N.Nodup) (hi : X.N[i]? = some y) (hl : Loc X.env.scope y) (hfn : X.fn y = true ∨ X.env.scope.names.lookup y = some .local)
    (hdb : (x == ("__debug__" : Str)) = false := by decide) (he : starEach (e :: es) X.env = (false, eval e X.env) :: starEach es X.env := by rfl) (hpl : (backTo cpos (starEach es X.env)).any (·.1) = false := by rfl) :
    PS X (.For (.Name y op) (.Call (.Name x p) (e :: es) [] cpos) [.Break bp] [] pos) (tFirst sp E t i) := by
  refine ⟨fun pins s σ H D I h => ?_⟩
  refine wpAny_For (wpAny_Call_Name_kw (ld_glob I hg hm ?_ hdb)) (by intro _; rfl)
  refine PySem.W.callWith_K (h₀ := X.base) I.ok.mod.kin hk (thn (ha.run cpos pins s σ H _ I h) fun us s1 hh => ?_) he hpl
  obtain ⟨vs, H1, I1, r1, q⟩ := hh
  refine ⟨I1.kIn, ?_⟩
  have few : us.length = ps.length := by rw [← r1.length]; exact F.len _ _ _ _ q
  have bind := hb s1 us I1.kIn (by rw [List.append_nil]; exact few)
  rw [List.append_nil] at bind
  refine wpAny_call (codeAny_mono (F.run X.A X.stack s1 H1 ⟨us, []⟩ us vs _ (E σ) (hr.mono (by omega)) I1.env0 bind r1 q) fun r s2 hq => ?_)
  match r, hq with
  | .ok (.ret u), hq =>
    obtain ⟨a, g, c, rfl, ha1, isG, fresh, os2, bare2, lim2, keep2, wake⟩ := hq
    refine wpAny_pyIter_gen isG ?_
    refine codeAny_forLoop_any (fun n s' => s' = s2) (fun n s' hs => ?_) 0 rfl
    subst hs
    have seg := wake X.A.in1 (s'.setGen g .running) ⟨hr.hd, by have := hr.dp; show X.A.depth + 3 * k + 5 < _; omega, by have := hr.un; show X.A.units + 1 + 16 * k + 200 < _; omega⟩ I1.ok.frames (fun b o e => e) os2 (allBare_setGen bare2 rfl)
    have goes : (GenState.fresh c).Goes (model X.prog X.w) X.A.in1 (fun n s₀ r s₁ => ((r = .ok (.ret .none) ∨ r = .ok .next) ∧ False) ∨ ∃ e, r = .error e ∧ (CX X.prog X.w X.stack H1 s1 (E σ) e s₁ ∧ s₁.heap.IsGen a g)) (Y1 X.prog X.w X.stack H1 s1 a g (fun v H2 => D.nx (σ.set i (some v)) H2)) 1 (.send .none) (s'.setGen g .running) :=
      ⟨rfl, seg_imp (R := R1 X.prog X.w X.stack H1 s1 a g (E σ)) (Y := Y1 X.prog X.w X.stack H1 s1 a g (fun v H2 => D.nx (σ.set i (some v)) H2)) (fun n s₀ r s z => Or.inr z) (fun n s₀ v s kap kap' _ z => z) 1 seg⟩
    refine next_genG (A := X.A) (F := fun _ _ _ => False) hr.hd lim2 (by have := hr.dp; omega) isG fresh goes (fun v s₁ gs' bare' hv => ?_) (fun s₁ z => z.elim) fun er s₁ he => ?_
    · obtain ⟨os3, bare3, isG3, z, H3, un3, ok3, rv, qv⟩ := hv
      have I3 : Inv X pins σ H3 (s₁.setGen g gs') := I1.call' (ch := []) os3 un3 ok3 (allBare_setGen bare3 bare') fun b z => by simp at z
      refine wpAny_of_eq (rfl : letOwnedTupleGo (.Name y op) (.ref a) v = pure ()) ?_
      refine wpAny_passesOwn own (thn ((pg_name hN hi hl hfn).run pins _ σ H3 z v (fun σ2 H2 => D.nx σ2 H2) I3 rv qv) fun _ s4 h4 => ?_)
      obtain ⟨σ4, H4, I4, q4⟩ := h4
      exact wpAny_execs_cons (wpAny_Break ⟨σ4, H4, I4, q4⟩)
    · obtain ⟨hc, hg1⟩ := he
      have kin : X.K.In s₁.heap := by
        obtain ⟨b1, B, H2, cls, d, _, fl, _, ub, _⟩ := id hc
        refine I1.ok.mod.kin.keeps fun b o eb => fl.1 b o (ub.keep b o (I1.bs b o eb).1 (I1.bs b o eb).2 fun hm => ?_)
        rcases List.mem_cons.mp (I1.stkSub b hm) with z | z
        · have low := Heap.lt_size eb
          rw [z] at low
          exact absurd (Nat.lt_of_lt_of_le low (Nat.le_trans I1.ok.bsz I1.ok.above)) (Nat.lt_irrefl _)
        · exact I1.ok.nofr eb z
      refine ⟨hg1, notStop_of (ns σ) kin hc, own _ _ (hx σ pins H1 s1 er _ I1 ?_)⟩
      obtain ⟨b1, B, H2, cls, d, z1, fl, z2, ub, z3, z4, z5, z6⟩ := hc
      exact ⟨b1, B, H2, cls, d, z1, fl, z2, ub, z3, z4, allBare_setGen z5 rfl, z6⟩
end
end Sq

set_option Elab.async false
set_option linter.all false
set_option maxRecDepth 100000
set_option maxHeartbeats 2000000
/-! Calls that may raise. -/
namespace Sq
open PySem PySem.Spec PyProof.Rows L2
structure Dx (P : Program) (w : World) (K : PySem.W.Frag) (mg : Str → Option Value) (base : Heap) (k : Nat) (x : Str) (ps : List Str) (sp : Sp) : Prop where
  ex : ∃ f fd, FnOk P w K mg base (L2.CX P w) k f fd ps sp ∧ mg x = some (.ref f) ∧ PySem.W.keepIn K (.ref f) = true ∧ Binds K fd ps []
structure Dxk (P : Program) (w : World) (K : PySem.W.Frag) (mg : Str → Option Value) (base : Heap) (k : Nat) (x : Str) (ps ks : List Str) (g : List Value → List Value → List Value) (gV : List V → List V → List V) (sp : Sp) : Prop where
  ex : ∃ f fd, FnOk P w K mg base (L2.CX P w) k f fd ps sp ∧ mg x = some (.ref f) ∧ PySem.W.keepIn K (.ref f) = true ∧ KBn K fd ps 0 ks g gV
structure Dx1 (P : Program) (w : World) (K : PySem.W.Frag) (mg : Str → Option Value) (base : Heap) (k : Nat) (x : Str) (ps : List Str) (sp : SpF) : Prop where
  ex : ∃ f fd, GFn1 P w K mg base k f fd ps sp ∧ mg x = some (.ref f) ∧ PySem.W.keepIn K (.ref f) = true ∧ Binds K fd ps []
theorem Dx.mk' {P : Program} {w : World} {K : PySem.W.Frag} {mg : Str → Option Value} {base : Heap} {k : Nat} {x : Str} {st : Stmt} {ps : List Str} {sp : Sp} {f : Addr} {fd : FuncData} (F : Fun K x x st f fd) (G : FnOk P w K mg base (L2.CX P w) k f fd ps sp) (g : mg x = some (.ref f)) (b : Binds K fd ps []) : Dx P w K mg base k x ps sp :=
  ⟨⟨f, fd, G, g, F.kp, b⟩⟩
section
variable {P : Program} {w : World} {K : PySem.W.Frag} {mg : Str → Option Value} {base : Heap} {N : List Str} {qual : Str} {scope : Scope} {f : Addr} {cd : Value} {A : Around} {outer : List Env} {s : Shared} {H : Hp} {E : XK}
theorem takesX : Takes (cxOf (L2.CX P w) P w K mg base N qual scope f cd A outer s H E) (fun cls d _ H' => E cls d H') := takes_of rfl rfl rfl rfl
theorem ownsX : PassesOwn (model P w) (cxOf (L2.CX P w) P w K mg base N qual scope f cd A outer s H E).A (cxOf (L2.CX P w) P w K mg base N qual scope f cd A outer s H E).env (cxOf (L2.CX P w) P w K mg base N qual scope f cd A outer s H E).xe := passes_of rfl
end
section
variable {X : Cx} {k : Nat} {ps ks : List Str} {sp : Sp} {x : Str} {p pos : Pos} {e : Expr} {es : List Expr} {t tk : TA} {W : WX} {kws : List Keyword} {g : List Value → List Value → List Value} {gV : List V → List V → List V}
theorem pe_callX (D : Dx X.prog X.w X.K X.mg X.base k x ps sp) (takes : Takes X W) (hr : Room k X.A) (hg : Gl X x) (ha : PA X (e :: es) t) (hdb : (x == ("__debug__" : Str)) = false := by decide)
    (he : starEach (e :: es) X.env = (false, eval e X.env) :: starEach es X.env := by rfl) (hpl : (backTo pos (starEach es X.env)).any (·.1) = false := by rfl) :
    PE X (.Call (.Name x p) (e :: es) [] pos) (tCallS sp (WE W) t) := by
  obtain ⟨f, fd, F, g, kp, b⟩ := D.ex
  exact pe_callS F hr hg g kp b (passAt takes) ha hdb he hpl
/-- f(k = v, ..), which may raise -/
def tCallKX (n : Nat) (sp : Sp) (gV : List V → List V → List V) (E : L2.St → XK) (tk : TA) : TE := fun σ H Q => tk σ H fun zs H1 => zs.length = n ∧ sp (gV [] zs) H1 Q (E σ)
theorem pe_callXK (D : Dxk X.prog X.w X.K X.mg X.base k x ps ks g gV sp) (takes : Takes X W) (hr : Room k X.A) (hg : Gl X x) (hkw : PK X kws tk)
    (hall : (backToKw pos (keywordEach kws X.env)).all (·.1.isSome) = true := by rfl) (hks : (backToKw pos (keywordEach kws X.env)).filterMap (·.1) = ks := by rfl) (hdb : (x == ("__debug__" : Str)) = false := by decide)
    (hpl : ((backTo pos (starEach [] X.env)).any (·.1) || (backToKw pos (keywordEach kws X.env)).any (·.1.isNone)) = false := by rfl) :
    PE X (.Call (.Name x p) [] kws pos) (tCallKX ks.length sp gV (WE W) tk) := by
  obtain ⟨f, fd, F, hm, kp, hb⟩ := D.ex
  refine ⟨fun pins s σ H Q I h => ?_⟩
  refine wpAny_Call_Name_kw (ld_glob I hg hm ?_ hdb)
  refine PySem.W.callWith_KW0 (h₀ := X.base) I.ok.mod.kin kp hall ?_ hpl
  refine thn (hkw.run pos pins s σ H _ I h) ?_
  rintro ws s2 ⟨zs, H2, I2, rz, l2, q2⟩
  refine ⟨I2.kIn, ?_⟩
  rw [hks]
  have to := hb.to s2 [] ws I2.kIn rfl (rz.length.symm.trans l2)
  refine wpAny_call (codeAny_mono (F.run X.A X.stack s2 H2 ⟨[], ks.zip ws⟩ (g [] ws) (gV [] zs) Q (WE W σ) hr I2.env0 to (hb.rel .nil rz) q2) fun r s' hq => ?_)
  match r, hq with
  | .error u, hq => exact passAt takes σ pins H2 s2 u s' I2 hq
  | .ok (.ret u), hq => exact I2.after hq
end
/-- the same for a walk that is left at its first item -/
def EF (K : PySem.W.Frag) (W : WX) : L2.St → XK := fun σ cls d H => W cls d σ H ∧ PySem.W.subIn K cls (.type "StopIteration") = some false
section
variable {X : Cx} {k i : Nat} {ps : List Str} {sp : SpF} {x y : Str} {p op bp cpos pos : Pos} {e : Expr} {es : List Expr} {t : TA} {W : WX}
theorem ps_firstD {K0 : PySem.W.Frag} (sameK : X.K = K0) (D : Dx1 X.prog X.w X.K X.mg X.base k x ps sp) (takes : Takes X W) (hr : Room (k + 1) X.A) (hg : Gl X x) (ha : PA X (e :: es) t) (own : PassesOwn (model X.prog X.w) X.A X.env X.xe) (hN : X.N.Nodup) (hi : X.N[i]? = some y) (hl : Loc X.env.scope y)
    (hfn : X.fn y = true ∨ X.env.scope.names.lookup y = some .local) (hdb : (x == ("__debug__" : Str)) = false := by decide)
    (he : starEach (e :: es) X.env = (false, eval e X.env) :: starEach es X.env := by rfl) (hpl : (backTo cpos (starEach es X.env)).any (·.1) = false := by rfl) :
    PS X (.For (.Name y op) (.Call (.Name x p) (e :: es) [] cpos) [.Break bp] [] pos) (tFirst sp (EF K0 W) t i) := by
  obtain ⟨f, fd, F, g, kp, b⟩ := D.ex
  subst sameK
  exact ps_first (E := EF X.K W) F hr hg g kp b ha (fun σ pins H s e s' I c => passAt (W := fun cls d σ H => W cls d σ H ∧ PySem.W.subIn X.K cls (.type "StopIteration") = some false) (takes.imp fun _ _ _ _ z => z.1) σ pins H s e s' I c) (fun σ cls d H (z : EF X.K W σ cls d H) => z.2) own hN hi hl hfn hdb he hpl
end
/-- list.count(True) of bools -/
def rCountB (K : PySem.W.Frag) : V → List V → Hp → VK → Prop := fun x xs H Q => ∃ (p : Addr) (bs : List Bool) (k : Bool), x = .ref p ∧ xs = [.bl k] ∧ SqL K H p (bs.map V.bl) ∧ Q (.int (bs.count k : Nat)) H
theorem reads_bools : ∀ {bs : List Bool} {its : List Value} {hp : Heap}, Vals (bs.map V.bl) its → ∃ as, ReadsAll hp its (bs.map PyData.bool) as
  | [], _, _, r => by
    cases r
    exact ⟨_, ReadsAll.nil⟩
  | b :: bs, _, hp, r => by
    cases r with
    | cons r1 r2 =>
      rename_i u us
      obtain rfl : u = Value.bool b := r1
      obtain ⟨as, h⟩ := reads_bools (hp := hp) r2
      exact ⟨_, ReadsAll.cons (Reads.bool b) h⟩
theorem count_bools (k : Bool) : ∀ bs : List Bool, Spec.countIn (.bool k) (bs.map PyData.bool) = bs.count k
  | [] => rfl
  | b :: bs => by
    show (if Spec.same (.bool b) (.bool k) then 1 else 0) + Spec.countIn (.bool k) (bs.map PyData.bool) = ((b :: bs).count k : Nat)
    rw [count_bools k bs, List.count_cons]
    cases b <;> cases k <;> simp [Spec.same] <;> omega
theorem all_bools : ∀ bs : List Bool, (bs.map PyData.bool).all Shape.bool.has = true
  | [] => rfl
  | _ :: bs => all_bools bs
theorem mt_countB {X : Cx} : MtR X "list.count" (rCountB X.K) := by
  intro pins s σ H x xs v us Q I rx rxs h
  obtain ⟨p, bs, k, rfl, rfl, hs, q⟩ := h
  obtain rfl : v = Value.ref p := rx
  obtain ⟨u, rfl, ru⟩ := rxs.one
  obtain rfl : u = Value.bool k := ru
  obtain ⟨its, rv, hl, _⟩ := I.list hs
  obtain ⟨as, ra⟩ := reads_bools (hp := s.heap) rv
  refine count_list_bools hl.isList ra ?_ ⟨.int (bs.count k : Nat), H, I.tok _, ⟨s.toks, ?_⟩, q⟩
  · exact all_bools bs
  · rw [count_bools]
/-- what is wanted of an error of the class at C that holds v -/
def Wish (E : XK) (C : Addr) (v : V) (H : Hp) : Prop := ∀ d, H d = none → E (.ref C) (some d) (upd H d (exd d [(("value" : Str), v)]))
end Sq

set_option Elab.async false
set_option linter.all false
set_option maxRecDepth 100000
set_option maxHeartbeats 4000000
/-! A def called within an except suite: walks over lists, pairs unpacked, comprehensions, the handled error asked. -/
namespace Sq
open PySem PySem.Spec PyProof.Rows L2 HotX L2H
section
variable {prog : Program} {w : World} {A : Around} {E : Value → Shared → Prop} {s : Shared}
/-- the walk over a list ends while an error is handled -/
theorem list_end_hot {it l x1 : Addr} {i : Nat} {items : Array Value} {Q : Option Value → Shared → Prop} (hot : HotAt A x1 s.heap)
    (hit : s.heap.IsListIter it l i) (lenσ : s.heap.IsList l items) (gotX : items[i]? = none)
    (hQ : ∀ h', Heap.ExtBut it s.heap h' → Q none { s with heap := h' }) : wpAny (model prog w) A (pyNext (.ref it)) Q E s := by
  obtain ⟨o, ho, mood, hd⟩ := id hit
  obtain ⟨ol, hol, _, nl, hdl⟩ := lenσ
  obtain ⟨hh, o1, vsB, h1, d1, c1⟩ := hot
  by_cases n1 : x1 = it
  · exfalso
    subst n1
    rw [ho] at h1
    cases h1
    rw [hd] at d1
    cases d1
    cases c1
  have k1 : (s.heap.update it (Obj.mapFields (·.setIfInBounds 0 Value.none))).get? x1 = some o1 := (Heap.get?_update_other _ _ (Ne.symm n1)).trans h1
  unfold pyNext
  refine wpAny_bind (wpAny_attempt (wpAny_callSpecial?_slot (name := Str.ofString "__next__") hit.typeIs slot_listiter_next
    (wpAny_call_entry slot_listiter_next hit.typeIs entry_listiter_next ?_ (args_listiter_next _))))
  show wpAny _ _ (field (.ref it) 0 >>= _) _ _ s
  refine wpAny_bind (wpAny_field ho hd (x := .ref l) rfl ?_)
  show wpAny _ _ (if (Value.ref l == Value.none) = true then _ else _) _ _ s
  rw [if_neg (show ¬ ((Value.ref l == Value.none) = true) from Bool.false_ne_true)]
  show wpAny _ _ (field (.ref it) 1 >>= _) _ _ s
  refine wpAny_bind (wpAny_field ho hd (x := .int i 0) rfl ?_)
  show wpAny _ _ (seqItems? (.ref l) >>= _) _ _ s
  refine wpAny_bind (wpAny_seqItems hol hdl ?_)
  simp only [Int.toNat_natCast, gotX]
  refine wpAny_bind (wpAny_rule (wpAny_bind (wpAny_setField ho hd (by simp) ?_)))
  show wpAny _ _ (newExc (.type "StopIteration") [] >>= _) _ _ _
  refine wpAny_bind ?_
  simp only [newExc, newTuple]
  refine wpAny_bind (wpAny_newObj_type ?_ (by size_fits))
  refine wpAny_bind (m := firstArgMember _ _) (wpAny_of_eq (a := Value.none) (by first | rfl | (simp only [firstArgMember]; rfl)) ?_)
  refine wpAny_newObj_type ?_ (by size_fits)
  refine raiseNew_hot ⟨hh, o1, vsB, Heap.get?_push_of_some _ (Heap.get?_push_of_some _ k1), d1, c1⟩ (Nat.ne_of_lt (Heap.lt_size (Heap.get?_push_of_some _ k1))) (Heap.get?_push_size _ rfl) rfl (by first | (simp; done) | (simp; omega) | (simp only [Array.size_append]; simp; omega)) ?_
  refine wpAny_bind (wpAny_isInstance (T := "StopIteration") (b := true) ⟨_, Heap.get?_update_self _ (Heap.get?_push_size _ rfl) rfl, rfl⟩ isSubtype_stop ?_)
  refine wpAny_pure (hQ _ fun b o nb e => ?_)
  have e2 : (s.heap.update it (Obj.mapFields (·.setIfInBounds 0 Value.none))).get? b = some o := (Heap.get?_update_other _ _ (Ne.symm nb)).trans e
  rw [Heap.get?_update_other _ _ (Nat.ne_of_gt (Heap.lt_size (Heap.get?_push_of_some _ e2)))]
  exact Heap.get?_push_of_some _ (Heap.get?_push_of_some _ e2)
/-- the same of a pair -/
theorem tup_end_hot {it t x1 : Addr} {i : Nat} {items : Array Value} {Q : Option Value → Shared → Prop} (hot : HotAt A x1 s.heap)
    (hit : IsTupIter s.heap it t i) (testsA : IsTup s.heap t items) (gotX : items[i]? = none)
    (hQ : ∀ h', Heap.ExtBut it s.heap h' → Q none { s with heap := h' }) : wpAny (model prog w) A (pyNext (.ref it)) Q E s := by
  obtain ⟨o, ho, mood, hd⟩ := id hit
  obtain ⟨ol, hol, _, nl, hdl⟩ := testsA
  obtain ⟨hh, o1, vsB, h1, d1, c1⟩ := hot
  by_cases n1 : x1 = it
  · exfalso
    subst n1
    rw [ho] at h1
    cases h1
    rw [hd] at d1
    cases d1
    cases c1
  have k1 : (s.heap.update it (Obj.mapFields (·.setIfInBounds 0 Value.none))).get? x1 = some o1 := (Heap.get?_update_other _ _ (Ne.symm n1)).trans h1
  unfold pyNext
  refine wpAny_bind (wpAny_attempt (wpAny_callSpecial?_slot (name := Str.ofString "__next__") hit.typeIs slot_tupleiter_next
    (wpAny_call_entry slot_tupleiter_next hit.typeIs entry_tupleiter_next ?_ (args_tupleiter_next _))))
  show wpAny _ _ (field (.ref it) 0 >>= _) _ _ s
  refine wpAny_bind (wpAny_field ho hd (x := .ref t) rfl ?_)
  show wpAny _ _ (if (Value.ref t == Value.none) = true then _ else _) _ _ s
  rw [if_neg (show ¬ ((Value.ref t == Value.none) = true) from Bool.false_ne_true)]
  show wpAny _ _ (field (.ref it) 1 >>= _) _ _ s
  refine wpAny_bind (wpAny_field ho hd (x := .int i 0) rfl ?_)
  show wpAny _ _ (seqItems? (.ref t) >>= _) _ _ s
  refine wpAny_bind (wpAny_seqItems hol hdl ?_)
  simp only [Int.toNat_natCast, gotX]
  refine wpAny_bind (wpAny_rule (wpAny_bind (wpAny_setField ho hd (by simp) ?_)))
  show wpAny _ _ (newExc (.type "StopIteration") [] >>= _) _ _ _
  refine wpAny_bind ?_
  simp only [newExc, newTuple]
  refine wpAny_bind (wpAny_newObj_type ?_ (by size_fits))
  refine wpAny_bind (m := firstArgMember _ _) (wpAny_of_eq (a := Value.none) (by first | rfl | (simp only [firstArgMember]; rfl)) ?_)
  refine wpAny_newObj_type ?_ (by size_fits)
  refine raiseNew_hot ⟨hh, o1, vsB, Heap.get?_push_of_some _ (Heap.get?_push_of_some _ k1), d1, c1⟩ (Nat.ne_of_lt (Heap.lt_size (Heap.get?_push_of_some _ k1))) (Heap.get?_push_size _ rfl) rfl (by first | (simp; done) | (simp; omega) | (simp only [Array.size_append]; simp; omega)) ?_
  refine wpAny_bind (wpAny_isInstance (T := "StopIteration") (b := true) ⟨_, Heap.get?_update_self _ (Heap.get?_push_size _ rfl) rfl, rfl⟩ isSubtype_stop ?_)
  refine wpAny_pure (hQ _ fun b o nb e => ?_)
  have e2 : (s.heap.update it (Obj.mapFields (·.setIfInBounds 0 Value.none))).get? b = some o := (Heap.get?_update_other _ _ (Ne.symm nb)).trans e
  rw [Heap.get?_update_other _ _ (Nat.ne_of_gt (Heap.lt_size (Heap.get?_push_of_some _ e2)))]
  exact Heap.get?_push_of_some _ (Heap.get?_push_of_some _ e2)
theorem unpack_hot {t x1 : Addr} {items : Array Value} {Q : List Value → Shared → Prop} (hot : HotAt A x1 s.heap) (testsA : IsTup s.heap t items)
    (hQ : ∀ h', Heap.ExtBut s.heap.objs.size s.heap h' → Q items.toList { s with heap := h' }) : wpAny (model prog w) A (unpackItems (.ref t) items.size none) Q E s := by
  have hlt : t ≠ s.heap.objs.size := by obtain ⟨o, ho, _⟩ := testsA; exact Nat.ne_of_lt (Heap.lt_size ho)
  unfold unpackItems
  refine wpAny_bind ?_
  · unfold notIterableAtAll
    refine wpAny_bind (wpAny_specialOf testsA.typeIs slot_tuple_iter.lookup ?_)
    refine wpAny_pure ?_
    simp only [Bool.false_eq_true, if_false]
    refine wpAny_bind (wpAny_holding (iter_tuple testsA ?_))
    refine wpAny_bind (wpAny_holding (draw_tuple hlt items.size 0 _ _ ⟨_, Heap.get?_push_size _ rfl, rfl, rfl⟩ (testsA.push _) (by omega) fun h₁ hit₁ hs₁ => ?_))
    have hall : List.take items.size (List.drop 0 items.toList) = items.toList := by
      rw [List.drop_zero]; exact List.take_of_length_le (by simp)
    rw [hall]
    rw [if_neg (by simp)]
    have ht₁ : IsTup h₁ t items := (testsA.push _).extBut hs₁.extBut hlt
    have hot₁ : HotAt A x1 h₁ := by
      obtain ⟨hh, o1, vsB, h1, d1, c1⟩ := hot
      exact ⟨hh, o1, vsB, hs₁.extBut x1 o1 (Nat.ne_of_lt (Heap.lt_size h1)) (Heap.get?_push_of_some _ h1), d1, c1⟩
    refine wpAny_bind (wpAny_holding (tup_end_hot hot₁ hit₁ ht₁ (by simp) fun h₂ he₂ => ?_))
    simp only [Option.isSome_none, Bool.false_eq_true, if_false]
    refine wpAny_pure (hQ h₂ fun b o hb e => he₂ b o hb (hs₁.extBut b o hb (Heap.get?_push_of_some _ e)))
theorem assign_tup_hot {env : Env} {elts : List Expr} {k} {pos : Pos} {t x1 : Addr} {items : Array Value} {Q : Unit → Shared → Prop} (hot : HotAt A x1 s.heap) (testsA : IsTup s.heap t items)
    (nsC : (assignEach elts env).length = items.size) (hstar : (assignEach elts env).findIdx? (·.1) = none)
    (h : ∀ h', Heap.ExtBut s.heap.objs.size s.heap h' → wpAny (model prog w) A (assignInOrder ((assignEach elts env).map (·.2)) items.toList) Q E { s with heap := h' }) :
    wpAny (model prog w) A (assign (.Tuple elts k pos) env (.ref t)) Q E s := by
  rw [assign_Tuple]
  refine wpAny_bind (wpAny_standAt ?_)
  unfold unpack
  rw [nsC, hstar]
  exact wpAny_bind (wpAny_holding (unpack_hot hot testsA h))
end
/-! ### hot contexts -/
/-- wherever the context's invariant holds an error is handled whose context is None -/
def HotW (X : Cx) : Prop := ∀ (pins : List (Addr × Obj)) (σ : L2.St) (H : Hp) (s : Shared), Inv X pins σ H s → ∃ x1, HotAt X.A x1 s.heap
theorem HotC.w {X : Cx} (c : HotC X) : HotW X := fun _ _ _ _ I => c.at I
theorem hot_pgTup {X : Cx} {es : List Expr} {k : Nat} {t : TGs} {n : Nat} {pos : Pos} (mood : HotW X) (h : PGs X es t)
    (nsC : (assignEach es X.env).length = n := by rfl) (hst : (assignEach es X.env).findIdx? (·.1) = none := by rfl) : PG X (.Tuple es k pos) (gTup X.K n t) := by
  refine ⟨fun pins s σ H v u Q I r hw => ?_⟩
  obtain ⟨a, xs, eqB, hq, lenσ, hw⟩ := hw
  subst eqB
  cases r
  obtain ⟨its, rv, testsA, hz⟩ := I.tuple hq
  obtain ⟨x1, hot⟩ := mood _ _ _ _ I
  refine assign_tup_hot hot testsA (by simp [nsC, ← lenσ, rv.length]) hst fun h' gotX => ?_
  have I1 : Inv X pins σ H { s with heap := h' } := I.kept (t' := s.toks) fun b o e => gotX b o (Nat.ne_of_lt (Heap.lt_size e)) e
  exact h.run pins _ σ H xs _ Q I1 (by simpa using rv) hw
structure TurnW (P : Program) (w : World) (K : PySem.W.Frag) (tg : Expr) (J : It) (fp : List Addr) (it : Addr) (tn : Nat → Heap → Prop) : Prop where
  mem : it ∈ fp
  obj : ∀ i h, tn i h → ∀ b ∈ fp, ∃ o, h.get? b = some o ∧ ∀ v, o.data ≠ .cell v
  keep : ∀ i h h', tn i h → (∀ b ∈ fp, ∀ o, h.get? b = some o → h'.get? b = some o) → tn i h'
  item : ∀ (X : Cx), X.prog = P → X.w = w → X.K = K → HotW X → ∀ (i : Nat) (pins : List (Addr × Obj)) (s : Shared) (σ : L2.St) (H : Hp) (E : Value → Shared → Prop), Inv X pins σ H s → (∀ b ∈ fp, FpOk X pins H b) → tn i s.heap → J.go i H →
    wpAny (model P w) X.A (pyNext (.ref it)) (fun r sA => ∃ u, r = some u ∧
      wpAny (model P w) X.A (letOwnedTupleGo tg (.ref it) u) (fun _ sB => ∃ x H', Inv X pins σ H' sB ∧ RelV x u ∧ J.yld i H x H' ∧ tn (i + 1) sB.heap ∧ ∀ b ∈ fp, H' b = none) E sA) E s
  done : ∀ (X : Cx), X.prog = P → X.w = w → X.K = K → HotW X → ∀ (i : Nat) (pins : List (Addr × Obj)) (s : Shared) (σ : L2.St) (H : Hp) (E : Value → Shared → Prop), Inv X pins σ H s → (∀ b ∈ fp, FpOk X pins H b) → tn i s.heap → J.stop i H →
    wpAny (model P w) X.A (pyNext (.ref it)) (fun r sA => r = none ∧ Inv X pins σ H sA) E s
  self : ∀ (A : Around) (i : Nat) (s : Shared) (Q : Value → Shared → Prop) (E : Value → Shared → Prop), tn i s.heap → Q (.ref it) s → wpAny (model P w) A (pyIter (.ref it)) Q E s
theorem turn_listW {P : Program} {w : World} {K : PySem.W.Frag} {tg : Expr} (a it : Addr) : TurnW P w K tg (Itl K a) [it] it (fun i h => h.IsListIter it a i) where
  mem := by simp
  obj := fun i h st b hb => by
    have e : b = it := by simpa using hb
    subst e
    obtain ⟨o, e, c, d⟩ := st
    exact ⟨o, e, fun v z => by rw [d] at z; cases z⟩
  keep := fun i h h' st k => st.at fun o e => k it (by simp) o e
  item := by
    intro X hP hw hK mood i pins s σ H E I hf st targetA
    subst hP hw hK
    obtain ⟨xs, x, hq, gotX⟩ := targetA
    obtain ⟨its, rv, p, hz⟩ := I.list hq
    obtain ⟨u, hu, ru⟩ := rv.get gotX
    obtain ⟨f0, f1, f2, roam3, f4, f5⟩ := hf it (by simp)
    refine wpAny_pyNext_list_item st p.isList (x := u) (by simpa using hu) fun h' st' sb => ?_
    have I1 : Inv X pins σ H { s with heap := h' } := I.turned (t' := s.toks) (fun b o hb e => (sb.2 b hb).trans e) f0 f1 roam3 f4 f5
    obtain ⟨o, e, c, d⟩ := id st'
    exact ⟨u, rfl, go_of (s := { s with heap := h' }) e c d (by decide) ⟨x, H, I1, ru, ⟨rfl, fun ys hy => by rw [I.list_inj hy hq]; exact gotX⟩, st', fun b hb => (hf b hb).1⟩⟩
  done := by
    intro X hP hw hK mood i pins s σ H E I hf st targetA
    subst hP hw hK
    obtain ⟨xs, hq, gotX⟩ := targetA
    obtain ⟨its, rv, p, hz⟩ := I.list hq
    obtain ⟨f0, f1, f2, roam3, f4, f5⟩ := hf it (by simp)
    have lenσ := rv.length
    obtain ⟨x1, hot⟩ := mood _ _ _ _ I
    exact list_end_hot hot st p.isList (by simp; omega) fun h' eb => ⟨rfl, I.turned (t' := s.toks) (fun b o hb e => eb b o hb e) f0 f1 roam3 f4 f5⟩
  self := fun _ _ _ _ _ st h => wpAny_pyIter_listiter st h
def PIEW (X : Cx) (pins : List (Addr × Obj)) (σ : L2.St) (tg : Expr) (R : It → Hp → Prop) (itV : Value) (sB : Shared) : Prop :=
  ∃ (it : Addr) (fp : List Addr) (tn : Nat → Heap → Prop) (J : It) (H' : Hp), itV = .ref it ∧ Inv X pins σ H' sB ∧ TurnW X.prog X.w X.K tg J fp it tn ∧ tn 0 sB.heap ∧ (∀ b ∈ fp, FpOk X pins H' b) ∧ R J H'
structure PIW (X : Cx) (tg iter : Expr) (wi : TI) : Prop where
  run : ∀ (pins : List (Addr × Obj)) (s : Shared) (σ : L2.St) (H : Hp) (R : It → Hp → Prop), Inv X pins σ H s → wi σ H R →
    wpAny (model X.prog X.w) X.A (eval iter X.env) (fun v sA => wpAny (model X.prog X.w) X.A (pyIter v) (PIEW X pins σ tg R) X.xe sA) X.xe s
theorem hot_list {X : Cx} {tg l : Expr} {tl : TE} (lenσ : PE X l tl) : PIW X tg l (iList X.K tl) := by
  refine ⟨fun pins s σ H R I h => ?_⟩
  refine thn (lenσ.run pins s σ H _ I h) fun v sA ⟨x, H1, I1, r1, q1⟩ => ?_
  obtain ⟨a, e, ⟨xs, hq⟩, q⟩ := q1
  subst e
  cases r1
  obtain ⟨its, rv, p, hz⟩ := I1.list hq
  refine wpAny_pyIter_list p.isList ?_
  refine ⟨sA.heap.objs.size, [sA.heap.objs.size], _, _, H1, rfl, I1.kept (t' := sA.toks) fun b o e => Heap.get?_push_of_some _ e, turn_listW a _, ⟨_, Heap.get?_push_size _ rfl, rfl, rfl⟩, fun b hb => ?_, q⟩
  have e : b = sA.heap.objs.size := by simpa using hb
  subst e
  exact I1.fpOk (Nat.le_refl _) (I1.hok.fresh (Nat.le_refl _))
section
variable {X : Cx}
theorem lc_coreH {pins : List (Addr × Obj)} {s : Shared} {σ : L2.St} {H : Hp} {Q : VK} {elt tg iter : Expr} {ifs : List Expr} {scope : Scope} {own : List (Str × Nat)} {pos pos' : Pos} {wi : TI} {g : TG} {tt : TT} {te : TE} {use : Option (Value → Sem Unit)} {Qf : Value → Shared → Prop}
    (mood : HotC X) (nodupN : X.N.Nodup) (I : Inv X pins σ H s) (sourceA : PIW X tg iter wi) (ok : BlkOk X.N X.env.scope scope own)
    (targetA : ∀ (s : Shared) (H : Hp) (C : Addr) (cl : List (Str × Addr)) (fp : List Addr), HotW (X.blk s H scope (compEnvC scope cl C X.env) fp) → PG (X.blk s H scope (compEnvC scope cl C X.env) fp) tg g) (testsA : ∀ (s : Shared) (H : Hp) (C : Addr) (cl : List (Str × Addr)) (fp : List Addr), PTs (X.blk s H scope (compEnvC scope cl C X.env) fp) ifs tt)
    (elemA : ∀ (s : Shared) (H : Hp) (C : Addr) (cl : List (Str × Addr)) (fp : List Addr), PE (X.blk s H scope (compEnvC scope cl C X.env) fp) elt te) (plainA : ∀ x, foldedSetIterable iter X.env x = pure x)
    (h : tLc wi g tt te (own.map (·.2)) σ H Q)
    (back : ∀ D C s' m H', Inv X pins σ H' s' → Q (.ref D) H' → s'.heap.Ns C m → FpOk X pins H' C → compPost (model X.prog X.w) X.A X.xe use Qf (.ref D) C (.ok .next) s') :
    wpAny (model X.prog X.w) X.A (comprehension (.ListComp elt [⟨tg, iter, ifs, 0⟩] scope pos) scope X.env pos' (newList []) false (eval iter X.env) use) Qf X.xe s := by
  have captured : ∀ y ∈ scope.names, y.2 = .free → ∃ c, X.env.cells.lookup y.1 = some c := fun y hy e => by
    rcases ok.free y hy e with k | k
    · exact I.ok.has _ (.inl k)
    · exact I.ok.has _ (.inr k)
  refine wpAny_comprehension_free (use := use) rfl plainA (closure_ok captured) ok.kind (fun y hy e => by rw [ok.uniq y hy, e])
    (thn (sourceA.run pins s σ H _ I h) fun srcV sA gotX => thn gotX fun itV sB h2 => ?_)
  obtain ⟨it, fp, tn, J, HB, e, I2, T, st2, f2, q⟩ := h2
  subst e
  refine wpAny_newObj_type (newEnv_comp ?_) (by show 0 ≤ sizeLine; decide)
  generalize atD : sB.heap.objs.size = D
  have freshD : HB D = none := I2.hok.fresh (Nat.le_of_eq atD)
  obtain ⟨W, ⟨mes0, inv0⟩, walk0⟩ := q D freshD
  -- the new list
  generalize laid3 : ({ sB with heap := sB.heap.push { cls := .type "list", data := .seq ([] : List Value).toArray } } : Shared) = sC
  have J3 : Inv X pins σ (upd HB D (.lst [])) sC := by
    rw [← laid3]
    refine I2.laid (t' := sB.toks) (fun b o e => Heap.get?_push_of_some _ e) (Nat.le_of_eq atD) ⟨Nat.zero_le _, [], 0, .nil, ?_⟩
    rw [← atD]
    exact Heap.get?_push_size _ rfl
  have heap3 : sC.heap = sB.heap.push { cls := .type "list", data := .seq ([] : List Value).toArray } := by rw [← laid3]
  have below : ∀ b ∈ fp, b < sB.heap.objs.size := fun b hb => by
    obtain ⟨o, e, _⟩ := T.obj _ _ st2 b hb
    exact Heap.lt_size e
  have roam3 : ∀ b ∈ fp, FpOk X pins (upd HB D (.lst [])) b ∧ b < sC.heap.objs.size := fun b hb => by
    have hlt := below b hb
    refine ⟨⟨?_, (f2 b hb).2⟩, by rw [heap3, Heap.size_push]; exact Nat.lt_succ_of_lt hlt⟩
    rw [upd_ne (by rw [← atD]; exact Nat.ne_of_lt hlt)]
    exact (f2 b hb).1
  have turn3 : tn 0 sC.heap := T.keep _ _ _ st2 fun b _ o e => by rw [heap3]; exact Heap.get?_push_of_some _ e
  have J4 := block_start J3 ok nodupN roam3
  have tgt := targetA sC (upd HB D (.lst [])) sC.heap.objs.size (cellsFrom (sC.heap.objs.size + 1) scope.names (cloFrom X.env.cells scope.names [])) fp
  have tst := testsA sC (upd HB D (.lst [])) sC.heap.objs.size (cellsFrom (sC.heap.objs.size + 1) scope.names (cloFrom X.env.cells scope.names [])) fp
  have elm := elemA sC (upd HB D (.lst [])) sC.heap.objs.size (cellsFrom (sC.heap.objs.size + 1) scope.names (cloFrom X.env.cells scope.names [])) fp
  show codeAny _ _ (.compStart (.ListComp elt [⟨tg, iter, ifs, 0⟩] scope pos) 0 (.ref it) (.ref D) (compEnvC scope (cellsFrom (sC.heap.objs.size + 1) scope.names (cloFrom X.env.cells scope.names [])) sC.heap.objs.size X.env)) (compPost (model X.prog X.w) X.A X.xe use Qf (.ref D) sC.heap.objs.size) { sC with heap := pushCells (sC.heap.push { cls := .type "dict", data := .dict #[] }) scope.names }
  have untr : ∀ b ∈ fp, (upd HB D (.lst [])) b = none := fun b hb => (roam3 b hb).1.1
  generalize blkE : compEnvC scope (cellsFrom (sC.heap.objs.size + 1) scope.names (cloFrom X.env.cells scope.names [])) sC.heap.objs.size X.env = ce at J4 tgt tst elm ⊢
  have locE : ce.locals = sC.heap.objs.size := by subst blkE; rfl
  generalize heapE : upd HB D (.lst []) = HC at J3 J4 tgt tst elm inv0 untr roam3
  -- the error is handled in the block, too
  have hotB : HotW (X.blk sC HC scope ce fp) := by
    obtain ⟨p, ⟨hh, v1, eqB, c1⟩, hp⟩ := id mood
    have P1 := J3.pin p (List.mem_append_left _ hp)
    intro pinsB σB HB sB IB
    refine ⟨p.1, hh, p.2, v1, IB.base.keep p.1 p.2 P1.1 P1.2.1 (fun lessM => (List.mem_cons.mp (J3.stkSub p.1 lessM)).elim P1.2.2.1 P1.2.2.2.1) (fun lessM => ?_), eqB, c1⟩
    exact (roam3 p.1 lessM).1.2.2.2.2.2 p (List.mem_append_left _ hp) rfl
  have tgt := tgt hotB
  generalize laid4 : ({ sC with heap := pushCells (sC.heap.push { cls := .type "dict", data := .dict #[] }) scope.names } : Shared) = sD at J4 ⊢
  have turn4 : tn 0 sD.heap := T.keep _ _ _ turn3 fun b _ o e => by rw [← laid4]; exact pushCells_keeps _ _ _ _ (Heap.get?_push_of_some _ e)
  have stat : ∀ {σ' : L2.St} {H' : Hp} {s' : Shared}, Inv (X.blk sC HC scope ce fp) [] σ' H' s' → (∀ b ∈ fp, H' b = none) → ∀ b ∈ fp, FpOk (X.blk sC HC scope ce fp) [] H' b := fun {σ' H' s'} I' nsC b hb =>
    ⟨nsC b hb, (I'.ok.exf b hb).1, I'.ok.exfs b hb, .inl hb, fun x c e => (I'.ok.exf b hb).2 x c e, fun p hp => absurd (show p ∈ ([] : List (Addr × Obj)) ++ [] from hp) (by simp)⟩
  have outer0 : codeAny (model X.prog X.w) X.A (.compLoop (.ListComp elt [⟨tg, iter, ifs, 0⟩] scope pos) 0 (.ref it) (.ref D) ce) (compPost (model X.prog X.w) X.A X.xe use Qf (.ref D) sC.heap.objs.size) sD := by
    refine compLoop_any (fun n s' => ∃ i H', Inv (X.blk sC HC scope ce fp) [] (wipe σ (own.map (·.2))) H' s' ∧ tn i s'.heap ∧ (∀ b ∈ fp, H' b = none) ∧ W i n H') ?_ mes0 ⟨0, HC, J4, turn4, untr, inv0⟩
    rintro n sE ⟨i, HE, J5, turn5, un5, inv5⟩
    rcases walk0 i n HE inv5 with ⟨atEnd, done0⟩ | ⟨more, NxA, reach, step⟩
    · have ended := T.done (X.blk sC HC scope ce fp) rfl rfl rfl hotB i [] sE _ HE (fun _ _ => False) J5 (stat J5 un5) turn5 atEnd
      refine thnF ended fun r sF ⟨hr, J6⟩ => ?_
      subst hr
      -- back in the def's context
      have J7 : Inv X pins σ HE sF := J3.call' (ch := fp) J6.os J6.base J6.hok J6.bare fun b hb => ⟨(roam3 b hb).1.2.2.2.1, (roam3 b hb).1.2.1, (roam3 b hb).1.2.2.2.2.1, (roam3 b hb).1.2.2.2.2.2⟩
      have freeC : HE sC.heap.objs.size = none := by
        have z : HE ce.locals = none := J6.free
        rw [locE] at z
        exact z
      obtain ⟨m, nsC, _⟩ := J6.loc
      have nsC : sF.heap.Ns ce.locals m := nsC
      rw [locE] at nsC
      exact back D sC.heap.objs.size sF m HE J7 done0 nsC (J3.fpOk (Nat.le_refl _) freeC)
    · have given := T.item (X.blk sC HC scope ce fp) rfl rfl rfl hotB i [] sE _ HE (fun _ _ => False) J5 (stat J5 un5) turn5 more
      refine thnF given fun r sF ⟨u, hr, got6⟩ => ?_
      subst hr
      refine thnF got6 fun _ sG ⟨x, HG, J7, rel7, yld7, turn7, un7⟩ => ?_
      have J7p := J7.pinned (stat J7 un7) (T.obj _ _ turn7)
      refine thnF (tgt.run _ sG _ HG x u _ J7p rel7 (step x HG yld7)) fun _ sH ⟨τ, HH, J8, wip8, go8⟩ => ?_
      refine thnF (tst.run _ sH τ HH _ J8 go8) fun b sI ⟨HI, J9, go9⟩ => ?_
      -- the turn's end
      have close : ∀ {s' : Shared} {H' : Hp}, Inv (X.blk sC HC scope ce fp) ([] ++ pinsAt fp sG.heap) τ H' s' → NxA H' → ∃ m, m < n ∧ ∃ i H', Inv (X.blk sC HC scope ce fp) [] (wipe σ (own.map (·.2))) H' s' ∧ tn i s'.heap ∧ (∀ b ∈ fp, H' b = none) ∧ W i m H' := fun {s' H'} I' nextW => by
        obtain ⟨m', lessM, invM⟩ := reach H' nextW
        have kept : ∀ b ∈ fp, ∀ o, sG.heap.get? b = some o → s'.heap.get? b = some o ∧ H' b = none := fun b hb o e =>
          let z := I'.pin (b, o) (List.mem_append_right _ (List.mem_append_right _ (mem_pinsAt hb e)))
          ⟨z.1, z.2.1⟩
        have lenσ : (wipe σ (own.map (·.2))).length = τ.length := by rw [← wip8, wipe_length]
        refine ⟨m', lessM, i + 1, H', (I'.unpinned (pins := [])).weak lenσ (fun j v e => ?_), T.keep _ _ _ turn7 fun b hb o e => (kept b hb o e).1, fun b hb => ?_, invM⟩
        · rw [← wip8] at e
          exact (wipe_some e).1
        · obtain ⟨o, e, _⟩ := T.obj _ _ turn7 b hb
          exact (kept b hb o e).2
      cases b with
      | false =>
        simp only [Bool.false_eq_true, if_false] at go9 ⊢
        exact close J9 go9
      | true =>
        simp only [if_true] at go9 ⊢
        refine thnF (elm.run _ sI τ HI _ J9 go9) fun z sJ ⟨yv, HJ, J10, rel10, acc, acc10, room10, nextW⟩ => ?_
        exact app_ok (X := X.blk sC HC scope ce fp) J10 acc10 room10 rel10 fun sK J11 => close J11 nextW
  exact codeAny_compStart_list outer0 (T.self X.A 0 _ _ _ turn4 outer0)
/-- name = [..] on one line, the name a local, an error being handled -/
theorem hot_setLc {i : Nat} {y : Str} {py : Pos} {elt tg iter : Expr} {ifs : List Expr} {scope : Scope} {own : List (Str × Nat)} {pos spos : Pos} {wi : TI} {g : TG} {tt : TT} {te : TE} (mood : HotC X) (nodupN : X.N.Nodup) (hy : X.N[i]? = some y) (hyl : X.env.scope.names.lookup y = some .local)
    (hsw : swapsWith (.ListComp elt [⟨tg, iter, ifs, 0⟩] scope pos) (some (.Name y py)) spos.line X.env = pure true) (sourceA : PIW X tg iter wi) (ok : BlkOk X.N X.env.scope scope own)
    (targetA : ∀ (s : Shared) (H : Hp) (C : Addr) (cl : List (Str × Addr)) (fp : List Addr), HotW (X.blk s H scope (compEnvC scope cl C X.env) fp) → PG (X.blk s H scope (compEnvC scope cl C X.env) fp) tg g) (testsA : ∀ (s : Shared) (H : Hp) (C : Addr) (cl : List (Str × Addr)) (fp : List Addr), PTs (X.blk s H scope (compEnvC scope cl C X.env) fp) ifs tt)
    (elemA : ∀ (s : Shared) (H : Hp) (C : Addr) (cl : List (Str × Addr)) (fp : List Addr), PE (X.blk s H scope (compEnvC scope cl C X.env) fp) elt te) (plainA : ∀ x, foldedSetIterable iter X.env x = pure x := by intro _; rfl) :
    PS X (.Assign [.Name y py] (.ListComp elt [⟨tg, iter, ifs, 0⟩] scope pos) spos) (tAsg (tLc wi g tt te (own.map (·.2))) (gName i)) := by
  refine ⟨fun pins s σ H D I h => ?_⟩
  rw [exec_Assign_Name_used _ _ _ _ hsw]
  refine wpAny_bind (wpAny_standAt (wpAny_bind ?_))
  show wpAny _ X.A (do let _ ← comprehension (.ListComp elt [⟨tg, iter, ifs, 0⟩] scope pos) scope X.env (firstIterPos [⟨tg, iter, ifs, 0⟩] pos) (newList []) false (eval iter X.env) (some (assign (.Name y py) X.env))) _ _ s
  have h : tLc wi g tt te (own.map (·.2)) σ H (fun x H1 => gName i x σ H1 D.nx) := h
  refine wpAny_bind (thn (lc_coreH (Qf := fun _ s' => SP X pins D .next s') mood nodupN I sourceA ok targetA testsA elemA plainA h fun L C s' m H' I' q nsC f => ?_) fun _ s' hq => wpAny_pure (wpAny_pure hq))
  show wpAny _ _ (assign (.Name y py) X.env (.ref L)) _ _ _
  refine wpAny_assign_Name (store_ok2 (v := V.ref L) I' nodupN hy (.inl hyl) rfl (fun sB I2 ⟨a, sb, ha⟩ => ?_) (.inr hyl))
  obtain ⟨f0, f1, f2, roam3, f4, f5⟩ := f
  have haC : C ≠ a := by
    rcases ha with z | z
    · rw [z]; exact f1
    · exact fun e => f4 y a z e.symm
  refine ⟨m, nsC.sameBut sb haC, fun heap3 sb3 => ?_⟩
  exact ⟨_, H', I2.turned (t' := sB.toks) (fun b o hb e => (sb3.2 b hb).trans e) f0 f1 roam3 f4 f5, q⟩
end
end Sq

set_option Elab.async false
set_option linter.all false
set_option maxRecDepth 100000
set_option maxHeartbeats 4000000
/-! A def of the law called within an except suite with the caught error. -/
namespace Sq
open PySem PySem.Spec PyProof.Rows L2 HotX L2H
/-- what a def promises there: e the handled error, its class, its dict -/
abbrev SpZ := Addr → Value → Option Addr → Sp
structure FnHZ (P : Program) (w : World) (K : PySem.W.Frag) (mg : Str → Option Value) (base : Heap) (CX : CXT) (k : Nat) (f : Addr) (fd : FuncData) (ps : List Str) (sp : SpZ) : Prop where
  len : ∀ a c d vs H Q E, sp a c d vs H Q E → vs.length = ps.length
  run : ∀ (A : Around) (outer : List Env) (s : Shared) (H : Hp) (args : Args) (us : List Value) (vs : List V) (Q : VK) (E : XK) (p : Addr × Obj) (cls : Value) (d : Option Addr), RoomH k A → Hot1 A p → L2N.Zn cls d p.2 → PinOk outer H s p → Env0 P w K mg base A outer s H → BindsTo s fd args (ps.zip us) → Vals vs us → sp p.1 cls d vs H Q E →
    codeAny (model P w) A (.call (.ref f) args) (CR CX outer P w H s Q E) s
theorem fn_ofHZ {CX : CXT} {P : Program} {w : World} {K : PySem.W.Frag} {mg : Str → Option Value} {base : Heap} {k : Nat} {f : Addr} {x qual : Str} {st : Stmt} {fd : FuncData} {N ps : List Str} {sp : SpZ}
    (F : Fun K x qual st f fd) (S : FnScope N ps (defScope st)) (len : ∀ a c d vs H Q E, sp a c d vs H Q E → vs.length = ps.length)
    (hbody : ∀ (cdv : Value) (A : Around) (outer : List Env) (s : Shared) (H : Hp) (vs : List V) (Q : VK) (E : XK) (p : Addr × Obj) (cls : Value) (d : Option Addr), Hot1 A p → L2N.Zn cls d p.2 → RoomH k (A.deeper (envOfC qual (defScope st) s.heap.objs.size f cdv)) → sp p.1 cls d vs H Q E →
      ∃ t, PSs (cxH CX P w K mg base N qual (defScope st) f cdv A outer s H E p) (defBody st) t ∧ t { nx := fun _ H' => Q .non H', rt := Q } (L2.start N vs) H) :
    FnHZ P w K mg base CX (k + 1) f fd ps sp := by
  obtain ⟨oc, od, kV, doc, pm, an, cdv, ct, osl, rfl, lk, hcd⟩ := F.ex
  refine ⟨len, fun A outer s H args us vs Q E p cls d hr hot hz hpin e0 hb r hsp => ?_⟩
  have hl := len _ _ _ _ _ _ _ hsp
  have KX : K.In s.heap := e0.mod.kin.keeps fun b o e => (e0.bs b o e).1
  have lim : s.heap.NoLimit := e0.mod.nolimit.keeps fun b o e => (e0.bs b o e).1
  have hkind : ∀ y ∈ ps.zip us, (defScope st).names.lookup y.1 = some .local ∨ ((defScope st).names.lookup y.1 = some .cell ∧ ((cellsFrom (s.heap.objs.size + 1) (defScope st).names []).lookup y.1).isSome = true) := fun ⟨n, v⟩ hy => by
    rcases S.par n (List.of_mem_zip hy).1 with q | q
    · exact .inl q
    · exact .inr ⟨q, PySem.W.cellsFrom_some _ _ _ (.inl q)⟩
  refine codeAny_call_function hr.depth (KX _ _ lk) rfl S.co S.gen rfl (PySem.W.codeRec_of KX hcd) (hb _ _ _ _ ?_)
  refine wpAny_newFunctionEnv_cells S.kind hkind fun env he s1 x => ?_
  subst he
  refine ⟨lim.keeps x.toInCall.keep, codeAny_func ?_⟩
  obtain ⟨t, ht, hq⟩ := hbody cdv A outer s H vs Q E p cls d hot hz (hr.deeper _) hsp
  have I : Inv (cxH CX P w K mg base N qual (defScope st) f cdv A outer s H E p) [] (L2.start N vs) H s1 := inv_startH S hpin e0 hl r x
  refine wpAny_mono (ht.run [] s1 (L2.start N vs) H _ I hq) (fun fl s' hs => ?_) fun e s' hs => hs
  have fin : ∀ {σ' : L2.St} {H' : Hp} {v : V} {u : Value}, Inv (cxH CX P w K mg base N qual (defScope st) f cdv A outer s H E p) [] σ' H' s' → RelV v u → Q v H' → CE outer P w H s Q u s' :=
    fun {σ' H' v u} J rv q => ⟨v, H', J.os, J.bare, J.base, J.hok, rv, q⟩
  cases fl with
  | ret u =>
    obtain ⟨v, σ', H', J, rv, q⟩ := hs
    exact fin J rv q
  | next =>
    obtain ⟨σ', H', J, q⟩ := hs
    exact fin (v := V.non) (u := Value.none) J rfl q
  | brk =>
    obtain ⟨_, _, _, q⟩ := hs
    exact False.elim q
  | cont =>
    obtain ⟨_, _, _, q⟩ := hs
    exact False.elim q
/-- it stands at its name -/
structure Dz (P : Program) (w : World) (K : PySem.W.Frag) (mg : Str → Option Value) (base : Heap) (k : Nat) (x : Str) (ps : List Str) (sp : SpZ) : Prop where
  ex : ∃ f fd, FnHZ P w K mg base CX0 k f fd ps sp ∧ mg x = some (.ref f) ∧ PySem.W.keepIn K (.ref f) = true ∧ Binds K fd ps []
section
variable {X : Cx} {k : Nat} {ps : List Str} {sp : SpZ} {x : Str} {q pos : Pos} {e : Expr} {es : List Expr} {t : TA} {a : Addr} {oe : Obj} {cls : Value} {d : Option Addr} {pn : List (Addr × Obj)}
/-- the call, in the suite of the clause that caught the error at a -/
theorem pe_callHZ (D : Dz X.prog X.w X.K X.mg X.base k x ps sp) (hz : L2N.Zn cls d oe) (hf : ∃ vs, oe.data = .fields vs) (hr : Room k X.A) (hg : Gl X x) (ha : PA (X.suite a ((a, oe) :: pn)) (e :: es) t)
    (hdb : (x == ("__debug__" : Str)) = false := by decide) (he : starEach (e :: es) X.env = (false, eval e X.env) :: starEach es X.env := by rfl) (hpl : (backTo pos (starEach es X.env)).any (·.1) = false := by rfl) :
    PE (X.suite a ((a, oe) :: pn)) (.Call (.Name x q) (e :: es) [] pos) (tCallS (sp a cls d) (fun _ => E0) t) := by
  obtain ⟨f, fd, F, hm, hk, hb⟩ := D.ex
  obtain ⟨vs0, hd0⟩ := hf
  refine ⟨fun pins s σ H Q I h => ?_⟩
  refine wpAny_Call_Name_kw (ld_glob (X := X.suite a ((a, oe) :: pn)) I hg hm ?_ hdb)
  refine PySem.W.callWith_K (h₀ := X.base) I.ok.mod.kin hk (thn (ha.run pos pins s σ H _ I h) fun us s1 ⟨vs, H1, I1, r, q⟩ => ⟨I1.kIn, ?_⟩) he hpl
  have hl : us.length = ps.length := by rw [← r.length]; exact F.len _ _ _ _ _ _ _ q
  have b := hb s1 us I1.kIn (by rw [List.append_nil]; exact hl)
  rw [List.append_nil] at b
  have P1 := I1.pin (a, oe) (List.mem_append_left _ List.mem_cons_self)
  have hpin : PinOk X.stack H1 s1 (a, oe) := ⟨P1.1, P1.2.1, fun hm => (List.mem_cons.mp (I1.stkSub a hm)).elim P1.2.2.1 P1.2.2.2.1, P1.2.2.2.2⟩
  have hot : Hot1 (X.suite a ((a, oe) :: pn)).A (a, oe) := ⟨rfl, vs0, hd0, hz.2.2 vs0 hd0⟩
  have hrH : RoomH k (X.suite a ((a, oe) :: pn)).A := ⟨hr.dp, hr.un⟩
  refine wpAny_call (codeAny_mono (F.run (X.suite a ((a, oe) :: pn)).A X.stack s1 H1 ⟨us, []⟩ us vs Q (fun _ _ _ => False) (a, oe) cls d hrH hot hz hpin I1.env0 b r q) fun r s' hq => ?_)
  cases r with
  | error u => exact hq.elim
  | ok fl =>
    cases fl with
    | ret u => exact I1.after hq
    | next => exact False.elim hq
    | brk => exact False.elim hq
    | cont => exact False.elim hq
end
/-! ### what is asked of the handled error -/
section
variable {X : Cx} {p : Addr × Obj} {C d : Addr}
theorem pin_obj {pins : List (Addr × Obj)} {σ : L2.St} {H : Hp} {s : Shared} {v : V} (I : Inv X pins σ H s) (hp : p ∈ X.pn) (hz : L2N.Zn (.ref C) (some d) p.2) (hf : ∃ vs, p.2.data = .fields vs) (e : H d = some (exd d [(("value" : Str), v)])) :
    ∃ od u, PySem.W.InstAt s.heap p.1 p.2 C (some od) ∧ PySem.W.lookIn "value" od = some (some u) ∧ RelV v u := by
  obtain ⟨vs, hd⟩ := hf
  have ho := (I.pin p (List.mem_append_left _ hp)).1
  obtain ⟨mA, hns, hr⟩ := exd_at I.hok e
  obtain ⟨od, hod, hl⟩ := lookIn_ns hns
  have l : List.lookup ("value" : Str) [(("value" : Str), v)] = some v := by simp [List.lookup]
  obtain ⟨u, hu, ru⟩ := RelO.some_of (v := v) (o := mA "value") (by rw [← l]; exact hr "value")
  exact ⟨od, u, ⟨ho, hz.1, by unfold PySem.W.notCls; rw [hd] <;> rfl, by rw [hz.2.1]; exact hod⟩, by rw [hl, hu], ru⟩
def rIsiP (K : PySem.W.Frag) (a C d : Addr) : List V → Hp → VK → Prop := fun xs H Q => ∃ (v c : V) (u : Value) (b : Bool), xs = [.ref a, c] ∧ ClsV c u ∧ H d = some (exd d [(("value" : Str), v)]) ∧ ExcC K C ∧ PySem.W.kitOne K (.ref C) u = some b ∧ Q (.bl b) H
theorem call_isiP (hp : p ∈ X.pn) (hz : L2N.Zn (.ref C) (some d) p.2) (hf : ∃ vs, p.2.data = .fields vs) : CallR X (.builtin "isinstance") (rIsiP X.K p.1 C d) := by
  intro pins s σ H xs us Q I r h
  obtain ⟨v, c, u, b, rfl, k, at_, T, e, q⟩ := h
  obtain ⟨u1, u2, rfl, r1, r2⟩ := vals2 r
  obtain rfl := k.eq r2
  obtain rfl : u1 = Value.ref p.1 := r1
  obtain ⟨od, uv, J, _, _⟩ := pin_obj I hp hz hf at_
  exact PySem.W.kia_one (SqX.kit (ox := p.2) (od := some od) T) I.kIn J e (fun z => nomatch z) fun tk => ⟨.bl b, H, I.tok tk, rfl, q⟩
def tPv (K : PySem.W.Frag) (a C d : Addr) (te : TE) : TE := fun σ H Q => te σ H fun x H1 => ∃ (v : V), x = .ref a ∧ H1 d = some (exd d [(("value" : Str), v)]) ∧ XfC K C ∧ PySem.W.findIn K (.ref C) "value" = some none ∧ Q v H1
theorem pe_pv {e : Expr} {te : TE} {pos : Pos} (hp : p ∈ X.pn) (hz : L2N.Zn (.ref C) (some d) p.2) (hf : ∃ vs, p.2.data = .fields vs) (he : PE X e te) (hb : attributeBase e "value" X.env (eval e X.env) = eval e X.env := by rfl) : PE X (.Attribute e "value" pos) (tPv X.K p.1 C d te) := by
  refine ⟨fun pins s σ H Q I h => ?_⟩
  refine attr_of hb (thn (he.run pins s σ H _ I h) fun u s1 hh => ?_)
  obtain ⟨x, H1, I1, rx, v, ex, at_, T, hno, q⟩ := hh
  subst ex
  obtain rfl : u = Value.ref p.1 := rx
  obtain ⟨od, uv, J, l, ru⟩ := pin_obj I1 hp hz hf at_
  exact HandSPX.exc_get I1.kIn J T.ga T.gg T.exC (PySem.W.findObj_own T.hdC hno rfl l) (handed_of ru) ⟨v, H1, I1.tok _, ru, q⟩
end
end Sq

set_option Elab.async false
set_option linter.all false
set_option maxRecDepth 100000
set_option maxHeartbeats 4000000
/-! Calls that may raise, where the error's context is known to be None. -/
namespace Sq
open PySem PySem.Spec PyProof.Rows L2
theorem okN {P : Program} {w : World} {K : PySem.W.Frag} {mg : Str → Option Value} {base : Heap} {x qual : Str} {st : Stmt} {f : Addr} {fd : FuncData} {N ps : List Str} {k : Nat} {sp : Sp} (F : Fun K x qual st f fd) (S : FnScope N ps (defScope st)) (len : ∀ vs H Q E, sp vs H Q E → vs.length = ps.length)
    (walk : ∀ (cdv : Value) (A : Around) (outer : List Env) (s : Shared) (H : Hp) (vs : List V) (Q : VK) (E : XK), Room k (A.deeper (envOfC qual (defScope st) s.heap.objs.size f cdv)) → sp vs H Q E →
      ∃ t, PSs (cxOf (L2N.CX P w) P w K mg base N qual (defScope st) f cdv A outer s H E) (defBody st) t ∧ t { nx := fun _ H' => Q .non H', rt := Q } (L2.start N vs) H) : FnOk P w K mg base (L2N.CX P w) (k + 1) f fd ps sp := by
  obtain ⟨oc, od, kV, doc, pm, an, cdv, ct, osl, rfl, lk, hcd⟩ := F.ex
  exact fn_of lk hcd S len fun A outer s H vs Q E hr h => walk cdv A outer s H vs Q E hr h
/-- a def with defaults that may raise -/
theorem okDN {P : Program} {w : World} {K : PySem.W.Frag} {mg : Str → Option Value} {base : Heap} {x qual : Str} {prm : Arguments} {bd : List Stmt} {scp : Scope} {dvs : List V} {kws : List (Str × V)} {f : Addr} {fd : FuncData} {names ps : List Str} {k : Nat} {sp : Sp}
    (F : FunD K x qual prm bd scp dvs kws f fd) (sc : FnScope names ps scp) (count : ∀ vs H Q E, sp vs H Q E → vs.length = ps.length)
    (inner : ∀ (cdv : Value) (A : Around) (outer : List Env) (s : Shared) (H : Hp) (vs : List V) (Q : VK) (E : XK), Room k (A.deeper (envOfC qual scp s.heap.objs.size f cdv)) → sp vs H Q E →
      ∃ t, PSs (cxOf (L2N.CX P w) P w K mg base names qual scp f cdv A outer s H E) bd t ∧ t { nx := fun _ H' => Q .non H', rt := Q } (start names vs) H) : FnOk P w K mg base (L2N.CX P w) (k + 1) f fd ps sp :=
  F.ok sc count fun cdv A outer s H vs Q E hr h => inner cdv A outer s H vs Q E hr h
structure Dn (P : Program) (w : World) (K : PySem.W.Frag) (mg : Str → Option Value) (base : Heap) (k : Nat) (x : Str) (ps : List Str) (sp : Sp) : Prop where
  ex : ∃ f fd, FnOk P w K mg base (L2N.CX P w) k f fd ps sp ∧ mg x = some (.ref f) ∧ PySem.W.keepIn K (.ref f) = true ∧ Binds K fd ps []
theorem Dn.mk' {P : Program} {w : World} {K : PySem.W.Frag} {mg : Str → Option Value} {base : Heap} {k : Nat} {x : Str} {st : Stmt} {ps : List Str} {sp : Sp} {f : Addr} {fd : FuncData} (F : Fun K x x st f fd) (G : FnOk P w K mg base (L2N.CX P w) k f fd ps sp) (g : mg x = some (.ref f)) (b : Binds K fd ps []) : Dn P w K mg base k x ps sp :=
  ⟨⟨f, fd, G, g, F.kp, b⟩⟩
theorem Dz.mk' {P : Program} {w : World} {K : PySem.W.Frag} {mg : Str → Option Value} {base : Heap} {k : Nat} {x : Str} {st : Stmt} {ps : List Str} {sp : SpZ} {f : Addr} {fd : FuncData} (F : Fun K x x st f fd) (G : FnHZ P w K mg base CX0 k f fd ps sp) (g : mg x = some (.ref f)) (b : Binds K fd ps []) : Dz P w K mg base k x ps sp :=
  ⟨⟨f, fd, G, g, F.kp, b⟩⟩
section
variable {P : Program} {w : World} {K : PySem.W.Frag} {mg : Str → Option Value} {base : Heap} {N : List Str} {qual : Str} {scope : Scope} {f : Addr} {cd : Value} {A : Around} {outer : List Env} {s : Shared} {H : Hp} {E : XK}
theorem takesN : L2N.Takes (cxOf (L2N.CX P w) P w K mg base N qual scope f cd A outer s H E) (fun cls d _ H' => E cls d H') := L2N.takes_of rfl rfl rfl rfl
theorem ownsN : PassesOwn (model P w) (cxOf (L2N.CX P w) P w K mg base N qual scope f cd A outer s H E).A (cxOf (L2N.CX P w) P w K mg base N qual scope f cd A outer s H E).env (cxOf (L2N.CX P w) P w K mg base N qual scope f cd A outer s H E).xe := passes_of rfl
end
theorem takesN0 {X : Cx} : L2N.Takes X (fun _ _ _ _ => False) := fun _ _ x => by
  obtain ⟨_, _, _, _, _, _, _, _, _, _, _, _, _, _, _, _, z⟩ := x
  exact z.elim
section
variable {X : Cx} {k : Nat} {ps ks : List Str} {sp : Sp} {x : Str} {p pos : Pos} {e : Expr} {es : List Expr} {t tk : TA} {W : WX}
theorem pe_callN (D : Dn X.prog X.w X.K X.mg X.base k x ps sp) (takes : L2N.Takes X W) (hr : Room k X.A) (hg : Gl X x) (ha : PA X (e :: es) t) (hdb : (x == ("__debug__" : Str)) = false := by decide)
    (he : starEach (e :: es) X.env = (false, eval e X.env) :: starEach es X.env := by rfl) (hpl : (backTo pos (starEach es X.env)).any (·.1) = false := by rfl) :
    PE X (.Call (.Name x p) (e :: es) [] pos) (tCallS sp (WE W) t) := by
  obtain ⟨f, fd, F, g, kp, b⟩ := D.ex
  exact pe_callS F hr hg g kp b (L2N.passAt takes) ha hdb he hpl
/-- raise X(e): what is made, its context None -/
theorem pmk_erN {C fI : Addr} {q : Str} {te : TE} (T : SqX.Er X.K X.prog C fI q) (gC : X.mg x = some (.ref C)) (hr : Room k X.A) (hg : Gl X x) (he : PE X e te)
    (hs : starEach [e] X.env = (false, eval e X.env) :: starEach [] X.env := by rfl) (hdb : (x == ("__debug__" : Str)) = false := by decide) :
    L2N.PMk X (.Call (.Name x p) [e] [] pos) (fun σ H Q => te σ H fun v H1 => ∀ d, H1 d = none → Q (.ref C) (some d) (upd H1 d (exd d [(("value" : Str), v)]))) := by
  intro pins s σ H Q I h
  refine wpAny_Call_Name_kw (ld_glob I hg gC ?_ hdb)
  refine PySem.W.callWith_K (h₀ := X.base) I.ok.mod.kin T.kC ?_ hs (by rfl)
  rw [hs]
  show wpAny _ _ (spliced ((false, eval e X.env) :: backTo pos (starEach [] X.env))) _ _ s
  refine Calls.spliced_cons (thn (he.run pins s σ H _ I h) fun u s1 hh => ?_)
  obtain ⟨v, H1, I1, r1, q1⟩ := hh
  refine Calls.spliced_nil ⟨I1.kIn, ?_⟩
  show wpAny _ _ (call (.ref C) [u]) _ _ _
  obtain ⟨mb, hb, boot⟩ := I1.ok.mod.blt
  refine wpAny_call (SqX.made T I1.kIn (I1.ok.mod.glob.keeps I1.bk) I1.nolimit (hb.keeps I1.bk) boot (by have := hr.dp; omega) fun h' tk a d t1 M => ?_)
  have na : H1 a = none := I1.hok.fresh M.big
  have nd : H1 d = none := I1.hok.fresh M.dbig
  obtain ⟨G, g1, g2⟩ := restrict h' fun b => decide (b ≠ a)
  have gk : ∀ b, b ≠ a → G.get? b = h'.get? b := fun b hb => g1 b (decide_eq_true hb)
  have ga : G.get? a = none := g2 a (by simp)
  have old : ∀ b o, s1.heap.get? b = some o → G.get? b = some o := fun b o z => (gk b (Nat.ne_of_lt (Nat.lt_of_lt_of_le (Heap.lt_size z) M.big))).trans (M.keep b o z)
  have nsG : G.Ns1 d (fun y => if y = "value" then some u else none) := M.ns.at fun o z => (gk d M.dne).trans z
  have rel : ∀ f, RelO (List.lookup f [(("value" : Str), v)]) (if f = "value" then some u else none) := relO_put (fs := []) (mA := fun _ => none) r1 fun g => True.intro
  have J : Inv X pins σ (upd H1 d (exd d [(("value" : Str), v)])) { s1 with heap := G, toks := tk } := I1.laid (t' := tk) old M.dbig (exd_ok nsG rel)
  refine ⟨a, _, _, { s1 with heap := G, toks := tk }, _, .ref C, some d, rfl, J, fun b o z => ?_, ga, M.obj, ⟨rfl, rfl, fun vs e => by cases e; rfl⟩, rfl, rfl, by rw [upd_ne (Ne.symm M.dne)]; exact na, rfl, I1.bare, raises_own T.exC T.tyC, q1 d nd⟩
  by_cases hb : b = a
  · rw [hb, ga] at z
    cases z
  · rw [← gk b hb]
    exact z
end
end Sq

set_option Elab.async false
set_option linter.all false
set_option maxRecDepth 100000
set_option maxHeartbeats 2000000
/-! Data read off the layer's heap. -/
namespace Sq
open PySem PySem.Spec PyProof.Rows L2
theorem same_new {H : Hp} {p : Addr} {o : HO} (h : H p = none) : Same H (upd H p o) := fun b x e => by
  rw [upd_ne (ne_of_none e h)]
  exact e
theorem map_at {ks : List Int} {i : Nat} {x : V} (h : (ks.map V.int)[i]? = some x) : ∃ k, ks[i]? = some k ∧ V.int k = x := by
  rw [List.getElem?_map] at h
  exact Option.map_eq_some_iff.mp h
section
variable {K : PySem.W.Frag}
theorem dp_ints {H : Hp} : ∀ (ds : List Int), DpAll K H (ds.map V.int) (ds.map PyData.int)
  | [] => .nil
  | d :: ds => .cons (.int d) (dp_ints ds)
theorem lays_ints : ∀ (ds : List Int), PyData.canLayAll0 (ds.map PyData.int) = true
  | [] => rfl
  | d :: ds => by
    show (PyData.canLay0 (.int d) && PyData.canLayAll0 (ds.map PyData.int)) = true
    rw [lays_ints ds]
    rfl
theorem deep_ints : ∀ (ds : List Int), PyData.depthAll (ds.map PyData.int) ≤ 1
  | [] => Nat.zero_le _
  | _ :: ds => Nat.max_le.mpr ⟨Nat.zero_le _, deep_ints ds⟩
theorem shaped_ints (ds : List Int) : SeqAt.shaped (.list (ds.map PyData.int)) = true :=
  Bool.and_eq_true_iff.mpr ⟨lays_ints ds, decide_eq_true (Nat.le_trans (Nat.add_le_add_right (deep_ints ds) 1) (by decide))⟩
end
/-! ### data of ints and short lists -/
mutual
def il : PyData → Bool
  | .int _ => true
  | .list xs => decide (xs.length ≤ 1000) && ilAll xs
  | _ => false
def ilAll : List PyData → Bool
  | [] => true
  | x :: xs => il x && ilAll xs
end
theorem il_at : ∀ {ds : List PyData} {i : Nat} {d : PyData}, ilAll ds = true → ds[i]? = some d → il d = true
  | x :: xs, 0, d, h, e => by
    cases e
    exact (Bool.and_eq_true_iff.mp h).1
  | x :: xs, i + 1, d, h, e => il_at (Bool.and_eq_true_iff.mp h).2 e
theorem depth_at : ∀ {ds : List PyData} {i : Nat} {d : PyData}, ds[i]? = some d → d.depth ≤ PyData.depthAll ds
  | x :: xs, 0, d, e => by
    cases e
    exact Nat.le_max_left _ _
  | x :: xs, i + 1, d, e => Nat.le_trans (depth_at (ds := xs) e) (Nat.le_max_right _ _)
theorem dp_at {K : PySem.W.Frag} {H : Hp} : ∀ {xs : List V} {ds : List PyData} {i : Nat} {d : PyData}, DpAll K H xs ds → ds[i]? = some d → ∃ x, xs[i]? = some x ∧ Dp K H x d
  | _, _, 0, d, .cons h _, e => by
    cases e
    exact ⟨_, rfl, h⟩
  | _, _, i + 1, d, .cons _ t, e => dp_at (i := i) t e
theorem dp_len {K : PySem.W.Frag} {H : Hp} : ∀ {xs : List V} {ds : List PyData}, DpAll K H xs ds → xs.length = ds.length
  | _, _, .nil => rfl
  | _, _, .cons _ t => congrArg Nat.succ (dp_len t)
mutual
theorem Dp.same {K : PySem.W.Frag} {H H' : Hp} (s : Same H H') : ∀ {d : PyData} {x : V}, Dp K H x d → Dp K H' x d
  | .none, _, .non => .non
  | .bool b, _, .bl _ => .bl b
  | .int i, _, .int _ => .int i
  | .str x, _, .str _ => .str x
  | .list ds, _, .lst h a => .lst (s.seq h) (DpAll.same s a)
  | .tuple ds, _, .tup h a => .tup (by
      rcases h with (h | ⟨o, h⟩) | h
      · exact .inl (.inl (s _ _ h))
      · exact .inl (.inr ⟨o, s _ _ h⟩)
      · exact .inr h) (DpAll.same s a)
theorem DpAll.same {K : PySem.W.Frag} {H H' : Hp} (s : Same H H') : ∀ {ds : List PyData} {xs : List V}, DpAll K H xs ds → DpAll K H' xs ds
  | [], _, .nil => .nil
  | _ :: _, _, .cons h t => .cons (Dp.same s h) (DpAll.same s t)
end
theorem eqv_take : ∀ {ds es : List PyData} {i : Nat} {d e : PyData}, ds[i]? = some d → es[i]? = some e → PyData.eqvAll (ds.take (i + 1)) (es.take (i + 1)) = (PyData.eqvAll (ds.take i) (es.take i) && PyData.eqv d e)
  | x :: xs, y :: ys, 0, d, e, h1, h2 => by
    cases h1
    cases h2
    show (PyData.eqv x y && true) = (true && PyData.eqv x y)
    cases PyData.eqv x y <;> rfl
  | x :: xs, y :: ys, i + 1, d, e, h1, h2 => by
    show (PyData.eqv x y && PyData.eqvAll (xs.take (i + 1)) (ys.take (i + 1))) = ((PyData.eqv x y && PyData.eqvAll (xs.take i) (ys.take i)) && PyData.eqv d e)
    rw [eqv_take (ds := xs) (es := ys) (i := i) h1 h2, Bool.and_assoc]
theorem eqv_lens : ∀ {ds es : List PyData}, ds.length ≠ es.length → PyData.eqvAll ds es = false
  | [], [], h => absurd rfl h
  | [], _ :: _, _ => rfl
  | _ :: _, [], _ => rfl
  | x :: xs, y :: ys, h => by
    show (PyData.eqv x y && PyData.eqvAll xs ys) = false
    rw [eqv_lens (ds := xs) (es := ys) (fun z => h (congrArg Nat.succ z)), Bool.and_false]
theorem isi_of {K : PySem.W.Frag} {H : Hp} {x : V} {t n : String} {b : Bool} {Q : VK} (ty : TyX K H x (.type t)) (h : kitB t n = some b) (q : Q (.bl b) H) : rIsi K [x, .ty n] H Q :=
  ⟨x, .ty n, .type t, .type n, b, rfl, .ty n, ty, kit_ty h, q⟩
theorem ty_seq {K : PySem.W.Frag} {H : Hp} {a : Addr} {xs : List V} (h : SqL K H a xs) : TyX K H (.ref a) (.type "list") := by
  rcases h with (h | ⟨o, h⟩) | ⟨o, vs, m, h, hc, _⟩
  · exact .base (.lst h)
  · exact .base (.frz h)
  · exact .kList h hc
/-! ### the text of a list of ints -/
theorem heavy_ints : ∀ (ks : List Int), (∀ k ∈ ks, k.natAbs < 10 ^ 12) → PyData.weightAll (ks.map PyData.int) ≤ 64 * ks.length
  | [], _ => Nat.le_refl _
  | k :: ks, h => by
    have ih := heavy_ints ks fun x hx => h x (List.mem_cons_of_mem _ hx)
    have hk := h k (List.mem_cons_self ..)
    have w1 : PyData.weight (.int k) ≤ 41 := by
      show (if k == 0 then 0 else k.natAbs.log2 + 1) ≤ 41
      split
      · omega
      · have : k.natAbs.log2 < 40 := PySem.Flt.log2_lt_of (by decide) (Nat.lt_of_lt_of_le hk (by decide))
        omega
    show PyData.weight (.int k) + 1 + PyData.weightAll (ks.map PyData.int) ≤ 64 * (ks.length + 1)
    omega
theorem shows_ints : ∀ (ks : List Int), (∀ k ∈ ks, k.natAbs < 10 ^ 12) → PyData.showableAll (ks.map PyData.int) = true
  | [], _ => rfl
  | k :: ks, h => by
    have ih := shows_ints ks fun x hx => h x (List.mem_cons_of_mem _ hx)
    have hk := h k (List.mem_cons_self ..)
    have : k.natAbs.log2 < 40 := PySem.Flt.log2_lt_of (by decide) (Nat.lt_of_lt_of_le hk (by decide))
    show (decide (k.natAbs.log2 < 1920) && PyData.showableAll (ks.map PyData.int)) = true
    rw [ih, decide_eq_true (by omega)]
    rfl
theorem nodict_ints : ∀ (ks : List Int), PyData.hasDictAll (ks.map PyData.int) = false
  | [] => rfl
  | _ :: ks => nodict_ints ks
theorem short_ints {ks : List Int} (h : ∀ k ∈ ks, k.natAbs < 10 ^ 12) (hl : ks.length ≤ 1000) : (PyData.list (ks.map PyData.int)).shown.length ≤ sizeLine := by
  have w1 : PyData.weight (.list (ks.map PyData.int)) ≤ 64 * ks.length := heavy_ints ks h
  have lv := PyData.leavesShort_of_canLay0 13 (.list (ks.map PyData.int)) (lays_ints ks) (PyData.intsShortAll_ints ks h)
  refine PyData.shown_fits (B := 13) (by decide) (by decide) lv (Nat.le_trans w1 ?_)
  have e : (2 : Nat) ^ 20 = 1048576 := by decide
  omega
theorem dep40 (ks : List Int) : (PyData.list (ks.map PyData.int)).depth ≤ 40 := Nat.le_trans (Nat.add_le_add_right (deep_ints ks) 1) (by decide)
theorem shaped_il {d : PyData} (h : d.canLay0 = true) (h2 : d.depth ≤ 64) : SeqAt.shaped d = true := Bool.and_eq_true_iff.mpr ⟨h, decide_eq_true h2⟩
mutual
theorem il_lay : ∀ {d : PyData}, il d = true → d.canLay0 = true
  | .int _, _ => rfl
  | .list xs, h => ilAll_lay (Bool.and_eq_true_iff.mp h).2
  | .none, h => nomatch h
  | .bool _, h => nomatch h
  | .str _, h => nomatch h
  | .tuple _, h => nomatch h
  | .dict _, h => nomatch h
theorem ilAll_lay : ∀ {ds : List PyData}, ilAll ds = true → PyData.canLayAll0 ds = true
  | [], _ => rfl
  | _ :: _, h => Bool.and_eq_true_iff.mpr ⟨il_lay (Bool.and_eq_true_iff.mp h).1, ilAll_lay (Bool.and_eq_true_iff.mp h).2⟩
end
theorem KE_same {a b : List Int} (hp : a.Perm b) (ha : a.Pairwise (· ≤ ·)) (hb : b.Pairwise (· ≤ ·)) : a = b := hp.eq_of_pairwise (fun x y _ _ h1 h2 => Int.le_antisymm h1 h2) ha hb
theorem il_ints : ∀ (ks : List Int), ilAll (ks.map PyData.int) = true
  | [] => rfl
  | _ :: ks => il_ints ks
theorem eqv_refl' {d : PyData} (h : il d = true) : PyData.eqv d d = true := PySem.SeqAt.eqv_refl d (il_lay h)
end Sq
namespace Sq
open PySem PySem.Spec PyProof.Rows L2
/-! ### repr of any value whose data is known -/
structure Shown (K : PySem.W.Frag) (H : Hp) (x : V) (d : PyData) : Prop where
  dp : Dp K H x d
  sh : d.showable = true
  nd : d.hasDict = false
  dep : d.depth ≤ 40
  fit : d.shown.length ≤ sizeLine
theorem Shown.same {K : PySem.W.Frag} {H H' : Hp} {x : V} {d : PyData} (S : Shown K H x d) (s : Same H H') : Shown K H' x d := ⟨Dp.same s S.dp, S.sh, S.nd, S.dep, S.fit⟩
def rReprV (K : PySem.W.Frag) : List V → Hp → VK → Prop := fun xs H Q => ∃ x d, xs = [x] ∧ Shown K H x d ∧ Q (.str d.shown) H
theorem call_reprV {X : Cx} (hg : X.A.guards = some []) (hu : X.A.units + 64 < cLine) : CallR X (.builtin "repr") (rReprV X.K) := by
  intro pins s σ H xs us Q I r h
  obtain ⟨x, d, rfl, S, q⟩ := h
  obtain ⟨u, rfl, rv⟩ := vals1 r
  obtain ⟨dp, sh, nd, dep, fit⟩ := S
  cases dp with
  | non =>
    obtain rfl : u = Value.none := rv
    exact PySem.P.repr_of_none ⟨.str _, H, I.tok _, ⟨_, rfl⟩, q⟩
  | bl b =>
    obtain rfl : u = Value.bool b := rv
    exact PySem.P.repr_of_bool ⟨.str _, H, I.tok _, ⟨_, rfl⟩, q⟩
  | int i =>
    obtain ⟨t, rfl⟩ := rv
    exact PySem.P.repr_of_int (of_decide_eq_true sh) ⟨.str _, H, I.tok _, ⟨_, rfl⟩, q⟩
  | str y =>
    obtain ⟨t, rfl⟩ := rv
    exact PySem.P.repr_of_str ⟨.str _, H, I.tok _, ⟨_, rfl⟩, q⟩ fit
  | lst hs ha => exact call_reprD hg hu pins s σ H _ _ Q I r ⟨_, _, rfl, .lst hs ha, sh, nd, dep, fit, q⟩
  | tup hs ha => exact call_reprD hg hu pins s σ H _ _ Q I r ⟨_, _, rfl, .tup hs ha, sh, nd, dep, fit, q⟩
theorem fits40 {d : PyData} (h : d.leavesShort 40 = true) (hw : d.weight ≤ 100000) : d.shown.length ≤ sizeLine := by
  have e := PyData.shown_le 40 (by decide) d h
  rw [sizeLine_eq]
  omega
/-! ### powers of greater numbers -/
def CPowW (i j : Int) : Prop := 0 ≤ j ∧ (Builtin.Int.intBits i : Int) * j ≤ 2 ^ 27
theorem op_powW {X : Cx} : OpR X (binaryOp .Pow) (rI CPowW fun i j => .int (i ^ j.toNat)) := opI fun _ _ _ _ _ _ _ hc q => pow_int hc.1 hc.2 q
theorem powW_of {i j : Int} {m : Nat} (h0 : 0 ≤ j) (hi : i.natAbs < 2 ^ m) (hm : 0 < m) (hj : (m : Int) * j ≤ 2 ^ 27) : CPowW i j := by
  refine ⟨h0, Int.le_trans (Int.mul_le_mul_of_nonneg_right ?_ h0) hj⟩
  unfold Builtin.Int.intBits
  split
  · omega
  · have := PySem.Flt.log2_lt_of hm hi
    omega
end Sq
namespace Sq
open PySem PySem.Spec PyProof.Rows L2
def rMulS : R2 := fun x y H Q => ∃ a n, x = .str a ∧ y = .int n ∧ _root_.PySem.MulOk a n ∧ Q (.str (_root_.PySem.Txt.mul a n)) H
theorem op_mulS {X : Cx} : OpR X (binaryOp .Mult) rMulS := by
  intro pins s σ H x y v u Q I rx ry h
  obtain ⟨a, n, rfl, rfl, hok, q⟩ := h
  obtain ⟨t, rfl⟩ := rx
  obtain ⟨t', rfl⟩ := ry
  exact SB.mul hok fun t2 k => ⟨.str _, H, I.tok k, ⟨_, rfl⟩, q⟩
end Sq

set_option Elab.async false
set_option linter.all false
/-! Squeezing and reaches in plain Lean. -/
namespace Sq
def once (n k : Int) : Int := n / k + n % k
def sq (n : Int) (ks : List Int) : Int := ks.foldl once n
def rw1 (k R : Int) : Int := if k > R + 1 then R else (R + 3 - k) * k - 2
def rch (ks : List Int) (v : Int) : Int := ks.foldr rw1 v

theorem rw1_pos {k R : Int} (hk : 2 ≤ k) (hR : 1 ≤ R) : 1 ≤ rw1 k R := by
  unfold rw1
  split
  · exact hR
  · have h : 2 * 2 ≤ (R + 3 - k) * k := Int.mul_le_mul (by omega) hk (by omega) (by omega)
    omega

theorem once_small {k n : Int} (h0 : 0 ≤ n) (h : n < k) : once n k = n := by
  unfold once
  rw [Int.ediv_eq_zero_of_lt h0 h, Int.emod_eq_of_lt h0 h]
  omega

theorem once_nonneg {k n : Int} (hk : 2 ≤ k) (h0 : 0 ≤ n) : 0 ≤ once n k := by
  unfold once
  have h1 := Int.ediv_nonneg h0 (by omega : 0 ≤ k)
  have h2 := Int.emod_nonneg n (by omega : k ≠ 0)
  omega

theorem once_le {k R n : Int} (hk : 2 ≤ k) (hR : 1 ≤ R) (h0 : 0 ≤ n) (h : n ≤ rw1 k R) : once n k ≤ R := by
  unfold rw1 at h
  split at h
  · rename_i hg
    rw [once_small h0 (by omega)]
    exact h
  · rename_i hg
    unfold once
    have e := Int.mul_ediv_add_emod n k
    have r0 := Int.emod_nonneg n (by omega : k ≠ 0)
    have r1 := Int.emod_lt_of_pos n (by omega : 0 < k)
    generalize n / k = q at *
    generalize n % k = r at *
    by_cases c : q + r ≤ R
    · exact c
    · exfalso
      by_cases c2 : R + 3 - k ≤ q
      · have := Int.mul_le_mul_of_nonneg_left c2 (by omega : 0 ≤ k)
        rw [Int.mul_comm k (R + 3 - k)] at this
        omega
      · have c3 : q = R + 2 - k := by omega
        have c4 : r = k - 1 := by omega
        have e2 : k * (R + 2 - k) = (R + 3 - k) * k - k := by
          rw [show R + 2 - k = (R + 3 - k) - 1 by omega, Int.mul_sub, Int.mul_one, Int.mul_comm]
        rw [c3, e2] at e
        omega

theorem once_next {k R : Int} (hk : 2 ≤ k) (hR : 1 ≤ R) : once (rw1 k R + 1) k = R + 1 := by
  unfold rw1
  split
  · exact once_small (by omega) (by omega)
  · have e : (R + 3 - k) * k - 2 + 1 = (k - 1) + k * (R + 2 - k) := by
      rw [show R + 2 - k = (R + 3 - k) - 1 by omega, Int.mul_sub, Int.mul_one, Int.mul_comm k]
      omega
    unfold once
    rw [e, Int.add_mul_ediv_left _ _ (by omega : k ≠ 0), Int.add_mul_emod_self_left, Int.ediv_eq_zero_of_lt (by omega) (by omega), Int.emod_eq_of_lt (by omega) (by omega)]
    omega

theorem rch_pos : ∀ (ks : List Int) (v : Int), (∀ k ∈ ks, 2 ≤ k) → 1 ≤ v → 1 ≤ rch ks v
  | [], v, _, hv => hv
  | k :: ks, v, h, hv => rw1_pos (h k (List.mem_cons_self ..)) (rch_pos ks v (fun x hx => h x (List.mem_cons_of_mem _ hx)) hv)

theorem sq_le : ∀ (ks : List Int) (v n : Int), (∀ k ∈ ks, 2 ≤ k) → 1 ≤ v → 0 ≤ n → n ≤ rch ks v → sq n ks ≤ v
  | [], v, n, _, _, _, hn => hn
  | k :: ks, v, n, h, hv, h0, hn =>
    have hk := h k (List.mem_cons_self ..)
    have ht : ∀ x ∈ ks, 2 ≤ x := fun x hx => h x (List.mem_cons_of_mem _ hx)
    sq_le ks v (once n k) ht hv (once_nonneg hk h0) (once_le hk (rch_pos ks v ht hv) h0 hn)

theorem sq_next : ∀ (ks : List Int) (v : Int), (∀ k ∈ ks, 2 ≤ k) → 1 ≤ v → sq (rch ks v + 1) ks = v + 1
  | [], v, _, _ => rfl
  | k :: ks, v, h, hv => by
    have hk := h k (List.mem_cons_self ..)
    have ht : ∀ x ∈ ks, 2 ≤ x := fun x hx => h x (List.mem_cons_of_mem _ hx)
    show sq (once (rw1 k (rch ks v) + 1) k) ks = v + 1
    rw [once_next hk (rch_pos ks v ht hv)]
    exact sq_next ks v ht hv

theorem rch_mono {ks : List Int} {v u : Int} (h : ∀ k ∈ ks, 2 ≤ k) (hv : 1 ≤ v) (hu : v ≤ u) : rch ks v ≤ rch ks u := by
  by_cases c : rch ks v ≤ rch ks u
  · exact c
  · exfalso
    have p := rch_pos ks u h (by omega)
    have a := sq_le ks v (rch ks u + 1) h hv (by omega) (by omega)
    rw [sq_next ks u h (by omega)] at a
    omega

/-- the least run with more characters is found by trying -/
theorem sq_gt {ks : List Int} {v n : Int} (h : ∀ k ∈ ks, 2 ≤ k) (hv : 1 ≤ v) (h0 : 0 ≤ n) (h1 : n ≤ rch ks v + 1) (c : v < sq n ks) : n = rch ks v + 1 := by
  by_cases d : n ≤ rch ks v
  · have := sq_le ks v n h hv h0 d
    omega
  · omega
theorem sq_lt {ks : List Int} {v n : Int} (h : ∀ k ∈ ks, 2 ≤ k) (hv : 1 ≤ v) (h1 : n ≤ rch ks v + 1) (c : sq n ks ≤ v) : n ≤ rch ks v := by
  by_cases d : n ≤ rch ks v
  · exact d
  · have e : n = rch ks v + 1 := by omega
    rw [e, sq_next ks v h hv] at c
    omega
theorem sq_concat (n : Int) (ks : List Int) (k : Int) : sq n (ks ++ [k]) = once (sq n ks) k := by
  unfold sq
  rw [List.foldl_append]
  rfl
end Sq

set_option Elab.async false
set_option linter.all false
set_option maxRecDepth 100000
set_option maxHeartbeats 2000000
/-! What the laws share: the built-in names, the error classes, low numbers, data that can be shown, keeping heaps. -/
namespace Sq
open PySem PySem.Spec PyProof.Rows L2
structure Bi (mg : Str → Option Value) : Prop where
  n_len : mg "len" = none
  n_min : mg "min" = none
  n_max : mg "max" = none
  n_abs : mg "abs" = none
  n_range : mg "range" = none
  n_isinstance : mg "isinstance" = none
  n_repr : mg "repr" = none
  n_enumerate : mg "enumerate" = none
  n_reversed : mg "reversed" = none
  n_sorted : mg "sorted" = none
  n_bool : mg "bool" = none
  n_int : mg "int" = none
  n_str : mg "str" = none
  n_list : mg "list" = none
  n_tuple : mg "tuple" = none
  n_set : mg "set" = none
  n_sum : mg "sum" = none
  n_zip : mg "zip" = none
  n_all : mg "all" = none
  n_any : mg "any" = none
  n_ValueError : mg "ValueError" = none
  n_divmod : mg "divmod" = none
structure Errs (P : Program) (K : PySem.W.Frag) (mg : Str → Option Value) (c fI : Nat → Addr) (qn : Nat → Str) (cB : Addr) : Prop where
  er : ∀ n, n < 5 → True ∧ SqX.Er K P (c n) (fI n) (qn n)
  g0 : mg "InvalidList" = some (.ref (c 0))
  g1 : mg "InvalidNumber" = some (.ref (c 1))
  g2 : mg "InvalidCharacter" = some (.ref (c 2))
  g3 : mg "NothingToUndo" = some (.ref (c 3))
  g4 : mg "Unreadable" = some (.ref (c 4))
  g5 : mg "SqueezeError" = some (.ref cB)
  is : ∀ n m, n < 5 → m < 5 → PySem.W.kitOne K (.ref (c n)) (.ref (c m)) = some (decide (n = m))
  isB : ∀ n, n < 5 → PySem.W.kitOne K (.ref (c n)) (.ref cB) = some true
  isV : ∀ n, n < 5 → PySem.W.kitOne K (.ref (c n)) (.type "ValueError") = some true
  ex : ∀ n, n < 5 → ExcC K (c n)
  xf : ∀ n, n < 5 → XfC K (c n)
/-- what else is known of the error classes -/
structure Errs2 (K : PySem.W.Frag) (c : Nat → Addr) (cB : Addr) : Prop where
  ma : ∀ n, n < 5 → PySem.W.exmOne K (.ref (c n)) (.ref cB) = some true
  st : ∀ n, n < 5 → PySem.W.subIn K (.ref (c n)) (.type "StopIteration") = some false
  nv : ∀ n, n < 5 → PySem.W.findIn K (.ref (c n)) "value" = some none
def nmE (n : Nat) : Str := ["InvalidList", "InvalidNumber", "InvalidCharacter", "NothingToUndo", "Unreadable"].getD n "InvalidList"
/-- the first number less than 2 -/
def lowAt : List Int → Option Nat
  | [] => none
  | k :: ks => if k < 2 then some 0 else (lowAt ks).map (· + 1)
theorem lowAt_none : ∀ {ks : List Int}, lowAt ks = none → ∀ k ∈ ks, 2 ≤ k
  | k :: ks, h, x, hx => by
    unfold lowAt at h
    by_cases c : k < 2
    · rw [if_pos c] at h
      cases h
    · rw [if_neg c] at h
      rcases List.mem_cons.mp hx with e | e
      · omega
      · cases q : lowAt ks with
        | none => exact lowAt_none q x e
        | some j => rw [q] at h; cases h
theorem lowAt_take : ∀ (ks : List Int) (i : Nat), (∀ k ∈ ks.take i, 2 ≤ k) → (∀ k, ks[i]? = some k → k < 2 → lowAt ks = some i) ∧ (ks.length ≤ i → lowAt ks = none)
  | [], i, _ => ⟨fun k e => by simp at e, fun _ => rfl⟩
  | k :: ks, 0, _ => ⟨fun x e c => by
      cases e
      show (if k < 2 then some 0 else (lowAt ks).map (· + 1)) = some 0
      rw [if_pos c], fun z => by simp at z⟩
  | k :: ks, i + 1, h => by
    have hk := h k (by simp)
    obtain ⟨a, b⟩ := lowAt_take ks i fun x hx => h x (by simp [hx])
    refine ⟨fun x e c => ?_, fun z => ?_⟩
    · show (if k < 2 then some 0 else (lowAt ks).map (· + 1)) = some (i + 1)
      rw [if_neg (by omega), a x e c]
      rfl
    · show (if k < 2 then some 0 else (lowAt ks).map (· + 1)) = none
      rw [if_neg (by omega), b (by simpa using z)]
      rfl
/-! ### data that can be shown -/
structure Gd (n : Nat) (d : PyData) : Prop where
  sh : d.showable = true
  nd : d.hasDict = false
  dep : d.depth ≤ 4
  lf : d.leavesShort 40 = true
  wt : d.weight ≤ n
structure GdA (n : Nat) (ds : List PyData) : Prop where
  sh : PyData.showableAll ds = true
  nd : PyData.hasDictAll ds = false
  dep : PyData.depthAll ds ≤ 3
  lf : PyData.leavesShortAll 40 ds = true
  wt : PyData.weightAll ds ≤ n
theorem gd_int {i : Int} (h : i.natAbs < 10 ^ 31) : Gd 121 (.int i) := by
  have lg : i.natAbs.log2 < 120 := PySem.Flt.log2_lt_of (by decide) (Nat.lt_of_lt_of_le h (by decide))
  refine ⟨decide_eq_true (Nat.lt_trans lg (by decide)), rfl, Nat.zero_le _, ?_, ?_⟩
  · have e := int_text_length_le10 (k := 31) (by decide) h
    refine decide_eq_true ?_
    show (Str.ofString (toString i)).length ≤ 40
    rw [PySem.ofString_length]
    omega
  · show (if i == 0 then 0 else i.natAbs.log2 + 1) ≤ 121
    split <;> omega
theorem GdA.nil : GdA 0 [] := ⟨rfl, rfl, Nat.zero_le _, rfl, Nat.le_refl _⟩
theorem GdA.cons {n m : Nat} {d : PyData} {ds : List PyData} (h : Gd n d) (dp : d.depth ≤ 3) (t : GdA m ds) : GdA (n + 1 + m) (d :: ds) := by
  refine ⟨?_, ?_, Nat.max_le.mpr ⟨dp, t.dep⟩, ?_, ?_⟩
  · show (d.showable && PyData.showableAll ds) = true
    rw [h.sh, t.sh]; rfl
  · show (d.hasDict || PyData.hasDictAll ds) = false
    rw [h.nd, t.nd]; rfl
  · show (d.leavesShort 40 && PyData.leavesShortAll 40 ds) = true
    rw [h.lf, t.lf]; rfl
  · have a := h.wt
    have b := t.wt
    show d.weight + 1 + PyData.weightAll ds ≤ n + 1 + m
    omega
theorem GdA.list {n : Nat} {ds : List PyData} (t : GdA n ds) : Gd n (.list ds) := ⟨t.sh, t.nd, Nat.add_le_add_right t.dep 1, t.lf, t.wt⟩
theorem Gd.le {n m : Nat} {d : PyData} (h : Gd n d) (l : n ≤ m) : Gd m d := ⟨h.sh, h.nd, h.dep, h.lf, Nat.le_trans h.wt l⟩
theorem gda_ints : ∀ (ks : List Int), (∀ k ∈ ks, k.natAbs < 10 ^ 31) → GdA (122 * ks.length) (ks.map PyData.int) ∧ PyData.depthAll (ks.map PyData.int) ≤ 0
  | [], _ => ⟨GdA.nil, Nat.le_refl _⟩
  | k :: ks, h => by
    obtain ⟨a, b⟩ := gda_ints ks fun x hx => h x (List.mem_cons_of_mem _ hx)
    refine ⟨?_, Nat.max_le.mpr ⟨Nat.zero_le _, b⟩⟩
    have c := GdA.cons (gd_int (h k (List.mem_cons_self ..))) (Nat.zero_le _) a
    rw [List.length_cons, Nat.mul_add, Nat.mul_one, Nat.add_comm (122 * ks.length)]
    exact c
theorem Gd.shown {n : Nat} {K : PySem.W.Frag} {H : Hp} {x : V} {d : PyData} (h : Gd n d) (l : n ≤ 100000) (dp : Dp K H x d) : Shown K H x d :=
  ⟨dp, h.sh, h.nd, Nat.le_trans h.dep (by decide), fits40 h.lf (Nat.le_trans h.wt l)⟩
/-! ### the low numbers -/
theorem lowAt_some : ∀ {ks : List Int} {j : Nat}, lowAt ks = some j → j < ks.length ∧ ks.getD j 2 < 2 ∧ ∀ m, m < j → 2 ≤ ks.getD m 2
  | k :: ks, j, h => by
    have h' : (if k < 2 then some 0 else (lowAt ks).map (· + 1)) = some j := h
    by_cases c : k < 2
    · rw [if_pos c] at h'
      cases h'
      exact ⟨Nat.succ_pos _, c, fun m hm => absurd hm (Nat.not_lt_zero _)⟩
    · rw [if_neg c] at h'
      cases q : lowAt ks with
      | none => rw [q] at h'; cases h'
      | some i =>
        rw [q] at h'
        cases h'
        obtain ⟨a, b, d⟩ := lowAt_some q
        refine ⟨Nat.succ_lt_succ a, b, fun m hm => ?_⟩
        cases m with
        | zero => show 2 ≤ k; omega
        | succ m => exact d m (Nat.lt_of_succ_lt_succ hm)
def lowIx (ks : List Int) (i : Nat) : List Int := ((List.range i).filter fun j => decide (ks.getD j 2 < 2)).map fun j : Nat => (j : Int)
theorem lowIx_succ (ks : List Int) (i : Nat) : lowIx ks (i + 1) = if ks.getD i 2 < 2 then lowIx ks i ++ [(i : Int)] else lowIx ks i := by
  unfold lowIx
  rw [List.range_succ, List.filter_append, List.map_append]
  by_cases h : ks.getD i 2 < 2
  · have e : [i].filter (fun j => decide (ks.getD j 2 < 2)) = [i] := by
      rw [List.filter_cons, decide_eq_true h]
      rfl
    rw [if_pos h, e]
    rfl
  · have e : [i].filter (fun j => decide (ks.getD j 2 < 2)) = [] := by
      rw [List.filter_cons, decide_eq_false h]
      rfl
    rw [if_neg h, e]
    exact List.append_nil _
theorem lowIx_len (ks : List Int) (i : Nat) : (lowIx ks i).length ≤ i := by
  unfold lowIx
  rw [List.length_map]
  have := List.length_filter_le (fun j => decide (ks.getD j 2 < 2)) (List.range i)
  rwa [List.length_range] at this
theorem lowIx_none {ks : List Int} : ∀ {i : Nat}, (∀ m, m < i → 2 ≤ ks.getD m 2) → lowIx ks i = []
  | 0, _ => rfl
  | i + 1, h => by
    rw [lowIx_succ, if_neg (by have := h i (by omega); omega)]
    exact lowIx_none fun m hm => h m (by omega)
theorem lowIx_head {ks : List Int} {j : Nat} (a : ks.getD j 2 < 2) (b : ∀ m, m < j → 2 ≤ ks.getD m 2) : ∀ {i : Nat}, j < i → ∃ r, lowIx ks i = (j : Int) :: r
  | i + 1, h => by
    rw [lowIx_succ]
    by_cases e : j = i
    · subst e
      rw [if_pos a, lowIx_none b]
      exact ⟨[], rfl⟩
    · obtain ⟨r, hr⟩ := lowIx_head a b (i := i) (by omega)
      rw [hr]
      split
      · exact ⟨_, rfl⟩
      · exact ⟨_, rfl⟩
theorem low_none {ks : List Int} (h : lowAt ks = none) : lowIx ks ks.length = [] := lowIx_none fun m hm => by
  have : ∀ {ks : List Int} {m : Nat}, lowAt ks = none → 2 ≤ ks.getD m 2 := fun {ks} => by
    induction ks with
    | nil => intro m _; cases m <;> exact Int.le_refl _
    | cons k ks ih =>
      intro m h
      have h' : (if k < 2 then some 0 else (lowAt ks).map (· + 1)) = none := h
      by_cases c : k < 2
      · rw [if_pos c] at h'; cases h'
      · rw [if_neg c] at h'
        have h2 : lowAt ks = none := by
          cases q : lowAt ks with
          | none => rfl
          | some i => rw [q] at h'; cases h'
        cases m with
        | zero => show 2 ≤ k; omega
        | succ m => exact ih h2
  exact this h
theorem low_some {ks : List Int} {j : Nat} (h : lowAt ks = some j) : ∃ r, lowIx ks ks.length = (j : Int) :: r := by
  obtain ⟨a, b, c⟩ := lowAt_some h
  exact lowIx_head b c a
/-- the heap without one cell -/
def wo (H : Hp) (D : Addr) : Hp := fun b => if b = D then none else H b
theorem wo_upd {H : Hp} {D : Addr} {o : HO} : wo (upd H D o) D = wo H D := by
  funext b
  unfold wo
  by_cases h : b = D
  · rw [if_pos h, if_pos h]
  · rw [if_neg h, if_neg h, upd_ne h]
theorem wo_ne {H : Hp} {D b : Addr} (h : b ≠ D) : wo H D b = H b := by
  unfold wo
  rw [if_neg h]
theorem wo_same {H : Hp} {D : Addr} : Same (wo H D) H := fun b o e => by
  unfold wo at e
  by_cases h : b = D
  · rw [if_pos h] at e; cases e
  · rw [if_neg h] at e; exact e
theorem same_wo {G H : Hp} {D : Addr} (s : Same G H) (h : G D = none) : Same G (wo H D) := fun b o e => by
  rw [wo_ne (fun z => by subst z; rw [h] at e; cases e)]
  exact s b o e
theorem wo_self {H : Hp} {D : Addr} : wo H D D = none := by
  unfold wo
  rw [if_pos rfl]
theorem dp_snoc {K : PySem.W.Frag} {H : Hp} {v : V} {d : PyData} (h : Dp K H v d) : ∀ {xs : List V} {ds : List PyData}, DpAll K H xs ds → DpAll K H (xs ++ [v]) (ds ++ [d])
  | _, _, .nil => .cons h .nil
  | _, _, .cons a t => .cons a (dp_snoc h t)
end Sq

set_option Elab.async false
set_option linter.all false
set_option maxRecDepth 100000
set_option maxHeartbeats 1000000
/-! What is asked of the handled error in its suite, whatever its class. -/
namespace Sq
open PySem PySem.Spec PyProof.Rows L2
section
variable {X : Cx} {p : Addr × Obj} {cls : Value} {d : Option Addr}
def rIsiG (K : PySem.W.Frag) (a : Addr) (cls : Value) (d : Option Addr) : List V → Hp → VK → Prop := fun xs H Q => ∃ (C dd : Addr) (v c : V) (u : Value) (b : Bool), cls = .ref C ∧ d = some dd ∧ xs = [.ref a, c] ∧ ClsV c u ∧ H dd = some (exd dd [(("value" : Str), v)]) ∧ ExcC K C ∧ PySem.W.kitOne K (.ref C) u = some b ∧ Q (.bl b) H
theorem call_isiG (hp : p ∈ X.pn) (hz : L2N.Zn cls d p.2) (hf : ∃ vs, p.2.data = .fields vs) : CallR X (.builtin "isinstance") (rIsiG X.K p.1 cls d) := by
  intro pins s σ H xs us Q I r h
  obtain ⟨C, dd, v, c, u, b, rfl, rfl, e1, e2, e3, e4, e5, q⟩ := h
  exact call_isiP (C := C) (d := dd) hp hz hf pins s σ H xs us Q I r ⟨v, c, u, b, e1, e2, e3, e4, e5, q⟩
def rIsiGT (K : PySem.W.Frag) (a : Addr) (cls : Value) (d : Option Addr) : List V → Hp → VK → Prop := fun xs H Q => ∃ (C dd tp : Addr) (v : V) (cs : List V) (us : List Value) (b : Bool), cls = .ref C ∧ d = some dd ∧ xs = [.ref a, .ref tp] ∧ H tp = some (.tup cs) ∧ Paired ClsV cs us ∧ H dd = some (exd dd [(("value" : Str), v)]) ∧ ExcC K C ∧ PySem.W.kitAny K (.ref C) us = some b ∧ Q (.bl b) H
theorem call_isiGT (hp : p ∈ X.pn) (hz : L2N.Zn cls d p.2) (hf : ∃ vs, p.2.data = .fields vs) : CallR X (.builtin "isinstance") (rIsiGT X.K p.1 cls d) := by
  intro pins s σ H xs vs Q I r h
  obtain ⟨C, dd, tp, v, cs, us, b, rfl, rfl, rfl, ht, pc, at_, T, e, q⟩ := h
  obtain ⟨u1, u2, rfl, r1, r2⟩ := vals2 r
  obtain rfl : u1 = Value.ref p.1 := r1
  obtain rfl : u2 = Value.ref tp := r2
  obtain ⟨od, uv, J, _, _⟩ := pin_obj I hp hz hf at_
  obtain ⟨few, its, rv, ob, there, isT, n, data⟩ := (show ObjOk X.prog X.w H s.heap tp (.tup cs) from I.hok tp _ ht)
  have same := ClsV.all pc rv
  subst same
  obtain ⟨oc, dct, dt, sl⟩ := ob
  simp only at isT data
  subst isT data
  exact PySem.W.kia_tup (SqX.kit (ox := p.2) (od := some od) T) I.kIn J there e (fun z => nomatch z) fun tk => ⟨.bl b, H, I.tok tk, rfl, q⟩
def tGv (K : PySem.W.Frag) (a : Addr) (cls : Value) (d : Option Addr) (te : TE) : TE := fun σ H Q => te σ H fun x H1 => ∃ (C dd : Addr) (v : V), cls = .ref C ∧ d = some dd ∧ x = .ref a ∧ H1 dd = some (exd dd [(("value" : Str), v)]) ∧ XfC K C ∧ PySem.W.findIn K (.ref C) "value" = some none ∧ Q v H1
theorem pe_gv {e : Expr} {te : TE} {pos : Pos} (hp : p ∈ X.pn) (hz : L2N.Zn cls d p.2) (hf : ∃ vs, p.2.data = .fields vs) (he : PE X e te) (hb : attributeBase e "value" X.env (eval e X.env) = eval e X.env := by rfl) : PE X (.Attribute e "value" pos) (tGv X.K p.1 cls d te) := by
  refine ⟨fun pins s σ H Q I h => ?_⟩
  refine attr_of hb (thn (he.run pins s σ H _ I h) fun u s1 hh => ?_)
  obtain ⟨x, H1, I1, rx, C, dd, v, rfl, rfl, ex, at_, T, hno, q⟩ := hh
  subst ex
  obtain rfl : u = Value.ref p.1 := rx
  obtain ⟨od, uv, J, l, ru⟩ := pin_obj I1 hp hz hf at_
  exact HandSPX.exc_get I1.kIn J T.ga T.gg T.exC (PySem.W.findObj_own T.hdC hno rfl l) (handed_of ru) ⟨v, H1, I1.tok _, ru, q⟩
end
section
variable {X : Cx} {a : Addr} {oe : Obj} {cls : Value} {d : Option Addr} {pn : List (Addr × Obj)}
theorem call_isiS (hz : L2N.Zn cls d oe) (hf : ∃ vs, oe.data = .fields vs) : CallR (X.suite a ((a, oe) :: pn)) (.builtin "isinstance") (rIsiG X.K a cls d) := call_isiG (X := X.suite a ((a, oe) :: pn)) (p := (a, oe)) List.mem_cons_self hz hf
theorem call_isiST (hz : L2N.Zn cls d oe) (hf : ∃ vs, oe.data = .fields vs) : CallR (X.suite a ((a, oe) :: pn)) (.builtin "isinstance") (rIsiGT X.K a cls d) := call_isiGT (X := X.suite a ((a, oe) :: pn)) (p := (a, oe)) List.mem_cons_self hz hf
theorem pe_sv {e : Expr} {te : TE} {pos : Pos} (hz : L2N.Zn cls d oe) (hf : ∃ vs, oe.data = .fields vs) (he : PE (X.suite a ((a, oe) :: pn)) e te) (hb : attributeBase e "value" X.env (eval e X.env) = eval e X.env := by rfl) :
    PE (X.suite a ((a, oe) :: pn)) (.Attribute e "value" pos) (tGv X.K a cls d te) := pe_gv (X := X.suite a ((a, oe) :: pn)) (p := (a, oe)) List.mem_cons_self hz hf he hb
end
end Sq

set_option Elab.async false
set_option linter.all false
set_option maxRecDepth 100000
set_option maxHeartbeats 1000000
/-! A def that may raise, called where it doesn't; keywords of such a def. -/
namespace Sq
open PySem PySem.Spec PyProof.Rows L2
/-- as a def that lets nothing out -/
theorem calmly {P : Program} {w : World} {K : PySem.W.Frag} {mg : Str → Option Value} {base : Heap} {k : Nat} {f : Addr} {fd : FuncData} {ps : List Str} {sp : Sp} (G : FnOk P w K mg base (L2N.CX P w) k f fd ps sp) :
    FnOk P w K mg base CX0 k f fd ps (fun vs H Q _ => sp vs H Q fun _ _ _ => False) := by
  refine ⟨fun vs H Q E h => G.len _ _ _ _ h, fun A outer s H args us vs Q E hr e0 hb hv h => ?_⟩
  refine codeAny_mono (G.run A outer s H args us vs Q (fun _ _ _ => False) hr e0 hb hv h) fun r s' hq => ?_
  cases r with
  | error u =>
    obtain ⟨_, _, _, _, _, _, _, _, _, _, _, _, z⟩ := (show L2N.CX P w outer H s (fun _ _ _ => False) u s' from hq)
    exact z.elim
  | ok fl =>
    cases fl with
    | ret u => exact hq
    | next => exact hq
    | brk => exact hq
    | cont => exact hq
structure Dnk (P : Program) (w : World) (K : PySem.W.Frag) (mg : Str → Option Value) (base : Heap) (k : Nat) (x : Str) (ps ks : List Str) (g : List Value → List Value → List Value) (gV : List V → List V → List V) (sp : Sp) : Prop where
  ex : ∃ f fd, FnOk P w K mg base (L2N.CX P w) k f fd ps sp ∧ mg x = some (.ref f) ∧ PySem.W.keepIn K (.ref f) = true ∧ KBn K fd ps 0 ks g gV
theorem kbn_mk {K : PySem.W.Frag} {x qual : Str} {st : Stmt} {f : Addr} {fd : FuncData} {ps : List Str} (F : Fun K x qual st f fd) (ks : List Str) (g : List Value → List Value → List Value) (gV : List V → List V → List V)
    (rel : ∀ {vs : List V} {us : List Value} {zs : List V} {ws : List Value}, Vals vs us → Vals zs ws → Vals (gV vs zs) (g us ws))
    (h : ∀ (kV doc pm : Value) (an : Option Addr) (cdv ct : Value) (ws : List Value), ws.length = ks.length → bindArgs (PySem.W.fnOf x qual (defArgs st) (defBody st) (defScope st) .none kV doc pm an cdv ct) ⟨[], ks.zip ws⟩ = pure (ps.zip (g [] ws))) : KBn K fd ps 0 ks g gV := by
  obtain ⟨oc, od, kV, doc, pm, an, cdv, ct, osl, rfl, lk, hcd⟩ := F.ex
  refine ⟨fun s us ws X l1 l2 => ?_, rel⟩
  obtain rfl : us = [] := List.length_eq_zero_iff.mp l1
  exact .of_eq (h kV doc pm an cdv ct ws l2)
/-- three values in another order -/
def perm3 {α : Type} (i j k : Nat) : List α → List α → List α := fun _ zs => match zs with
  | [x, y, z] => [[x, y, z].getD i x, [x, y, z].getD j x, [x, y, z].getD k x]
  | _ => []
def perm4 {α : Type} (i j k l : Nat) : List α → List α → List α := fun _ zs => match zs with
  | [x, y, z, u] => [[x, y, z, u].getD i x, [x, y, z, u].getD j x, [x, y, z, u].getD k x, [x, y, z, u].getD l x]
  | _ => []
end Sq

set_option Elab.async false
set_option linter.all false
set_option maxRecDepth 100000
set_option maxHeartbeats 2000000
/-! Objects of an own class: made, their methods called, their properties read, where these may raise too. -/
namespace Sq
open PySem PySem.Spec PyProof.Rows L2
section
variable {X : Cx} {CX : CXT} {k n : Nat} {f C : Addr} {fd : FuncData} {ps ks : List Str} {sp : Sp} {E : XK} {g : List Value → List Value → List Value} {gV : List V → List V → List V}
theorem run_fnKS {pins : List (Addr × Obj)} {σ : L2.St} {H : Hp} {s : Shared} {Q : VK} {us ws : List Value} {vs zs : List V} (F : FnOk X.prog X.w X.K X.mg X.base CX k f fd ps sp) (hr : Room k X.A) (hb : KBn X.K fd ps n ks g gV) (hx : PassesAt CX X σ E)
    (I : Inv X pins σ H s) (r : Vals vs us) (rz : Vals zs ws) (l1 : vs.length = n) (l2 : zs.length = ks.length) (h : sp (gV vs zs) H Q E) : wpAny (model X.prog X.w) X.A (call (.ref f) us (ks.zip ws)) (EP X pins σ Q) X.xe s := by
  have r2 := hb.rel r rz
  refine wpAny_call (codeAny_mono (F.run X.A X.stack s H ⟨us, ks.zip ws⟩ (g us ws) (gV vs zs) Q E hr I.env0 (hb.to s us ws I.kIn (r.length.symm.trans l1) (rz.length.symm.trans l2)) r2 h) fun r s' hq => ?_)
  cases r with
  | error e => exact hx pins H s e s' I hq
  | ok fl =>
    cases fl with
    | ret u => exact I.after hq
    | next => exact False.elim hq
    | brk => exact False.elim hq
    | cont => exact False.elim hq
theorem run_makeS {pins : List (Addr × Obj)} {σ : L2.St} {H : Hp} {s : Shared} {Q : VK} {us : List Value} {vs : List V} (M : Mk X.K C f) (F : FnOk X.prog X.w X.K X.mg X.base CX k f fd ps sp) (hr : Room (k + 1) X.A) (hb : Binds X.K fd ps [])
    (hx : PassesAt CX X σ E) (I : Inv X pins σ H s) (r : Vals vs us)
    (h : ∀ x dx, H x = none → H dx = none → dx ≠ x → sp (.ref x :: vs) (upd (upd H dx (.own x)) x (.ins C dx [])) (fun v H2 => v = .non ∧ Q (.ref x) H2) E) :
    wpAny (model X.prog X.w) X.A (call (.ref C) us) (EP X pins σ Q) X.xe s := by
  have hq := h (s.heap.objs.size + 1) s.heap.objs.size (I.hok.fresh (Nat.le_succ _)) (I.hok.fresh (Nat.le_refl _)) (Nat.ne_of_lt (Nat.lt_succ_self _))
  have I2 := Inv.made (C := C) I
  have r2 : Vals (V.ref (s.heap.objs.size + 1) :: vs) (Value.ref (s.heap.objs.size + 1) :: us) := .cons rfl r
  have hl : (Value.ref (s.heap.objs.size + 1) :: us ++ []).length = ps.length := by
    have e := r2.length
    rw [F.len _ _ _ _ hq] at e
    rw [List.append_nil]
    exact e.symm
  have b := hb _ (Value.ref (s.heap.objs.size + 1) :: us) I2.kIn hl
  rw [List.append_nil] at b
  refine wpAny_call (make_map (f := f) I.kIn M.makes M.init (beq_iff_eq.mp M.fn) (codeAny_mono (F.run _ X.stack _ _ ⟨Value.ref (s.heap.objs.size + 1) :: us, []⟩ (Value.ref (s.heap.objs.size + 1) :: us) _ _ E (hr.make C us [])
    (I2.env0.make C us []) b r2 hq) fun r s' hq' => ?_))
  cases r with
  | error e => exact hx pins _ _ e s' I2 hq'
  | ok fl =>
    cases fl with
    | ret u =>
      obtain ⟨v, H', I3, rv, ev, q3⟩ := I2.after hq'
      subst ev
      exact ⟨rv, ⟨V.ref (s.heap.objs.size + 1), H', I3, rfl, q3⟩⟩
    | next => exact False.elim hq'
    | brk => exact False.elim hq'
    | cont => exact False.elim hq'
theorem run_makeKS {pins : List (Addr × Obj)} {σ : L2.St} {H : Hp} {s : Shared} {Q : VK} {ws : List Value} {zs : List V} (M : Mk X.K C f) (F : FnOk X.prog X.w X.K X.mg X.base CX k f fd ps sp) (hr : Room (k + 1) X.A) (hb : KBn X.K fd ps 1 ks g gV)
    (hx : PassesAt CX X σ E) (I : Inv X pins σ H s) (rz : Vals zs ws) (l2 : zs.length = ks.length)
    (h : ∀ x dx, H x = none → H dx = none → dx ≠ x → sp (gV [.ref x] zs) (upd (upd H dx (.own x)) x (.ins C dx [])) (fun v H2 => v = .non ∧ Q (.ref x) H2) E) :
    wpAny (model X.prog X.w) X.A (call (.ref C) [] (ks.zip ws)) (EP X pins σ Q) X.xe s := by
  have hq := h (s.heap.objs.size + 1) s.heap.objs.size (I.hok.fresh (Nat.le_succ _)) (I.hok.fresh (Nat.le_refl _)) (Nat.ne_of_lt (Nat.lt_succ_self _))
  have I2 := Inv.made (C := C) I
  have r1 : Vals [V.ref (s.heap.objs.size + 1)] [Value.ref (s.heap.objs.size + 1)] := .cons rfl .nil
  have r2 := hb.rel r1 rz
  have e2 : ws.length = ks.length := rz.length.symm.trans l2
  refine wpAny_call (make_map (f := f) I.kIn M.makes M.init (beq_iff_eq.mp M.fn) (codeAny_mono (F.run _ X.stack _ _ ⟨[Value.ref (s.heap.objs.size + 1)], ks.zip ws⟩ (g [Value.ref (s.heap.objs.size + 1)] ws) _ _ E (hr.make C [] (ks.zip ws))
    (I2.env0.make C [] (ks.zip ws)) (hb.to _ [Value.ref (s.heap.objs.size + 1)] ws I2.kIn rfl e2) r2 hq) fun r s' hq' => ?_))
  cases r with
  | error e => exact hx pins _ _ e s' I2 hq'
  | ok fl =>
    cases fl with
    | ret u =>
      obtain ⟨v, H', I3, rv, ev, q3⟩ := I2.after hq'
      subst ev
      exact ⟨rv, ⟨V.ref (s.heap.objs.size + 1), H', I3, rfl, q3⟩⟩
    | next => exact False.elim hq'
    | brk => exact False.elim hq'
    | cont => exact False.elim hq'
end
/-- a method of the class at C -/
structure Mt (CXf : CXT) (P : Program) (w : World) (K : PySem.W.Frag) (mg : Str → Option Value) (base : Heap) (k : Nat) (C : Addr) (m : Str) (ps : List Str) (sp : Sp) : Prop where
  ex : ∃ f fd, FnOk P w K mg base CXf k f fd ps sp ∧ Meth K C m f ∧ Binds K fd ps []
  cl : Cls K C
/-- .. called by keywords alone -/
structure MtK (CXf : CXT) (P : Program) (w : World) (K : PySem.W.Frag) (mg : Str → Option Value) (base : Heap) (k : Nat) (C : Addr) (m : Str) (ps ks : List Str) (gV : List V → List V → List V) (sp : Sp) : Prop where
  ex : ∃ f fd g, FnOk P w K mg base CXf k f fd ps sp ∧ Meth K C m f ∧ KBn K fd ps 1 ks g gV
  cl : Cls K C
/-- the making of an object -/
structure Mx (CXf : CXT) (P : Program) (w : World) (K : PySem.W.Frag) (mg : Str → Option Value) (base : Heap) (k : Nat) (x : Str) (C : Addr) (ps : List Str) (sp : Sp) : Prop where
  ex : ∃ f fd, Mk K C f ∧ FnOk P w K mg base CXf k f fd ps sp ∧ Binds K fd ps []
  at_ : mg x = some (.ref C)
structure MxK (CXf : CXT) (P : Program) (w : World) (K : PySem.W.Frag) (mg : Str → Option Value) (base : Heap) (k : Nat) (x : Str) (C : Addr) (ps ks : List Str) (gV : List V → List V → List V) (sp : Sp) : Prop where
  ex : ∃ f fd g, Mk K C f ∧ FnOk P w K mg base CXf k f fd ps sp ∧ KBn K fd ps 1 ks g gV
  at_ : mg x = some (.ref C)
/-- a property -/
structure Pr (P : Program) (w : World) (K : PySem.W.Frag) (mg : Str → Option Value) (base : Heap) (k : Nat) (C : Addr) (m : Str) (sp : Sp) : Prop where
  ex : ∃ p g fd, PropOf K C m p g ∧ FnOk P w K mg base CX0 k g fd ["self"] sp ∧ Binds K fd ["self"] []
  cl : Cls K C
def tM (C : Addr) (m : Str) (sp : Sp) (E : L2.St → XK) (ta : TE) (t : TA) : TE := fun σ H Q => ta σ H fun x H1 => ∃ a dx fs, x = .ref a ∧ H1 a = some (.ins C dx fs) ∧ fs.lookup m = none ∧ t σ H1 fun vs H2 => sp (x :: vs) H2 Q (E σ)
def tMK (C : Addr) (m : Str) (l : Nat) (gV : List V → List V → List V) (sp : Sp) (E : L2.St → XK) (ta : TE) (tk : TA) : TE := fun σ H Q => ta σ H fun x H1 => ∃ a dx fs, x = .ref a ∧ H1 a = some (.ins C dx fs) ∧ fs.lookup m = none ∧ tk σ H1 fun zs H2 => zs.length = l ∧ sp (gV [x] zs) H2 Q (E σ)
def tMx (C : Addr) (sp : Sp) (E : L2.St → XK) (t : TA) : TE := fun σ H Q => t σ H fun vs H1 => ∀ x dx, H1 x = none → H1 dx = none → dx ≠ x → sp (.ref x :: vs) (upd (upd H1 dx (.own x)) x (.ins C dx [])) (fun v H2 => v = .non ∧ Q (.ref x) H2) (E σ)
def tMxK (C : Addr) (l : Nat) (gV : List V → List V → List V) (sp : Sp) (E : L2.St → XK) (tk : TA) : TE := fun σ H Q => tk σ H fun zs H1 => zs.length = l ∧ ∀ x dx, H1 x = none → H1 dx = none → dx ≠ x → sp (gV [.ref x] zs) (upd (upd H1 dx (.own x)) x (.ins C dx [])) (fun v H2 => v = .non ∧ Q (.ref x) H2) (E σ)
theorem at0 {X : Cx} : ∀ σ, PassesAt CX0 X σ ((fun _ => E0 : L2.St → XK) σ) := fun _ _ _ _ _ _ _ h => h.elim
section
variable {X : Cx} {CXf : CXT} {k : Nat} {C : Addr} {m x : Str} {ps ks : List Str} {gV : List V → List V → List V} {sp : Sp} {E : L2.St → XK} {p apos pos : Pos} {o e : Expr} {es : List Expr} {kws : List Keyword} {ta : TE} {t tk : TA} {pl : Sem Bool}
theorem pe_m (D : Mt CXf X.prog X.w X.K X.mg X.base k C m ps sp) (hx : ∀ σ, PassesAt CXf X σ (E σ)) (hr : Room k X.A) (he : PE X o ta) (ha : PA X (e :: es) t)
    (hst : starEach (e :: es) X.env = (false, eval e X.env) :: starEach es X.env := by rfl) (hpl : (backTo pos (starEach es X.env)).any (·.1) = false := by rfl)
    (ht : eval (.Call (.Attribute o m apos) (e :: es) [] pos) X.env = (do
      let ov ← eval o X.env
      standAt apos.atName
      let (f, first) ← holding [ov] (getMethod ov m pl)
      callWith pos f first (backTo pos (starEach (e :: es) X.env)) (backToKw pos (keywordEach [] X.env))) := by rfl) :
    PE X (.Call (.Attribute o m apos) (e :: es) [] pos) (tM C m sp E ta t) := by
  obtain ⟨⟨f, fd, F, hm, hb⟩, c⟩ := D
  refine ⟨fun pins s σ H Q I h => ?_⟩
  refine PySem.W.methodCall_KW (pl := pl) (thn (he.run pins s σ H _ I h) fun u s1 ⟨x, H1, I1, rx, a, dx, fs, ex, ea, l, q⟩ => ?_) ht
  subst ex
  obtain rfl : u = Value.ref a := rx
  refine getmeth_ok I1 ea c hm l ?_
  refine PySem.W.callWith_K (first := [.ref a]) (h₀ := X.base) I.ok.mod.kin hm.kp (thn (ha.run pos pins s1 σ H1 _ I1 q) fun us s2 ⟨vs, H2, I2, r, q2⟩ => ⟨I2.kIn, ?_⟩) hst hpl
  exact run_fnS (us := .ref a :: us) (vs := .ref a :: vs) F hr hb (hx σ) I2 (.cons rfl r) q2
theorem pe_m0c (D : Mt CXf X.prog X.w X.K X.mg X.base k C m ps sp) (hx : ∀ σ, PassesAt CXf X σ (E σ)) (hr : Room k X.A) (he : PE X o ta)
    (ht : eval (.Call (.Attribute o m apos) [] [] pos) X.env = (do
      let ov ← eval o X.env
      standAt apos.atName
      let (f, first) ← holding [ov] (getMethod ov m pl)
      callWith pos f first (backTo pos (starEach [] X.env)) (backToKw pos (keywordEach [] X.env))) := by rfl) :
    PE X (.Call (.Attribute o m apos) [] [] pos) (tM C m sp E ta tNil) := by
  obtain ⟨⟨f, fd, F, hm, hb⟩, c⟩ := D
  refine ⟨fun pins s σ H Q I h => ?_⟩
  refine PySem.W.methodCall_KW (pl := pl) (thn (he.run pins s σ H _ I h) fun u s1 ⟨x, H1, I1, rx, a, dx, fs, ex, ea, l, q⟩ => ?_) ht
  subst ex
  obtain rfl : u = Value.ref a := rx
  refine getmeth_ok I1 ea c hm l ?_
  exact PySem.W.callWith_K0 (first := [.ref a]) I1.kIn hm.kp (run_fnS (us := [.ref a]) (vs := [.ref a]) F hr hb (hx σ) I1 (.cons rfl .nil) q)
theorem pe_mK (D : MtK CXf X.prog X.w X.K X.mg X.base k C m ps ks gV sp) (hx : ∀ σ, PassesAt CXf X σ (E σ)) (hr : Room k X.A) (he : PE X o ta) (hkw : PK X kws tk)
    (hall : (backToKw pos (keywordEach kws X.env)).all (·.1.isSome) = true := by rfl) (hks : (backToKw pos (keywordEach kws X.env)).filterMap (·.1) = ks := by rfl)
    (hpl : ((backTo pos (starEach [] X.env)).any (·.1) || (backToKw pos (keywordEach kws X.env)).any (·.1.isNone)) = false := by rfl)
    (ht : eval (.Call (.Attribute o m apos) [] kws pos) X.env = (do
      let ov ← eval o X.env
      standAt apos.atName
      let (f, first) ← holding [ov] (getMethod ov m pl)
      callWith pos f first (backTo pos (starEach [] X.env)) (backToKw pos (keywordEach kws X.env))) := by rfl) :
    PE X (.Call (.Attribute o m apos) [] kws pos) (tMK C m ks.length gV sp E ta tk) := by
  obtain ⟨⟨f, fd, g, F, hm, hb⟩, c⟩ := D
  refine ⟨fun pins s σ H Q I h => ?_⟩
  refine PySem.W.methodCall_KW (pl := pl) (thn (he.run pins s σ H _ I h) fun u s1 ⟨x, H1, I1, rx, a, dx, fs, ex, ea, l, q⟩ => ?_) ht
  subst ex
  obtain rfl : u = Value.ref a := rx
  refine getmeth_ok I1 ea c hm l ?_
  refine PySem.W.callWith_KW0 (first := [.ref a]) (h₀ := X.base) I.ok.mod.kin hm.kp hall (thn (hkw.run pos pins s1 σ H1 _ I1 q) fun ws s2 ⟨zs, H2, I2, rz, l2, q2⟩ => ⟨I2.kIn, ?_⟩) hpl
  rw [hks]
  exact run_fnKS (us := [.ref a]) (vs := [.ref a]) F hr hb (hx σ) I2 (.cons rfl .nil) rz rfl l2 q2
theorem pe_mx (D : Mx CXf X.prog X.w X.K X.mg X.base k x C ps sp) (hx : ∀ σ, PassesAt CXf X σ (E σ)) (hr : Room (k + 1) X.A) (hg : Gl X x) (ha : PA X (e :: es) t) (hdb : (x == ("__debug__" : Str)) = false := by decide)
    (he : starEach (e :: es) X.env = (false, eval e X.env) :: starEach es X.env := by rfl) (hpl : (backTo pos (starEach es X.env)).any (·.1) = false := by rfl) :
    PE X (.Call (.Name x p) (e :: es) [] pos) (tMx C sp E t) := by
  obtain ⟨⟨f, fd, M, F, hb⟩, hm⟩ := D
  refine ⟨fun pins s σ H Q I h => ?_⟩
  refine wpAny_Call_Name_kw (ld_glob I hg hm ?_ hdb)
  refine PySem.W.callWith_K (h₀ := X.base) I.ok.mod.kin M.kp (thn (ha.run pos pins s σ H _ I h) fun us s1 ⟨vs, H1, I1, r, q⟩ => ⟨I1.kIn, ?_⟩) he hpl
  exact run_makeS M F hr hb (hx σ) I1 r q
theorem pe_mxK (D : MxK CXf X.prog X.w X.K X.mg X.base k x C ps ks gV sp) (hx : ∀ σ, PassesAt CXf X σ (E σ)) (hr : Room (k + 1) X.A) (hg : Gl X x) (hkw : PK X kws tk) (hall : (backToKw pos (keywordEach kws X.env)).all (·.1.isSome) = true := by rfl)
    (hks : (backToKw pos (keywordEach kws X.env)).filterMap (·.1) = ks := by rfl) (hdb : (x == ("__debug__" : Str)) = false := by decide)
    (hpl : ((backTo pos (starEach [] X.env)).any (·.1) || (backToKw pos (keywordEach kws X.env)).any (·.1.isNone)) = false := by rfl) :
    PE X (.Call (.Name x p) [] kws pos) (tMxK C ks.length gV sp E tk) := by
  obtain ⟨⟨f, fd, g, M, F, hb⟩, hm⟩ := D
  refine ⟨fun pins s σ H Q I h => ?_⟩
  refine wpAny_Call_Name_kw (ld_glob I hg hm ?_ hdb)
  refine PySem.W.callWith_KW0 (h₀ := X.base) I.ok.mod.kin M.kp hall (thn (hkw.run pos pins s σ H _ I h) fun ws s1 ⟨zs, H1, I1, rz, l2, q⟩ => ⟨I1.kIn, ?_⟩) hpl
  rw [hks]
  exact run_makeKS M F hr hb (hx σ) I1 rz l2 q
theorem pe_pr {f : Str} (D : Pr X.prog X.w X.K X.mg X.base k C f sp) (hr : Room (k + 1) X.A) (he : PE X e ta) (hab : attributeBase e f X.env (eval e X.env) = eval e X.env := by rfl) : PE X (.Attribute e f pos) (tProp C sp [] E0 ta) := by
  obtain ⟨⟨q, g, fd, hp, F, hb⟩, c⟩ := D
  exact pe_prop he c hp F hr hb .nil (fun _ _ _ _ _ _ _ h => h.elim) hab
end
end Sq

set_option Elab.async false
set_option linter.all false
set_option maxHeartbeats 1000000
/-! Two lists part at the run between their greatest origins of 1. -/
namespace Sq
theorem sq_cons (n k : Int) (ks : List Int) : sq n (k :: ks) = sq (once n k) ks := rfl
def pro (ks : List Int) : Int := ks.foldl (· * ·) 1
theorem pro_from : ∀ (ks : List Int) (n : Int), ks.foldl (· * ·) n = n * pro ks
  | [], n => (Int.mul_one n).symm
  | k :: ks, n => by
    show ks.foldl (· * ·) (n * k) = n * (ks.foldl (· * ·) (1 * k))
    rw [pro_from ks (n * k), pro_from ks (1 * k), Int.one_mul, Int.mul_assoc]
theorem pro_cons (k : Int) (ks : List Int) : pro (k :: ks) = k * pro ks := by
  show ks.foldl (· * ·) (1 * k) = _
  rw [pro_from, Int.one_mul]
theorem pro_pos : ∀ {ks : List Int}, (∀ k ∈ ks, 2 ≤ k) → 1 ≤ pro ks
  | [], _ => by decide
  | k :: ks, h => by
    rw [pro_cons]
    have a := h k (List.mem_cons_self ..)
    have b := pro_pos (ks := ks) fun x hx => h x (List.mem_cons_of_mem _ hx)
    have := Int.mul_le_mul a b (by decide) (by omega)
    omega
theorem once_mul {k m : Int} (h : 2 ≤ k) : once (k * m) k = m := by
  unfold once
  rw [Int.mul_ediv_cancel_left m (by omega), Int.mul_emod_right, Int.add_zero]
/-- a multiple of the product -/
theorem sq_mul : ∀ (ks : List Int) (m : Int), (∀ k ∈ ks, 2 ≤ k) → sq (pro ks * m) ks = m
  | [], m, _ => Int.one_mul m
  | k :: ks, m, h => by
    rw [sq_cons, pro_cons, Int.mul_assoc, once_mul (h k (List.mem_cons_self ..))]
    exact sq_mul ks m fun x hx => h x (List.mem_cons_of_mem _ hx)
theorem once_grow {n k : Int} (hk : 2 ≤ k) (h0 : 0 ≤ n) : n ≤ k * once n k := by
  unfold once
  have e := Int.mul_ediv_add_emod n k
  have m0 := Int.emod_nonneg n (by omega : k ≠ 0)
  have : n % k ≤ k * (n % k) := by
    have := Int.mul_le_mul_of_nonneg_right (show 1 ≤ k by omega) m0
    rwa [Int.one_mul] at this
  rw [Int.mul_add]
  omega
/-- what is longer than the product isn't single -/
theorem sq_grow : ∀ (ks : List Int) (n : Int), (∀ k ∈ ks, 2 ≤ k) → 0 ≤ n → n ≤ pro ks * sq n ks
  | [], n, _, _ => Int.le_of_eq (Int.one_mul n).symm
  | k :: ks, n, h, h0 => by
    have k2 := h k (List.mem_cons_self ..)
    have hs : ∀ x ∈ ks, 2 ≤ x := fun x hx => h x (List.mem_cons_of_mem _ hx)
    have a := once_grow k2 h0
    have b := sq_grow ks (once n k) hs (once_nonneg k2 h0)
    rw [sq_cons, pro_cons, Int.mul_assoc]
    exact Int.le_trans a (Int.mul_le_mul_of_nonneg_left b (by omega))
theorem sq_two {ks : List Int} {n : Int} (h : ∀ k ∈ ks, 2 ≤ k) (h0 : pro ks < n) : 2 ≤ sq n ks := by
  have p := pro_pos h
  have g := sq_grow ks n h (by omega)
  by_cases c : sq n ks ≤ 1
  · have := Int.mul_le_mul_of_nonneg_left c (show 0 ≤ pro ks by omega)
    omega
  · omega
/-- the first place where they part -/
def parts : Int → Int → List Int → List Int → Option Int
  | p, b, k :: ks, l :: ls => if k ≠ l then some (p - b * (min k l - 1)) else parts p (b * k) ks ls
  | _, _, _, _ => none
theorem less_single {k : Int} {ks : List Int} (hk : 2 ≤ k) (h : ∀ x ∈ ks, 2 ≤ x) : sq (pro (k :: ks) - (k - 1)) (k :: ks) = 1 := by
  rw [sq_cons, pro_cons]
  have e : k * pro ks - (k - 1) = 1 + k * (pro ks - 1) := by
    rw [Int.mul_sub, Int.mul_one]
    omega
  have o : once (k * pro ks - (k - 1)) k = pro ks * 1 := by
    unfold once
    rw [e, Int.add_mul_ediv_left _ _ (by omega : k ≠ 0), Int.add_mul_emod_self_left, Int.ediv_eq_zero_of_lt (by decide) (by omega), Int.emod_eq_of_lt (by decide) (by omega)]
    omega
  rw [o, sq_mul ks 1 h]
theorem more_not {k l : Int} {ls : List Int} (hk : 2 ≤ k) (kl : k < l) (h : ∀ x ∈ ls, 2 ≤ x) : 2 ≤ sq (pro (l :: ls) - (k - 1)) (l :: ls) := by
  rw [sq_cons, pro_cons]
  have e : l * pro ls - (k - 1) = (l - k + 1) + l * (pro ls - 1) := by
    rw [Int.mul_sub, Int.mul_one]
    omega
  have o : once (l * pro ls - (k - 1)) l = pro ls + (l - k) := by
    unfold once
    rw [e, Int.add_mul_ediv_left _ _ (by omega : l ≠ 0), Int.add_mul_emod_self_left, Int.ediv_eq_zero_of_lt (by omega) (by omega), Int.emod_eq_of_lt (by omega) (by omega)]
    omega
  rw [o]
  exact sq_two h (by omega)
/-- lists with one product: they part exactly if they are different -/
theorem parts_ok : ∀ (ks ls : List Int) (b : Int), (∀ k ∈ ks, 2 ≤ k) → (∀ k ∈ ls, 2 ≤ k) → pro ks = pro ls → 1 ≤ b →
    (parts (b * pro ks) b ks ls = none ↔ ks = ls) ∧ ∀ r, parts (b * pro ks) b ks ls = some r → ∃ m, r = b * m ∧ 1 ≤ m ∧ sq m ks ≠ sq m ls
  | [], [], _, _, _, _, _ => ⟨⟨fun _ => rfl, fun _ => rfl⟩, fun _ h => nomatch h⟩
  | [], l :: ls, _, _, h2, e, _ => by
    exfalso
    rw [pro_cons] at e
    have a := h2 l (List.mem_cons_self ..)
    have p := pro_pos fun x hx => h2 x (List.mem_cons_of_mem _ hx)
    have := Int.mul_le_mul a p (by decide) (by omega)
    rw [← e] at this
    exact absurd this (by decide)
  | k :: ks, [], _, h1, _, e, _ => by
    exfalso
    rw [pro_cons] at e
    have a := h1 k (List.mem_cons_self ..)
    have p := pro_pos fun x hx => h1 x (List.mem_cons_of_mem _ hx)
    have := Int.mul_le_mul a p (by decide) (by omega)
    rw [e] at this
    exact absurd this (by decide)
  | k :: ks, l :: ls, b, h1, h2, e, hb => by
    have k2 := h1 k (List.mem_cons_self ..)
    have l2 := h2 l (List.mem_cons_self ..)
    have hk : ∀ x ∈ ks, 2 ≤ x := fun x hx => h1 x (List.mem_cons_of_mem _ hx)
    have hl : ∀ x ∈ ls, 2 ≤ x := fun x hx => h2 x (List.mem_cons_of_mem _ hx)
    unfold parts
    by_cases c : k = l
    · subst c
      rw [if_neg (fun z => z rfl)]
      have e2 : pro ks = pro ls := by
        rw [pro_cons, pro_cons] at e
        exact Int.eq_of_mul_eq_mul_left (by omega) e
      have bk : 1 ≤ b * k := by
        have := Int.mul_le_mul hb (show 1 ≤ k by omega) (by decide) (by omega)
        omega
      have ih := parts_ok ks ls (b * k) hk hl e2 bk
      rw [pro_cons, ← Int.mul_assoc]
      refine ⟨⟨fun z => by rw [ih.1.mp z], fun z => ih.1.mpr (List.cons.inj z).2⟩, fun r hr => ?_⟩
      obtain ⟨m, em, m1, d⟩ := ih.2 r hr
      refine ⟨k * m, by rw [em, Int.mul_assoc], ?_, ?_⟩
      · have := Int.mul_le_mul (show 1 ≤ k by omega) m1 (by decide) (by omega)
        omega
      · rw [sq_cons, sq_cons, once_mul k2]
        exact d
    · rw [if_pos c]
      refine ⟨⟨fun z => (nomatch z), fun z => absurd (List.cons.inj z).1 c⟩, fun r hr => ?_⟩
      have er : r = b * (pro (k :: ks) - (min k l - 1)) := by
        rw [Int.mul_sub]
        exact (Option.some.inj hr).symm
      have pk := pro_pos hk
      have grow : k - 1 < pro (k :: ks) := by
        rw [pro_cons]
        have := Int.mul_le_mul_of_nonneg_left pk (show 0 ≤ k by omega)
        omega
      refine ⟨_, er, ?_, ?_⟩
      · omega
      · rcases Int.lt_or_gt_of_ne c with d | d
        · rw [show min k l = k by omega, less_single k2 hk, e]
          have := more_not k2 d hl
          omega
        · rw [show min k l = l by omega]
          have a := more_not l2 d hk
          have b := less_single l2 hl
          rw [← e] at b
          omega
end Sq

set_option Elab.async false
set_option linter.all false
set_option maxHeartbeats 1000000
/-! What parting_run returns. -/
namespace Sq
open PySem PySem.Spec PyProof.Rows L2
def prodF (n : Int) (ks : List Int) : Int := ks.foldl (· * ·) n
def part (L b : Int) : List Int → List Int → V
  | x :: xs, y :: ys => if x = y then part L (b * x) xs ys else .int (L - b * ((if y < x then y else x) - 1))
  | _, _ => .non
def prun (ks ls : List Int) : V := if prodF 1 ks = prodF 1 ls then part (prodF 1 ks) 1 ks ls else .int (if prodF 1 ls > prodF 1 ks then prodF 1 ls else prodF 1 ks)
theorem part_parts (L : Int) : ∀ (b : Int) (ks ls : List Int), part L b ks ls = match parts L b ks ls with | none => .non | some r => .int r
  | _, [], _ => rfl
  | _, _ :: _, [] => rfl
  | b, x :: xs, y :: ys => by
    unfold part parts
    by_cases c : x = y
    · rw [if_pos c, if_neg (fun z => z c)]
      exact part_parts L (b * x) xs ys
    · rw [if_neg c, if_pos c]
      show V.int _ = V.int _
      congr 3
      by_cases d : y < x
      · rw [if_pos d]
        omega
      · rw [if_neg d]
        omega
theorem prun_ok {ks ls : List Int} (h1 : ∀ k ∈ ks, 2 ≤ k) (h2 : ∀ k ∈ ls, 2 ≤ k) : (prun ks ls = .non ∧ ks = ls) ∨ (∃ r, prun ks ls = .int r ∧ ks ≠ ls ∧ 1 ≤ r ∧ sq r ks ≠ sq r ls) := by
  have p1 := pro_pos h1
  have p2 := pro_pos h2
  have s1 := sq_mul ks 1 h1
  have s2 := sq_mul ls 1 h2
  rw [Int.mul_one] at s1 s2
  unfold prun
  show ((if pro ks = pro ls then part (pro ks) 1 ks ls else .int (if pro ls > pro ks then pro ls else pro ks)) = V.non ∧ _) ∨ _
  by_cases e : pro ks = pro ls
  · have ok := parts_ok ks ls 1 h1 h2 e (by decide)
    rw [Int.one_mul] at ok
    rw [if_pos e]
    cases q : parts (pro ks) 1 ks ls with
    | none => exact .inl ⟨by rw [part_parts, q], ok.1.mp q⟩
    | some r =>
      obtain ⟨m, em, m1, d⟩ := ok.2 r q
      rw [Int.one_mul] at em
      refine .inr ⟨r, ?_, fun z => ?_, by omega, by rw [em]; exact d⟩
      · show (if pro ks = pro ls then part (pro ks) 1 ks ls else _) = _
        rw [if_pos e, part_parts, q]
      · rw [ok.1.mpr z] at q
        cases q
  · refine .inr ⟨if pro ls > pro ks then pro ls else pro ks, ?_, fun z => e (by rw [z]), ?_, ?_⟩
    · show (if pro ks = pro ls then _ else V.int (if pro ls > pro ks then pro ls else pro ks)) = _
      rw [if_neg e]
    · split <;> omega
    · split
      · rw [s2]
        have := sq_two h1 (show pro ks < pro ls by omega)
        omega
      · rw [s1]
        have := sq_two h2 (show pro ls < pro ks by omega)
        omega
end Sq

set_option Elab.async false
set_option linter.all false
set_option maxHeartbeats 1000000
/-! A hidden list, found by questions. -/
namespace Sq
theorem once_up {n k : Int} (hk : 2 ≤ k) (h0 : 0 ≤ n) : k * once n k ≤ n + (k - 1) * (k - 1) := by
  unfold once
  have e := Int.mul_ediv_add_emod n k
  have m0 := Int.emod_nonneg n (by omega : k ≠ 0)
  have m1 := Int.emod_lt_of_pos n (by omega : 0 < k)
  have b : (k - 1) * (n % k) ≤ (k - 1) * (k - 1) := Int.mul_le_mul_of_nonneg_left (by omega) (by omega)
  have b' : (k - 1) * (n % k) = k * (n % k) - n % k := by rw [Int.sub_mul, Int.one_mul]
  rw [Int.mul_add]
  omega
theorem sq_nn' : ∀ {ks : List Int}, (∀ k ∈ ks, 2 ≤ k) → ∀ {n : Int}, 0 ≤ n → 0 ≤ sq n ks
  | [], _, _, h0 => h0
  | k :: r, h, _, h0 => sq_nn' (fun x hx => h x (List.mem_cons_of_mem _ hx)) (once_nonneg (h k List.mem_cons_self) h0)
theorem sq_up {m : Int} : ∀ (ks : List Int) (n : Int), (∀ k ∈ ks, 2 ≤ k ∧ k ≤ m) → 0 ≤ n → pro ks * sq n ks ≤ n + m * (pro ks - 1)
  | [], n, _, _ => by
    show (1 : Int) * n ≤ n + m * (1 - 1)
    rw [Int.one_mul, show (1 : Int) - 1 = 0 by omega, Int.mul_zero]
    omega
  | k :: ks, n, h, h0 => by
    have k2 := h k List.mem_cons_self
    have hs : ∀ x ∈ ks, 2 ≤ x ∧ x ≤ m := fun x hx => h x (List.mem_cons_of_mem _ hx)
    have a := once_up k2.1 h0
    have b := sq_up ks (once n k) hs (once_nonneg k2.1 h0)
    rw [sq_cons, pro_cons, Int.mul_assoc]
    have c := Int.mul_le_mul_of_nonneg_left b (show 0 ≤ k by omega)
    refine Int.le_trans c ?_
    rw [Int.mul_add]
    have d : (k - 1) * (k - 1) ≤ (k - 1) * m := Int.mul_le_mul_of_nonneg_left (by omega) (by omega)
    have d' : (k - 1) * m = m * k - m := by rw [Int.sub_mul, Int.one_mul, Int.mul_comm k m]
    have e : k * (m * (pro ks - 1)) = m * (k * pro ks) - m * k := by
      rw [← Int.mul_assoc, Int.mul_comm k m, Int.mul_assoc, Int.mul_sub, Int.mul_one, Int.mul_sub]
    have e2 : m * (k * pro ks - 1) = m * (k * pro ks) - m := by rw [Int.mul_sub, Int.mul_one]
    rw [e, e2]
    omega
theorem div_is {x A P : Int} (hA : 0 < A) (h1 : P * A ≤ x) (h2 : x < P * A + A) : x / A = P := by
  have a : P ≤ x / A := Int.le_ediv_of_mul_le hA h1
  have b : x / A < P + 1 := Int.ediv_lt_of_lt_mul hA (by rw [Int.add_mul, Int.one_mul]; exact h2)
  omega
/-- what one question tells of the product -/
theorem ask_prod {m M : Int} {ks : List Int} (h : ∀ k ∈ ks, 2 ≤ k ∧ k ≤ m) (hm : 2 ≤ m) (hM : m * (pro ks * pro ks) ≤ M) : 1 ≤ sq (2 * M) ks ∧ (2 * M + sq (2 * M) ks - 1) / sq (2 * M) ks = pro ks := by
  have h2 : ∀ k ∈ ks, 2 ≤ k := fun k hk => (h k hk).1
  have p1 := pro_pos h2
  have pp : 1 ≤ pro ks * pro ks := by
    have := Int.mul_le_mul p1 p1 (by decide) (by omega)
    omega
  have mp : 0 ≤ m * (pro ks * pro ks) := Int.mul_nonneg (by omega) (by omega)
  have lo := sq_grow ks (2 * M) h2 (by omega)
  have up := sq_up ks (2 * M) h (by omega)
  obtain ⟨A, eA⟩ : ∃ A, A = sq (2 * M) ks := ⟨_, rfl⟩
  obtain ⟨P, eP⟩ : ∃ P, P = pro ks := ⟨_, rfl⟩
  rw [← eA, ← eP] at lo up
  rw [← eP] at p1 hM mp
  rw [← eA, ← eP]
  -- A is great
  have big : 2 * (m * P) ≤ A := by
    by_cases c : 2 * (m * P) ≤ A
    · exact c
    · have a1 : A ≤ 2 * (m * P) - 1 := by omega
      have a2 := Int.mul_le_mul_of_nonneg_left a1 (show 0 ≤ P by omega)
      have a3 : P * (2 * (m * P) - 1) = 2 * (m * (P * P)) - P := by
        rw [Int.mul_sub, Int.mul_one]
        have : P * (2 * (m * P)) = 2 * (m * (P * P)) := by
          rw [← Int.mul_assoc, Int.mul_comm P 2, Int.mul_assoc, ← Int.mul_assoc P m P, Int.mul_comm P m, Int.mul_assoc]
        rw [this]
      rw [a3] at a2
      omega
  have mP : m ≤ m * P := by
    have := Int.mul_le_mul_of_nonneg_left p1 (show 0 ≤ m by omega)
    rwa [Int.mul_one] at this
  have e1 : m * (P - 1) = m * P - m := by rw [Int.mul_sub, Int.mul_one]
  rw [e1] at up
  refine ⟨by omega, div_is (by omega) ?_ ?_⟩
  · omega
  · omega
theorem pro_le {m : Int} : ∀ {ks : List Int}, (∀ k ∈ ks, 2 ≤ k ∧ k ≤ m) → pro ks ≤ m ^ ks.length
  | [], _ => by rw [List.length_nil, Int.pow_zero]; decide
  | k :: r, h => by
    have hk := h k List.mem_cons_self
    have hr : ∀ x ∈ r, 2 ≤ x ∧ x ≤ m := fun x hx => h x (List.mem_cons_of_mem _ hx)
    have ih := pro_le hr
    have pp := pro_pos (ks := r) fun x hx => (hr x hx).1
    rw [pro_cons, List.length_cons, Int.pow_succ, Int.mul_comm (m ^ r.length) m]
    exact Int.mul_le_mul hk.2 ih (by omega) (by omega)
theorem pow_mono {m : Int} (hm : 1 ≤ m) {a b : Nat} (h : a ≤ b) : m ^ a ≤ m ^ b := by
  obtain ⟨c, rfl⟩ : ∃ c, b = a + c := ⟨b - a, by omega⟩
  have p : ∀ c : Nat, 1 ≤ m ^ c := fun c => by
    induction c with
    | zero => rw [Int.pow_zero]; decide
    | succ c ih =>
      rw [Int.pow_succ]
      have := Int.mul_le_mul ih hm (by decide) (by omega)
      omega
  rw [Int.pow_add]
  have := Int.mul_le_mul_of_nonneg_left (p c) (show 0 ≤ m ^ a by have := p a; omega)
  rwa [Int.mul_one] at this
theorem pro_rep (m : Int) : ∀ j : Nat, pro (List.replicate j m) = m ^ j
  | 0 => by rw [Int.pow_zero]; rfl
  | j + 1 => by rw [List.replicate_succ, pro_cons, pro_rep m j, Int.pow_succ, Int.mul_comm]
theorem square_le {m : Int} {ks : List Int} {s : Nat} (h : ∀ k ∈ ks, 2 ≤ k ∧ k ≤ m) (hm : 2 ≤ m) (hl : ks.length ≤ s) : m * (pro ks * pro ks) ≤ m * m ^ (2 * s) := by
  have a := pro_le h
  have b := Int.le_trans a (pow_mono (by omega) hl)
  have pp := pro_pos (ks := ks) fun x hx => (h x hx).1
  have c := Int.mul_le_mul b b (by omega) (show 0 ≤ m ^ s by omega)
  rw [← Int.pow_add, show s + s = 2 * s by omega] at c
  exact Int.mul_le_mul_of_nonneg_left c (by omega)
theorem pro_app (ks ls : List Int) : pro (ks ++ ls) = pro ks * pro ls := by
  unfold pro
  rw [List.foldl_append]
  exact pro_from ls _
theorem sq_app' (n : Int) (ks ls : List Int) : sq n (ks ++ ls) = sq (sq n ks) ls := List.foldl_append
theorem pro_small {ks : List Int} {m : Int} (h : ∀ k ∈ ks, 2 ≤ k ∧ k ≤ m) (hm : 1 ≤ m) {n : Nat} (hl : ks.length ≤ n) : pro ks ≤ m ^ n := Int.le_trans (pro_le h) (pow_mono hm hl)
end Sq
namespace Sq
theorem int_pow_le {a b : Int} (h0 : 0 ≤ a) (h : a ≤ b) : ∀ n : Nat, a ^ n ≤ b ^ n
  | 0 => by rw [Int.pow_zero, Int.pow_zero]; exact Int.le_refl _
  | n + 1 => by
    rw [Int.pow_succ, Int.pow_succ]
    exact Int.mul_le_mul (int_pow_le h0 h n) h h0 (Int.pow_nonneg (by omega))
theorem rep_one' {α : Type} (x : α) : ∀ n : Nat, (List.replicate n [x]).flatten = List.replicate n x
  | 0 => rfl
  | n + 1 => by
    rw [List.replicate_succ, List.flatten_cons, rep_one' x n, List.replicate_succ]
    rfl
end Sq

set_option Elab.async false
set_option linter.all false
set_option maxRecDepth 100000
set_option maxHeartbeats 2000000
/-! A def of the law that asks for a repr: run where no repr is under way. -/
namespace Sq
open PySem PySem.Spec PyProof.Rows L2
structure FnG (P : Program) (w : World) (K : PySem.W.Frag) (mg : Str → Option Value) (base : Heap) (k : Nat) (f : Addr) (fd : FuncData) (ps : List Str) (sp : Sp) : Prop where
  count : ∀ vs H Q E, sp vs H Q E → vs.length = ps.length
  go : ∀ (A : Around) (outer : List Env) (s : Shared) (H : Hp) (ag : Args) (us : List Value) (vs : List V) (Q : VK) (E : XK), Room k A → A.guards = some [] → Env0 P w K mg base A outer s H →
    BindsTo s fd ag (ps.zip us) → Vals vs us → sp vs H Q E → codeAny (model P w) A (.call (.ref f) ag) (CR CX0 outer P w H s Q E) s
theorem okG {P : Program} {w : World} {K : PySem.W.Frag} {mg : Str → Option Value} {base : Heap} {x qual : Str} {st : Stmt} {f : Addr} {fd : FuncData} {N ps : List Str} {k : Nat} {sp : Sp}
    (F : Fun K x qual st f fd) (S : FnScope N ps (defScope st)) (count : ∀ vs H Q E, sp vs H Q E → vs.length = ps.length)
    (inner : ∀ (cdv : Value) (A : Around) (outer : List Env) (s : Shared) (H : Hp) (vs : List V) (Q : VK) (E : XK), Room k (A.deeper (envOfC qual (defScope st) s.heap.objs.size f cdv)) → A.guards = some [] → sp vs H Q E →
      ∃ t, PSs (cxOf CX0 P w K mg base N qual (defScope st) f cdv A outer s H E).nox (defBody st) t ∧ t { nx := fun _ H' => Q .non H', rt := Q } (start N vs) H) : FnG P w K mg base (k + 1) f fd ps sp := by
  refine ⟨count, fun A outer s H ag us vs Q E room quiet entry bound rel wish => ?_⟩
  obtain ⟨oc, od, kV, doc, pm, an, cdv, ct, osl, rfl, lk, hcd⟩ := F.ex
  refine fnAt lk hcd S count (fun outer' s' H' vs' Q' E' room' wish' => ?_) room entry bound rel wish
  obtain ⟨t, h, q⟩ := inner cdv A outer' s' H' vs' Q' E' room' quiet wish'
  exact ⟨t, h.nox, q⟩
structure Dg (P : Program) (w : World) (K : PySem.W.Frag) (mg : Str → Option Value) (base : Heap) (k : Nat) (x : Str) (ps : List Str) (sp : Sp) : Prop where
  ex : ∃ f fd, FnG P w K mg base k f fd ps sp ∧ mg x = some (.ref f) ∧ PySem.W.keepIn K (.ref f) = true ∧ Binds K fd ps []
theorem Dg.mk' {P : Program} {w : World} {K : PySem.W.Frag} {mg : Str → Option Value} {base : Heap} {k : Nat} {x : Str} {st : Stmt} {ps : List Str} {sp : Sp} {f : Addr} {fd : FuncData} (F : Fun K x x st f fd) (G : FnG P w K mg base k f fd ps sp) (g : mg x = some (.ref f)) (b : Binds K fd ps []) : Dg P w K mg base k x ps sp :=
  ⟨⟨f, fd, G, g, F.kp, b⟩⟩
section
variable {X : Cx} {k : Nat} {ps : List Str} {sp : Sp} {x : Str} {p pos : Pos} {e : Expr} {es : List Expr} {t : TA}
theorem pe_callG (D : Dg X.prog X.w X.K X.mg X.base k x ps sp) (room : Room k X.A) (quiet : X.A.guards = some []) (hg : Gl X x) (ha : PA X (e :: es) t) (hdb : (x == ("__debug__" : Str)) = false := by decide)
    (first : starEach (e :: es) X.env = (false, eval e X.env) :: starEach es X.env := by rfl)
    (nostar : (backTo pos (starEach es X.env)).any (·.1) = false := by rfl) :
    PE X (.Call (.Name x p) (e :: es) [] pos) (tCall sp [] E0 t) := by
  obtain ⟨f, fd, G, g, kp, b⟩ := D.ex
  constructor
  intro pins s σ H Q I h
  apply wpAny_Call_Name_kw
  apply ld_glob I hg g _ hdb
  apply PySem.W.callWith_K (h₀ := X.base) I.ok.mod.kin kp _ first nostar
  refine thn (ha.run pos pins s σ H _ I h) fun us s1 got => ?_
  obtain ⟨vs, H1, I1, r, q⟩ := got
  refine ⟨I1.kIn, ?_⟩
  rw [List.append_nil] at q
  have hl : (us ++ []).length = ps.length := by
    rw [List.append_nil, ← r.length]
    exact G.count _ _ _ _ q
  have bb := b s1 us I1.kIn hl
  rw [List.append_nil] at bb
  apply wpAny_call
  refine codeAny_mono (G.go X.A X.stack s1 H1 ⟨us, []⟩ us vs Q E0 room quiet I1.env0 bb r q) fun out s' hq => ?_
  cases out with
  | ok fl =>
    cases fl with
    | ret u => exact I1.after hq
    | next => exact hq.elim
    | brk => exact hq.elim
    | cont => exact hq.elim
  | error u => exact pass0 pins σ H1 s1 u s' I1 hq
end
end Sq

set_option Elab.async false
set_option linter.all false
/-! A statement told apart from what follows. -/
namespace Sq
open PySem PySem.Spec PyProof.Rows L2
theorem seqNx {t u : TS} {D : Ends} {r : VK} {b c : L2.St → Hp → Prop} {σ : L2.St} {H : Hp} (h : tSeq t u D σ H) : Ends.nx { nx := tSeq t u D, rt := r, bk := b, ct := c } σ H := h
theorem tellSeq {t u : TS} {D : Ends} {σ : L2.St} {H : Hp} (T : L2.St → Hp → Prop) (h : ∀ N : L2.St → Hp → Prop, (∀ σ2 H2, T σ2 H2 → N σ2 H2) → t { D with nx := N } σ H) (hT : ∀ σ2 H2, T σ2 H2 → u D σ2 H2) : tSeq t u D σ H := h (u D) hT
theorem tellNx {t u : TS} {D : Ends} {r : VK} {b c : L2.St → Hp → Prop} {σ : L2.St} {H : Hp} (T : L2.St → Hp → Prop) (h : ∀ N : L2.St → Hp → Prop, (∀ σ2 H2, T σ2 H2 → N σ2 H2) → t { D with nx := N } σ H) (hT : ∀ σ2 H2, T σ2 H2 → u D σ2 H2) : Ends.nx { nx := tSeq t u D, rt := r, bk := b, ct := c } σ H := h (u D) hT
end Sq
namespace Sq
open PySem PySem.Spec PyProof.Rows L2
/-- for .. in range(a if c else b) -/
theorem seq_for_if {c : TT} {a b : Int} {g : TG} {tb u : TS} {D : Ends} {σ : L2.St} {H : Hp} (k : Bool) (h : ∀ Q' : Bool → Hp → Prop, Q' k H → c σ H Q') (ba : -(2 ^ 62) ≤ a ∧ a < 2 ^ 62) (bb : -(2 ^ 62) ≤ b ∧ b < 2 ^ 62)
    (q : tFor (fun _ H R => R (Itr 0 (if k = true then a else b).toNat) H) g tb { D with nx := u D } σ H) : tSeq (tFor (iRng1 (tCons (tIf c (tC (.int a)) (tC (.int b))) tNil)) g tb) u D σ H := by
  cases k with
  | true => exact h _ ⟨a, rfl, ba.1, ba.2, q⟩
  | false => exact h _ ⟨b, rfl, bb.1, bb.2, q⟩
theorem atI_last2 {α : Type} (xs : List α) (v w : α) : atI (xs ++ [v, w]) (-2) = some v := by
  have hl : (xs ++ [v, w]).length = xs.length + 2 := by simp
  have e : ixN (xs ++ [v, w]).length (-2) = some xs.length := by
    unfold ixN
    rw [hl, if_neg (by decide), if_pos (by omega)]
    congr 1
    omega
  unfold atI
  rw [e]
  show (xs ++ [v, w])[xs.length]? = some v
  simp
theorem cut_take (xs : List V) (n : Nat) (h : n ≤ xs.length) : cutV xs none (some (n : Int)) = xs.take n := by
  unfold cutV
  rw [HT.sIx_nat, HT.sIx_none, List.drop_zero, Nat.min_eq_left h, Nat.sub_zero]
end Sq

set_option Elab.async false
set_option linter.all false
set_option maxHeartbeats 1000000
/-! Lists of replacements in the heap; slices of them. -/
namespace Sq
open PySem PySem.Spec PyProof.Rows L2
/-- replacements, not too great -/
def Rpl (ks : List Int) : Prop := ∀ k ∈ ks, 2 ≤ k ∧ k < 1073741824
theorem Rpl.low {ks : List Int} (h : Rpl ks) : lowAt ks = none := (lowAt_take ks ks.length (by rw [List.take_length]; exact fun k hk => (h k hk).1)).2 (Nat.le_refl _)
theorem Rpl.two {ks : List Int} (h : Rpl ks) : ∀ k ∈ ks, 2 ≤ k := fun k hk => (h k hk).1
theorem Rpl.app {ks ls : List Int} (h : Rpl ks) (g : Rpl ls) : Rpl (ks ++ ls) := fun k hk => by
  rcases List.mem_append.mp hk with z | z
  · exact h k z
  · exact g k z
/-- a list of at most n replacements -/
def RL (H : Hp) (p : Addr) (n : Nat) : Prop := ∃ ks : List Int, H p = some (.lst (ks.map V.int)) ∧ ks.length ≤ n ∧ Rpl ks
theorem RL.same {H H' : Hp} {p : Addr} {n : Nat} (h : RL H p n) (s : Same H H') : RL H' p n := by
  obtain ⟨ks, g, l, r⟩ := h
  exact ⟨ks, s _ _ g, l, r⟩
theorem RL.le {H : Hp} {p : Addr} {n m : Nat} (h : RL H p n) (l : n ≤ m) : RL H p m := by
  obtain ⟨ks, g, l', r⟩ := h
  exact ⟨ks, g, Nat.le_trans l' l, r⟩
theorem cut_part (ks : List Int) (lo hi : Option Int) : ∃ ls : List Int, cutV (ks.map V.int) lo hi = ls.map V.int ∧ ls.length ≤ ks.length ∧ ∀ x ∈ ls, x ∈ ks := by
  refine ⟨(ks.drop (HT.sIx (ks.map V.int).length 0 lo)).take (HT.sIx (ks.map V.int).length (ks.map V.int).length hi - HT.sIx (ks.map V.int).length 0 lo), ?_, ?_, fun x hx => List.mem_of_mem_drop (List.mem_of_mem_take hx)⟩
  · unfold cutV
    rw [List.map_take, List.map_drop]
  · rw [List.length_take, List.length_drop]
    omega
theorem cut_first (ks : List Int) (n : Nat) (h : n ≤ 1000) : ∃ ls : List Int, cutV (ks.map V.int) none (some (n : Int)) = ls.map V.int ∧ ls.length ≤ n ∧ ∀ x ∈ ls, x ∈ ks := by
  by_cases c : n ≤ (ks.map V.int).length
  · refine ⟨ks.take n, ?_, ?_, fun x hx => List.mem_of_mem_take hx⟩
    · rw [cut_take _ n c, List.map_take]
    · rw [List.length_take]
      omega
  · obtain ⟨ls, a, b, d⟩ := cut_part ks none (some (n : Int))
    rw [List.length_map] at c
    exact ⟨ls, a, by omega, d⟩
/-- a slice, and a sum of two, as such lists -/
theorem rl_cut {H : Hp} {ks : List Int} {lo hi : Option Int} {p : Addr} {n : Nat} (l : ks.length ≤ n) (r : Rpl ks) : RL (upd H p (.lst (cutV (ks.map V.int) lo hi))) p n := by
  obtain ⟨ls, a, b, d⟩ := cut_part ks lo hi
  exact ⟨ls, by rw [a]; exact upd_same, Nat.le_trans b l, fun k hk => r k (d k hk)⟩
theorem cat_rl {H : Hp} {p q : Addr} {n m : Nat} {Q : VK} (hp : RL H p n) (hq : RL H q m) (hn : n + m ≤ 1000) (k : ∀ r H', H r = none → Same H H' → RL H' r (n + m) → Q (.ref r) H') : rCat (.ref p) (.ref q) H Q := by
  obtain ⟨ks, g1, l1, r1⟩ := hp
  obtain ⟨ls, g2, l2, r2⟩ := hq
  refine ⟨p, q, _, _, rfl, rfl, g1, g2, Nat.le_of_lt (small1000 (by rw [List.length_map, List.length_map]; omega)), fun r hr => k r _ hr (same_new hr) ⟨ks ++ ls, ?_, by rw [List.length_append]; omega, r1.app r2⟩⟩
  rw [upd_same, List.map_append]
theorem slice_rl {K : PySem.W.Frag} {H : Hp} {a : Addr} {n : Nat} {lo hi : Option Int} {Q : VK} (ha : RL H a n) (k : ∀ r H', H r = none → Same H H' → RL H' r n → Q (.ref r) H') : rSlL K (.ref a) lo hi H Q := by
  obtain ⟨ks, g, l, r⟩ := ha
  exact ⟨a, _, rfl, SqL.of g, fun p hp => k p _ hp (same_new hp) (rl_cut l r)⟩
theorem slice12_rl {K : PySem.W.Frag} {H : Hp} {a : Addr} {n : Nat} {Q : VK} (m : Nat) (hm : m ≤ 1000) (ha : RL H a n) (k : ∀ r H', H r = none → Same H H' → RL H' r m → Q (.ref r) H') : rSlL K (.ref a) none (some (m : Int)) H Q := by
  obtain ⟨ks, g, l, r⟩ := ha
  obtain ⟨ls, a', b, d⟩ := cut_first ks m hm
  exact ⟨a, _, rfl, SqL.of g, fun p hp => k p _ hp (same_new hp) ⟨ls, by rw [a']; exact upd_same, b, fun x hx => r x (d x hx)⟩⟩
theorem one_rl {H : Hp} {t : Addr} {k : Int} (h1 : 2 ≤ k) (h2 : k < 1073741824) : RL (upd H t (.lst [.int k])) t 1 := ⟨[k], upd_same, Nat.le_refl _, fun x hx => by rw [List.mem_singleton.mp hx]; exact ⟨h1, h2⟩⟩
theorem rev_rl {H : Hp} {p : Addr} {ms : List Int} {n : Nat} (l : ms.length ≤ n) (r : Rpl ms) : RL (upd H p (.lst (ms.map V.int).reverse)) p n :=
  ⟨ms.reverse, by rw [upd_same, List.map_reverse], by rw [List.length_reverse]; exact l, fun x hx => r x (List.mem_reverse.mp hx)⟩
theorem noPart {σ : L2.St} {H : Hp} {Q : Option Int → Hp → Prop} (h : Q none H) : tNoPart σ H Q := h
theorem wo_mon {G H : Hp} {D : Addr} (s : Same G H) : Same (wo G D) (wo H D) := fun b o e => by
  by_cases h : b = D
  · rw [h, wo_self] at e
    cases e
  · rw [wo_ne h] at e ⊢
    exact s b o e
end Sq

set_option Elab.async false
set_option linter.all false
/-! The best replacements, in plain Lean. -/
namespace Sq
def low (R : Int) : Int := (R + 3) / 2
def high (R : Int) : Int := (R + 4) / 2
def bests (R : Int) : List Int := if low R = high R then [low R] else [low R, high R]
def grow (R : Int) : Int := rw1 (low R) R
def up : Nat → Int → Int
  | 0, v => v
  | n + 1, v => grow (up n v)

theorem low_ge {R : Int} (h : 1 ≤ R) : 2 ≤ low R := by unfold low; omega
theorem low_le {R : Int} (h : 1 ≤ R) : low R ≤ R + 1 := by unfold low; omega
theorem high_le {R : Int} (h : 1 ≤ R) : high R ≤ R + 2 := by unfold high; omega

theorem rw1_low {k R : Int} (hk : k ≤ R + 2) : rw1 k R = (R + 3 - k) * k - 2 := by
  unfold rw1
  split
  · have e : k = R + 2 := by omega
    subst e
    rw [show R + 3 - (R + 2) = 1 by omega, Int.one_mul]
    omega
  · rfl

/-- how far a replacement stands from the middle decides -/
theorem sq_gap (R k : Int) : 4 * ((R + 3 - k) * k) = (R + 3) * (R + 3) - (2 * k - (R + 3)) * (2 * k - (R + 3)) := by
  simp only [Int.sub_mul, Int.mul_sub, Int.add_mul, Int.mul_add]
  have h1 := Int.mul_comm k R
  have h2 : 2 * k * (2 * k) = 4 * (k * k) := by
    rw [Int.mul_assoc, ← Int.mul_assoc k 2 k, Int.mul_comm k 2, Int.mul_assoc 2 k k]
    omega
  have h3 : 2 * k * R = 2 * (k * R) := Int.mul_assoc ..
  have h4 : R * (2 * k) = 2 * (k * R) := by rw [Int.mul_comm R, Int.mul_assoc]
  rw [h2, h3, h4, h1]
  omega

theorem one_sq {d : Int} (h : d = 0 ∨ d = 1 ∨ d = -1) : d * d ≤ 1 := by rcases h with h | h | h <;> subst h <;> decide
theorem two_sq {d : Int} (h : 2 ≤ d ∨ d ≤ -2) : 4 ≤ d * d := by
  rcases h with h | h
  · exact Int.mul_le_mul h h (by omega) (by omega)
  · have := Int.mul_le_mul (a := 2) (b := 2) (c := -d) (d := -d) (by omega) (by omega) (by omega) (by omega)
    rw [Int.neg_mul_neg] at this
    exact this

theorem rw1_le_grow {k R : Int} (hk : 2 ≤ k) (hR : 1 ≤ R) : rw1 k R ≤ grow R ∧ (rw1 k R = grow R ↔ k ∈ bests R) := by
  have l1 := low_ge hR
  have l2 := low_le hR
  have g : grow R = (R + 3 - low R) * low R - 2 := rw1_low (by omega)
  have e1 := sq_gap R (low R)
  by_cases c : k ≤ R + 2
  · have e := sq_gap R k
    rw [g, rw1_low c]
    by_cases ev : R % 2 = 0
    · -- the middle lies between two
      have d1 : 2 * low R - (R + 3) = -1 := by unfold low; omega
      have ne : low R ≠ high R := by unfold low high; omega
      have mem : k ∈ bests R ↔ (k = low R ∨ k = high R) := by
        unfold bests
        rw [if_neg ne]
        simp
      rw [d1] at e1
      by_cases m : k = low R ∨ k = high R
      · have d2 : 2 * k - (R + 3) = -1 ∨ 2 * k - (R + 3) = 1 := by unfold low high at m; omega
        have e2 : (2 * k - (R + 3)) * (2 * k - (R + 3)) = 1 := by rcases d2 with d2 | d2 <;> rw [d2] <;> rfl
        rw [e2] at e
        exact ⟨by omega, fun _ => mem.mpr m, fun _ => by omega⟩
      · have d2 : 2 ≤ 2 * k - (R + 3) ∨ 2 * k - (R + 3) ≤ -2 := by unfold low high at m; omega
        have e2 := two_sq d2
        exact ⟨by omega, fun z => by omega, fun z => absurd (mem.mp z) m⟩
    · have d1 : 2 * low R - (R + 3) = 0 := by unfold low; omega
      have eq : low R = high R := by unfold low high; omega
      have mem : k ∈ bests R ↔ k = low R := by
        unfold bests
        rw [if_pos eq]
        simp
      rw [d1] at e1
      by_cases m : k = low R
      · subst m
        exact ⟨by omega, fun _ => mem.mpr rfl, fun _ => by omega⟩
      · have d2 : 2 ≤ 2 * k - (R + 3) ∨ 2 * k - (R + 3) ≤ -2 := by unfold low at m; omega
        have e2 := two_sq d2
        exact ⟨by omega, fun z => by omega, fun z => absurd (mem.mp z) m⟩
  · have e2 : rw1 k R = R := by
      unfold rw1
      rw [if_pos (by omega)]
    have e3 : R < grow R := by
      rw [g]
      have e4 : (R + 3 - 2) * 2 ≤ (R + 3 - low R) * low R := by
        have a := sq_gap R 2
        have b : (2 * low R - (R + 3)) * (2 * low R - (R + 3)) ≤ 1 := one_sq (by unfold low; omega)
        by_cases h1 : R = 1
        · subst h1
          decide
        · by_cases h2 : R = 2
          · subst h2; decide
          · have c2 : 1 ≤ (2 * 2 - (R + 3)) * (2 * 2 - (R + 3)) := by
              have := two_sq (d := 2 * 2 - (R + 3)) (by omega)
              omega
            omega
      omega
    refine ⟨by omega, fun z => by omega, fun z => ?_⟩
    exfalso
    have := high_le hR
    unfold bests at z
    split at z
    · have := List.mem_singleton.mp z
      omega
    · simp at z
      omega

theorem grow_gt {R : Int} (hR : 1 ≤ R) : R < grow R := by
  have a := (rw1_le_grow (k := 2) (R := R) (by omega) hR).1
  rw [rw1_low (by omega)] at a
  by_cases h : R = 1
  · subst h; decide
  · omega
theorem grow_pos {R : Int} (hR : 1 ≤ R) : 1 ≤ grow R := by have := grow_gt hR; omega
theorem rw1_lt {k R S : Int} (hk : 2 ≤ k) (hR : 1 ≤ R) (h : R < S) : rw1 k R < grow S := by
  have hS : 1 ≤ S := by omega
  by_cases c : k ≤ R + 1
  · have a := (rw1_le_grow (k := k) hk hS).1
    rw [rw1_low (by omega)] at a
    rw [rw1_low (by omega)]
    have : (R + 3 - k) * k < (S + 3 - k) * k := Int.mul_lt_mul_of_pos_right (by omega) (by omega)
    omega
  · have e2 : rw1 k R = R := by
      unfold rw1
      rw [if_pos (by omega)]
    have := grow_gt hS
    omega
theorem grow_lt {R S : Int} (hR : 1 ≤ R) (h : R < S) : grow R < grow S := rw1_lt (low_ge hR) hR h
theorem up_pos {v : Int} (hv : 1 ≤ v) : ∀ n, 1 ≤ up n v
  | 0 => hv
  | n + 1 => grow_pos (up_pos hv n)
theorem up_lt {v : Int} (hv : 1 ≤ v) (n : Nat) : up n v < up (n + 1) v := grow_gt (up_pos hv n)
theorem up_mono {v : Int} (hv : 1 ≤ v) {i : Nat} : ∀ {j : Nat}, i ≤ j → up i v ≤ up j v
  | 0, h => by
    have e : i = 0 := by omega
    subst e
    exact Int.le_refl _
  | j + 1, h => by
    by_cases c : i = j + 1
    · subst c; exact Int.le_refl _
    · have := up_mono hv (i := i) (j := j) (by omega)
      have := up_lt hv j
      omega

/-- the choices of each place -/
def chs : Nat → Int → List (List Int)
  | 0, _ => []
  | n + 1, v => bests (up n v) :: chs n v
/-- one of each -/
def Each : List Int → List (List Int) → Prop
  | [], [] => True
  | k :: ks, c :: cs => k ∈ c ∧ Each ks cs
  | _, _ => False
theorem rch_best : ∀ (ks : List Int) (v : Int), (∀ k ∈ ks, 2 ≤ k) → 1 ≤ v → rch ks v ≤ up ks.length v ∧ (rch ks v = up ks.length v ↔ Each ks (chs ks.length v))
  | [], v, _, _ => ⟨Int.le_refl _, fun _ => trivial, fun _ => rfl⟩
  | k :: ks, v, h, hv => by
    have hk := h k (List.mem_cons_self ..)
    have ht : ∀ x ∈ ks, 2 ≤ x := fun x hx => h x (List.mem_cons_of_mem _ hx)
    obtain ⟨a1, a2⟩ := rch_best ks v ht hv
    have p := rch_pos ks v ht hv
    show rw1 k (rch ks v) ≤ grow (up ks.length v) ∧ (rw1 k (rch ks v) = grow (up ks.length v) ↔ k ∈ bests (up ks.length v) ∧ Each ks (chs ks.length v))
    by_cases e : rch ks v = up ks.length v
    · rw [e]
      obtain ⟨b1, b2⟩ := rw1_le_grow (k := k) (R := up ks.length v) hk (up_pos hv _)
      exact ⟨b1, fun z => ⟨b2.mp z, a2.mp e⟩, fun z => b2.mpr z.1⟩
    · have l := rw1_lt (k := k) hk p (show rch ks v < up ks.length v by omega)
      exact ⟨by omega, fun z => by omega, fun z => absurd (a2.mpr z.2) e⟩
end Sq

set_option Elab.async false
set_option linter.all false
/-! One of each choice, by its place. -/
namespace Sq
def lens : List (List Int) → Int
  | [] => 1
  | c :: cs => (c.length : Int) * lens cs
def pick : List (List Int) → Int → List Int
  | [], _ => []
  | c :: cs, p => c.getD ((p / lens cs) % (c.length : Int)).toNat 0 :: pick cs p
def Full (cs : List (List Int)) : Prop := ∀ c ∈ cs, 0 < c.length
theorem Full.tl {c : List Int} {cs : List (List Int)} (h : Full (c :: cs)) : Full cs := fun x hx => h x (List.mem_cons_of_mem _ hx)
theorem Full.hd {c : List Int} {cs : List (List Int)} (h : Full (c :: cs)) : 0 < c.length := h c (List.mem_cons_self ..)
theorem lens_pos : ∀ {cs : List (List Int)}, Full cs → 0 < lens cs
  | [], _ => by decide
  | c :: cs, h => Int.mul_pos (by have := h.hd; omega) (lens_pos h.tl)
theorem pick_len : ∀ (cs : List (List Int)) (p : Int), (pick cs p).length = cs.length
  | [], _ => rfl
  | _ :: cs, p => congrArg Nat.succ (pick_len cs p)
theorem pick_add : ∀ {cs : List (List Int)} (p t : Int), Full cs → pick cs (p + t * lens cs) = pick cs p
  | [], _, _, _ => rfl
  | c :: cs, p, t, h => by
    have m := lens_pos h.tl
    have e : p + t * ((c.length : Int) * lens cs) = p + (t * (c.length : Int)) * lens cs := by rw [Int.mul_assoc]
    show c.getD (((p + t * ((c.length : Int) * lens cs)) / lens cs) % (c.length : Int)).toNat 0 :: pick cs (p + t * ((c.length : Int) * lens cs)) = c.getD ((p / lens cs) % (c.length : Int)).toNat 0 :: pick cs p
    rw [e, pick_add p _ h.tl, Int.add_mul_ediv_right _ _ (by omega : lens cs ≠ 0), Int.add_mul_emod_self_right]
theorem pick_mod {cs : List (List Int)} (p : Int) (h : Full cs) : pick cs (p % lens cs) = pick cs p := by
  have a := pick_add (p % lens cs) (p / lens cs) h
  have e : p % lens cs + p / lens cs * lens cs = p := by rw [Int.mul_comm]; exact Int.emod_add_mul_ediv p (lens cs)
  rw [e] at a
  exact a.symm
theorem at_mem {c : List Int} (h : 0 < c.length) (z : Int) : c.getD (z % (c.length : Int)).toNat 0 ∈ c := by
  have a := Int.emod_nonneg z (by omega : (c.length : Int) ≠ 0)
  have b := Int.emod_lt_of_pos z (by omega : 0 < (c.length : Int))
  have lt : (z % (c.length : Int)).toNat < c.length := by omega
  rw [List.getD_eq_getElem?_getD, List.getElem?_eq_getElem lt]
  exact List.getElem_mem lt
theorem pick_each : ∀ {cs : List (List Int)} (p : Int), Full cs → Each (pick cs p) cs
  | [], _, _ => trivial
  | c :: cs, p, h => ⟨at_mem h.hd _, pick_each p h.tl⟩
theorem div_lt {p a M : Int} (h0 : 0 ≤ p) (hM : 0 < M) (h : p < a * M) : 0 ≤ p / M ∧ p / M < a := ⟨Int.ediv_nonneg h0 (by omega), Int.ediv_lt_of_lt_mul hM h⟩
theorem pick_all : ∀ {cs : List (List Int)} {ks : List Int}, Full cs → Each ks cs → ∃ p : Int, 0 ≤ p ∧ p < lens cs ∧ pick cs p = ks
  | [], [], _, _ => ⟨0, by decide, by decide, rfl⟩
  | c :: cs, k :: ks, h, e => by
    obtain ⟨p, p0, p1, pe⟩ := pick_all (cs := cs) (ks := ks) h.tl e.2
    obtain ⟨i, hi, ek⟩ := List.mem_iff_getElem.mp e.1
    have m := lens_pos h.tl
    refine ⟨p + i * lens cs, ?_, ?_, ?_⟩
    · have := Int.mul_nonneg (by omega : (0 : Int) ≤ i) (by omega : 0 ≤ lens cs)
      omega
    · have : ((i : Int) + 1) * lens cs ≤ (c.length : Int) * lens cs := Int.mul_le_mul_of_nonneg_right (by omega) (by omega)
      rw [Int.add_mul] at this
      show p + i * lens cs < (c.length : Int) * lens cs
      omega
    · show c.getD (((p + i * lens cs) / lens cs) % (c.length : Int)).toNat 0 :: pick cs (p + i * lens cs) = k :: ks
      rw [pick_add p _ h.tl, pe, Int.add_mul_ediv_right _ _ (by omega : lens cs ≠ 0), Int.ediv_eq_zero_of_lt p0 p1, Int.zero_add, Int.emod_eq_of_lt (by omega) (by omega)]
      have : ((i : Int)).toNat = i := by omega
      rw [this, List.getD_eq_getElem?_getD, List.getElem?_eq_getElem hi]
      exact congrArg (· :: ks) ek
  | [], _ :: _, _, e => e.elim
  | _ :: _, [], _, e => e.elim
/-- the first that differs is less -/
def Lx : List Int → List Int → Prop
  | x :: xs, y :: ys => x < y ∨ (x = y ∧ Lx xs ys)
  | _, _ => False
def Asc (c : List Int) : Prop := ∀ i j : Nat, i < j → j < c.length → c.getD i 0 < c.getD j 0
theorem pick_lx : ∀ {cs : List (List Int)} {p q : Int}, Full cs → (∀ c ∈ cs, Asc c) → 0 ≤ p → p < q → q < lens cs → Lx (pick cs p) (pick cs q)
  | [], p, q, _, _, h0, h1, h2 => by
    have : q < 1 := h2
    omega
  | c :: cs, p, q, h, ha, h0, h1, h2 => by
    have m := lens_pos h.tl
    have h2' : q < (c.length : Int) * lens cs := h2
    obtain ⟨a1, a2⟩ := div_lt h0 m (by omega : p < (c.length : Int) * lens cs)
    obtain ⟨b1, b2⟩ := div_lt (by omega : 0 ≤ q) m h2'
    have le : p / lens cs ≤ q / lens cs := Int.ediv_le_ediv m (by omega)
    show _ < _ ∨ (_ = _ ∧ Lx (pick cs p) (pick cs q))
    rw [Int.emod_eq_of_lt a1 a2, Int.emod_eq_of_lt b1 b2]
    by_cases e : p / lens cs = q / lens cs
    · right
      refine ⟨by rw [e], ?_⟩
      rw [← pick_mod p h.tl, ← pick_mod q h.tl]
      have x := Int.emod_add_mul_ediv p (lens cs)
      have y := Int.emod_add_mul_ediv q (lens cs)
      rw [e] at x
      exact pick_lx h.tl (fun z hz => ha z (List.mem_cons_of_mem _ hz)) (Int.emod_nonneg _ (by omega)) (by omega) (Int.emod_lt_of_pos _ m)
    · left
      exact ha c (List.mem_cons_self ..) _ _ (by omega) (by omega)
theorem bests_len (R : Int) : (bests R).length = if R % 2 = 0 then 2 else 1 := by
  unfold bests
  by_cases h : R % 2 = 0
  · rw [if_pos h, if_neg (show ¬ low R = high R by unfold low high; omega)]
    rfl
  · rw [if_neg h, if_pos (show low R = high R by unfold low high; omega)]
    rfl
theorem bests_asc (R : Int) : Asc (bests R) := by
  intro i j h1 h2
  rw [bests_len] at h2
  split at h2
  · have e1 : i = 0 := by omega
    have e2 : j = 1 := by omega
    subst e1 e2
    unfold bests
    rw [if_neg (show ¬ low R = high R by unfold low high; omega)]
    show low R < high R
    unfold low high
    omega
  · omega
theorem chs_len : ∀ (n : Nat) (v : Int), (chs n v).length = n
  | 0, _ => rfl
  | n + 1, v => congrArg Nat.succ (chs_len n v)
theorem chs_mem : ∀ {n : Nat} {v : Int} {c : List Int}, c ∈ chs n v → ∃ i, i < n ∧ c = bests (up i v)
  | n + 1, v, c, h => by
    rcases List.mem_cons.mp h with e | h
    · exact ⟨n, by omega, e⟩
    · obtain ⟨i, hi, e⟩ := chs_mem h
      exact ⟨i, by omega, e⟩
theorem chs_full (n : Nat) (v : Int) : Full (chs n v) := fun c h => by
  obtain ⟨i, _, rfl⟩ := chs_mem h
  rw [bests_len]
  split <;> omega
theorem chs_asc (n : Nat) (v : Int) : ∀ c ∈ chs n v, Asc c := fun c h => by
  obtain ⟨i, _, rfl⟩ := chs_mem h
  exact bests_asc _
/-- the even reaches -/
def evens (n : Nat) (v : Int) : Nat := match n with
  | 0 => 0
  | n + 1 => evens n v + if up n v % 2 = 0 then 1 else 0
theorem lens_chs : ∀ (n : Nat) (v : Int), lens (chs n v) = (2 : Int) ^ evens n v
  | 0, _ => rfl
  | n + 1, v => by
    show ((bests (up n v)).length : Int) * lens (chs n v) = (2 : Int) ^ (evens n v + if up n v % 2 = 0 then 1 else 0)
    rw [lens_chs n v, bests_len]
    by_cases h : up n v % 2 = 0
    · rw [if_pos h, if_pos h, Int.pow_succ]
      omega
    · rw [if_neg h, if_neg h]
      show (1 : Int) * _ = _
      rw [Int.one_mul]
      rfl
theorem evens_le (n : Nat) (v : Int) : evens n v ≤ n := by
  induction n with
  | zero => exact Nat.le_refl _
  | succ n ih =>
    show evens n v + (if up n v % 2 = 0 then 1 else 0) ≤ n + 1
    split <;> omega
theorem lens_le {n : Nat} (h : n ≤ 8) (v : Int) : lens (chs n v) ≤ 256 := by
  rw [lens_chs]
  have : (2 : Nat) ^ evens n v ≤ 2 ^ 8 := Nat.pow_le_pow_right (by decide) (Nat.le_trans (evens_le n v) h)
  have e : ((2 ^ evens n v : Nat) : Int) = (2 : Int) ^ evens n v := by push_cast; rfl
  omega
theorem each_ge : ∀ {n : Nat} {v : Int} {ks : List Int}, 1 ≤ v → Each ks (chs n v) → ∀ k ∈ ks, 2 ≤ k ∧ k ≤ up n v + 2
  | 0, v, [], _, _ => fun k h => by cases h
  | n + 1, v, k :: ks, hv, e => fun x hx => by
    have l := up_lt hv n
    rcases List.mem_cons.mp hx with z | z
    · subst z
      have p := up_pos hv n
      have e1 : x ∈ bests (up n v) := e.1
      have a := low_ge p
      have b := low_le p
      have c := high_le p
      have d : low (up n v) ≤ high (up n v) := by unfold low high; omega
      unfold bests at e1
      split at e1
      · have := List.mem_singleton.mp e1
        omega
      · simp at e1
        omega
    · have := each_ge hv e.2 x z
      omega
  | n + 1, v, [], _, e => e.elim
  | 0, v, _ :: _, _, e => e.elim
theorem each_len : ∀ {ks : List Int} {cs : List (List Int)}, Each ks cs → ks.length = cs.length
  | [], [], _ => rfl
  | _ :: _, _ :: _, e => congrArg Nat.succ (each_len e.2)
  | [], _ :: _, e => e.elim
  | _ :: _, [], e => e.elim
end Sq

set_option Elab.async false
set_option linter.all false
set_option maxRecDepth 100000
set_option maxHeartbeats 1000000
/-! `for` in a generator's body, with yields in its suite. -/
namespace PySem
open Sem (wp)
section
variable {M : Model} {A : Around} {R : GenEnd} {Y : Protocol} {n : Nat} {s₀ : Shared} {c : Code} {fs : List Frame} {s : Shared} {env : Env}
  {K : Flow → Sem Fin} {H : Value → Sem Fin} {gd : Bool → Bool} {lv : List Value → List Value}
theorem segFor {target iter : Expr} {body orelse : List Stmt} {pos : Pos}
    (h : wpAny M (A.over c fs) (eval iter env) (fun x s₁ => wpAny M (A.over c fs) (pyIter x) (fun it s₂ =>
        ∀ p, Seg M A R Y n s₀ (.forLoop target it body orelse env) (M.den (.forLoop target it body orelse env))
      (.ret (fun r => ((match r with | .ok f => (.pure f : Sem Flow) | .error e => .raise e).onRaise fun (x : Value) => do
        if (← field x 1) == Value.none then unsupported "frame.own-activation:exception-without-traceback"
        setFlight x env.frame).wrap K H gd lv) none (gd false) (lv []) c p [] :: fs) s₂) (fun x s' => Seg M A R Y n s₀ c (H x) fs s') s₁)
      (fun x s' => Seg M A R Y n s₀ c (H x) fs s') s)
    (hs : ∀ x, foldedSetIterable iter env x = pure x := by intro _; rfl) :
    Seg M A R Y n s₀ c ((exec (.For target iter body orelse pos) env).wrap K H gd lv) fs s := by
  rw [exec_For]
  refine seg_bind_wrap (wpAny_standAt ?_)
  refine seg_bind_wrap (wpAny_mono h (fun x s₁ h₁ => ?_) fun _ _ h' => h')
  refine seg_bind_wrap (wpAny_of_eq (hs x) ?_)
  refine seg_bind_wrap (wpAny_standAt ?_)
  refine seg_bind_wrap (wpAny_holding (wpAny_mono h₁ (fun it s₂ h₂ => ?_) fun _ _ h' => h'))
  exact seg_call h₂
end
section
variable {prog : Program} {w : World} {A : Around} {R : GenEnd} {Y : Protocol} {n : Nat} {s₀ : Shared} {fs : List Frame} {s : Shared} {env : Env}
theorem segForLoop {target : Expr} {it : Value} {body orelse : List Stmt}
    (h : wpAny (model prog w) (A.over (.forLoop target it body orelse env) fs) (pyNext it) (fun r s₁ => match r with
        | none => Seg (model prog w) A R Y n s₀ (.forLoop target it body orelse env) (.pure (.again (.block orelse env))) fs s₁
        | some v => wpAny (model prog w) (A.over (.forLoop target it body orelse env) fs) (letOwnedTupleGo target it v) (fun _ s₂ =>
            wpAny (model prog w) (A.over (.forLoop target it body orelse env) fs) (assign target env v) (fun _ s₃ =>
              Seg (model prog w) A R Y n s₀ (.forLoop target it body orelse env) ((execs body env).wrap (fun f => match f with
            | .next | .cont => .pure (.again (.forLoop target it body orelse env))
            | .brk => .pure (.done .next)
            | .ret v => .pure (.done (.ret v))) (fun e => (do noteFrame e env; theTreesLotGoes e : Sem Unit).wrap (fun _ => .raise e) .raise id id) id id) fs s₃)
              (fun x s' => Seg (model prog w) A R Y n s₀ (.forLoop target it body orelse env) ((do noteFrame x env; theTreesLotGoes x : Sem Unit).wrap (fun _ => .raise x) .raise id id) fs s') s₂)
            (fun x s' => Seg (model prog w) A R Y n s₀ (.forLoop target it body orelse env) ((do noteFrame x env; theTreesLotGoes x : Sem Unit).wrap (fun _ => .raise x) .raise id id) fs s') s₁)
      (fun x s' => Seg (model prog w) A R Y n s₀ (.forLoop target it body orelse env) ((do noteFrame x env; theTreesLotGoes x : Sem Unit).wrap (fun _ => .raise x) .raise id id) fs s') s) :
    Seg (model prog w) A R Y n s₀ (.forLoop target it body orelse env) ((model prog w).den (.forLoop target it body orelse env)) fs s := by
  show Seg _ A R Y n s₀ _ ((forTurn target it body orelse env).onRaise (fun x => do noteFrame x env; theTreesLotGoes x)) fs s
  unfold forTurn
  rw [Sem.onRaise_eq_wrap]
  have he : ∀ (x : Value) (s' : Shared), Seg (model prog w) A R Y n s₀ (.forLoop target it body orelse env) ((do noteFrame x env; theTreesLotGoes x : Sem Unit).wrap (fun _ => .raise x) .raise id id) fs s' →
      Seg (model prog w) A R Y n s₀ (.forLoop target it body orelse env) ((do noteFrame x env; theTreesLotGoes x : Sem Unit).bind fun _ => .raise x) fs s' := fun x s' hx => by
    rw [Sem.bind_eq_wrap]; exact hx
  refine seg_bind_wrap (wpAny_standAt ?_)
  refine seg_bind_wrap (wpAny_onRaise (wpAny_mono h (fun r s₁ h₁ => ?_) fun x s' hx => wpAny_standAt (he x s' hx)))
  cases r with
  | none => exact h₁
  | some v =>
    refine seg_bind_wrap (wpAny_mono h₁ (fun _ s₂ h₂ => ?_) fun x s' hx => he x s' hx)
    refine seg_bind_wrap (wpAny_mono h₂ (fun _ s₃ h₃ => ?_) fun x s' hx => he x s' hx)
    rw [Sem.bind_eq_wrap', Sem.wrap_wrap]
    rw [Sem.wrap_congr (execs body env) _ _ (K' := fun f => match f with
            | .next | .cont => .pure (.again (.forLoop target it body orelse env))
            | .brk => .pure (.done .next)
            | .ret v => .pure (.done (.ret v))) (H' := (fun e => (do noteFrame e env; theTreesLotGoes e : Sem Unit).wrap (fun _ => .raise e) .raise id id))
        (fun f => by cases f <;> rfl)
        (fun e => by first | exact Sem.bind_eq_wrap _ _ | (show (do noteFrame e env; theTreesLotGoes e : Sem Unit).bind (fun _ => .raise e) = _; rw [Sem.bind_eq_wrap]))]
    exact h₃
theorem segBlockNil (h : Seg (model prog w) A R Y n s₀ (.block [] env) (.pure (.done .next)) fs s) :
    Seg (model prog w) A R Y n s₀ (.block [] env) ((model prog w).den (.block [] env)) fs s := h
end
end PySem

namespace L2
open PySem PySem.Spec PyProof.Rows GenW
section
variable {X : Cx} {tg : Expr}
theorem gc_more {S : Addr} {ip ip' : List (Addr × Obj)} {A : Around} {c : Code} {fs : List Frame} {gd : Bool → Bool} (g : GC X S ip A c fs gd) (h : ∀ p ∈ ip', p.1 ≠ S) : GC X S (ip ++ ip') A c fs gd where
  pn := g.pn
  ip := fun p hp => (List.mem_append.mp hp).elim (g.ip p) (h p)
  apart := g.apart
  over := g.over
  split := g.split
  guard := g.guard
  gd := g.gd
theorem GI.less {S : Addr} {ip ip' : List (Addr × Obj)} {ys : List V} {σ : St} {H : Hp} {s : Shared} (h : GI X S (ip ++ ip') ys σ H s) : GI X S ip ys σ H s := by
  obtain ⟨acc, c, r, I⟩ := h
  exact ⟨acc, c, r, I.pins_of fun p hp => I.pin p (List.mem_append_right _ ((List.mem_cons.mp hp).elim (fun e => e ▸ List.mem_cons_self) fun z => List.mem_cons_of_mem _ (List.mem_append_left _ z)))⟩
/-- as tFor, with what is out -/
def tGFor (wi : TI) (g : TG) (tb : TGn) : TGn := fun D ys σ H => wi σ H fun J H1 => ∃ W : Nat → Nat → List V → St → Hp → Prop, (∃ m, W 0 m ys σ H1) ∧ ∀ i m ys σ H, W i m ys σ H →
  (J.stop i H ∧ D.nx ys σ H) ∨ (J.go i H ∧ ∃ N : List V → St → Hp → Prop, (∀ ys' σ' H', N ys' σ' H' → ∃ m', m' < m ∧ W (i + 1) m' ys' σ' H') ∧ ∀ x H', J.yld i H x H' → g x σ H' fun σ2 H2 => tb { D with nx := N, ct := N, bk := D.nx } ys σ2 H2)
theorem gs_for {iter : Expr} {body : List Stmt} {wi : TI} {g : TG} {tb : TGn} {pos : Pos} (hp : PassesOwn (model X.prog X.w) X.A X.env X.xe) (hcalm : X.calm = true) (hi : PI X tg iter wi) (hg : PG X tg g) (hb : GSs X body tb)
    (hs : ∀ x, foldedSetIterable iter X.env x = pure x := by intro _; rfl) : GS X (.For tg iter body [] pos) (tGFor wi g tb) := by
  refine ⟨fun A S ip R n ys s₀ c fs K J gd lv s σ H D gc hn k hI ht => ?_⟩
  obtain ⟨acc, cc, r, I⟩ := hI
  refine segFor ?_ hs
  rw [gc.over]
  refine wpAny_mono (hi.run _ s σ H _ I ht) (fun v s1 h1 => ?_) fun x s' hx => k.exc n s₀ x s' hx
  refine wpAny_mono h1 (fun itv s2 h2 => ?_) fun x s' hx => k.exc n s₀ x s' hx
  obtain ⟨it, fp, tn, J', H2, e, I2, T, st2, f2, W, ⟨m0, w0⟩, turn⟩ := h2
  subst e
  intro p
  have gl := fun (kk : Result → Sem PySem.Fin) => gc_loop (k := kk) (c' := .forLoop tg (.ref it) body [] X.env) (l := lv []) (kp := []) (p := p) gc rfl rfl
  have fpS : ∀ b ∈ fp, b ≠ S := fun b hb e => by
    obtain ⟨_, q1, q2, q3, q4, q5⟩ := f2 b hb
    exact q5 (S, lstObj acc cc) (List.mem_append_right _ List.mem_cons_self) e.symm
  have stat : ∀ {H' : Hp}, (∀ b ∈ fp, H' b = none) → ∀ {acc : Array Value} {c : Nat}, ∀ b ∈ fp, FpOk X ((S, lstObj acc c) :: ip) H' b := fun {H'} hn {acc c} b hb => by
    obtain ⟨_, q1, q2, q3, q4, q5⟩ := f2 b hb
    refine ⟨hn b hb, q1, q2, q3, q4, fun p hp => ?_⟩
    rcases List.mem_append.mp hp with z | z
    · exact q5 p (List.mem_append_left _ z)
    · rcases List.mem_cons.mp z with z | z
      · rw [z]
        exact fun e => fpS b hb e.symm
      · exact q5 p (List.mem_append_right _ (List.mem_cons_of_mem _ z))
  have loop : ∀ (m i n : Nat) (ys : List V) (s₀ s : Shared) (σ : St) (H : Hp), n + ys.length = sizeLine → W i m ys σ H → tn i s.heap → (∀ b ∈ fp, H b = none) → GI X S ip ys σ H s →
      Seg (model X.prog X.w) A R (GY X S) n s₀ (.forLoop tg (.ref it) body [] X.env) ((model X.prog X.w).den (.forLoop tg (.ref it) body [] X.env))
        (.ret (fun r => ((match r with | .ok f => (.pure f : Sem Flow) | .error e => .raise e).onRaise (cameBack X.env)).wrap K J gd lv) none (gd false) (lv []) c p [] :: fs) s := by
    intro m
    induction m using Nat.strongRecOn with
    | ind m ih =>
      intro i n ys s₀ s σ H hn w st fr hI
      have ee : ∀ (n : Nat) (s₀ : Shared) (x : Value) (s' : Shared), X.xe x s' → Seg (model X.prog X.w) A R (GY X S) n s₀ (.forLoop tg (.ref it) body [] X.env)
          ((do noteFrame x X.env; theTreesLotGoes x : Sem Unit).wrap (fun _ => .raise x) .raise id id)
          (.ret (fun r => ((match r with | .ok f => (.pure f : Sem Flow) | .error e => .raise e).onRaise (cameBack X.env)).wrap K J gd lv) none (gd false) (lv []) c p [] :: fs) s' := fun n s₀ x s' hx => by
        refine seg_wrap ?_
        rw [(gl _).over]
        refine wpAny_bind (wpAny_mono (hp x s' hx) (fun _ s'' hcb => wpAny_theTreesLotGoes ?_) fun y s'' hcb => ?_)
        · exact seg_leaf (.error x) (seg_cameBack gc k hcb)
        · exact seg_leaf (.error y) (seg_cameBack gc k hcb)
      refine segForLoop ?_
      rw [(gl _).over]
      obtain ⟨acc, cc, r, I⟩ := hI
      rcases turn i m ys σ H w with ⟨stop, qn⟩ | ⟨go, N, hN, step⟩
      · refine wpAny_mono (T.done X rfl rfl rfl hcalm i _ s σ H X.xe I (stat fr) st stop) (fun rr s4 hh => ?_) fun x s' hx => ee n s₀ x s' hx
        obtain ⟨hr, I4⟩ := hh
        subst hr
        refine seg_again rfl (segBlockNil ?_)
        exact seg_leaf (.ok .next) (k.ok n ys s₀ s4 .next hn ⟨σ, H, ⟨acc, cc, r, I4⟩, qn⟩)
      · refine wpAny_mono (T.item X rfl rfl rfl hcalm i _ s σ H X.xe I (stat fr) st go) (fun rr s4 hh => ?_) fun x s' hx => ee n s₀ x s' hx
        obtain ⟨u, hr, h4⟩ := hh
        subst hr
        refine wpAny_mono h4 (fun _ s5 hh => ?_) fun x s' hx => ee n s₀ x s' hx
        obtain ⟨x, H5, I5, r5, y5, st5, fr5⟩ := hh
        have I5' := I5.pinned (stat fr5) (T.obj _ _ st5)
        refine wpAny_mono (hg.run _ s5 σ H5 x u _ I5' r5 (step x H5 y5)) (fun _ s6 hh => ?_) fun x s' hx => ee n s₀ x s' hx
        obtain ⟨σ6, H6, I6, q6⟩ := hh
        have gm : GC X S (ip ++ pinsAt fp s5.heap) A (.forLoop tg (.ref it) body [] X.env) (.ret (fun r => ((match r with | .ok f => (.pure f : Sem Flow) | .error e => .raise e).onRaise (cameBack X.env)).wrap K J gd lv) none (gd false) (lv []) c p [] :: fs) id :=
          gc_more (gl _) fun q hq => fpS q.1 (of_pinsAt hq).1
        have again : ∀ {n' : Nat} {ys' : List V} {s₀' s7 : Shared} {σ7 : St} {H7 : Hp}, n' + ys'.length = sizeLine → GI X S (ip ++ pinsAt fp s5.heap) ys' σ7 H7 s7 → N ys' σ7 H7 →
            Seg (model X.prog X.w) A R (GY X S) n' s₀' (.forLoop tg (.ref it) body [] X.env) (.pure (.again (.forLoop tg (.ref it) body [] X.env)))
              (.ret (fun r => ((match r with | .ok f => (.pure f : Sem Flow) | .error e => .raise e).onRaise (cameBack X.env)).wrap K J gd lv) none (gd false) (lv []) c p [] :: fs) s7 := fun {n' ys' s₀' s7 σ7 H7} hn' I7 n7 => by
          obtain ⟨m', hm, w7⟩ := hN ys' σ7 H7 n7
          have pz : ∀ b ∈ fp, ∀ o, s5.heap.get? b = some o → s7.heap.get? b = some o ∧ H7 b = none := fun b hb o e => by
            obtain ⟨acc7, c7, _, I7'⟩ := I7
            have z := I7'.pin (b, o) (List.mem_append_right _ (List.mem_cons_of_mem _ (List.mem_append_right _ (mem_pinsAt hb e))))
            exact ⟨z.1, z.2.1⟩
          refine seg_again rfl (ih m' hm (i + 1) n' ys' s₀' s7 σ7 H7 hn' w7 (T.keep _ _ _ st5 fun b hb o e => (pz b hb o e).1) (fun b hb => ?_) I7.less)
          obtain ⟨o, e, d⟩ := T.obj _ _ st5 b hb
          exact (pz b hb o e).2
        refine hb.run A S (ip ++ pinsAt fp s5.heap) R n ys s₀ _ _ _ _ id id s6 σ6 H6 { D with nx := N, ct := N, bk := D.nx } gm hn ⟨fun n' ys' s₀' s3 f hn' hs => ?_, fun n' s₀' x s3 hx => ee n' s₀' x s3 hx⟩ ⟨acc, cc, r, I6⟩ q6
        cases f with
        | next =>
          obtain ⟨σ3, H3, I3, n3⟩ := hs
          exact again hn' I3 n3
        | cont =>
          obtain ⟨σ3, H3, I3, n3⟩ := hs
          exact again hn' I3 n3
        | brk =>
          obtain ⟨σ3, H3, I3, n3⟩ := hs
          exact seg_leaf (.ok .next) (k.ok n' ys' s₀' s3 .next hn' ⟨σ3, H3, I3.less, n3⟩)
        | ret v =>
          obtain ⟨x3, σ3, H3, I3, r3, n3⟩ := hs
          exact seg_leaf (.ok (.ret v)) (k.ok n' ys' s₀' s3 (.ret v) hn' ⟨x3, σ3, H3, I3.less, r3, n3⟩)
  exact loop m0 0 n ys s₀ s2 σ H2 hn w0 st2 (fun b hb => (f2 b hb).1) ⟨acc, cc, r, I2⟩
end
end L2

set_option Elab.async false
set_option linter.all false
set_option maxRecDepth 100000
set_option maxHeartbeats 2000000
/-! Lists of lists of ints; a walk in a generator. -/
namespace Sq
open PySem PySem.Spec PyProof.Rows L2
theorem gfor_it {J : It} {n : Nat} {G : Hp → Prop} {Y : Nat → Hp → V → Hp → Prop} (w : Walk J n G Y) {g : TG} {tb : TGn} {D : GEnds} {ys : List V} {σ : L2.St} {H : Hp} (Pv : Nat → List V → L2.St → Hp → Prop) (h0 : Pv 0 ys σ H) (hG : ∀ i ys σ H, i ≤ n → Pv i ys σ H → G H)
    (hs : ∀ i x ys σ H H', i < n → Pv i ys σ H → Y i H x H' → g x σ H' fun σ2 H2 => tb { D with nx := Pv (i + 1), ct := Pv (i + 1), bk := D.nx } ys σ2 H2) (hd : ∀ ys σ H, Pv n ys σ H → D.nx ys σ H) :
    ∃ W : Nat → Nat → List V → L2.St → Hp → Prop, (∃ m, W 0 m ys σ H) ∧ ∀ i m ys σ H, W i m ys σ H →
      (J.stop i H ∧ D.nx ys σ H) ∨ (J.go i H ∧ ∃ N : List V → L2.St → Hp → Prop, (∀ ys' σ' H', N ys' σ' H' → ∃ m', m' < m ∧ W (i + 1) m' ys' σ' H') ∧ ∀ x H', J.yld i H x H' → g x σ H' fun σ2 H2 => tb { D with nx := N, ct := N, bk := D.nx } ys σ2 H2) := by
  refine ⟨fun i m ys σ H => m = n - i ∧ i ≤ n ∧ Pv i ys σ H, ⟨n, by simp, Nat.zero_le _, h0⟩, ?_⟩
  rintro i m ys σ H ⟨rfl, hi, p⟩
  have q := hG i ys σ H hi p
  by_cases hlt : i < n
  · exact .inr ⟨w.goes i H hlt q, Pv (i + 1), fun ys' σ' H' p' => ⟨n - (i + 1), by omega, rfl, hlt, p'⟩, fun x H' y => hs i x ys σ H H' hlt p (w.yields i H x H' hlt q y)⟩
  · have e : i = n := by omega
    subst e
    exact .inl ⟨w.stops H q, hd ys σ H p⟩
/-- at each of them stands its list of ints -/
def RowsAt (H : Hp) : List Addr → List (List Int) → Prop
  | [], [] => True
  | a :: as, c :: cs => H a = some (.lst (c.map V.int)) ∧ RowsAt H as cs
  | _, _ => False
theorem RowsAt.same {H H' : Hp} (s : Same H H') : ∀ {as : List Addr} {cs : List (List Int)}, RowsAt H as cs → RowsAt H' as cs
  | [], [], _ => trivial
  | _ :: _, _ :: _, h => ⟨s _ _ h.1, RowsAt.same s h.2⟩
  | [], _ :: _, h => h.elim
  | _ :: _, [], h => h.elim
theorem RowsAt.len {H : Hp} : ∀ {as : List Addr} {cs : List (List Int)}, RowsAt H as cs → as.length = cs.length
  | [], [], _ => rfl
  | _ :: _, _ :: _, h => congrArg Nat.succ (RowsAt.len h.2)
  | [], _ :: _, h => h.elim
  | _ :: _, [], h => h.elim
theorem RowsAt.app {H : Hp} : ∀ {as : List Addr} {cs : List (List Int)} {bs : List Addr} {ds : List (List Int)}, RowsAt H as cs → RowsAt H bs ds → RowsAt H (as ++ bs) (cs ++ ds)
  | [], [], _, _, _, h2 => h2
  | _ :: _, _ :: _, _, _, h, h2 => ⟨h.1, RowsAt.app h.2 h2⟩
  | [], _ :: _, _, _, h, _ => h.elim
  | _ :: _, [], _, _, h, _ => h.elim
theorem RowsAt.rev {H : Hp} : ∀ {as : List Addr} {cs : List (List Int)}, RowsAt H as cs → RowsAt H as.reverse cs.reverse
  | [], [], _ => trivial
  | _ :: _, _ :: _, h => by
    rw [List.reverse_cons, List.reverse_cons]
    exact (RowsAt.rev h.2).app ⟨h.1, trivial⟩
  | [], _ :: _, h => h.elim
  | _ :: _, [], h => h.elim
theorem RowsAt.get {H : Hp} : ∀ {as : List Addr} {cs : List (List Int)} {i : Nat} {c : List Int}, RowsAt H as cs → cs[i]? = some c → ∃ a, as[i]? = some a ∧ H a = some (.lst (c.map V.int))
  | _ :: _, _ :: _, 0, _, h, e => by
    cases e
    exact ⟨_, rfl, h.1⟩
  | _ :: _, _ :: _, i + 1, _, h, e => RowsAt.get (i := i) h.2 e
  | [], _ :: _, _, _, h, _ => h.elim
  | _, [], _, _, _, e => by simp at e
theorem RowsAt.upd {H : Hp} {p : Addr} {o : HO} : ∀ {as : List Addr} {cs : List (List Int)}, RowsAt H as cs → p ∉ as → RowsAt (upd H p o) as cs
  | [], [], _, _ => trivial
  | a :: _, _ :: _, h, n => ⟨by rw [upd_ne (fun z => n (by rw [z]; exact List.mem_cons_self ..))]; exact h.1, RowsAt.upd h.2 (fun z => n (List.mem_cons_of_mem _ z))⟩
  | [], _ :: _, h, _ => h.elim
  | _ :: _, [], h, _ => h.elim
theorem RowsAt.off {H : Hp} {p : Addr} : ∀ {as : List Addr} {cs : List (List Int)}, RowsAt H as cs → H p = none → p ∉ as
  | [], [], _, _, z => nomatch z
  | a :: _, _ :: _, h, e, z => by
    rcases List.mem_cons.mp z with z | z
    · have := h.1
      rw [← z, e] at this
      cases this
    · exact RowsAt.off h.2 e z
  | [], _ :: _, h, _, _ => h.elim
  | _ :: _, [], h, _, _ => h.elim
theorem map_ref {as : List Addr} {i : Nat} {x : V} (h : (as.map V.ref)[i]? = some x) : ∃ a, as[i]? = some a ∧ V.ref a = x := by
  rw [List.getElem?_map] at h
  exact Option.map_eq_some_iff.mp h
/-- what they hold, as data -/
def dRows (cs : List (List Int)) : List PyData := cs.map fun c => PyData.list (c.map PyData.int)
theorem dp_rows {K : PySem.W.Frag} {H : Hp} : ∀ {as : List Addr} {cs : List (List Int)}, RowsAt H as cs → DpAll K H (as.map V.ref) (dRows cs)
  | [], [], _ => .nil
  | _ :: _, c :: _, h => .cons (.lst (SqL.of h.1) (dp_ints c)) (dp_rows h.2)
  | [], _ :: _, h => h.elim
  | _ :: _, [], h => h.elim
end Sq

set_option Elab.async false
set_option linter.all false
set_option maxRecDepth 100000
set_option maxHeartbeats 1000000
/-! Lists of lists of ints as data. -/
namespace Sq
open PySem PySem.Spec PyProof.Rows L2
theorem eqvAll_ints : ∀ xs ys : List Int, PyData.eqvAll (xs.map PyData.int) (ys.map PyData.int) = decide (xs = ys)
  | [], [] => rfl
  | [], _ :: _ => rfl
  | _ :: _, [] => rfl
  | x :: xs, y :: ys => by
    show (PyData.eqv (.int x) (.int y) && PyData.eqvAll (xs.map PyData.int) (ys.map PyData.int)) = decide (x :: xs = y :: ys)
    rw [eqvAll_ints xs ys]
    have e : PyData.eqv (.int x) (.int y) = decide (x = y) := by
      show (x == y) = decide (x = y)
      by_cases h : x = y
      · rw [decide_eq_true h]; exact beq_iff_eq.mpr h
      · rw [decide_eq_false h]; exact beq_eq_false_iff_ne.mpr h
    rw [e]
    by_cases h1 : x = y
    · by_cases h2 : xs = ys
      · subst h1 h2
        simp
      · simp [h1, h2]
    · simp [h1]
theorem eqv_ints (xs ys : List Int) : PyData.eqv (.list (xs.map PyData.int)) (.list (ys.map PyData.int)) = decide (xs = ys) := eqvAll_ints xs ys
theorem any_rows (r : List Int) : ∀ cs : List (List Int), ((dRows cs).any fun z => PyData.eqv z (.list (r.map PyData.int))) = decide (r ∈ cs)
  | [] => by simp [dRows]
  | c :: cs => by
    show (PyData.eqv (.list (c.map PyData.int)) (.list (r.map PyData.int)) || (dRows cs).any fun z => PyData.eqv z (.list (r.map PyData.int))) = _
    rw [any_rows r cs, eqv_ints]
    by_cases h1 : c = r
    · subst h1
      simp
    · by_cases h2 : r ∈ cs
      · simp [h2]
      · have : ¬ r = c := fun z => h1 z.symm
        simp [h1, h2, this]
theorem lay_rows : ∀ cs : List (List Int), PyData.canLayAll0 (dRows cs) = true
  | [] => rfl
  | c :: cs => by
    show (PyData.canLayAll0 (c.map PyData.int) && PyData.canLayAll0 (dRows cs)) = true
    rw [lay_rows cs, lays_ints c]
    rfl
theorem deep_rows : ∀ cs : List (List Int), PyData.depthAll (dRows cs) ≤ 2
  | [] => Nat.zero_le _
  | c :: cs => Nat.max_le.mpr ⟨Nat.add_le_add_right (deep_ints c) 1, deep_rows cs⟩
theorem shaped_rows (cs : List (List Int)) : SeqAt.shaped (.list (dRows cs)) = true := shaped_il (lay_rows cs) (Nat.le_trans (Nat.add_le_add_right (deep_rows cs) 1) (by decide))
theorem room65 {k : Nat} {A : Around} (r : Room k A) : A.units + 65 < cLine := by have := r.un; omega
def rLenK (K : PySem.W.Frag) : List V → Hp → VK → Prop := fun xs H Q => ∃ p ys, xs = [V.ref p] ∧ (SqL K H p ys ∨ SqT K H p ys) ∧ Q (V.int (ys.length : Nat)) H
theorem call_lenK {X : Cx} : CallR X (.builtin "len") (rLenK X.K) := call_len_seq
def rListK (K : PySem.W.Frag) : List V → Hp → VK → Prop := fun xs H Q => ∃ p ys, xs = [V.ref p] ∧ (SqL K H p ys ∨ SqT K H p ys) ∧ ∀ l, H l = none → Q (.ref l) (upd H l (.lst ys))
theorem call_listK {X : Cx} : CallR X (.type "list") (rListK X.K) := call_list_of
/-- kept by what turns the source alone -/
theorem RowsAt.keep {H H' : Hp} {l d : Addr} (k : ∀ b o, H b = some o → b ≠ l → b ≠ d → H' b = some o) : ∀ {as : List Addr} {cs : List (List Int)}, RowsAt H as cs → l ∉ as → d ∉ as → RowsAt H' as cs
  | [], [], _, _, _ => trivial
  | a :: _, _ :: _, h, n1, n2 => ⟨k _ _ h.1 (fun z => n1 (by rw [z]; exact List.mem_cons_self ..)) (fun z => n2 (by rw [z]; exact List.mem_cons_self ..)), RowsAt.keep k h.2 (fun z => n1 (List.mem_cons_of_mem _ z)) (fun z => n2 (List.mem_cons_of_mem _ z))⟩
  | [], _ :: _, h, _, _ => h.elim
  | _ :: _, [], h, _, _ => h.elim
end Sq

set_option Elab.async false
set_option linter.all false
set_option maxRecDepth 100000
set_option maxHeartbeats 4000000
set_option exponentiation.threshold 2000
namespace Sq
open PySem PySem.Spec PyProof.Rows L2
def topS (i : Nat) : Stmt := PySem.Challenge.pw_squeezelists_k18_hidden_lists_answer.main.body.getD i (.Pass ⟨0, 0, 0, 0⟩)
abbrev s_checklist : Stmt := topS 8
theorem sc_checklist : FnScope ["replacements", "index", "number"] ["replacements"] (defScope s_checklist) := ⟨rfl, rfl, rfl, by decide +kernel, rfl, by decide +kernel, by decide +kernel⟩
abbrev s_checknumber : Stmt := topS 9
theorem sc_checknumber : FnScope ["number", "least"] ["number", "least"] (defScope s_checknumber) := ⟨rfl, rfl, rfl, by decide +kernel, rfl, by decide +kernel, by decide +kernel⟩
abbrev s_greatestorigin : Stmt := topS 11
theorem sc_greatestorigin : FnScope ["length", "replacements", "greatest", "number"] ["length", "replacements"] (defScope s_greatestorigin) := ⟨rfl, rfl, rfl, by decide +kernel, rfl, by decide +kernel, by decide +kernel⟩
abbrev s_squeezed : Stmt := topS 13
theorem sc_squeezed : FnScope ["length", "replacements"] ["length", "replacements"] (defScope s_squeezed) := ⟨rfl, rfl, rfl, by decide +kernel, rfl, by decide +kernel, by decide +kernel⟩
abbrev s_lengthafter : Stmt := topS 14
theorem sc_lengthafter : FnScope ["length", "replacements", "present", "number"] ["length", "replacements"] (defScope s_lengthafter) := ⟨rfl, rfl, rfl, by decide +kernel, rfl, by decide +kernel, by decide +kernel⟩
abbrev s_lengthafterone : Stmt := topS 15
theorem sc_lengthafterone : FnScope ["length", "number", "groups", "left"] ["length", "number"] (defScope s_lengthafterone) := ⟨rfl, rfl, rfl, by decide +kernel, rfl, by decide +kernel, by decide +kernel⟩
abbrev s_HiddenListinit : Stmt := inClass (topS 17) 0
theorem sc_HiddenListinit : FnScope ["self", "replacements"] ["self", "replacements"] (defScope s_HiddenListinit) := ⟨rfl, rfl, rfl, by decide +kernel, rfl, by decide +kernel, by decide +kernel⟩
abbrev s_HiddenListquestions : Stmt := inClass (topS 17) 1
theorem sc_HiddenListquestions : FnScope ["self"] ["self"] (defScope s_HiddenListquestions) := ⟨rfl, rfl, rfl, by decide +kernel, rfl, by decide +kernel, by decide +kernel⟩
abbrev s_HiddenListask : Stmt := inClass (topS 17) 2
theorem sc_HiddenListask : FnScope ["self", "length", "answer"] ["self", "length"] (defScope s_HiddenListask) := ⟨rfl, rfl, rfl, by decide +kernel, rfl, by decide +kernel, by decide +kernel⟩
abbrev s_lawpool : Stmt := topS 19
theorem sc_lawpool : FnScope ["script", "at", "cell"] ["script", "at"] (defScope s_lawpool) := ⟨rfl, rfl, rfl, by decide +kernel, rfl, by decide +kernel, by decide +kernel⟩
abbrev s_lawdraw : Stmt := topS 20
theorem sc_lawdraw : FnScope ["pool", "many", "drawn", "mixed"] ["pool", "many"] (defScope s_lawdraw) := ⟨rfl, rfl, rfl, by decide +kernel, rfl, by decide +kernel, by decide +kernel⟩
abbrev s_lawlist : Stmt := topS 21
theorem sc_lawlist : FnScope ["pool", "most", "far", "found", "turn", "wide"] ["pool", "most", "far"] (defScope s_lawlist) := ⟨rfl, rfl, rfl, by decide +kernel, rfl, by decide +kernel, by decide +kernel⟩
abbrev s_lawafter : Stmt := topS 22
theorem sc_lawafter : FnScope ["long", "numbers", "number"] ["long", "numbers"] (defScope s_lawafter) := ⟨rfl, rfl, rfl, by decide +kernel, rfl, by decide +kernel, by decide +kernel⟩
abbrev s_lawkind : Stmt := topS 23
theorem sc_lawkind : FnScope ["caught", "some"] ["caught"] (defScope s_lawkind) := ⟨rfl, rfl, rfl, by decide +kernel, rfl, by decide +kernel, by decide +kernel⟩
abbrev s_lawbadlist : Stmt := topS 24
theorem sc_lawbadlist : FnScope ["pool", "numbers", "found", "turn", "one", "at"] ["pool", "numbers"] (defScope s_lawbadlist) := ⟨rfl, rfl, rfl, by decide +kernel, rfl, by decide +kernel, by decide +kernel⟩
abbrev s_lawmade : Stmt := topS 25
theorem sc_lawmade : FnScope ["numbers", "caught", "e"] ["numbers"] (defScope s_lawmade) := ⟨rfl, rfl, rfl, by decide +kernel, rfl, by decide +kernel, by decide +kernel⟩
abbrev s_lawasked : Stmt := topS 26
theorem sc_lawasked : FnScope ["secret", "long", "by_name", "caught", "e"] ["secret", "long", "by_name"] (defScope s_lawasked) := ⟨rfl, rfl, rfl, by decide +kernel, rfl, by decide +kernel, by decide +kernel⟩
abbrev s_lawlong : Stmt := topS 27
theorem sc_lawlong : FnScope ["pool", "numbers", "product", "number"] ["pool", "numbers"] (defScope s_lawlong) := ⟨rfl, rfl, rfl, by decide +kernel, rfl, by decide +kernel, by decide +kernel⟩
abbrev s_lawright : Stmt := topS 28
theorem sc_lawright : FnScope ["pool", "far", "kept", "passed", "one", "secrets", "counts_here", "turn", "which", "long", "due", "bad", "wrong"] ["pool"] (defScope s_lawright) := ⟨rfl, rfl, rfl, by decide +kernel, rfl, by decide +kernel, by decide +kernel⟩
abbrev s_law : Stmt := topS 29
theorem sc_law : FnScope ["script", "at", "pool", "turn"] ["script"] (defScope s_law) := ⟨rfl, rfl, rfl, by decide +kernel, rfl, by decide +kernel, by decide +kernel⟩
section
variable {P : Program} {w : World} {K : PySem.W.Frag} {mg : Str → Option Value} {base : Heap}
/-! ### the checks -/
def spCheckList (K : PySem.W.Frag) : Sp := fun vs H Q _ => ∃ (a : Addr) (ks : List Int), vs = [.ref a] ∧ SqL K H a (ks.map V.int) ∧ (∀ k ∈ ks, 2 ≤ k) ∧ ∀ H', Same H H' → Q .non H'
theorem ok_checklist {f : Addr} {fd : FuncData} (F : Fun K "check_list" "check_list" s_checklist f fd) (B : Bi mg) : FnOk P w K mg base CX0 1 f fd ["replacements"] (spCheckList K) := by
  refine F.ok sc_checklist (fun vs H Q E h => ?_) (fun cdv A outer s H vs Q E hr h => ?_)
  · obtain ⟨a, ks, rfl, _⟩ := h
    rfl
  · obtain ⟨a, ks, rfl, hS, hk, q⟩ := h
    refine ⟨_, (pss_one (ps_for PassesOwn.never rfl (pi_enum (by rfl) B.n_enumerate (pa_cons (pv 0) pa_nil)) (pg_tup rfl (pgs_cons (pg_name (i := 1) sc_checklist.nd rfl (Or.inl rfl)) (pgs_cons (pg_name (i := 2) sc_checklist.nd rfl (Or.inl rfl)) pgs_nil)))
 (pss_one (ps_if (pt_cmpR op_lt (pv 2) pe_int (nomark _))
 (pss_one ps_never)
 pss_nil)))), ?_⟩
    refine ⟨_, rfl, a, ks.map V.int, rfl, hS, for_it walk_enum (fun i σ H' => Same H H' ∧ ∃ y z, σ = [some (.ref a), y, z]) ⟨Same.refl H, none, none, rfl⟩ (fun i σ H' _ h => h.1.seq hS) ?_ ?_⟩
    · rintro i σ H' v H2 hi ⟨sm, y, z, rfl⟩ ⟨T, x1, x2, rfl, nT, rfl, e1, e2⟩
      obtain ⟨k, hk', rfl⟩ := map_at e2
      cases e1
      refine ⟨T, _, rfl, .inl (.inl upd_same), rfl, _, _, rfl, _, _, rfl, rfl, ?_⟩
      refine ⟨_, rfl, _, _, rfl, rfl, _, rfl, ite2 (fun c => ?_) (fun c => ?_)⟩
      · have := hk k (List.mem_of_getElem? hk')
        have c' : k < 2 := of_decide_eq_true c
        omega
      · exact ⟨sm.trans (same_new nT), _, _, rfl⟩
    · rintro σ H' ⟨sm, y, z, rfl⟩
      exact q H' sm
def spCheckNumber : Sp := fun vs H Q _ => ∃ (n l : Int), vs = [.int n, .int l] ∧ l ≤ n ∧ Q .non H
theorem ok_checknumber {f : Addr} {fd : FuncData} (F : Fun K "check_number" "check_number" s_checknumber f fd) : FnOk P w K mg base CX0 1 f fd ["number", "least"] spCheckNumber := by
  refine F.ok sc_checknumber (fun vs H Q E h => ?_) (fun cdv A outer s H vs Q E hr h => ?_)
  · obtain ⟨n, l, rfl, _⟩ := h
    rfl
  · obtain ⟨n, l, rfl, hl, q⟩ := h
    refine ⟨_, (pss_one (ps_if (pt_cmpR op_lt (pv 0) (pv 1) (nomark _))
 (pss_one ps_never)
 pss_nil)), ?_⟩
    refine ⟨_, rfl, _, rfl, _, _, rfl, rfl, _, rfl, ite2 (fun c => ?_) (fun c => q)⟩
    have c' : n < l := of_decide_eq_true c
    omega
end

section
variable {P : Program} {w : World} {K : PySem.W.Frag} {mg : Str → Option Value} {base : Heap} {c fI : Nat → Addr} {qn : Nat → Str} {cB : Addr}
def spOnceS : Sp := fun vs H Q _ => ∃ (n k : Int), vs = [.int n, .int k] ∧ 2 ≤ k ∧ k < 1073741824 ∧ ∀ H', Same H H' → Q (.int (once n k)) H'
theorem ok_lengthafterone {f : Addr} {fd : FuncData} (F : Fun K "length_after_one" "length_after_one" s_lengthafterone f fd) (B : Bi mg) : FnOk P w K mg base CX0 1 f fd ["length", "number"] spOnceS := by
  refine F.ok sc_lengthafterone (fun vs H Q E h => ?_) (fun cdv A outer s H vs Q E hr h => ?_)
  · obtain ⟨n, k, rfl, _⟩ := h
    rfl
  · obtain ⟨n, k, rfl, k1, k2, q⟩ := h
    refine ⟨_, (pss_cons (ps_asg (pe_callB (id := "divmod") call_divmod (by rfl) B.n_divmod (by decide +kernel) (pa_cons (pv 0) (pa_cons (pv 1) pa_nil))) (pg_tup rfl (pgs_cons (pg_name (i := 2) sc_lengthafterone.nd rfl (Or.inl rfl)) (pgs_cons (pg_name (i := 3) sc_lengthafterone.nd rfl (Or.inl rfl)) pgs_nil))))
 (pss_one (ps_ret (pe_op op_add (pv 2) (pv 3))))), ?_⟩
    refine ⟨_, rfl, _, rfl, n, k, rfl, ⟨by omega, k2⟩, fun p hp => ?_⟩
    exact ⟨p, _, rfl, .inl (.inl upd_same), rfl, _, _, rfl, _, _, rfl, rfl, _, rfl, _, rfl, _, _, rfl, rfl, q _ (same_new hp)⟩
def spSqzS (K : PySem.W.Frag) : Sp := fun vs H Q _ => ∃ (n : Int) (a : Addr) (ks : List Int), vs = [.int n, .ref a] ∧ SqL K H a (ks.map V.int) ∧ Rpl ks ∧ ∀ H', Same H H' → Q (.int (sq n ks)) H'
theorem ok_lengthafter {f : Addr} {fd : FuncData} (F : Fun K "length_after" "length_after" s_lengthafter f fd) (D_lengthafterone : Df P w K mg base 1 "length_after_one" ["length", "number"] spOnceS) : FnOk P w K mg base CX0 2 f fd ["length", "replacements"] (spSqzS K) := by
  refine F.ok sc_lengthafter (fun vs H Q E h => ?_) (fun cdv A outer s H vs Q E hr h => ?_)
  · obtain ⟨n, a, ks, rfl, _⟩ := h
    rfl
  · obtain ⟨n, a, ks, rfl, hS, hk, q⟩ := h
    refine ⟨_, (pss_cons (ps_set (i := 2) sc_lengthafter.nd rfl (Or.inl rfl) (pv 0))
 (pss_cons (ps_for PassesOwn.never rfl (pi_list (pv 1)) (pg_name (i := 3) sc_lengthafter.nd rfl (Or.inl rfl))
 (pss_one (ps_set (i := 2) sc_lengthafter.nd rfl (Or.inl rfl) (pe_callD D_lengthafterone (hr.mono (by omega)) (by rfl) (pa_cons (pv 2) (pa_cons (pv 3) pa_nil))))))
 (pss_one (ps_ret (pv 2))))), ?_⟩
    refine ⟨_, rfl, _, rfl, a, rfl, ⟨_, hS⟩, for_list (K := K) (a := a) (xs := ks.map V.int) (fun i σ H' => Same H H' ∧ ∃ y, σ = [some (.int n), some (.ref a), some (.int (sq n (ks.take i))), y]) ⟨Same.refl H, none, rfl⟩ (fun i σ H' _ h => h.1.seq hS) ?_ ?_⟩
    · rintro i x σ H' hi ⟨sm, y, rfl⟩
      obtain ⟨k, e, rfl⟩ := map_at hi
      have hm := hk k (List.mem_of_getElem? e)
      refine ⟨_, rfl, _, rfl, _, k, rfl, hm.1, hm.2, fun H'' s2 => ⟨sm.trans s2, some (.int k), ?_⟩⟩
      rw [List.take_add_one, e]
      show _ = [_, _, some (V.int (sq n (ks.take i ++ [k]))), _]
      rw [sq_concat]
      rfl
    · rintro σ H' ⟨sm, y, rfl⟩
      rw [List.length_map, List.take_length]
      exact ⟨_, rfl, q _ sm⟩
end

section
variable {P : Program} {w : World} {K : PySem.W.Frag} {mg : Str → Option Value} {base : Heap}
def spSqueezed (K : PySem.W.Frag) : Sp := fun vs H Q _ => ∃ (n : Int) (a : Addr) (ks : List Int), vs = [.int n, .ref a] ∧ SqL K H a (ks.map V.int) ∧ 0 ≤ n ∧ Rpl ks ∧ ∀ H', Same H H' → Q (.int (sq n ks)) H'
theorem ok_squeezed {f : Addr} {fd : FuncData} (F : Fun K "squeezed" "squeezed" s_squeezed f fd) (D_checknumber : Df P w K mg base 1 "check_number" ["number", "least"] spCheckNumber) (D_checklist : Df P w K mg base 1 "check_list" ["replacements"] (spCheckList K))
    (D_lengthafter : Df P w K mg base 2 "length_after" ["length", "replacements"] (spSqzS K)) : FnOk P w K mg base CX0 3 f fd ["length", "replacements"] (spSqueezed K) := by
  refine F.ok sc_squeezed (fun vs H Q E h => ?_) (fun cdv A outer s H vs Q E hr h => ?_)
  · obtain ⟨n, a, ks, rfl, _⟩ := h
    rfl
  · obtain ⟨n, a, ks, rfl, hS, h0, hk, q⟩ := h
    refine ⟨_, (pss_cons (ps_expr (pe_callD D_checknumber (hr.mono (by omega)) (by rfl) (pa_cons (pv 0) (pa_cons pe_int pa_nil))))
 (pss_cons (ps_expr (pe_callD D_checklist (hr.mono (by omega)) (by rfl) (pa_cons (pv 1) pa_nil)))
 (pss_one (ps_ret (pe_callD D_lengthafter (hr.mono (by omega)) (by rfl) (pa_cons (pv 0) (pa_cons (pv 1) pa_nil))))))), ?_⟩
    refine ⟨_, rfl, n, 0, rfl, h0, ?_⟩
    refine ⟨_, rfl, a, ks, rfl, hS, hk.two, fun H1 s1 => ?_⟩
    exact ⟨_, rfl, _, rfl, n, a, ks, rfl, s1.seq hS, hk, fun H2 s2 => q _ (s1.trans s2)⟩
end

/-! ### the draws -/
structure Rng (H : Hp) (l : Addr) (seed cnt : Int) : Prop where
  ob : ∃ dg, H l = some (.lst [.int dg, .int seed, .int cnt])
  s0 : 0 ≤ seed
  s1 : seed < 4611686018427387904
  c0 : 0 ≤ cnt
theorem Rng.same {H H' : Hp} {l : Addr} {seed cnt : Int} (S : Rng H l seed cnt) (s : Same H H') : Rng H' l seed cnt :=
  let ⟨dg, h⟩ := S.ob
  ⟨⟨dg, s _ _ h⟩, S.s0, S.s1, S.c0⟩
/-- all but the object at l is as it was -/
def Keep1 (H H' : Hp) (l : Addr) : Prop := ∀ b o, H b = some o → b ≠ l → H' b = some o
theorem Keep1.trans {H H1 H2 : Hp} {l : Addr} (a : Keep1 H H1 l) (b : Keep1 H1 H2 l) : Keep1 H H2 l := fun c o h n => b c o (a c o h n) n
theorem Keep1.of {H H' : Hp} {l : Addr} (s : Same H H') : Keep1 H H' l := fun b o h _ => s b o h
theorem Keep1.set {H : Hp} {l : Addr} {o : HO} : Keep1 H (upd H l o) l := fun c x h n => by
  rw [upd_ne n]
  exact h
section
variable {P : Program} {w : World} {K : PySem.W.Frag} {mg : Str → Option Value} {base : Heap}
def spPool (K : PySem.W.Frag) : Sp := fun vs H Q _ => ∃ (a : Addr) (ns : List Int) (j : Nat), vs = [.ref a, .int (j : Int)] ∧ SqL K H a (ns.map V.int) ∧ ns.length ≤ 63 ∧ j ≤ 100 ∧ ∀ l seed H', H l = none → Same H H' → Rng H' l seed 0 → Q (.ref l) H'
theorem ok_lawpool {f : Addr} {fd : FuncData} (F : Fun K "_law_pool" "_law_pool" s_lawpool f fd) (B : Bi mg) : FnOk P w K mg base CX0 1 f fd ["script", "at"] (spPool K) := by
  refine F.ok sc_lawpool (fun vs H Q E h => ?_) (fun cdv A outer s H vs Q E hr h => ?_)
  · obtain ⟨a, ns, j, rfl, _⟩ := h
    rfl
  · obtain ⟨a, ns, j, rfl, hS, hn, hj, q⟩ := h
    refine ⟨_, (pss_cons (ps_set (i := 2) sc_lawpool.nd rfl (Or.inl rfl) pe_int)
 (pss_cons (ps_if (pt_cmpR op_lt (pv 1) (pe_callB (id := "len") (r := rLenK K) call_lenK (by rfl) B.n_len (by decide +kernel) (pa_cons (pv 0) pa_nil)) (nomark _))
 (pss_one (ps_set (i := 2) sc_lawpool.nd rfl (Or.inl rfl) (pe_ix (r := rIxL K) ix_list (pv 0) (pv 1) (fun _ _ => rfl))))
 pss_nil)
 (pss_one (ps_ret (pe_lst (pa_cons (pe_callB (id := "max") (call_max2 rfl) (by rfl) B.n_max (by decide +kernel) (pa_cons pe_int (pa_cons (pe_op op_sub (pe_callB (id := "abs") call_abs (by rfl) B.n_abs (by decide +kernel) (pa_cons (pv 2) pa_nil)) (pe_op op_pow pe_int pe_int)) pa_nil))) (pa_cons (pe_op op_add (pe_op op_mod (pv 2) pe_int) (pe_op op_mul pe_int (pe_op op_add (pv 1) pe_int))) (pa_cons pe_int pa_nil)))))))), ?_⟩
    have rest : ∀ (cell : Int) (l : Addr), H l = none → Q (.ref l) (upd H l (.lst [.int (if (if cell < 0 then -cell else cell) - 10 ^ (18 : Int).toNat > 0 then (if cell < 0 then -cell else cell) - 10 ^ (18 : Int).toNat else 0), .int (cell % 2305843009213693951 + 3367900279 * ((j : Int) + 1)), .int 0])) := fun cell l hl => by
      have s0 : 0 ≤ cell % 2305843009213693951 := Int.emod_nonneg _ (by decide)
      have s1 : cell % 2305843009213693951 < 2305843009213693951 := Int.emod_lt_of_pos _ (by decide)
      exact q l _ _ hl (same_new hl) ⟨⟨_, upd_same⟩, by omega, by omega, Int.le_refl 0⟩
    have w3 : 3 ≤ sizeLine := Nat.le_of_lt (small1000 (by decide))
    refine ⟨_, rfl, _, rfl, a, _, rfl, .inl hS, _, _, rfl, rfl, _, rfl, ite2 (fun c => ?_) (fun c => ?_)⟩
    · have jl : j < ns.length := by
        have := of_decide_eq_true c
        rw [List.length_map] at this
        omega
      refine ⟨_, rfl, _, rfl, a, _, _, .int ns[j], rfl, rfl, hS, at_of (j := j) rfl (by rw [List.getElem?_map, List.getElem?_eq_getElem jl]; rfl), ?_⟩
      refine ⟨_, rfl, _, rfl, 10, 18, rfl, rfl, ⟨by decide, by decide, by decide⟩, _, _, rfl, rfl, 0, _, rfl, ?_⟩
      exact ⟨_, rfl, _, _, rfl, rfl, (by decide : (0 : Int) < 2305843009213693951), _, rfl, _, 1, rfl, rfl, 3367900279, _, rfl, rfl, .inl ⟨by decide, by decide⟩, _, _, rfl, rfl, w3, fun l hl => rest _ l hl⟩
    · refine ⟨_, rfl, _, rfl, 10, 18, rfl, rfl, ⟨by decide, by decide, by decide⟩, _, _, rfl, rfl, 0, _, rfl, ?_⟩
      exact ⟨_, rfl, _, _, rfl, rfl, (by decide : (0 : Int) < 2305843009213693951), _, rfl, _, 1, rfl, rfl, 3367900279, _, rfl, rfl, .inl ⟨by decide, by decide⟩, _, _, rfl, rfl, w3, fun l hl => rest _ l hl⟩
def spDraw : Sp := fun vs H Q _ => ∃ (l : Addr) (seed cnt limit : Int), vs = [.ref l, .int limit] ∧ Rng H l seed cnt ∧ cnt < 1000000 ∧ 0 < limit ∧ limit.natAbs < 2 ^ 700 ∧
  ∀ z cnt' H', 0 ≤ z → z < limit → Rng H' l seed cnt' → cnt' ≤ cnt + 1 → Keep1 H H' l → Q (.int z) H'
theorem ok_lawdraw {f : Addr} {fd : FuncData} (F : Fun K "_law_draw" "_law_draw" s_lawdraw f fd) : FnOk P w K mg base CX0 1 f fd ["pool", "many"] spDraw := by
  refine F.ok sc_lawdraw (fun vs H Q E h => ?_) (fun cdv A outer s H vs Q E hr h => ?_)
  · obtain ⟨l, seed, cnt, limit, rfl, _⟩ := h
    rfl
  · obtain ⟨l, seed, cnt, limit, rfl, S, hc, hm, hw, q⟩ := h
    refine ⟨_, (pss_cons (ps_if (pt_cmpR op_gt (pe_ix (r := rIxL K) ix_list (pv 0) pe_int (fun _ _ => rfl)) pe_int (nomark _))
 (pss_cons (ps_set (i := 2) sc_lawdraw.nd rfl (Or.inl rfl) (pe_op op_mod (pe_ix (r := rIxL K) ix_list (pv 0) pe_int (fun _ _ => rfl)) (pv 1)))
 (pss_cons (ps_asg (pe_op op_fdivW (pe_ix (r := rIxL K) ix_list (pv 0) pe_int (fun _ _ => rfl)) (pv 1)) (pg_sub (pv 0) pe_int set_list))
 (pss_one (ps_ret (pv 2)))))
 pss_nil)
 (pss_cons (ps_asg (pe_op op_add (pe_ix (r := rIxL K) ix_list (pv 0) pe_int (fun _ _ => rfl)) pe_int) (pg_sub (pv 0) pe_int set_list))
 (pss_cons (ps_set (i := 3) sc_lawdraw.nd rfl (Or.inl rfl) (pe_op op_mod (pe_op op_powW (pe_op op_add (pe_ix (r := rIxL K) ix_list (pv 0) pe_int (fun _ _ => rfl)) (pe_op op_mul pe_int (pe_ix (r := rIxL K) ix_list (pv 0) pe_int (fun _ _ => rfl)))) pe_int) pe_int))
 (pss_cons (ps_set (i := 3) sc_lawdraw.nd rfl (Or.inl rfl) (pe_op op_mod (pe_op op_powW (pe_op op_add (pv 3) (pe_op op_mul pe_int (pe_ix (r := rIxL K) ix_list (pv 0) pe_int (fun _ _ => rfl)))) pe_int) pe_int))
 (pss_one (ps_ret (pe_op op_mod (pe_op op_fdiv (pv 3) pe_int) (pv 1)))))))), ?_⟩
    have s0 := S.s0
    have s1 := S.s1
    have c0 := S.c0
    obtain ⟨dg, hl⟩ := S.ob
    refine ⟨_, rfl, l, _, 0, _, rfl, rfl, SqL.of hl, rfl, dg, 0, rfl, rfl, _, rfl, ite2 (fun c1 => ?_) (fun c1 => ?_)⟩
    · refine ⟨_, rfl, l, _, 0, _, rfl, rfl, SqL.of hl, rfl, _, rfl, dg, limit, rfl, rfl, hm, ?_⟩
      refine ⟨_, rfl, l, _, 0, _, rfl, rfl, SqL.of hl, rfl, _, rfl, dg, limit, rfl, rfl, wide_div hm hw (by decide) (by decide), ?_⟩
      refine ⟨_, rfl, l, _, 0, 0, rfl, rfl, hl, rfl, _, rfl, ?_⟩
      exact q _ cnt _ (Int.emod_nonneg _ (by omega)) (Int.emod_lt_of_pos _ hm) ⟨⟨dg / limit, upd_same⟩, s0, s1, c0⟩ (by omega) Keep1.set
    · refine ⟨_, rfl, l, _, 2, _, rfl, rfl, SqL.of hl, rfl, cnt, 1, rfl, rfl, _, rfl, l, _, 2, 2, rfl, rfl, hl, rfl, ?_⟩
      have hl3 : (upd H l (.lst [.int dg, .int seed, .int (cnt + 1)])) l = some (.lst [.int dg, .int seed, .int (cnt + 1)]) := upd_same
      have b1 : (seed + 15493301 * (cnt + 1)).natAbs < 2 ^ 63 := by omega
      refine ⟨_, rfl, l, _, 1, _, rfl, rfl, SqL.of hl3, rfl, _, rfl, l, _, 2, _, rfl, rfl, SqL.of hl3, rfl, 15493301, cnt + 1, rfl, rfl, .inl ⟨by decide, by decide⟩, seed, _, rfl, rfl, _, 3, rfl, rfl, powW_of (by decide) b1 (by decide) (by decide), _, _, rfl, rfl, (by decide : (0 : Int) < 162259276829213363391578010288127), ?_⟩
      have p0 : 0 ≤ (seed + 15493301 * (cnt + 1)) ^ (3 : Int).toNat % 162259276829213363391578010288127 := Int.emod_nonneg _ (by decide)
      have p1 : (seed + 15493301 * (cnt + 1)) ^ (3 : Int).toNat % 162259276829213363391578010288127 < 162259276829213363391578010288127 := Int.emod_lt_of_pos _ (by decide)
      have b2 : ((seed + 15493301 * (cnt + 1)) ^ (3 : Int).toNat % 162259276829213363391578010288127 + 32454031 * (cnt + 1)).natAbs < 2 ^ 110 := by
        generalize (seed + 15493301 * (cnt + 1)) ^ (3 : Int).toNat % 162259276829213363391578010288127 = y at p0 p1
        omega
      refine ⟨_, rfl, _, rfl, l, _, 2, _, rfl, rfl, SqL.of hl3, rfl, 32454031, cnt + 1, rfl, rfl, .inl ⟨by decide, by decide⟩, _, _, rfl, rfl, _, 5, rfl, rfl, powW_of (by decide) b2 (by decide) (by decide), _, _, rfl, rfl, (by decide : (0 : Int) < 170141183460469231731687303715884105727), ?_⟩
      refine ⟨_, rfl, _, 1048576, rfl, rfl, ⟨by decide, by decide⟩, _, rfl, _, limit, rfl, rfl, hm, ?_⟩
      exact q _ (cnt + 1) _ (Int.emod_nonneg _ (by omega)) (Int.emod_lt_of_pos _ hm) ⟨⟨dg, hl3⟩, s0, s1, by omega⟩ (by omega) Keep1.set
end
theorem Rng.free {H H' : Hp} {l p : Addr} {seed cnt : Int} (k : Keep1 H H' l) (S : Rng H' l seed cnt) (h : H' p = none) : H p = none := by
  obtain ⟨dg, hl⟩ := S.ob
  cases e : H p with
  | none => rfl
  | some o =>
    have := k p o e (fun z => by rw [z, hl] at h; cases h)
    rw [h] at this
    cases this
theorem Rng.ne {H : Hp} {l p : Addr} {seed cnt : Int} (S : Rng H l seed cnt) (h : H p = none) : p ≠ l := fun z => by
  obtain ⟨dg, hl⟩ := S.ob
  rw [z, hl] at h
  cases h
theorem Rng.upd {H : Hp} {l p : Addr} {seed cnt : Int} {o : HO} (S : Rng H l seed cnt) (h : p ≠ l) : Rng (upd H p o) l seed cnt :=
  let ⟨dg, hl⟩ := S.ob
  ⟨⟨dg, by rw [upd_ne h.symm]; exact hl⟩, S.s0, S.s1, S.c0⟩
theorem nth_of {xs : List Int} {z : Int} (h0 : 0 ≤ z) (h : z < xs.length) : ∃ k, k ∈ xs ∧ atI (xs.map V.int) z = some (.int k) := by
  have lt : z.toNat < xs.length := by omega
  refine ⟨xs[z.toNat], List.getElem_mem lt, at_of (j := z.toNat) (by omega) ?_⟩
  rw [List.getElem?_map, List.getElem?_eq_getElem lt]
  rfl
theorem lim10 {i : Int} (h : i.natAbs ≤ 10 ^ 31) : i.natAbs < 2 ^ 700 := Nat.lt_of_le_of_lt h (by decide)
section
variable {P : Program} {w : World} {K : PySem.W.Frag} {mg : Str → Option Value} {base : Heap}
def spList : Sp := fun vs H Q _ => ∃ (l : Addr) (seed cnt M far : Int), vs = [.ref l, .int M, .int far] ∧ 0 ≤ M ∧ M ≤ 100 ∧ 2 ≤ far ∧ far ≤ 1000000 ∧ Rng H l seed cnt ∧ cnt < 500000 ∧
  ∀ p ks cnt' H', H p = none → Rng H' l seed cnt' → cnt' ≤ cnt + 1 + 2 * M → Keep1 H H' l → H' p = some (.lst (List.map V.int ks)) → ks.length ≤ M → (∀ k ∈ ks, 2 ≤ k ∧ k ≤ far) → Q (.ref p) H'
theorem ok_lawlist {f : Addr} {fd : FuncData} (F : Fun K "_law_list" "_law_list" s_lawlist f fd) (B : Bi mg) (D_lawdraw : Df P w K mg base 1 "_law_draw" ["pool", "many"] spDraw) : FnOk P w K mg base CX0 2 f fd ["pool", "most", "far"] spList := by
  refine F.ok sc_lawlist (fun vs H Q E h => ?_) (fun cdv A outer s H vs Q E hr h => ?_)
  · obtain ⟨l, seed, cnt, M, far, rfl, _⟩ := h
    rfl
  · obtain ⟨l, seed, cnt, M, far, rfl, M0, M1, f0, f1, S, hc, q⟩ := h
    refine ⟨_, (pss_cons (ps_set (i := 3) sc_lawlist.nd rfl (Or.inl rfl) (pe_lst pa_nil))
 (pss_cons (ps_for PassesOwn.never rfl (pi_range1 (by rfl) B.n_range (pa_cons (pe_callD D_lawdraw (hr.mono (by omega)) (by rfl) (pa_cons (pv 0) (pa_cons (pe_op op_add (pv 1) pe_int) pa_nil))) pa_nil)) (pg_name (i := 4) sc_lawlist.nd rfl (Or.inl rfl))
 (pss_cons (ps_set (i := 5) sc_lawlist.nd rfl (Or.inl rfl) (pe_callB (id := "min") (call_min2 rfl) (by rfl) B.n_min (by decide +kernel) (pa_cons (pe_op op_sub (pv 2) pe_int) (pa_cons (pe_ix (r := rIxL K) ix_list (pe_lst (pa_cons pe_int (pa_cons pe_int (pa_cons pe_int (pa_cons (pe_op op_sub (pv 2) pe_int) pa_nil))))) (pe_callD D_lawdraw (hr.mono (by omega)) (by rfl) (pa_cons (pv 0) (pa_cons pe_int pa_nil))) (fun _ _ => rfl)) pa_nil))))
 (pss_one (ps_expr (pe_bm PySem.F.plainAttrs_list PySem.F.slot_list_append PySem.F.type_list_append mt_append (pv 3) (pa_cons (pe_op op_add pe_int (pe_callD D_lawdraw (hr.mono (by omega)) (by rfl) (pa_cons (pv 0) (pa_cons (pv 5) pa_nil)))) pa_nil))))))
 (pss_one (ps_ret (pv 3))))), ?_⟩
    have w4 : 4 ≤ sizeLine := Nat.le_of_lt (small1000 (by decide))
    refine ⟨Nat.zero_le _, fun p hp => ?_⟩
    have npl := S.ne hp
    refine ⟨_, rfl, _, rfl, M, 1, rfl, rfl, l, seed, cnt, M + 1, rfl, S.same (same_new hp), by omega, by omega, lim10 (by omega), fun m c1 H1 m0 m1 S1 hc1 k1 => ?_⟩
    have gp1 := k1 _ _ (upd_same (H := H) (o := .lst [])) npl
    have k01 : Keep1 H H1 l := (Keep1.of (same_new hp)).trans k1
    refine ⟨m, rfl, by omega, by omega, for_range (lo := 0) (n := m.toNat) (fun i σ H' => ∃ ks cnt' y4 y5, σ = [some (.ref l), some (.int M), some (.int far), some (.ref p), y4, y5] ∧ Rng H' l seed cnt' ∧ cnt' ≤ cnt + 1 + 2 * i ∧ (∀ b o, H b = some o → b ≠ l → H' b = some o) ∧ H' p = some (.lst (List.map V.int ks)) ∧ ks.length = i ∧ ∀ k ∈ ks, 2 ≤ k ∧ k ≤ far)
      ⟨[], c1, none, none, rfl, S1, by omega, k01, gp1, rfl, fun k z => (nomatch z)⟩ ?_ ?_⟩
    · rintro i σ H3 hi ⟨ks, cnt3, y4, y5, rfl, S3, hc3, k3, gp3, lk, hk⟩
      refine ⟨_, rfl, far, 1, rfl, rfl, _, rfl, far, 1, rfl, rfl, w4, fun t ht => ?_⟩
      have nt := S3.ne ht
      refine ⟨_, rfl, l, seed, cnt3, 4, rfl, S3.same (same_new ht), by omega, by decide, by decide, fun z c4 H4 z0 z1 S4 hc4 k4 => ?_⟩
      obtain ⟨v, vm, va⟩ := nth_of (xs := [2, 5, 30, far - 1]) z0 z1
      have vb : 1 ≤ v := by
        simp only [List.mem_cons, List.not_mem_nil, or_false] at vm
        omega
      refine ⟨t, _, z, .int v, rfl, rfl, SqL.of (k4 _ _ upd_same nt), va, _, _, rfl, ?_⟩
      obtain ⟨wd, ewd⟩ : ∃ wd, wd = (if v < far - 1 then v else far - 1) := ⟨_, rfl⟩
      have wb : 1 ≤ wd ∧ wd ≤ far - 1 := by
        rw [ewd]
        split <;> omega
      rw [← ewd]
      have gp4 := k4 _ _ (same_new ht _ _ gp3) npl
      refine ⟨_, rfl, .inl ⟨rfl, _, SqL.of gp4⟩, _, rfl, _, rfl, l, seed, c4, wd, rfl, S4, by omega, by omega, lim10 (by omega), fun z5 c5 H5 z50 z51 S5 hc5 k5 => ⟨2, z5, rfl, rfl, p, _, _, rfl, rfl, k5 _ _ gp4 npl, small1000 (by rw [List.length_map]; omega), ?_⟩⟩
      refine ⟨ks ++ [2 + z5], c5, _, _, rfl, S5.upd npl, by omega, fun b o e nb => ?_, ?_, by rw [List.length_append, lk]; rfl, fun x hx => ?_⟩
      · rw [upd_ne (ne_of_none e hp)]
        exact k5 _ _ (k4 _ _ (same_new ht _ _ (k3 _ _ e nb)) nb) nb
      · rw [upd_same, List.map_append]
        rfl
      · rcases List.mem_append.mp hx with h | h
        · exact hk x h
        · rw [List.mem_singleton.mp h]
          omega
    · rintro σ H3 ⟨ks, cnt3, y4, y5, rfl, S3, hc3, k3, gp3, lk, hk⟩
      exact ⟨_, rfl, q p ks cnt3 H3 hp S3 (by omega) k3 gp3 (by omega) hk⟩
end

theorem kRQ : ¬ (("_replacements" : Str) = "_questions") := by decide +kernel
/-- the attributes of a hidden list -/
def hfs (d : Addr) (n : Int) : List (Str × V) := [(("_replacements" : Str), .ref d), (("_questions" : Str), .int n)]
theorem hfs_new (d : Addr) (n : Int) : putF "_questions" (.int n) (putF "_replacements" (.ref d) []) = hfs d n := by
  show (if ("_replacements" : Str) = "_questions" then [(("_replacements" : Str), V.int n)] else (("_replacements" : Str), V.ref d) :: putF "_questions" (V.int n) []) = hfs d n
  rw [if_neg kRQ]
  rfl
theorem hfs_put (d : Addr) (n m : Int) : putF "_questions" (.int m) (hfs d n) = hfs d m := by
  show (if ("_replacements" : Str) = "_questions" then _ else (("_replacements" : Str), V.ref d) :: (if ("_questions" : Str) = "_questions" then [(("_questions" : Str), V.int m)] else _)) = hfs d m
  rw [if_neg kRQ, if_pos rfl]
  rfl
theorem hfs_R (d : Addr) (n : Int) : (hfs d n).lookup ("_replacements" : Str) = some (.ref d) := by
  rw [← hfs_new, lookup_putF, if_neg kRQ, lookup_putF, if_pos rfl]
theorem hfs_Q (d : Addr) (n : Int) : (hfs d n).lookup ("_questions" : Str) = some (.int n) := by
  rw [← hfs_new, lookup_putF, if_pos rfl]
theorem hfs_no (d : Addr) (n : Int) {m : Str} (h1 : ¬ m = "_questions") (h2 : ¬ m = "_replacements") : (hfs d n).lookup m = none := by
  rw [← hfs_new, lookup_putF, if_neg h1, lookup_putF, if_neg h2]
  rfl
/-- a hidden list stands at p, its numbers at d; it has answered n times -/
structure HidAt (C : Addr) (H : Hp) (p d : Addr) (ks : List Int) (n : Int) : Prop where
  ob : ∃ dx, H p = some (.ins C dx (hfs d n))
  rp : H d = some (.lst (ks.map V.int))
theorem HidAt.same {C p d : Addr} {H H' : Hp} {ks : List Int} {n : Int} (h : HidAt C H p d ks n) (s : Same H H') : HidAt C H' p d ks n :=
  let ⟨dx, e⟩ := h.ob
  ⟨⟨dx, s _ _ e⟩, s _ _ h.rp⟩
theorem HidAt.ne {C p d : Addr} {H : Hp} {ks : List Int} {n : Int} (h : HidAt C H p d ks n) : p ≠ d :=
  let ⟨_, e⟩ := h.ob
  ne_of e h.rp (by intro z; cases z)
structure Hc (K : PySem.W.Frag) (C : Addr) : Prop where
  cl : Cls K C
  nR : NoAttr K C "_replacements"
  nQ : NoAttr K C "_questions"
section
variable {P : Program} {w : World} {K : PySem.W.Frag} {mg : Str → Option Value} {base : Heap}
/-- all but the object at p is as it was -/
def But (H H' : Hp) (p : Addr) : Prop := ∀ b o, H b = some o → b ≠ p → H' b = some o
def spHidInit (K : PySem.W.Frag) (C : Addr) : Sp := fun vs H Q _ => ∃ (p dx a : Addr) (ks : List Int), vs = [.ref p, .ref a] ∧ H p = some (.ins C dx []) ∧ SqL K H a (ks.map V.int) ∧ Rpl ks ∧ ∀ d H', H d = none → HidAt C H' p d ks 0 → But H H' p → Q .non H'
theorem ok_hidinit {f C : Addr} {fd : FuncData} (F : Fun K "__init__" "HiddenList.__init__" s_HiddenListinit f fd) (B : Bi mg) (T : Hc K C) (D_checklist : Df P w K mg base 1 "check_list" ["replacements"] (spCheckList K)) : FnOk P w K mg base CX0 2 f fd ["self", "replacements"] (spHidInit K C) := by
  refine F.ok sc_HiddenListinit (fun vs H Q E h => ?_) (fun cdv A outer s H vs Q E hr h => ?_)
  · obtain ⟨p, dx, a, ks, rfl, _⟩ := h
    rfl
  · obtain ⟨p, dx, a, ks, rfl, hp, hS, rk, q⟩ := h
    refine ⟨_, (pss_cons (ps_expr (pe_callD D_checklist (hr.mono (by omega)) (by rfl) (pa_cons (pv 1) pa_nil)))
 (pss_cons (ps_fld (pv 0) (pe_callTy (T := "list") (r := rListK K) call_listK (by rfl) B.n_list (by decide +kernel) (pa_cons (pv 1) pa_nil)) rfl)
 (pss_one (ps_fld (pv 0) pe_int rfl)))), ?_⟩
    refine ⟨_, rfl, a, ks, rfl, hS, rk.two, fun H1 s1 => ?_⟩
    have hp1 := s1 _ _ hp
    refine ⟨_, rfl, a, _, rfl, .inl (s1.seq hS), fun d hd => ?_⟩
    have npd : p ≠ d := ne_of_none hp1 hd
    refine ⟨_, rfl, p, C, dx, [], rfl, by rw [upd_ne npd]; exact hp1, T.cl, T.nR, by show 0 < 1000; decide, _, rfl, p, C, dx, _, rfl, upd_same, T.cl, T.nQ, by show 1 < 1000; decide, ?_⟩
    refine q d _ (s1.free hd) ⟨⟨dx, by rw [upd_same, hfs_new]⟩, by rw [upd_ne npd.symm, upd_ne npd.symm, upd_same]⟩ fun b o e nb => ?_
    rw [upd_ne nb, upd_ne nb]
    exact same_new hd _ _ (s1 _ _ e)
def spHidQ (C : Addr) : Sp := fun vs H Q _ => ∃ (p d : Addr) (ks : List Int) (n : Int), vs = [.ref p] ∧ HidAt C H p d ks n ∧ Q (.int n) H
theorem ok_hidq {f C : Addr} {fd : FuncData} (F : Fun K "questions" "HiddenList.questions" s_HiddenListquestions f fd) (T : Hc K C) : FnOk P w K mg base CX0 1 f fd ["self"] (spHidQ C) := by
  refine F.ok sc_HiddenListquestions (fun vs H Q E h => ?_) (fun cdv A outer s H vs Q E hr h => ?_)
  · obtain ⟨p, d, ks, n, rfl, _⟩ := h
    rfl
  · obtain ⟨p, d, ks, n, rfl, S, q⟩ := h
    refine ⟨_, (pss_one (ps_ret (pe_fld (pv 0) rfl))), ?_⟩
    obtain ⟨dx, e⟩ := S.ob
    exact ⟨_, rfl, p, C, dx, _, _, rfl, e, T.cl, T.nQ, hfs_Q _ _, q⟩
def spHidAsk (C : Addr) : Sp := fun vs H Q _ => ∃ (p d : Addr) (ks : List Int) (c n : Int), vs = [.ref p, .int n] ∧ HidAt C H p d ks c ∧ 0 ≤ n ∧ Rpl ks ∧ ∀ H', HidAt C H' p d ks (c + 1) → But H H' p → Q (.int (sq n ks)) H'
theorem ok_hidask {f C : Addr} {fd : FuncData} (F : Fun K "ask" "HiddenList.ask" s_HiddenListask f fd) (T : Hc K C) (D_squeezed : Df P w K mg base 3 "squeezed" ["length", "replacements"] (spSqueezed K)) : FnOk P w K mg base CX0 4 f fd ["self", "length"] (spHidAsk C) := by
  refine F.ok sc_HiddenListask (fun vs H Q E h => ?_) (fun cdv A outer s H vs Q E hr h => ?_)
  · obtain ⟨p, d, ks, c, n, rfl, _⟩ := h
    rfl
  · obtain ⟨p, d, ks, c, n, rfl, S, h0, rk, q⟩ := h
    refine ⟨_, (pss_cons (ps_set (i := 2) sc_HiddenListask.nd rfl (Or.inl rfl) (pe_callD D_squeezed (hr.mono (by omega)) (by rfl) (pa_cons (pv 1) (pa_cons (pe_fld (pv 0) rfl) pa_nil))))
 (pss_cons (ps_fldaug (pv 0) pe_int in_add)
 (pss_one (ps_ret (pv 2))))), ?_⟩
    obtain ⟨dx, e⟩ := S.ob
    refine ⟨_, rfl, _, rfl, p, C, dx, _, _, rfl, e, T.cl, T.nR, hfs_R _ _, n, d, ks, rfl, SqL.of S.rp, h0, rk, fun H1 s1 => ?_⟩
    have e1 := s1 _ _ e
    have npd := S.ne
    refine ⟨_, rfl, p, C, dx, _, .int c, rfl, e1, T.cl, T.nQ, hfs_Q _ _, _, _, rfl, rfl, dx, _, e1, by show 2 < 1000; decide, ?_⟩
    refine ⟨_, rfl, q _ ⟨⟨dx, by rw [upd_same, hfs_put]⟩, by rw [upd_ne npd.symm]; exact s1 _ _ S.rp⟩ fun b o eb nb => ?_⟩
    rw [upd_ne nb]
    exact s1 _ _ eb
end

section
variable {P : Program} {w : World} {K : PySem.W.Frag} {mg : Str → Option Value} {base : Heap}
def spLawAfter (K : PySem.W.Frag) : Sp := fun vs H Q _ => ∃ (n : Int) (a : Addr) (ks : List Int), vs = [.int n, .ref a] ∧ SqL K H a (ks.map V.int) ∧ Rpl ks ∧ Q (.int (sq n ks)) H
theorem ok_lawafter {f : Addr} {fd : FuncData} (F : Fun K "_law_after" "_law_after" s_lawafter f fd) : FnOk P w K mg base CX0 1 f fd ["long", "numbers"] (spLawAfter K) := by
  refine F.ok sc_lawafter (fun vs H Q E h => ?_) (fun cdv A outer s H vs Q E hr h => ?_)
  · obtain ⟨n, a, ks, rfl, _⟩ := h
    rfl
  · obtain ⟨n, a, ks, rfl, hS, hk, q⟩ := h
    refine ⟨_, (pss_cons (ps_for PassesOwn.never rfl (pi_list (pv 1)) (pg_name (i := 2) sc_lawafter.nd rfl (Or.inl rfl))
 (pss_one (ps_set (i := 0) sc_lawafter.nd rfl (Or.inl rfl) (pe_op op_add (pe_op op_fdiv (pv 0) (pv 2)) (pe_op op_mod (pv 0) (pv 2))))))
 (pss_one (ps_ret (pv 0)))), ?_⟩
    refine ⟨_, rfl, a, rfl, ⟨_, hS⟩, for_list (K := K) (a := a) (xs := ks.map V.int) (fun i σ H' => H' = H ∧ ∃ y, σ = [some (.int (sq n (ks.take i))), some (.ref a), y]) ⟨rfl, none, rfl⟩ (fun i σ H' _ h => by rw [h.1]; exact hS) ?_ ?_⟩
    · rintro i x σ H' hi ⟨rfl, y, rfl⟩
      obtain ⟨k, e, rfl⟩ := map_at hi
      have hm := hk k (List.mem_of_getElem? e)
      refine ⟨_, rfl, _, rfl, _, k, rfl, rfl, ⟨by omega, hm.2⟩, _, rfl, _, rfl, _, k, rfl, rfl, (show 0 < k by omega), _, _, rfl, rfl, rfl, some (.int k), ?_⟩
      rw [List.take_add_one, e]
      show _ = [some (V.int (sq n (ks.take i ++ [k]))), _, _]
      rw [sq_app']
      rfl
    · rintro σ H' ⟨rfl, y, rfl⟩
      rw [List.length_map, List.take_length]
      exact ⟨_, rfl, q⟩
end
theorem HidAt.keep {C p d l : Addr} {H H' : Hp} {ks : List Int} {n : Int} (h : HidAt C H p d ks n) (k : Keep1 H H' l) (hp : p ≠ l) (hd : d ≠ l) : HidAt C H' p d ks n :=
  let ⟨dx, e⟩ := h.ob
  ⟨⟨dx, k _ _ e hp⟩, k _ _ h.rp hd⟩
theorem Rng.but {H H' : Hp} {l p : Addr} {seed cnt : Int} (S : Rng H l seed cnt) (b : But H H' p) (h : l ≠ p) : Rng H' l seed cnt :=
  let ⟨dg, e⟩ := S.ob
  ⟨⟨dg, b _ _ e h⟩, S.s0, S.s1, S.c0⟩
theorem Rng.nop {C H l p d seed cnt} {ks : List Int} {n : Int} (S : Rng H l seed cnt) (h : HidAt C H p d ks n) : l ≠ p := fun z => by
  obtain ⟨dg, e⟩ := S.ob
  obtain ⟨dx, e2⟩ := h.ob
  rw [z, e2] at e
  cases e

section
variable {P : Program} {w : World} {K : PySem.W.Frag} {mg : Str → Option Value} {base : Heap}
def spGreatC (K : PySem.W.Frag) : Sp := fun vs H Q _ => ∃ (n : Int) (a : Addr) (ks : List Int), vs = [.int n, .ref a] ∧ SqL K H a (ks.map V.int) ∧ 0 ≤ n ∧ Rpl ks ∧ ∀ H', Same H H' → Q (.int (n * pro ks)) H'
theorem ok_greatc {f : Addr} {fd : FuncData} (F : Fun K "greatest_origin" "greatest_origin" s_greatestorigin f fd) (D_checklist : Df P w K mg base 1 "check_list" ["replacements"] (spCheckList K)) (D_checknumber : Df P w K mg base 1 "check_number" ["number", "least"] spCheckNumber) : FnOk P w K mg base CX0 2 f fd ["length", "replacements"] (spGreatC K) := by
  refine F.ok sc_greatestorigin (fun vs H Q E h => ?_) (fun cdv A outer s H vs Q E hr h => ?_)
  · obtain ⟨n, a, ks, rfl, _⟩ := h
    rfl
  · obtain ⟨n, a, ks, rfl, hS, h0, rk, q⟩ := h
    refine ⟨_, (pss_cons (ps_expr (pe_callD D_checknumber (hr.mono (by omega)) (by rfl) (pa_cons (pv 0) (pa_cons pe_int pa_nil))))
 (pss_cons (ps_expr (pe_callD D_checklist (hr.mono (by omega)) (by rfl) (pa_cons (pv 1) pa_nil)))
 (pss_cons (ps_set (i := 2) sc_greatestorigin.nd rfl (Or.inl rfl) (pv 0))
 (pss_cons (ps_for PassesOwn.never rfl (pi_list (pv 1)) (pg_name (i := 3) sc_greatestorigin.nd rfl (Or.inl rfl))
 (pss_one (ps_set (i := 2) sc_greatestorigin.nd rfl (Or.inl rfl) (pe_op op_mul (pv 2) (pv 3)))))
 (pss_one (ps_ret (pv 2))))))), ?_⟩
    refine ⟨_, rfl, n, 0, rfl, h0, ?_⟩
    refine ⟨_, rfl, a, ks, rfl, hS, rk.two, fun H1 s1 => ?_⟩
    refine ⟨_, rfl, _, rfl, a, rfl, ⟨_, s1.seq hS⟩, for_list (K := K) (a := a) (xs := ks.map V.int) (fun i σ H' => H' = H1 ∧ ∃ y, σ = [some (.int n), some (.ref a), some (.int (n * pro (ks.take i))), y]) ⟨rfl, none, by rw [List.take_zero]; show _ = [_, _, some (V.int (n * 1)), _]; rw [Int.mul_one]; rfl⟩ (fun i σ H' _ h => by rw [h.1]; exact s1.seq hS) ?_ ?_⟩
    · rintro i x σ H' hi ⟨rfl, y, rfl⟩
      obtain ⟨k, e, rfl⟩ := map_at hi
      have hm := rk k (List.mem_of_getElem? e)
      refine ⟨_, rfl, _, rfl, _, k, rfl, rfl, .inr ⟨by omega, by omega⟩, rfl, some (.int k), ?_⟩
      rw [List.take_add_one, e]
      show _ = [_, _, some (V.int (n * pro (ks.take i ++ [k]))), _]
      rw [pro_app, ← Int.mul_assoc, show pro [k] = k from Int.one_mul k]
      rfl
    · rintro σ H' ⟨rfl, y, rfl⟩
      rw [List.length_map, List.take_length]
      exact ⟨_, rfl, q _ s1⟩
end

section
variable {P : Program} {w : World} {K : PySem.W.Frag} {mg : Str → Option Value} {base : Heap} {c fI : Nat → Addr} {qn : Nat → Str} {cB : Addr}
/-! ### the checks that raise -/
def spCheckNumberX (c : Nat → Addr) : Sp := fun vs H Q E => ∃ (n l : Int), vs = [.int n, .int l] ∧ (l ≤ n → Q .non H) ∧ (n < l → Wish E (c 1) (.int n) H)
theorem ok_xchecknumber {f : Addr} {fd : FuncData} (F : Fun K "check_number" "check_number" s_checknumber f fd) (Z : Errs P K mg c fI qn cB) : FnOk P w K mg base (L2.CX P w) 1 f fd ["number", "least"] (spCheckNumberX c) := by
  refine F.okX sc_checknumber (fun vs H Q E h => ?_) (fun cdv A outer s H vs Q E hr h => ?_)
  · obtain ⟨n, l, rfl, _⟩ := h
    rfl
  · obtain ⟨n, l, rfl, q, e⟩ := h
    refine ⟨_, (pss_one (ps_if (pt_cmpR op_lt (pv 0) (pv 1) (nomark _))
 (pss_one (ps_raise rfl takesX (pmk_er (Z.er 1 (by decide)).2 Z.g1 hr (by rfl) (pv 0))))
 pss_nil)), ?_⟩
    refine ⟨_, rfl, _, rfl, _, _, rfl, rfl, _, rfl, ite2 (fun c => ?_) (fun c => ?_)⟩
    · exact ⟨_, rfl, e (of_decide_eq_true c)⟩
    · exact q (by have : ¬ n < l := fun z => c (decide_eq_true z); omega)
def spCheckListX (K : PySem.W.Frag) (c : Nat → Addr) : Sp := fun vs H Q E => ∃ (a : Addr) (ks : List Int), vs = [.ref a] ∧ SqL K H a (ks.map V.int) ∧ (lowAt ks = none → ∀ H', Same H H' → Q .non H') ∧ (∀ j : Nat, lowAt ks = some j → ∀ H', Same H H' → Wish E (c 0) (.int (j : Int)) H')
theorem ok_xchecklist {f : Addr} {fd : FuncData} (F : Fun K "check_list" "check_list" s_checklist f fd) (B : Bi mg) (Z : Errs P K mg c fI qn cB) : FnOk P w K mg base (L2.CX P w) 1 f fd ["replacements"] (spCheckListX K c) := by
  refine F.okX sc_checklist (fun vs H Q E h => ?_) (fun cdv A outer s H vs Q E hr h => ?_)
  · obtain ⟨a, ks, rfl, _⟩ := h
    rfl
  · obtain ⟨a, ks, rfl, hS, q, e⟩ := h
    refine ⟨_, (pss_one (ps_for ownsX rfl (pi_enum (by rfl) B.n_enumerate (pa_cons (pv 0) pa_nil)) (pg_tup rfl (pgs_cons (pg_name (i := 1) sc_checklist.nd rfl (Or.inl rfl)) (pgs_cons (pg_name (i := 2) sc_checklist.nd rfl (Or.inl rfl)) pgs_nil)))
 (pss_one (ps_if (pt_cmpR op_lt (pv 2) pe_int (nomark _))
 (pss_one (ps_raise rfl takesX (pmk_er (Z.er 0 (by decide)).2 Z.g0 hr (by rfl) (pv 1))))
 pss_nil)))), ?_⟩
    refine ⟨_, rfl, a, _, rfl, hS, for_it walk_enum (fun i σ H' => Same H H' ∧ (∀ k ∈ ks.take i, 2 ≤ k) ∧ ∃ y1 y2, σ = [some (.ref a), y1, y2]) ⟨Same.refl H, (fun k z => by simp at z), none, none, rfl⟩ (fun i σ H' _ h => h.1.seq hS) ?_ ?_⟩
    · rintro i x σ H' H2 hi ⟨sm, up, y1, y2, rfl⟩ ⟨T, u, v, rfl, hT, rfl, e1, e2⟩
      cases e1
      obtain ⟨k, hk, rfl⟩ := map_at e2
      have sm2 := sm.trans (same_new (o := .tup [.int (i : Int), .int k]) hT)
      obtain ⟨la, lb⟩ := lowAt_take ks i up
      refine ⟨T, _, rfl, .inl (.inl upd_same), rfl, _, _, rfl, _, _, rfl, rfl, ?_⟩
      refine ⟨_, rfl, _, 2, rfl, rfl, _, rfl, ite2 (fun c => ?_) (fun c => ?_)⟩
      · exact ⟨_, rfl, e i (la k hk (of_decide_eq_true c)) _ sm2⟩
      · refine ⟨sm2, fun x hx => ?_, _, _, rfl⟩
        rw [List.take_add_one, hk] at hx
        rcases List.mem_append.mp hx with z | z
        · exact up x z
        · have := List.mem_singleton.mp z
          have : ¬ k < 2 := fun z => c (decide_eq_true z)
          omega
    · rintro σ H' ⟨sm, up, y1, y2, rfl⟩
      exact q ((lowAt_take ks ks.length (by rw [List.length_map] at up; exact up)).2 (Nat.le_refl _)) H' sm
end

section
variable {P : Program} {w : World} {K : PySem.W.Frag} {mg : Str → Option Value} {base : Heap} {c fI : Nat → Addr} {qn : Nat → Str} {cB : Addr}
def spSqueezedX (K : PySem.W.Frag) (c : Nat → Addr) : Sp := fun vs H Q E => ∃ (n : Int) (a : Addr) (ks : List Int), vs = [.int n, .ref a] ∧ SqL K H a (ks.map V.int) ∧ (0 ≤ n → lowAt ks = none → Rpl ks ∧ ∀ H', Same H H' → Q (.int (sq n ks)) H') ∧
  (n < 0 → Wish E (c 1) (.int n) H) ∧ (0 ≤ n → ∀ j : Nat, lowAt ks = some j → ∀ H', Same H H' → Wish E (c 0) (.int (j : Int)) H')
theorem ok_xsqueezed {f : Addr} {fd : FuncData} (F : Fun K "squeezed" "squeezed" s_squeezed f fd) (X_checknumber : Dx P w K mg base 1 "check_number" ["number", "least"] (spCheckNumberX c)) (X_checklist : Dx P w K mg base 1 "check_list" ["replacements"] (spCheckListX K c))
    (D_lengthafter : Df P w K mg base 2 "length_after" ["length", "replacements"] (spSqzS K)) : FnOk P w K mg base (L2.CX P w) 3 f fd ["length", "replacements"] (spSqueezedX K c) := by
  refine F.okX sc_squeezed (fun vs H Q E h => ?_) (fun cdv A outer s H vs Q E hr h => ?_)
  · obtain ⟨n, a, ks, rfl, _⟩ := h
    rfl
  · obtain ⟨n, a, ks, rfl, hS, q, e1, e2⟩ := h
    refine ⟨_, (pss_cons (ps_expr (pe_callX X_checknumber takesX (hr.mono (by omega)) (by rfl) (pa_cons (pv 0) (pa_cons pe_int pa_nil))))
 (pss_cons (ps_expr (pe_callX X_checklist takesX (hr.mono (by omega)) (by rfl) (pa_cons (pv 1) pa_nil)))
 (pss_one (ps_ret (pe_callD D_lengthafter (hr.mono (by omega)) (by rfl) (pa_cons (pv 0) (pa_cons (pv 1) pa_nil))))))), ?_⟩
    refine ⟨_, rfl, n, 0, rfl, fun h0 => ?_, e1⟩
    refine ⟨_, rfl, a, ks, rfl, hS, fun ok H1 s1 => ?_, e2 h0⟩
    obtain ⟨rk, q2⟩ := q h0 ok
    exact ⟨_, rfl, _, rfl, n, a, ks, rfl, s1.seq hS, rk, fun H2 s2 => q2 _ (s1.trans s2)⟩
end

section
variable {P : Program} {w : World} {K : PySem.W.Frag} {mg : Str → Option Value} {base : Heap} {c fI : Nat → Addr} {qn : Nat → Str} {cB : Addr}
def spHidInitX (K : PySem.W.Frag) (C : Addr) (c : Nat → Addr) : Sp := fun vs H Q E => ∃ (p dx a : Addr) (ks : List Int), vs = [.ref p, .ref a] ∧ H p = some (.ins C dx []) ∧ SqL K H a (ks.map V.int) ∧ (lowAt ks = none → ∀ d H', H d = none → HidAt C H' p d ks 0 → But H H' p → Q .non H') ∧
  (∀ j : Nat, lowAt ks = some j → ∀ H', Same H H' → Wish E (c 0) (.int (j : Int)) H')
theorem ok_xhidinit {f C : Addr} {fd : FuncData} (F : Fun K "__init__" "HiddenList.__init__" s_HiddenListinit f fd) (B : Bi mg) (T : Hc K C) (X_checklist : Dx P w K mg base 1 "check_list" ["replacements"] (spCheckListX K c)) : FnOk P w K mg base (L2.CX P w) 2 f fd ["self", "replacements"] (spHidInitX K C c) := by
  refine F.okX sc_HiddenListinit (fun vs H Q E h => ?_) (fun cdv A outer s H vs Q E hr h => ?_)
  · obtain ⟨p, dx, a, ks, rfl, _⟩ := h
    rfl
  · obtain ⟨p, dx, a, ks, rfl, hp, hS, q, e⟩ := h
    refine ⟨_, (pss_cons (ps_expr (pe_callX X_checklist takesX (hr.mono (by omega)) (by rfl) (pa_cons (pv 1) pa_nil)))
 (pss_cons (ps_fld (pv 0) (pe_callTy (T := "list") (r := rListK K) call_listK (by rfl) B.n_list (by decide +kernel) (pa_cons (pv 1) pa_nil)) rfl)
 (pss_one (ps_fld (pv 0) pe_int rfl)))), ?_⟩
    refine ⟨_, rfl, a, ks, rfl, hS, fun low H1 s1 => ?_, e⟩
    have hp1 := s1 _ _ hp
    refine ⟨_, rfl, a, _, rfl, .inl (s1.seq hS), fun d hd => ?_⟩
    have npd : p ≠ d := ne_of_none hp1 hd
    refine ⟨_, rfl, p, C, dx, [], rfl, by rw [upd_ne npd]; exact hp1, T.cl, T.nR, by show 0 < 1000; decide, _, rfl, p, C, dx, _, rfl, upd_same, T.cl, T.nQ, by show 1 < 1000; decide, ?_⟩
    refine q low d _ (s1.free hd) ⟨⟨dx, by rw [upd_same, hfs_new]⟩, by rw [upd_ne npd.symm, upd_ne npd.symm, upd_same]⟩ fun b o e nb => ?_
    rw [upd_ne nb, upd_ne nb]
    exact same_new hd _ _ (s1 _ _ e)
def spHidAskX (C : Addr) (c : Nat → Addr) : Sp := fun vs H Q E => ∃ (p d : Addr) (ks : List Int) (cn n : Int), vs = [.ref p, .int n] ∧ HidAt C H p d ks cn ∧ Rpl ks ∧ (0 ≤ n → ∀ H', HidAt C H' p d ks (cn + 1) → But H H' p → Q (.int (sq n ks)) H') ∧
  (n < 0 → Wish E (c 1) (.int n) H)
theorem ok_xhidask {f C : Addr} {fd : FuncData} (F : Fun K "ask" "HiddenList.ask" s_HiddenListask f fd) (T : Hc K C) (X_squeezed : Dx P w K mg base 3 "squeezed" ["length", "replacements"] (spSqueezedX K c)) : FnOk P w K mg base (L2.CX P w) 4 f fd ["self", "length"] (spHidAskX C c) := by
  refine F.okX sc_HiddenListask (fun vs H Q E h => ?_) (fun cdv A outer s H vs Q E hr h => ?_)
  · obtain ⟨p, d, ks, cn, n, rfl, _⟩ := h
    rfl
  · obtain ⟨p, d, ks, cn, n, rfl, S, rk, q, e1⟩ := h
    refine ⟨_, (pss_cons (ps_set (i := 2) sc_HiddenListask.nd rfl (Or.inl rfl) (pe_callX X_squeezed takesX (hr.mono (by omega)) (by rfl) (pa_cons (pv 1) (pa_cons (pe_fld (pv 0) rfl) pa_nil))))
 (pss_cons (ps_fldaug (pv 0) pe_int in_add)
 (pss_one (ps_ret (pv 2))))), ?_⟩
    obtain ⟨dx, e⟩ := S.ob
    refine ⟨_, rfl, _, rfl, p, C, dx, _, _, rfl, e, T.cl, T.nR, hfs_R _ _, n, d, ks, rfl, SqL.of S.rp, fun h0 _ => ⟨rk, fun H1 s1 => ?_⟩, e1, fun _ j hj => by rw [rk.low] at hj; cases hj⟩
    have e1 := s1 _ _ e
    have npd := S.ne
    refine ⟨_, rfl, p, C, dx, _, .int cn, rfl, e1, T.cl, T.nQ, hfs_Q _ _, _, _, rfl, rfl, dx, _, e1, by show 2 < 1000; decide, ?_⟩
    refine ⟨_, rfl, q h0 _ ⟨⟨dx, by rw [upd_same, hfs_put]⟩, by rw [upd_ne npd.symm]; exact s1 _ _ S.rp⟩ fun b o eb nb => ?_⟩
    rw [upd_ne nb]
    exact s1 _ _ eb
end

end Sq

set_option Elab.async false
set_option linter.all false
set_option maxHeartbeats 1000000
/-! Small numbers as texts. -/
namespace Sq
open PySem PySem.Spec PyProof.Rows L2
theorem digN {i : Int} (a : 0 ≤ i) (b : i ≤ 200) : (Str.ofString (toString i)).length ≤ 40 := by
  have e := int_text_length_le10 (k := 31) (by decide) (show i.natAbs < 10 ^ 31 from Nat.lt_of_le_of_lt (m := 200) (by omega) (by decide))
  rw [PySem.ofString_length]
  omega
theorem catN (x y : Str) (n : Nat) (hx : x.length ≤ n) (hy : y.length ≤ 40) : (x ++ y).length ≤ n + 40 := by
  rw [strLen_append]
  omega
theorem fitN {x y : Str} (hx : x.length ≤ 400) (hy : y.length ≤ 400) : x.length + y.length ≤ sizeLine := by
  rw [sizeLine_eq]
  omega
theorem logN (i : Int) (a : 0 ≤ i) (b : i ≤ 200) : i.natAbs.log2 < 1920 := Nat.lt_trans (PySem.Flt.log2_lt_of (by decide) (show i.natAbs < 2 ^ 8 by omega)) (by decide)
theorem rep_one {α : Type} (x : α) : ∀ n : Nat, (List.replicate n [x]).flatten = List.replicate n x
  | 0 => rfl
  | n + 1 => by
    rw [List.replicate_succ, List.flatten_cons, rep_one x n, List.replicate_succ]
    rfl
end Sq

set_option Elab.async false
set_option linter.all false
set_option maxRecDepth 100000
set_option maxHeartbeats 4000000
set_option exponentiation.threshold 2000
namespace Sq
open PySem PySem.Spec PyProof.Rows L2
def nm5 (i : Nat) : Str := ["list", "number", "character", "undo", "read"].getD i "list"
def bs5 (i : Nat) : List Bool := [decide (i = 0), decide (i = 1), decide (i = 2), decide (i = 3), decide (i = 4)]
theorem bs5_one {i : Nat} (h : i < 5) : (bs5 i).count true = 1 := by
  have : i = 0 ∨ i = 1 ∨ i = 2 ∨ i = 3 ∨ i = 4 := by omega
  rcases this with rfl | rfl | rfl | rfl | rfl <;> decide
theorem bs5_at {i : Nat} (h : i < 5) : ((bs5 i).map V.bl)[i]? = some (.bl true) ∧ (∀ (m : Nat) (z : V), m < i → ((bs5 i).map V.bl)[m]? = some z → eqV z (.bl true) = false) ∧ ([V.str "list", V.str "number", V.str "character", V.str "undo", V.str "read"])[i]? = some (.str (nm5 i)) := by
  have : i = 0 ∨ i = 1 ∨ i = 2 ∨ i = 3 ∨ i = 4 := by omega
  rcases this with rfl | rfl | rfl | rfl | rfl <;> refine ⟨rfl, fun m z hm e => ?_, rfl⟩
  · exact absurd hm (Nat.not_lt_zero _)
  all_goals
    first
      | (have : m = 0 := by omega) <;> subst this <;> cases e <;> rfl
      | (have : m = 0 ∨ m = 1 := by omega) <;> rcases this with rfl | rfl <;> cases e <;> rfl
      | (have : m = 0 ∨ m = 1 ∨ m = 2 := by omega) <;> rcases this with rfl | rfl | rfl <;> cases e <;> rfl
      | (have : m = 0 ∨ m = 1 ∨ m = 2 ∨ m = 3 := by omega) <;> rcases this with rfl | rfl | rfl | rfl <;> cases e <;> rfl
section
variable {P : Program} {w : World} {K : PySem.W.Frag} {mg : Str → Option Value} {base : Heap} {c fI : Nat → Addr} {qn : Nat → Str} {cB : Addr}
def spKind (c : Nat → Addr) : Sp := fun vs H Q _ => ∃ (p d : Addr) (i : Nat) (v : V), vs = [.ref p] ∧ i < 5 ∧ CaughtAt H p d (c i) v ∧ ∀ H', Same H H' → Q (.str (nm5 i)) H'
theorem ok_lawkind {f : Addr} {fd : FuncData} (F : Fun K "_law_kind" "_law_kind" s_lawkind f fd) (B : Bi mg) (Z : Errs P K mg c fI qn cB) : FnOk P w K mg base CX0 1 f fd ["caught"] (spKind c) := by
  refine F.ok sc_lawkind (fun vs H Q E h => ?_) (fun cdv A outer s H vs Q E hr h => ?_)
  · obtain ⟨p, d, i, v, rfl, _⟩ := h
    rfl
  · obtain ⟨p, d, i, v, rfl, hi5, at_, q⟩ := h
    refine ⟨_, (pss_cons (ps_set (i := 1) sc_lawkind.nd rfl (Or.inl rfl) (pe_lst (pa_cons (pe_callB (id := "isinstance") call_isiQ (by rfl) B.n_isinstance (by decide +kernel) (pa_cons (pv 0) (pa_cons (pe_glob (v := .ref _) (by rfl) Z.g0 rfl) pa_nil))) (pa_cons (pe_callB (id := "isinstance") call_isiQ (by rfl) B.n_isinstance (by decide +kernel) (pa_cons (pv 0) (pa_cons (pe_glob (v := .ref _) (by rfl) Z.g1 rfl) pa_nil))) (pa_cons (pe_callB (id := "isinstance") call_isiQ (by rfl) B.n_isinstance (by decide +kernel) (pa_cons (pv 0) (pa_cons (pe_glob (v := .ref _) (by rfl) Z.g2 rfl) pa_nil))) pa_nil)))))
 (pss_cons (ps_set (i := 1) sc_lawkind.nd rfl (Or.inl rfl) (pe_op op_cat (pv 1) (pe_lst (pa_cons (pe_callB (id := "isinstance") call_isiQ (by rfl) B.n_isinstance (by decide +kernel) (pa_cons (pv 0) (pa_cons (pe_glob (v := .ref _) (by rfl) Z.g3 rfl) pa_nil))) (pa_cons (pe_callB (id := "isinstance") call_isiQ (by rfl) B.n_isinstance (by decide +kernel) (pa_cons (pv 0) (pa_cons (pe_glob (v := .ref _) (by rfl) Z.g4 rfl) pa_nil))) pa_nil)))))
 (pss_cons (ps_if (PW.pt (pw_or (pt_not (pt_val (pe_callB (id := "isinstance") call_isiQ (by rfl) B.n_isinstance (by decide +kernel) (pa_cons (pv 0) (pa_cons (pe_glob (v := .ref _) (by rfl) Z.g5 rfl) pa_nil))))) (pw_or (pt_not (pt_val (pe_callB (id := "isinstance") call_isiQ (by rfl) B.n_isinstance (by decide +kernel) (pa_cons (pv 0) (pa_cons (pe_bltn (v := .ty "ValueError") (by rfl) B.n_ValueError (by decide +kernel) rfl) pa_nil))))) (pw_or1 (pt_cmpR op_ne (pe_bm PySem.F.plainAttrs_list PySem.F.slot_list_count PySem.F.type_list_count mt_countB (pv 1) (pa_cons pe_bl pa_nil)) pe_int (nomark _))))))
 (pss_one (ps_ret pe_str))
 pss_nil)
 (pss_one (ps_ret (pe_ix (r := rIxL K) ix_list (pe_lst (pa_cons pe_str (pa_cons pe_str (pa_cons pe_str (pa_cons pe_str (pa_cons pe_str pa_nil)))))) (pe_bm PySem.F.plainAttrs_list PySem.F.slot_list_index PySem.F.type_list_index mt_index (pv 1) (pa_cons pe_bl pa_nil)) (fun _ _ => rfl))))))), ?_⟩
    have lim : sizeLine = 16777216 := sizeLine_eq
    have w2 : 2 ≤ sizeLine := by omega
    have w3 : 3 ≤ sizeLine := by omega
    have w5 : 5 ≤ sizeLine := by omega
    have T := Z.ex i hi5
    refine ⟨_, rfl, p, d, c i, v, _, _, _, rfl, .own _, at_, T, Z.is i 0 hi5 (by decide), ?_⟩
    refine ⟨_, rfl, p, d, c i, v, _, _, _, rfl, .own _, at_, T, Z.is i 1 hi5 (by decide), ?_⟩
    refine ⟨_, rfl, p, d, c i, v, _, _, _, rfl, .own _, at_, T, Z.is i 2 hi5 (by decide), w3, fun r hr0 => ?_⟩
    have at2 := at_.same (same_new (o := .lst [.bl (decide (i = 0)), .bl (decide (i = 1)), .bl (decide (i = 2))]) hr0)
    refine ⟨_, rfl, ?_⟩
    refine ⟨_, rfl, p, d, c i, v, _, _, _, rfl, .own _, at2, T, Z.is i 3 hi5 (by decide), ?_⟩
    refine ⟨_, rfl, p, d, c i, v, _, _, _, rfl, .own _, at2, T, Z.is i 4 hi5 (by decide), w2, fun r2 hr2 => ?_⟩
    have at3 := at2.same (same_new (o := .lst [.bl (decide (i = 3)), .bl (decide (i = 4))]) hr2)
    refine ⟨r, r2, _, _, rfl, rfl, same_new hr2 _ _ upd_same, upd_same, w5, fun r3 hr3 => ?_⟩
    have at4 := at3.same (same_new (o := .lst ([.bl (decide (i = 0)), .bl (decide (i = 1)), .bl (decide (i = 2))] ++ [.bl (decide (i = 3)), .bl (decide (i = 4))])) hr3)
    have s4 := ((same_new (o := .lst [.bl (decide (i = 0)), .bl (decide (i = 1)), .bl (decide (i = 2))]) hr0).trans (same_new (o := .lst [.bl (decide (i = 3)), .bl (decide (i = 4))]) hr2)).trans (same_new (o := .lst ([.bl (decide (i = 0)), .bl (decide (i = 1)), .bl (decide (i = 2))] ++ [.bl (decide (i = 3)), .bl (decide (i = 4))])) hr3)
    have g4 : (upd (upd (upd H r (.lst [.bl (decide (i = 0)), .bl (decide (i = 1)), .bl (decide (i = 2))])) r2 (.lst [.bl (decide (i = 3)), .bl (decide (i = 4))])) r3 (.lst ([.bl (decide (i = 0)), .bl (decide (i = 1)), .bl (decide (i = 2))] ++ [.bl (decide (i = 3)), .bl (decide (i = 4))]))) r3 = some (.lst ((bs5 i).map V.bl)) := upd_same
    generalize (upd (upd (upd H r (.lst [.bl (decide (i = 0)), .bl (decide (i = 1)), .bl (decide (i = 2))])) r2 (.lst [.bl (decide (i = 3)), .bl (decide (i = 4))])) r3 (.lst ([.bl (decide (i = 0)), .bl (decide (i = 1)), .bl (decide (i = 2))] ++ [.bl (decide (i = 3)), .bl (decide (i = 4))]))) = H4 at at4 s4 g4 ⊢
    refine ⟨_, rfl, p, d, c i, v, _, _, _, rfl, .own _, at4, T, Z.isB i hi5, _, rfl, iteF ?_⟩
    refine ⟨_, rfl, p, d, c i, v, _, _, _, rfl, .ty _, at4, T, Z.isV i hi5, _, rfl, iteF ?_⟩
    refine ⟨_, rfl, .inl ⟨rfl, _, SqL.of g4⟩, r3, bs5 i, true, rfl, rfl, SqL.of g4, rfl, _, rfl, ?_⟩
    refine iteNS (by rw [bs5_one hi5]; rfl) ?_
    obtain ⟨j1, j2, j3⟩ := bs5_at hi5
    refine ⟨w5, fun t ht => ?_⟩
    refine ⟨_, rfl, .inl ⟨rfl, _, SqL.of (same_new ht _ _ g4)⟩, r3, _, .bl true, i, .bl true, rfl, rfl, SqL.of (same_new ht _ _ g4), rfl, rfl, j1, rfl, j2, ?_⟩
    exact ⟨t, _, (i : Int), .str (nm5 i), rfl, rfl, SqL.of upd_same, at_of rfl j3, q _ (s4.trans (same_new ht))⟩
end
end Sq

set_option Elab.async false
set_option linter.all false
set_option maxRecDepth 100000
set_option maxHeartbeats 4000000
set_option exponentiation.threshold 2000
namespace Sq
open PySem PySem.Spec PyProof.Rows L2
theorem low_of {ks : List Int} (h : ∃ k ∈ ks, k < 2) : ∃ j, lowAt ks = some j := by
  cases e : lowAt ks with
  | some j => exact ⟨j, rfl⟩
  | none =>
    obtain ⟨k, hk, h2⟩ := h
    have := lowAt_none e k hk
    omega
section
variable {P : Program} {w : World} {K : PySem.W.Frag} {mg : Str → Option Value} {base : Heap}
def spBadList (K : PySem.W.Frag) : Sp := fun vs H Q _ => ∃ (l a : Addr) (seed cnt : Int) (ks : List Int), vs = [.ref l, .ref a] ∧ Rng H l seed cnt ∧ cnt < 500000 ∧ SqL K H a (ks.map V.int) ∧ ks.length ≤ 20 ∧
  ∀ t p bs (j : Nat) cnt' H', H' t = some (.lst [.ref p, .int (j : Int)]) → H' p = some (.lst (List.map V.int bs)) → H t = none → H p = none → Rng H' l seed cnt' → cnt' ≤ cnt + 10 → Keep1 H H' l → bs.length ≤ 22 → lowAt bs = some j → Q (.ref t) H'
theorem ok_lawbadlist {f : Addr} {fd : FuncData} (F : Fun K "_law_bad_list" "_law_bad_list" s_lawbadlist f fd) (B : Bi mg) (D_lawdraw : Df P w K mg base 1 "_law_draw" ["pool", "many"] spDraw) : FnOk P w K mg base CX0 2 f fd ["pool", "numbers"] (spBadList K) := by
  refine F.ok sc_lawbadlist (fun vs H Q E h => ?_) (fun cdv A outer s H vs Q E hr h => ?_)
  · obtain ⟨l, a, seed, cnt, ks, rfl, _⟩ := h
    rfl
  · obtain ⟨l, a, seed, cnt, ks0, rfl, S, hc, hS, hlen, q⟩ := h
    refine ⟨_, (pss_cons (ps_set (i := 2) sc_lawbadlist.nd rfl (Or.inl rfl) (pe_callTy (T := "list") (r := rListK K) call_listK (by rfl) B.n_list (by decide +kernel) (pa_cons (pv 1) pa_nil)))
 (pss_cons (ps_for PassesOwn.never rfl (pi_range1 (by rfl) B.n_range (pa_cons (pe_op op_add pe_int (pe_callD D_lawdraw (hr.mono (by omega)) (by rfl) (pa_cons (pv 0) (pa_cons pe_int pa_nil)))) pa_nil)) (pg_name (i := 3) sc_lawbadlist.nd rfl (Or.inl rfl))
 (pss_cons (ps_set (i := 4) sc_lawbadlist.nd rfl (Or.inl rfl) (pe_ix (r := rIxL K) ix_list (pe_lst (pa_cons pe_int (pa_cons pe_int (pa_cons (pe_un un_neg pe_int) (pa_cons (pe_op op_sub (pe_un un_neg pe_int) (pe_callD D_lawdraw (hr.mono (by omega)) (by rfl) (pa_cons (pv 0) (pa_cons (pe_op op_pow pe_int pe_int) pa_nil)))) pa_nil))))) (pe_callD D_lawdraw (hr.mono (by omega)) (by rfl) (pa_cons (pv 0) (pa_cons pe_int pa_nil))) (fun _ _ => rfl)))
 (pss_one (ps_expr (pe_bm PySem.F.plainAttrs_list PySem.F.slot_list_insert PySem.F.type_list_insert mt_insert (pv 2) (pa_cons (pe_callD D_lawdraw (hr.mono (by omega)) (by rfl) (pa_cons (pv 0) (pa_cons (pe_op op_add (pe_callB (id := "len") (r := rLenK K) call_lenK (by rfl) B.n_len (by decide +kernel) (pa_cons (pv 2) pa_nil)) pe_int) pa_nil))) (pa_cons (pv 4) pa_nil)))))))
 (pss_one (ps_ret (pe_lst (pa_cons (pv 2) (pa_cons (pe_ix (r := rIxL K) ix_list (pe_lc (own := [("at", 5), ("one", 4)]) (g := gTup K 2 (gCons (gName 5) (gCons (gName 4) gNil))) rfl sc_lawbadlist.nd (pi_enum (by rfl) B.n_enumerate (pa_cons (pv 2) pa_nil)) (blkOk_by (own := [("at", 5), ("one", 4)]) (N := ["pool", "numbers", "found", "turn", "one", "at"]) (sc := defScope s_lawbadlist) (by decide +kernel)) (fun _ _ _ _ _ => (pg_tup rfl (pgs_cons (pg_name (i := 5) sc_lawbadlist.nd rfl (Or.inl rfl)) (pgs_cons (pg_name (i := 4) sc_lawbadlist.nd rfl (Or.inl rfl)) pgs_nil)))) (fun _ _ _ _ _ => pts_one (pt_cmpR op_lt (pv 4) pe_int (nomark _))) (fun _ _ _ _ _ => (pv 5))) pe_int (fun _ _ => rfl)) pa_nil))))))), ?_⟩
    have lim : sizeLine = 16777216 := sizeLine_eq
    refine ⟨_, rfl, a, _, rfl, .inl hS, fun p hp => ?_⟩
    have npl := S.ne hp
    have S1 : Rng (upd H p (.lst (ks0.map V.int))) l seed cnt := S.same (same_new hp)
    refine ⟨_, rfl, l, seed, cnt, 2, rfl, S1, by omega, by decide, by decide, fun z cnt4 H4 z0 z1' S4 hc4 k4 => ⟨1, z, rfl, rfl, ?_⟩⟩
    have gp4 := k4 _ _ upd_same npl
    have k04 : Keep1 H H4 l := (Keep1.of (same_new hp)).trans k4
    refine ⟨_, rfl, by omega, by omega, ?_⟩
    refine for_range (lo := 0) (n := (1 + z).toNat) (fun j σ H' => ∃ ks cnt' y3 y4 y5, σ = [some (.ref l), some (.ref a), some (.ref p), y3, y4, y5] ∧ Rng H' l seed cnt' ∧ cnt' ≤ cnt + 1 + 3 * j ∧ (∀ b o, H b = some o → b ≠ l → H' b = some o) ∧ H' p = some (.lst (List.map V.int ks)) ∧ ks.length ≤ ks0.length + j ∧ (1 ≤ j → ∃ k ∈ ks, k < 2))
      ⟨ks0, cnt4, none, none, none, rfl, S4, by omega, k04, gp4, by omega, fun z => absurd z (by decide)⟩ ?_ ?_
    · rintro j σ H5 hj ⟨ks, cnt5, y3, y4, y5, rfl, S5, hc5, k5, gp5, lk, hk⟩
      have j2 : j < 2 := by omega
      clear hk
      refine ⟨1, rfl, 1, rfl, _, rfl, 10, 29, rfl, rfl, ⟨by decide, by decide, by decide⟩, l, seed, cnt5, _, rfl, S5, by omega, by decide, by decide, fun zb cnt7 H7 zb0 zb1 S7 hc7 k7 => ⟨-1, zb, rfl, rfl, Nat.le_of_lt (small1000 (show 4 ≤ 1000 by decide)), fun t8 ht8 => ?_⟩⟩
      refine ⟨_, rfl, l, seed, cnt7, 4, rfl, S7.same (same_new ht8), by omega, by decide, by decide, fun zc cnt8 H8 zc0 zc1 S8 hc8 k8 => ?_⟩
      obtain ⟨y, ym, ya⟩ := nth_of (xs := [1, 0, -1, -1 - zb]) (z := zc) zc0 zc1
      have yb : y < 2 := by
        simp only [List.mem_cons, List.not_mem_nil, or_false] at ym
        omega
      have gp8 := k8 _ _ (same_new ht8 _ _ (k7 _ _ gp5 npl)) npl
      refine ⟨t8, _, zc, .int y, rfl, rfl, SqL.of (k8 _ _ upd_same (S7.ne ht8)), ya, ?_⟩
      refine ⟨_, rfl, .inl ⟨rfl, _, SqL.of gp8⟩, _, rfl, _, rfl, p, _, rfl, .inl (SqL.of gp8), _, 1, rfl, rfl, l, seed, cnt8, _, rfl, S8, by omega, by rw [List.length_map]; omega, lim10 (by rw [List.length_map]; omega), fun za cnt6 H6 za0 za1 S6 hc6 k6 => ?_⟩
      have gp6 := k6 _ _ gp8 npl
      refine ⟨_, rfl, p, _, za, .int y, rfl, rfl, gp6, (by rw [List.length_map]; omega), za0, (by rw [List.length_map] at za1; omega), ?_⟩
      refine ⟨ks.take za.toNat ++ [y] ++ ks.drop za.toNat, cnt6, _, _, _, rfl, S6.upd npl, by omega, fun b o e nb => ?_, ?_, ?_, fun _ => ⟨y, by simp, yb⟩⟩
      · rw [upd_ne (ne_of_none e hp)]
        exact k6 _ _ (k8 _ _ (same_new ht8 _ _ (k7 _ _ (k5 _ _ e nb) nb)) nb) nb
      · rw [upd_same, List.map_append, List.map_append, List.map_take, List.map_drop]
        rfl
      · rw [List.length_append, List.length_append, List.length_take, List.length_drop]
        show min za.toNat ks.length + 1 + (ks.length - za.toNat) ≤ ks0.length + (j + 1)
        omega
    · rintro σ H5 ⟨ks, cnt5, y3, y4, y5, rfl, S5, hc5, k5, gp5, lk, hk⟩
      obtain ⟨j, hj⟩ := low_of (hk (by omega))
      obtain ⟨r, er⟩ := low_some hj
      refine ⟨_, rfl, _, rfl, p, _, rfl, SqL.of gp5, fun D hD => lc_it walk_enum (fun i H' => Same H5 H' ∧ H' D = some (.lst ((lowIx ks i).map V.int))) ⟨same_new hD, upd_same⟩ (fun i H' _ h => h.1.seq (SqL.of gp5)) ?_ ?_⟩
      · rintro m v H' H2 hm ⟨sm, hDD⟩ ⟨T, x1, x2, rfl, nT, rfl, e1, e2⟩
        obtain ⟨k, hk', rfl⟩ := map_at e2
        cases e1
        have nDT : D ≠ T := ne_of_none hDD nT
        refine ⟨T, _, rfl, .inl (.inl upd_same), rfl, _, _, rfl, _, _, rfl, rfl, rfl, ?_⟩
        have em : ks.getD m 2 = k := by rw [List.getD_eq_getElem?_getD, hk']; rfl
        refine ⟨_, rfl, _, _, rfl, rfl, _, rfl, ite2 (fun c => ?_) (fun c => ?_)⟩
        · have c' : k < 2 := of_decide_eq_true c
          refine ⟨_, rfl, _, same_new nT _ _ hDD, by rw [List.length_map]; exact small1000 (by have := lowIx_len ks m; rw [List.length_map] at hm; omega), fun b o z => ?_, ?_⟩
          · rw [upd_ne (ne_of_none z hD)]
            exact same_new nT _ _ (sm _ _ z)
          · rw [upd_same, lowIx_succ, if_pos (by rw [em]; exact c'), List.map_append]
            rfl
        · refine ⟨sm.trans (same_new nT), ?_⟩
          rw [lowIx_succ, if_neg (by rw [em]; exact fun z => c (decide_eq_true z))]
          exact same_new nT _ _ hDD
      · rintro Hc ⟨sc, hDD⟩
        rw [List.length_map, er] at hDD
        refine ⟨D, _, 0, .int (j : Int), rfl, rfl, SqL.of hDD, at_of (by rfl) rfl, Nat.le_of_lt (small1000 (show 2 ≤ 1000 by decide)), fun t ht => ?_⟩
        have s5 := sc.trans (same_new (o := .lst [.ref p, .int (j : Int)]) ht)
        have ht0 : H t = none := by
          cases e : H t with
          | none => rfl
          | some o =>
            have ntl : t ≠ l := by
              obtain ⟨dg, hl⟩ := S5.ob
              intro z
              rw [z] at ht
              rw [sc _ _ hl] at ht
              cases ht
            rw [sc _ _ (k5 _ _ e ntl)] at ht
            cases ht
        exact q t p ks j cnt5 _ upd_same (s5 _ _ gp5) ht0 hp (S5.same s5) (by omega) (fun b o e nb => s5 _ _ (k5 _ _ e nb)) (by omega) hj
end
end Sq

set_option Elab.async false
set_option linter.all false
set_option maxRecDepth 100000
set_option maxHeartbeats 4000000
set_option exponentiation.threshold 2000
namespace Sq
open PySem PySem.Spec PyProof.Rows L2
theorem wish_keep {K : PySem.W.Frag} {cBv : Value} {i : Nat} {ts : Addr → Value → Option Addr → TS} {Wout : WX} {D : Ends} {C : Addr} {v : V} {Hc : Hp} {σ : L2.St} (m : PySem.W.exmOne K (.ref C) cBv = some true)
    (h : ∀ p d, Hc d = none → (upd Hc d (exd d [(("value" : Str), v)])) p = none → ts p (.ref C) (some d) { nx := fun σ' H' => D.nx (σ'.set i none) (upd H' p (exq p C (some d))), rt := fun v' H' => D.rt v' (upd H' p (exq p C (some d))), bk := fun σ' H' => D.bk (σ'.set i none) (upd H' p (exq p C (some d))), ct := fun σ' H' => D.ct (σ'.set i none) (upd H' p (exq p C (some d))) } (σ.set i (some (.ref p))) (upd Hc d (exd d [(("value" : Str), v)]))) :
    Wish (WE (wKeep K cBv i ts Wout D) σ) C v Hc := fun d hd => ⟨true, m, fun _ => ⟨C, rfl, fun p hp => h p d hd hp⟩, fun z => nomatch z⟩
def dueMade (ks : List Int) : List V := match lowAt ks with | none => [.str "none", .non] | some j => [.str "list", .int (j : Int)]
section
variable {P : Program} {w : World} {K : PySem.W.Frag} {mg : Str → Option Value} {base : Heap} {c fI : Nat → Addr} {qn : Nat → Str} {cB : Addr}
theorem made {G : Hp} {C x dx : Addr} (nx : G x = none) (ndx : G dx = none) : Same G (upd (upd G dx (.own x)) x (.ins C dx [])) := fun b o e => by
  rw [upd_ne (ne_of_none e nx), upd_ne (ne_of_none e ndx)]
  exact e
def spMade (K : PySem.W.Frag) : Sp := fun vs H Q _ => ∃ (a : Addr) (ks : List Int), vs = [.ref a] ∧ SqL K H a (ks.map V.int) ∧ ∀ t H', H t = none → Same H H' → H' t = some (.lst (dueMade ks)) → Q (.ref t) H'
theorem ok_lawmade {f C : Addr} {fd : FuncData} (F : Fun K "_law_made" "_law_made" s_lawmade f fd) (B : Bi mg) (Z : Errs P K mg c fI qn cB) (Z2 : Errs2 K c cB) (CX_HiddenList : Mx (L2.CX P w) P w K mg base 2 "HiddenList" C ["self", "replacements"] (spHidInitX K C c)) (D_lawkind : Df P w K mg base 1 "_law_kind" ["caught"] (spKind c)) :
    FnOk P w K mg base CX0 5 f fd ["numbers"] (spMade K) := by
  refine F.ok sc_lawmade (fun vs H Q E h => ?_) (fun cdv A outer s H vs Q E hr h => ?_)
  · obtain ⟨a, ks, rfl, _⟩ := h
    rfl
  · obtain ⟨a, ks, rfl, hS, q⟩ := h
    refine ⟨_, (pss_cons (ps_set (i := 1) sc_lawmade.nd rfl (Or.inl rfl) pe_non)
 (pss_cons (ps_try_keep (i := 2) rfl rfl rfl sc_lawmade.nd rfl rfl ⟨by rfl, by decide, .inl Z.g5⟩ takes0 (fun W_ pn_ xe_ tk_ own_ => (pss_one (ps_expr (pe_mx CX_HiddenList (fun σ => passAt tk_ σ) (hr.mono (by omega)) (by rfl) (pa_cons (pv 0) pa_nil)))))
 (fun a_ oe_ cls_ d_ pn_ hz_ hf_ => (pss_one (ps_set (i := 1) sc_lawmade.nd rfl (Or.inl rfl) (pv 2)))))
 (pss_one (ps_ret (pe_ifExp (pt_cmpR op_isN (pv 1) pe_non (nomark _)) (pe_lst (pa_cons pe_str (pa_cons pe_non pa_nil))) (pe_lst (pa_cons (pe_callD D_lawkind (hr.mono (by omega)) (by rfl) (pa_cons (pv 1) pa_nil)) (pa_cons (pe_qv (pv 1)) pa_nil)))))))), ?_⟩
    have w2 : 2 ≤ sizeLine := Nat.le_of_lt (small1000 (by decide))
    refine tellSeq (fun σ2 H2 => σ2 = [some (.ref a), some .non, none] ∧ H = H2) (fun N hN => hN _ _ ⟨rfl, rfl⟩) (fun σ0 H0 h0 => ?_)
    obtain ⟨rfl, rfl⟩ := h0
    refine tellSeq (fun σ2 H2 => (lowAt ks = none ∧ σ2 = [some (.ref a), some .non, none] ∧ Same H H2) ∨
      (∃ (j : Nat) (p d : Addr), lowAt ks = some j ∧ σ2 = [some (.ref a), some (.ref p), none] ∧ CaughtAt H2 p d (c 0) (.int (j : Int)) ∧ Same H H2)) (fun N hN => ?_) (fun σ2 H2 h => ?_)
    · refine ⟨_, rfl, fun x dx nx ndx nex => ⟨x, dx, a, ks, rfl, upd_same, (made nx ndx).seq hS, fun low d H' hd Sh but => ⟨rfl, hN _ _ (.inl ⟨low, rfl, fun b o e => but b o (made nx ndx _ _ e) (ne_of_none e nx)⟩)⟩, fun j hj H' s' => ?_⟩⟩
      refine wish_keep (Z2.ma 0 (by decide)) fun p d hd hp => ⟨_, rfl, hN _ _ (.inr ⟨j, p, d, hj, rfl, ⟨upd_same, by rw [upd_ne (ne_of_none upd_same hp), upd_same]⟩, (((made nx ndx).trans s').trans (same_new hd)).trans (same_new hp)⟩)⟩
    · rcases h with ⟨e0, rfl, s2⟩ | ⟨j, p, d, e0, rfl, at_, s2⟩
      · refine ⟨_, rfl, rfl, _, rfl, ite2 (fun _ => ?_) (fun c => absurd (decide_eq_true rfl) c)⟩
        exact ⟨w2, fun t ht => q t _ (s2.free ht) (s2.trans (same_new ht)) (by rw [upd_same]; unfold dueMade; rw [e0])⟩
      · refine ⟨_, rfl, rfl, _, rfl, ite2 (fun c => by cases of_decide_eq_true c) (fun _ => ?_)⟩
        refine ⟨_, rfl, p, d, 0, .int (j : Int), rfl, by decide, at_, fun H3 s3 => ?_⟩
        have at3 := at_.same s3
        refine ⟨_, rfl, p, d, c 0, _, rfl, at3, Z.xf 0 (by decide), Z2.nv 0 (by decide), w2, fun t ht => ?_⟩
        have s23 := s2.trans s3
        exact q t _ (s23.free ht) (s23.trans (same_new ht)) (by rw [upd_same]; unfold dueMade; rw [e0]; rfl)
def spAsked (C : Addr) : Sp := fun vs H Q _ => ∃ (p d : Addr) (ks : List Int) (cn n : Int) (b : Bool), vs = [.ref p, .int n, .bl b] ∧ HidAt C H p d ks cn ∧ Rpl ks ∧
  (0 ≤ n → ∀ t H', H t = none → HidAt C H' p d ks (cn + 1) → But H H' p → H' t = some (.lst [.int (sq n ks)]) → Q (.ref t) H') ∧
  (n < 0 → ∀ t H', H t = none → Same H H' → H' t = some (.lst [.str "number", .int n]) → Q (.ref t) H')
theorem ok_lawasked {f C : Addr} {fd : FuncData} (F : Fun K "_law_asked" "_law_asked" s_lawasked f fd) (B : Bi mg) (Z : Errs P K mg c fI qn cB) (Z2 : Errs2 K c cB) (MX_ask : Mt (L2.CX P w) P w K mg base 4 C "ask" ["self", "length"] (spHidAskX C c))
    (MX_askK : MtK (L2.CX P w) P w K mg base 4 C "ask" ["self", "length"] ["length"] (fun us zs => us ++ zs) (spHidAskX C c)) (D_lawkind : Df P w K mg base 1 "_law_kind" ["caught"] (spKind c)) :
    FnOk P w K mg base CX0 6 f fd ["secret", "long", "by_name"] (spAsked C) := by
  refine F.ok sc_lawasked (fun vs H Q E h => ?_) (fun cdv A outer s H vs Q E hr h => ?_)
  · obtain ⟨p, d, ks, cn, n, b, rfl, _⟩ := h
    rfl
  · obtain ⟨p, dd, ks, cn, n, b, rfl, S, rk, q0, q1⟩ := h
    refine ⟨_, (pss_cons (ps_set (i := 3) sc_lawasked.nd rfl (Or.inl rfl) pe_non)
 (pss_cons (ps_try_keep (i := 4) rfl rfl rfl sc_lawasked.nd rfl rfl ⟨by rfl, by decide, .inl Z.g5⟩ takes0 (fun W_ pn_ xe_ tk_ own_ => (pss_one (ps_ret (pe_lst (pa_cons (pe_ifExp (pt_val (pv 2)) (pe_mK MX_askK (fun σ => passAt tk_ σ) (hr.mono (by omega)) (pv 0) (pk_cons (pv 1) pk_nil)) (pe_m MX_ask (fun σ => passAt tk_ σ) (hr.mono (by omega)) (pv 0) (pa_cons (pv 1) pa_nil))) pa_nil)))))
 (fun a_ oe_ cls_ d_ pn_ hz_ hf_ => (pss_one (ps_set (i := 3) sc_lawasked.nd rfl (Or.inl rfl) (pv 4)))))
 (pss_one (ps_ret (pe_lst (pa_cons (pe_callD D_lawkind (hr.mono (by omega)) (by rfl) (pa_cons (pv 3) pa_nil)) (pa_cons (pe_qv (pv 3)) pa_nil))))))), ?_⟩
    have w1 : 1 ≤ sizeLine := Nat.le_of_lt (small1000 (by decide))
    have w2 : 2 ≤ sizeLine := Nat.le_of_lt (small1000 (by decide))
    obtain ⟨dx, e⟩ := S.ob
    refine tellSeq (fun σ2 H2 => σ2 = [some (.ref p), some (.int n), some (.bl b), some .non, none] ∧ H = H2) (fun N hN => hN _ _ ⟨rfl, rfl⟩) (fun σ0 H0 h0 => ?_)
    obtain ⟨rfl, rfl⟩ := h0
    refine tellSeq (fun σ2 H2 => ∃ (p2 d : Addr), n < 0 ∧ σ2 = [some (.ref p), some (.int n), some (.bl b), some (.ref p2), none] ∧ CaughtAt H2 p2 d (c 1) (.int n) ∧ Same H H2) (fun N hN => ?_) (fun σ2 H2 h => ?_)
    · have er : n < 0 → ∀ {W : WX} {D : Ends}, True := fun _ _ _ => trivial
      have ans : 0 ≤ n → ∀ H', HidAt C H' p dd ks (cn + 1) → But H H' p → ∀ t, H' t = none → Q (.ref t) (upd H' t (.lst [.int (sq n ks)])) := fun h0 H' S' but t ht => by
        obtain ⟨dx', e'⟩ := S'.ob
        have htp : t ≠ p := fun z => by rw [z, e'] at ht; cases ht
        have htd : t ≠ dd := fun z => by rw [z, S'.rp] at ht; cases ht
        refine q0 h0 t _ ?_ ⟨⟨dx', by rw [upd_ne htp.symm]; exact e'⟩, by rw [upd_ne htd.symm]; exact S'.rp⟩ (fun b o eb nb => ?_) upd_same
        · cases et : H t with
          | none => rfl
          | some o => rw [but t o et htp] at ht; cases ht
        · exact same_new ht _ _ (but b o eb nb)
      refine ⟨_, rfl, _, rfl, ?_⟩
      cases b with
      | true =>
        refine iteT ⟨_, rfl, p, dx, _, rfl, e, hfs_no _ _ (by decide +kernel) (by decide +kernel), _, rfl, rfl, p, dd, ks, cn, n, rfl, S, rk, fun h0 H' S' but => ⟨w1, ans h0 H' S' but⟩, fun hn => ?_⟩
        exact wish_keep (Z2.ma 1 (by decide)) fun p2 d hd hp => ⟨_, rfl, hN _ _ ⟨p2, d, hn, rfl, ⟨upd_same, by rw [upd_ne (ne_of_none upd_same hp), upd_same]⟩, (same_new hd).trans (same_new hp)⟩⟩
      | false =>
        refine iteF ⟨_, rfl, p, dx, _, rfl, e, hfs_no _ _ (by decide +kernel) (by decide +kernel), _, rfl, p, dd, ks, cn, n, rfl, S, rk, fun h0 H' S' but => ⟨w1, ans h0 H' S' but⟩, fun hn => ?_⟩
        exact wish_keep (Z2.ma 1 (by decide)) fun p2 d hd hp => ⟨_, rfl, hN _ _ ⟨p2, d, hn, rfl, ⟨upd_same, by rw [upd_ne (ne_of_none upd_same hp), upd_same]⟩, (same_new hd).trans (same_new hp)⟩⟩
    · obtain ⟨p2, d, hn, rfl, at_, s2⟩ := h
      refine ⟨_, rfl, p2, d, 1, _, rfl, by decide, at_, fun H3 s3 => ?_⟩
      have at3 := at_.same s3
      refine ⟨_, rfl, p2, d, c 1, _, rfl, at3, Z.xf 1 (by decide), Z2.nv 1 (by decide), w2, fun t ht => ?_⟩
      have s23 := s2.trans s3
      exact q1 hn t _ (s23.free ht) (s23.trans (same_new ht)) upd_same
end
end Sq

set_option Elab.async false
set_option linter.all false
set_option maxRecDepth 100000
set_option maxHeartbeats 4000000
set_option exponentiation.threshold 2000
namespace Sq
open PySem PySem.Spec PyProof.Rows L2
section
variable {P : Program} {w : World} {K : PySem.W.Frag} {mg : Str → Option Value} {base : Heap}
def spLong : Sp := fun vs H Q _ => ∃ (l a : Addr) (seed cnt : Int) (ks : List Int), vs = [.ref l, .ref a] ∧ Rng H l seed cnt ∧ cnt < 500000 ∧ H a = some (.lst (ks.map V.int)) ∧ a ≠ l ∧ ks.length ≤ 20 ∧ Rpl ks ∧
  ∀ z cnt' H', 0 ≤ z → Rng H' l seed cnt' → cnt' ≤ cnt + 6 → Keep1 H H' l → Q (.int z) H'
theorem ok_lawlong {f : Addr} {fd : FuncData} (F : Fun K "_law_long" "_law_long" s_lawlong f fd) (B : Bi mg) (D_lawdraw : Df P w K mg base 1 "_law_draw" ["pool", "many"] spDraw) : FnOk P w K mg base CX0 2 f fd ["pool", "numbers"] spLong := by
  refine F.ok sc_lawlong (fun vs H Q E h => ?_) (fun cdv A outer s H vs Q E hr h => ?_)
  · obtain ⟨l, a, seed, cnt, ks, rfl, _⟩ := h
    rfl
  · obtain ⟨l, a, seed, cnt, ks, rfl, S, hc, hS, nal, hlen, rk, q⟩ := h
    refine ⟨_, (pss_cons (ps_if (PW.pt (pw_or (pt_cmpR (op_eqD hr.units) (pv 1) (pe_lst pa_nil) (nomark _)) (pw_or1 (pt_cmpR op_eq (pe_callD D_lawdraw (hr.mono (by omega)) (by rfl) (pa_cons (pv 0) (pa_cons pe_int pa_nil))) pe_int (nomark _)))))
 (pss_one (ps_ret (pe_callD D_lawdraw (hr.mono (by omega)) (by rfl) (pa_cons (pv 0) (pa_cons (pe_ix (r := rIxL K) ix_list (pe_lst (pa_cons pe_int (pa_cons (pe_op op_pow pe_int pe_int) pa_nil))) (pe_callD D_lawdraw (hr.mono (by omega)) (by rfl) (pa_cons (pv 0) (pa_cons pe_int pa_nil))) (fun _ _ => rfl)) pa_nil)))))
 pss_nil)
 (pss_cons (ps_set (i := 2) sc_lawlong.nd rfl (Or.inl rfl) pe_int)
 (pss_cons (ps_for PassesOwn.never rfl (pi_list (pe_slice sl_list (pv 1) po_none (po_some (pe_op op_add pe_int (pe_callD D_lawdraw (hr.mono (by omega)) (by rfl) (pa_cons (pv 0) (pa_cons (pe_callB (id := "len") (r := rLenK K) call_lenK (by rfl) B.n_len (by decide +kernel) (pa_cons (pv 1) pa_nil)) pa_nil))))))) (pg_name (i := 3) sc_lawlong.nd rfl (Or.inl rfl))
 (pss_one (ps_set (i := 2) sc_lawlong.nd rfl (Or.inl rfl) (pe_op op_mul (pv 2) (pv 3)))))
 (pss_one (ps_ret (pe_callB (id := "min") (call_min2 rfl) (by rfl) B.n_min (by decide +kernel) (pa_cons (pe_op op_sub (pe_op op_pow pe_int pe_int) pe_int) (pa_cons (pe_callB (id := "max") (call_max2 rfl) (by rfl) B.n_max (by decide +kernel) (pa_cons pe_int (pa_cons (pe_op op_sub (pe_op op_add (pe_op op_mul (pv 2) (pe_callD D_lawdraw (hr.mono (by omega)) (by rfl) (pa_cons (pv 0) (pa_cons pe_int pa_nil)))) (pe_callD D_lawdraw (hr.mono (by omega)) (by rfl) (pa_cons (pv 0) (pa_cons pe_int pa_nil)))) pe_int) pa_nil))) pa_nil)))))))), ?_⟩
    have lim : sizeLine = 16777216 := sizeLine_eq
    have w2 : 2 ≤ sizeLine := by omega
    have e30 : (10 : Int) ^ (30 : Int).toNat = 1000000000000000000000000000000 := by decide
    refine ⟨_, rfl, Nat.zero_le _, fun t ht => ⟨.list (ks.map PyData.int), .list [], .lst (SqL.of (same_new ht _ _ hS)) (dp_ints ks), .lst (SqL.of upd_same) .nil, shaped_ints ks, rfl, _, rfl, ?_⟩⟩
    have S0 := S.same (same_new (o := .lst []) ht)
    have s0 := same_new (o := .lst []) ht
    generalize upd H t (.lst []) = H0 at S0 s0 ⊢
    -- a length of any kind
    have any : ∀ (G : Hp) (c1 : Int), Rng G l seed c1 → c1 ≤ cnt + 1 → Keep1 H G l → ∀ t2, G t2 = none → ∃ (l' : Addr) (seed' cnt' limit : Int), [V.ref l, V.int 2] = [.ref l', .int limit] ∧ Rng (upd G t2 (.lst [.int 30, .int (10 ^ (30 : Int).toNat)])) l' seed' cnt' ∧ cnt' < 1000000 ∧ 0 < limit ∧ limit.natAbs < 2 ^ 700 ∧
        ∀ z cnt2 H2, 0 ≤ z → z < limit → Rng H2 l' seed' cnt2 → cnt2 ≤ cnt' + 1 → Keep1 (upd G t2 (.lst [.int 30, .int (10 ^ (30 : Int).toNat)])) H2 l' → ∃ (p : Addr) (xs : List V) (i : Int) (v : V), V.ref t2 = .ref p ∧ V.int z = .int i ∧ SqL K H2 p xs ∧ atI xs i = some v ∧ ∃ (l2 : Addr) (seed2 cnt3 limit2 : Int), [V.ref l, v] = [.ref l2, .int limit2] ∧ Rng H2 l2 seed2 cnt3 ∧ cnt3 < 1000000 ∧ 0 < limit2 ∧ limit2.natAbs < 2 ^ 700 ∧
          ∀ z cnt4 H3, 0 ≤ z → z < limit2 → Rng H3 l2 seed2 cnt4 → cnt4 ≤ cnt3 + 1 → Keep1 H2 H3 l2 → Q (.int z) H3 := fun G c1 S1 hc1 k1 t2 ht2 => by
      have nt := S1.ne ht2
      refine ⟨l, seed, c1, 2, rfl, S1.same (same_new ht2), by omega, by decide, by decide, fun z2 c2 H2 z20 z21 S2 hc2 k2 => ?_⟩
      obtain ⟨v, vm, va⟩ := nth_of (xs := [30, 10 ^ (30 : Int).toNat]) z20 z21
      have vb : 0 < v ∧ v.natAbs ≤ 10 ^ 31 := by
        simp only [List.mem_cons, List.not_mem_nil, or_false, e30] at vm
        rcases vm with e | e <;> subst e <;> decide
      refine ⟨t2, _, z2, .int v, rfl, rfl, SqL.of (k2 _ _ upd_same nt), va, l, seed, c2, v, rfl, S2, by omega, vb.1, lim10 vb.2, fun z3 c3 H3 z30 z31 S3 hc3 k3 => ?_⟩
      exact q z3 c3 H3 z30 S3 (by omega) (((k1.trans (Keep1.of (same_new ht2))).trans k2).trans k3)
    -- a length near a multiple
    have rest : ∀ (G : Hp) (c1 : Int), Rng G l seed c1 → c1 ≤ cnt + 1 → Keep1 H G l → True := fun _ _ _ _ _ => trivial
    clear rest
    cases ks with
    | nil =>
      exact iteT (iteT ⟨_, rfl, 10, 30, rfl, rfl, ⟨by decide, by decide, by decide⟩, w2, fun t2 ht2 => ⟨_, rfl, any H0 cnt S0 (by omega) (Keep1.of s0) t2 ht2⟩⟩)
    | cons k0 kr =>
      refine iteF ⟨_, rfl, l, seed, cnt, 3, rfl, S0, by omega, by decide, by decide, fun z1 c1 H1 z10 z11 S1 hc1 k1 => ?_⟩
      have k01 := (Keep1.of s0).trans k1
      refine ⟨rfl, _, rfl, ite2 (fun _ => ⟨_, rfl, 10, 30, rfl, rfl, ⟨by decide, by decide, by decide⟩, w2, fun t2 ht2 => ⟨_, rfl, any H1 c1 S1 hc1 k01 t2 ht2⟩⟩) (fun _ => ?_)⟩
      clear any
      have g1 := k01 _ _ hS nal
      refine ⟨_, rfl, noPart ⟨_, rfl, _, rfl, a, _, rfl, .inl (SqL.of g1), l, seed, c1, _, rfl, S1, by omega, by rw [List.length_map, List.length_cons]; omega, lim10 (by rw [List.length_map]; omega), fun z2 c2 H2 z20 z21 S2 hc2 k2 => ⟨1, z2, rfl, rfl, _, rfl, a, _, rfl, SqL.of (k2 _ _ g1 nal), fun p hp => ?_⟩⟩⟩
      obtain ⟨ls, els, lls, hls⟩ := cut_part (k0 :: kr) none (some (1 + z2))
      rw [els]
      have sm3 : Same H2 (upd H2 p (.lst (ls.map V.int))) := same_new hp
      have gp3 : (upd H2 p (.lst (ls.map V.int))) p = some (.lst (ls.map V.int)) := upd_same
      have S3 := S2.same sm3
      generalize upd H2 p (.lst (ls.map V.int)) = H3 at sm3 gp3 S3 ⊢
      refine ⟨p, rfl, ⟨_, SqL.of gp3⟩, for_list (K := K) (a := p) (xs := ls.map V.int) (fun i σ H' => H' = H3 ∧ ∃ x y, σ = [some (.ref l), some (.ref a), some (.int x), y]) ⟨rfl, 1, none, rfl⟩ (fun i σ H' _ h => by rw [h.1]; exact SqL.of gp3) ?_ ?_⟩
      · rintro i v σ H' hi ⟨rfl, x, y, rfl⟩
        obtain ⟨k, e, rfl⟩ := map_at hi
        have hm := rk k (hls k (List.mem_of_getElem? e))
        exact ⟨_, rfl, _, rfl, x, k, rfl, rfl, .inr ⟨by omega, by omega⟩, rfl, _, _, rfl⟩
      · rintro σ H' ⟨rfl, x, y, rfl⟩
        refine ⟨10, 30, rfl, rfl, ⟨by decide, by decide, by decide⟩, _, 1, rfl, rfl, ?_⟩
        refine ⟨_, rfl, _, rfl, l, seed, c2, 9, rfl, S3, by omega, by decide, by decide, fun z4 c4 H4 z40 z41 S4 hc4 k4 => ⟨x, z4, rfl, rfl, .inr ⟨by omega, by omega⟩, ?_⟩⟩
        refine ⟨_, rfl, l, seed, c4, 9, rfl, S4, by omega, by decide, by decide, fun z5 c5 H5 z50 z51 S5 hc5 k5 => ⟨_, z5, rfl, rfl, _, 4, rfl, rfl, 0, _, rfl, _, _, rfl, ?_⟩⟩
        rw [e30]
        refine q _ c5 H5 ?_ S5 (by omega) (((((k01.trans k2).trans (Keep1.of sm3)).trans k4)).trans k5)
        generalize x * z4 + z5 - 4 = y
        split <;> split <;> omega
end
end Sq

set_option Elab.async false
set_option linter.all false
set_option maxRecDepth 100000
set_option maxHeartbeats 4000000
set_option exponentiation.threshold 2000
namespace Sq
open PySem PySem.Spec PyProof.Rows L2
/-- two hidden lists, what was kept of them, how often each was asked -/
structure St (C l : Addr) (seed : Int) (kp sc ch : Addr) (Pf X D : Nat → Addr) (KS : Nat → List Int) (H : Hp) (cnt : Int) (cn cm : Nat → Int) : Prop where
  rng : Rng H l seed cnt
  hid : ∀ i, i < 2 → HidAt C H (X i) (D i) (KS i) (cn i)
  gch : H ch = some (.lst [.int (cm 0), .int (cm 1)])
  gkp : H kp = some (.lst [.ref (Pf 0), .ref (Pf 1)])
  gsc : H sc = some (.lst [.ref (X 0), .ref (X 1)])
  gp : ∀ i, i < 2 → H (Pf i) = some (.lst ((KS i).map V.int))
structure Apart (l kp sc ch : Addr) (Pf X D : Nat → Addr) : Prop where
  chl : ch ≠ l
  kpl : kp ≠ l
  scl : sc ≠ l
  pl : ∀ i, i < 2 → Pf i ≠ l
  xl : ∀ i, i < 2 → X i ≠ l
  dl : ∀ i, i < 2 → D i ≠ l
  kpc : kp ≠ ch
  scc : sc ≠ ch
  pc : ∀ i, i < 2 → Pf i ≠ ch
  dc : ∀ i, i < 2 → D i ≠ ch
  xx : X 0 ≠ X 1
section
variable {C l : Addr} {seed : Int} {kp sc ch : Addr} {Pf X D : Nat → Addr} {KS : Nat → List Int} {H H' : Hp} {cnt cnt' : Int} {cn cm : Nat → Int}
theorem two_i {i : Nat} (h : i < 2) : i = 0 ∨ i = 1 := by omega
theorem St.keep (S : St C l seed kp sc ch Pf X D KS H cnt cn cm) (A : Apart l kp sc ch Pf X D) (k : Keep1 H H' l) (r : Rng H' l seed cnt') : St C l seed kp sc ch Pf X D KS H' cnt' cn cm :=
  ⟨r, fun i h => (S.hid i h).keep k (A.xl i h) (A.dl i h), k _ _ S.gch A.chl, k _ _ S.gkp A.kpl, k _ _ S.gsc A.scl, fun i h => k _ _ (S.gp i h) (A.pl i h)⟩
theorem St.same (S : St C l seed kp sc ch Pf X D KS H cnt cn cm) (s : Same H H') : St C l seed kp sc ch Pf X D KS H' cnt cn cm :=
  ⟨S.rng.same s, fun i h => (S.hid i h).same s, s _ _ S.gch, s _ _ S.gkp, s _ _ S.gsc, fun i h => s _ _ (S.gp i h)⟩
theorem notx {p d : Addr} {ks : List Int} {n : Int} {a : Addr} {xs : List V} (I : HidAt C H p d ks n) (h : H a = some (.lst xs)) : a ≠ p := fun z => by
  obtain ⟨dx, e⟩ := I.ob
  rw [z, e] at h
  cases h
theorem X_ne (A : Apart l kp sc ch Pf X D) {i j : Nat} (hi : i < 2) (hj : j < 2) (h : j ≠ i) : X j ≠ X i := by
  rcases two_i hi with rfl | rfl <;> rcases two_i hj with rfl | rfl
  · exact absurd rfl h
  · exact A.xx.symm
  · exact A.xx
  · exact absurd rfl h
theorem St.but (S : St C l seed kp sc ch Pf X D KS H cnt cn cm) (A : Apart l kp sc ch Pf X D) {i : Nat} (hi : i < 2) {m : Int} (I : HidAt C H' (X i) (D i) (KS i) m) (b : But H H' (X i)) (e : ∀ j, j < 2 → cm j = if j = i then m else cn j) :
    St C l seed kp sc ch Pf X D KS H' cnt cm cm := by
  have Ii := S.hid i hi
  refine ⟨S.rng.but b (A.xl i hi).symm, fun j hj => ?_, b _ _ S.gch (notx Ii S.gch), b _ _ S.gkp (notx Ii S.gkp), b _ _ S.gsc (notx Ii S.gsc), fun j hj => b _ _ (S.gp j hj) (notx Ii (S.gp j hj))⟩
  rw [e j hj]
  by_cases e : j = i
  · subst e
    rw [if_pos rfl]
    exact I
  · rw [if_neg e]
    obtain ⟨dx, ej⟩ := (S.hid j hj).ob
    exact ⟨⟨dx, b _ _ ej (X_ne A hi hj e)⟩, b _ _ (S.hid j hj).rp (notx Ii (S.hid j hj).rp)⟩
theorem St.count (S : St C l seed kp sc ch Pf X D KS H cnt cn cm) (A : Apart l kp sc ch Pf X D) {cl : Nat → Int} (g : H' ch = some (.lst [.int (cl 0), .int (cl 1)])) (b : ∀ a o, H a = some o → a ≠ ch → H' a = some o) : St C l seed kp sc ch Pf X D KS H' cnt cn cl := by
  obtain ⟨dg, e⟩ := S.rng.ob
  refine ⟨⟨⟨dg, b _ _ e A.chl.symm⟩, S.rng.s0, S.rng.s1, S.rng.c0⟩, fun i hi => ?_, g, b _ _ S.gkp A.kpc, b _ _ S.gsc A.scc, fun i hi => b _ _ (S.gp i hi) (A.pc i hi)⟩
  obtain ⟨dx, e⟩ := (S.hid i hi).ob
  exact ⟨⟨dx, b _ _ e (notx (S.hid i hi) S.gch).symm⟩, b _ _ (S.hid i hi).rp (A.dc i hi)⟩
end
theorem shaped_si {s : Str} (hs : PyData.canLay0 (.str s) = true) (i : Int) : SeqAt.shaped (.list [.str s, .int i]) = true := shaped_il (by
  show (PyData.canLay0 (.str s) && PyData.canLayAll0 [.int i]) = true
  rw [hs]
  rfl) (by show Nat.max 0 (Nat.max 0 0) + 1 ≤ 64; decide)
theorem sh_num (i : Int) : SeqAt.shaped (.list [.str "number", .int i]) = true := shaped_si (by decide +kernel) i
theorem sh_lst (i : Int) : SeqAt.shaped (.list [.str "list", .int i]) = true := shaped_si (by decide +kernel) i
theorem sh_non : SeqAt.shaped (.list [.str "none", .none]) = true := by decide +kernel
theorem eq_self {d : PyData} (h : SeqAt.shaped d = true) : PyData.eqv d d = true := PySem.SeqAt.eqv_refl _ (PySem.SeqAt.canLay_of_shaped h)
theorem at2 {z : Int} (h0 : 0 ≤ z) (h : z < 2) : ∃ i : Nat, i < 2 ∧ z = (i : Int) := ⟨z.toNat, by omega, by omega⟩
theorem atf {i : Nat} (v : Nat → V) (h : i < 2) : atI [v 0, v 1] (i : Int) = some (v i) := by
  rcases two_i h with rfl | rfl <;> rfl
section
variable {P : Program} {w : World} {K : PySem.W.Frag} {mg : Str → Option Value} {base : Heap}
def spRight : Sp := fun vs H Q _ => ∃ (l : Addr) (seed cnt : Int), vs = [.ref l] ∧ Rng H l seed cnt ∧ cnt < 300000 ∧ ∀ H' cnt', Rng H' l seed cnt' → cnt' ≤ cnt + 400 → Keep1 H H' l → Q (.bl true) H'
theorem ok_lawright {f C : Addr} {fd : FuncData} (F : Fun K "_law_right" "_law_right" s_lawright f fd) (B : Bi mg) (D_lawdraw : Df P w K mg base 1 "_law_draw" ["pool", "many"] spDraw) (D_lawlist : Df P w K mg base 2 "_law_list" ["pool", "most", "far"] spList) (D_lawafter : Df P w K mg base 1 "_law_after" ["long", "numbers"] (spLawAfter K))
    (D_lawlong : Df P w K mg base 2 "_law_long" ["pool", "numbers"] spLong) (D_lawasked : Df P w K mg base 6 "_law_asked" ["secret", "long", "by_name"] (spAsked C)) (D_lawbadlist : Df P w K mg base 2 "_law_bad_list" ["pool", "numbers"] (spBadList K)) (D_lawmade : Df P w K mg base 5 "_law_made" ["numbers"] (spMade K))
    (D_greatestorigin : Df P w K mg base 2 "greatest_origin" ["length", "replacements"] (spGreatC K))
    (C_HiddenList : Mx CX0 P w K mg base 2 "HiddenList" C ["self", "replacements"] (spHidInit K C)) (C_HiddenListK : MxK CX0 P w K mg base 2 "HiddenList" C ["self", "replacements"] ["replacements"] (fun us zs => us ++ zs) (spHidInit K C)) (M_ask : Mt CX0 P w K mg base 4 C "ask" ["self", "length"] (spHidAsk C)) (P_questions : Pr P w K mg base 1 C "questions" (spHidQ C)) :
    FnOk P w K mg base CX0 7 f fd ["pool"] spRight := by
  refine F.ok sc_lawright (fun vs H Q E h => ?_) (fun cdv A outer s H vs Q E hr h => ?_)
  · obtain ⟨l, seed, cnt, rfl, _⟩ := h
    rfl
  · obtain ⟨l, seed, cnt, rfl, S, hc, q⟩ := h
    refine ⟨_, (pss_cons (ps_set (i := 1) sc_lawright.nd rfl (Or.inl rfl) (pe_ix (r := rIxL K) ix_list (pe_lst (pa_cons pe_int (pa_cons (pe_op op_pow pe_int pe_int) pa_nil))) (pe_callD D_lawdraw (hr.mono (by omega)) (by rfl) (pa_cons (pv 0) (pa_cons pe_int pa_nil))) (fun _ _ => rfl)))
 (pss_cons (ps_set (i := 2) sc_lawright.nd rfl (Or.inl rfl) (pe_lst (pa_cons (pe_callD D_lawlist (hr.mono (by omega)) (by rfl) (pa_cons (pv 0) (pa_cons pe_int (pa_cons (pv 1) pa_nil)))) (pa_cons (pe_callD D_lawlist (hr.mono (by omega)) (by rfl) (pa_cons (pv 0) (pa_cons pe_int (pa_cons (pv 1) pa_nil)))) pa_nil))))
 (pss_cons (ps_setLc (own := [("one", 4)]) (g := gName 4) (i := 3) rfl sc_lawright.nd rfl rfl (sw_true rfl rfl rfl (by decide +kernel)) (pi_list (pv 2)) (blkOk_by (own := [("one", 4)]) (N := ["pool", "far", "kept", "passed", "one", "secrets", "counts_here", "turn", "which", "long", "due", "bad", "wrong"]) (sc := defScope s_lawright) (by decide +kernel)) (fun _ _ _ _ _ => (pg_name (i := 4) sc_lawright.nd rfl (Or.inl rfl))) (fun _ _ _ _ _ => pts_nil) (fun _ _ _ _ _ => (pe_callTy (T := "list") (r := rListK K) call_listK (by rfl) B.n_list (by decide +kernel) (pa_cons (pv 4) pa_nil))))
 (pss_cons (ps_set (i := 5) sc_lawright.nd rfl (Or.inl rfl) (pe_lst (pa_cons (pe_mx C_HiddenList at0 (hr.mono (by omega)) (by rfl) (pa_cons (pe_ix (r := rIxL K) ix_list (pv 3) pe_int (fun _ _ => rfl)) pa_nil)) (pa_cons (pe_mxK C_HiddenListK at0 (hr.mono (by omega)) (by rfl) (pk_cons (pe_ix (r := rIxL K) ix_list (pv 3) pe_int (fun _ _ => rfl)) pk_nil)) pa_nil))))
 (pss_cons (ps_if (pt_cmpR (op_neD hr.units) (pv 3) (pv 2) (nomark _))
 (pss_one (ps_ret pe_bl))
 pss_nil)
 (pss_cons (ps_expr (pe_bm0 PySem.F.plainAttrs_list PySem.F.slot_list_clear PySem.F.type_list_clear mt_clear (pe_ix (r := rIxL K) ix_list (pv 3) pe_int (fun _ _ => rfl))))
 (pss_cons (ps_expr (pe_bm PySem.F.plainAttrs_list PySem.F.slot_list_append PySem.F.type_list_append mt_append (pe_ix (r := rIxL K) ix_list (pv 3) pe_int (fun _ _ => rfl)) (pa_cons pe_int pa_nil)))
 (pss_cons (ps_set (i := 6) sc_lawright.nd rfl (Or.inl rfl) (pe_lst (pa_cons pe_int (pa_cons pe_int pa_nil))))
 (pss_cons (ps_for PassesOwn.never rfl (pi_range1 (by rfl) B.n_range (pa_cons (pe_callD D_lawdraw (hr.mono (by omega)) (by rfl) (pa_cons (pv 0) (pa_cons pe_int pa_nil))) pa_nil)) (pg_name (i := 7) sc_lawright.nd rfl (Or.inl rfl))
 (pss_cons (ps_set (i := 8) sc_lawright.nd rfl (Or.inl rfl) (pe_callD D_lawdraw (hr.mono (by omega)) (by rfl) (pa_cons (pv 0) (pa_cons pe_int pa_nil))))
 (pss_cons (ps_set (i := 9) sc_lawright.nd rfl (Or.inl rfl) (pe_callD D_lawlong (hr.mono (by omega)) (by rfl) (pa_cons (pv 0) (pa_cons (pe_ix (r := rIxL K) ix_list (pv 2) (pv 8) (fun _ _ => rfl)) pa_nil))))
 (pss_cons (ps_if (pt_cmpR op_eq (pe_callD D_lawdraw (hr.mono (by omega)) (by rfl) (pa_cons (pv 0) (pa_cons pe_int pa_nil))) pe_int (nomark _))
 (pss_one (ps_set (i := 9) sc_lawright.nd rfl (Or.inl rfl) (pe_op op_sub (pe_un un_neg pe_int) (pe_ix (r := rIxL K) ix_list (pe_lst (pa_cons pe_int (pa_cons (pe_callD D_lawdraw (hr.mono (by omega)) (by rfl) (pa_cons (pv 0) (pa_cons (pe_op op_pow pe_int pe_int) pa_nil))) pa_nil))) (pe_callD D_lawdraw (hr.mono (by omega)) (by rfl) (pa_cons (pv 0) (pa_cons pe_int pa_nil))) (fun _ _ => rfl)))))
 pss_nil)
 (pss_cons (ps_set (i := 10) sc_lawright.nd rfl (Or.inl rfl) (pe_lst (pa_cons pe_str (pa_cons (pv 9) pa_nil))))
 (pss_cons (ps_if (pt_cmpR op_ge (pv 9) pe_int (nomark _))
 (pss_cons (ps_set (i := 10) sc_lawright.nd rfl (Or.inl rfl) (pe_lst (pa_cons (pe_callD D_lawafter (hr.mono (by omega)) (by rfl) (pa_cons (pv 9) (pa_cons (pe_ix (r := rIxL K) ix_list (pv 2) (pv 8) (fun _ _ => rfl)) pa_nil))) pa_nil)))
 (pss_one (ps_asg (pe_op op_add (pe_ix (r := rIxL K) ix_list (pv 6) (pv 8) (fun _ _ => rfl)) pe_int) (pg_sub (pv 6) (pv 8) set_list))))
 pss_nil)
 (pss_cons (ps_if (pt_cmpR (op_neD hr.units) (pe_callD D_lawasked (hr.mono (by omega)) (by rfl) (pa_cons (pe_ix (r := rIxL K) ix_list (pv 5) (pv 8) (fun _ _ => rfl)) (pa_cons (pv 9) (pa_cons (pe_cmpR op_eq (pe_callD D_lawdraw (hr.mono (by omega)) (by rfl) (pa_cons (pv 0) (pa_cons pe_int pa_nil))) pe_int (nomark _)) pa_nil)))) (pv 10) (nomark _))
 (pss_one (ps_ret pe_bl))
 pss_nil)
 (pss_one (ps_if (pt_cmpR (op_neD hr.units) (pe_lc (own := [("one", 4)]) (g := gName 4) rfl sc_lawright.nd (pi_list (pv 5)) (blkOk_by (own := [("one", 4)]) (N := ["pool", "far", "kept", "passed", "one", "secrets", "counts_here", "turn", "which", "long", "due", "bad", "wrong"]) (sc := defScope s_lawright) (by decide +kernel)) (fun _ _ _ _ _ => (pg_name (i := 4) sc_lawright.nd rfl (Or.inl rfl))) (fun _ _ _ _ _ => pts_nil) (fun _ _ _ _ _ => (pe_pr P_questions (hr.mono (by omega)) (pv 4)))) (pv 6) (nomark _))
 (pss_one (ps_ret pe_bl))
 pss_nil)))))))))
 (pss_cons (ps_set (i := 9) sc_lawright.nd rfl (Or.inl rfl) (pe_op op_add (pe_op op_pow pe_int pe_int) (pe_callD D_lawdraw (hr.mono (by omega)) (by rfl) (pa_cons (pv 0) (pa_cons pe_int pa_nil)))))
 (pss_cons (ps_if (pt_cmpR op_ne (pe_m M_ask at0 (hr.mono (by omega)) (pe_ix (r := rIxL K) ix_list (pv 5) pe_int (fun _ _ => rfl)) (pa_cons (pe_callD D_greatestorigin (hr.mono (by omega)) (by rfl) (pa_cons (pv 9) (pa_cons (pe_ix (r := rIxL K) ix_list (pv 2) pe_int (fun _ _ => rfl)) pa_nil))) pa_nil)) (pv 9) (nomark _))
 (pss_one (ps_ret pe_bl))
 pss_nil)
 (pss_cons (ps_asg (pe_callD D_lawbadlist (hr.mono (by omega)) (by rfl) (pa_cons (pv 0) (pa_cons (pe_ix (r := rIxL K) ix_list (pv 2) pe_int (fun _ _ => rfl)) pa_nil))) (pg_unl rfl (pgs_cons (pg_name (i := 11) sc_lawright.nd rfl (Or.inl rfl)) (pgs_cons (pg_name (i := 12) sc_lawright.nd rfl (Or.inl rfl)) pgs_nil))))
 (pss_one (ps_ret (pe_and (pe_cmpR (op_eqD hr.units) (pe_callD D_lawmade (hr.mono (by omega)) (by rfl) (pa_cons (pv 11) pa_nil)) (pe_lst (pa_cons pe_str (pa_cons (pv 12) pa_nil))) (nomark _)) (pe_one (pe_cmpR (op_eqD hr.units) (pe_callD D_lawmade (hr.mono (by omega)) (by rfl) (pa_cons (pe_ix (r := rIxL K) ix_list (pv 2) pe_int (fun _ _ => rfl)) pa_nil)) (pe_lst (pa_cons pe_str (pa_cons pe_non pa_nil))) (nomark _)))))))))))))))))), ?_⟩
    have lim : sizeLine = 16777216 := sizeLine_eq
    have w1 : 1 ≤ sizeLine := by omega
    have w2 : 2 ≤ sizeLine := by omega
    -- far
    refine ⟨10, 6, rfl, rfl, ⟨by decide, by decide, by decide⟩, w2, fun t1 ht1 => ?_⟩
    refine ⟨_, rfl, l, seed, cnt, 2, rfl, S.same (same_new ht1), by omega, by decide, by decide, fun z1 c1 H1 z10 z11 S1 hc1 k1 => ?_⟩
    obtain ⟨far, fm, fa⟩ := nth_of (xs := [9, 10 ^ (6 : Int).toNat]) z10 z11
    have fb : 2 ≤ far ∧ far ≤ 1000000 := by
      simp only [List.mem_cons, List.not_mem_nil, or_false] at fm
      rcases fm with e | e <;> subst e <;> decide
    refine ⟨t1, _, z1, .int far, rfl, rfl, SqL.of (k1 _ _ upd_same (S.ne ht1)), fa, ?_⟩
    have k01 : Keep1 H H1 l := (Keep1.of (same_new ht1)).trans k1
    -- kept
    refine ⟨_, rfl, _, rfl, l, seed, c1, 12, far, rfl, by decide, by decide, fb.1, fb.2, S1, by omega, fun p0 ks0 c2 H2 np0 S2 hc2 k2 gp0 lk0 hk0 => ?_⟩
    have k02 := k01.trans k2
    refine ⟨_, rfl, _, rfl, l, seed, c2, 3, far, rfl, by decide, by decide, fb.1, fb.2, S2, by omega, fun p1 ks1 c3 H3 np1 S3 hc3 k3 gp1 lk1 hk1 => ⟨w2, fun kp hkp => ?_⟩⟩
    have k03 := k02.trans k3
    have p0l := S1.ne np0
    have p1l := S2.ne np1
    have kpl := S3.ne hkp
    have rk0 : Rpl ks0 := fun x hx => by have := hk0 x hx; omega
    have rk1 : Rpl ks1 := fun x hx => by have := hk1 x hx; omega
    have sk := same_new (o := .lst [.ref p0, .ref p1]) hkp
    have g3p0 := sk _ _ (k3 _ _ gp0 p0l)
    have g3p1 := sk _ _ gp1
    have g3kp : (upd H3 kp (.lst [.ref p0, .ref p1])) kp = some (.lst [.ref p0, .ref p1]) := upd_same
    have S4 := S3.same sk
    have k04 := k03.trans (Keep1.of sk)
    have hkp0 : H kp = none := Rng.free k03 S3 hkp
    generalize upd H3 kp (.lst [.ref p0, .ref p1]) = H4 at g3p0 g3p1 g3kp S4 k04 ⊢
    -- passed
    refine ⟨_, rfl, kp, rfl, ⟨_, SqL.of g3kp⟩, fun D hD => lc_list (K := K) (a := kp) (xs := [V.ref p0, V.ref p1]) (fun e Hc => Same H4 (wo Hc D) ∧ ((e = 0 ∧ Hc D = some (.lst [])) ∨ (e = 1 ∧ ∃ q0, Hc D = some (.lst [.ref q0]) ∧ Hc q0 = some (.lst (ks0.map V.int)) ∧ H4 q0 = none ∧ q0 ≠ D) ∨
        (e = 2 ∧ ∃ q0 q1, Hc D = some (.lst [.ref q0, .ref q1]) ∧ Hc q0 = some (.lst (ks0.map V.int)) ∧ Hc q1 = some (.lst (ks1.map V.int)) ∧ H4 q0 = none ∧ H4 q1 = none ∧ q0 ≠ D ∧ q1 ≠ D ∧ q0 ≠ q1)))
      ⟨by rw [wo_upd]; exact same_wo (Same.refl _) hD, .inl ⟨rfl, upd_same⟩⟩ (fun i Hc _ h => SqL.of (h.1.trans wo_same _ _ g3kp)) ?_ ?_⟩
    · rintro e v Hc he ⟨sc, hcD⟩
      rcases hcD with ⟨e0, hcD⟩ | ⟨e0, q0, hcD, gq0, nq0, nqD⟩ | ⟨e0, _⟩
      · subst e0
        cases he
        have g := sc.trans wo_same _ _ g3p0
        refine ⟨rfl, _, rfl, p0, _, rfl, .inl (SqL.of g), fun q0 hq0 => ⟨[], same_new hq0 _ _ hcD, by show 0 < sizeLine; omega, ?_, ?_⟩⟩
        · rw [wo_upd]
          exact sc.trans (same_wo (wo_same.trans (same_new hq0)) wo_self)
        · have nqD : q0 ≠ D := fun z => by rw [z, hcD] at hq0; cases hq0
          exact .inr (.inl ⟨rfl, q0, upd_same, by rw [upd_ne nqD, upd_same], (sc.trans wo_same).free hq0, nqD⟩)
      · subst e0
        cases he
        have g := sc.trans wo_same _ _ g3p1
        refine ⟨rfl, _, rfl, p1, _, rfl, .inl (SqL.of g), fun q1 hq1 => ⟨[.ref q0], same_new hq1 _ _ hcD, by show 1 < sizeLine; omega, ?_, ?_⟩⟩
        · rw [wo_upd]
          exact sc.trans (same_wo (wo_same.trans (same_new hq1)) wo_self)
        · have nqD1 : q1 ≠ D := fun z => by rw [z, hcD] at hq1; cases hq1
          exact .inr (.inr ⟨rfl, q0, q1, upd_same, by rw [upd_ne nqD]; exact same_new hq1 _ _ gq0, by rw [upd_ne nqD1, upd_same], nq0, (sc.trans wo_same).free hq1, nqD, nqD1, ne_of_none gq0 hq1⟩)
      · subst e0
        cases he
    · rintro Hc ⟨sc, hcD⟩
      rcases hcD with ⟨e0, _⟩ | ⟨e0, _⟩ | ⟨_, q0, q1, hcD, gq0, gq1, nq0, nq1, nq0D, nq1D, nqq⟩
      · cases e0
      · cases e0
      have s4c : Same H4 Hc := sc.trans wo_same
      clear sc
      have S5 := S4.same s4c
      have k05 := k04.trans (Keep1.of s4c)
      have hD0 : H D = none := Rng.free k04 S4 hD
      have hq00 : H q0 = none := Rng.free k04 S4 nq0
      have hq10 : H q1 = none := Rng.free k04 S4 nq1
      have g5kp := s4c _ _ g3kp
      have g5p0 := s4c _ _ g3p0
      have g5p1 := s4c _ _ g3p1
      have nlq0 : q0 ≠ l := S4.ne nq0
      have nlq1 : q1 ≠ l := S4.ne nq1
      have n0kp : q0 ≠ kp := fun z => by rw [z, g3kp] at nq0; cases nq0
      have n0p0 : q0 ≠ p0 := fun z => by rw [z, g3p0] at nq0; cases nq0
      have n0p1 : q0 ≠ p1 := fun z => by rw [z, g3p1] at nq0; cases nq0
      have n1kp : q1 ≠ kp := fun z => by rw [z, g3kp] at nq1; cases nq1
      have n1p0 : q1 ≠ p0 := fun z => by rw [z, g3p0] at nq1; cases nq1
      have n1p1 : q1 ≠ p1 := fun z => by rw [z, g3p1] at nq1; cases nq1
      clear hD g3kp g3p0 g3p1 s4c nq0 nq1 k04 S4
      -- secrets
      refine ⟨_, rfl, D, _, 0, .ref q0, rfl, rfl, SqL.of hcD, rfl, fun x0 dx0 nx0 ndx0 nex0 => ⟨x0, dx0, q0, ks0, rfl, upd_same, SqL.of (made nx0 ndx0 _ _ gq0), rk0, fun d0 H6 hd0 I0 but6 => ⟨rfl, ?_⟩⟩⟩
      have s56 : Same Hc H6 := fun b o e => but6 b o (made nx0 ndx0 _ _ e) (ne_of_none e nx0)
      have xl0 := S5.ne nx0
      have h0x0 : H x0 = none := Rng.free k05 S5 nx0
      have dl0 := S5.ne ((made (C := C) nx0 ndx0).free hd0)
      have dn0 := (made (C := C) nx0 ndx0).free hd0
      have S6 := S5.same s56
      refine ⟨_, rfl, D, _, 1, .ref q1, rfl, rfl, SqL.of (s56 _ _ hcD), rfl, rfl, fun x1 dx1 nx1 ndx1 nex1 => ⟨x1, dx1, q1, ks1, rfl, upd_same, SqL.of (made nx1 ndx1 _ _ (s56 _ _ gq1)), rk1, fun d1 H7 hd1 I1 but7 => ⟨rfl, w2, fun sc hsc => ?_⟩⟩⟩
      have s67 : Same H6 H7 := fun b o e => but7 b o (made nx1 ndx1 _ _ e) (ne_of_none e nx1)
      have xl1 := S6.ne nx1
      have h0x1 : H x1 = none := Rng.free k05 S5 (s56.free nx1)
      have dl1 := S6.ne ((made (C := C) nx1 ndx1).free hd1)
      have S7 := S6.same s67
      have s8 := same_new (o := .lst [.ref x0, .ref x1]) hsc
      have g8 : (upd H7 sc (.lst [.ref x0, .ref x1])) sc = some (.lst [.ref x0, .ref x1]) := upd_same
      have scl := S7.ne hsc
      have xx : x0 ≠ x1 := by
        obtain ⟨dx, e⟩ := I0.ob
        exact ne_of_none e nx1
      have I0 := (I0.same s67).same s8
      have I1 := I1.same s8
      have S8 := S7.same s8
      have s58 := (s56.trans s67).trans s8
      have k08 := k05.trans (Keep1.of s58)
      have g8kp := s58 _ _ g5kp
      have g8p0 := s58 _ _ g5p0
      have g8p1 := s58 _ _ g5p1
      have g8D := s58 _ _ hcD
      have g8q0 := s58 _ _ gq0
      have g8q1 := s58 _ _ gq1
      have nd0q0 : d0 ≠ q0 := fun z => by rw [z, gq0] at dn0; cases dn0
      have nd0q1 : d0 ≠ q1 := fun z => by rw [z, gq1] at dn0; cases dn0
      have dn1 := (made (C := C) nx1 ndx1).free hd1
      have nd1q0 : d1 ≠ q0 := fun z => by rw [z, s56 _ _ gq0] at dn1; cases dn1
      have nd1q1 : d1 ≠ q1 := fun z => by rw [z, s56 _ _ gq1] at dn1; cases dn1
      have nscq0 : sc ≠ q0 := fun z => by rw [z, s67 _ _ (s56 _ _ gq0)] at hsc; cases hsc
      have nscq1 : sc ≠ q1 := fun z => by rw [z, s67 _ _ (s56 _ _ gq1)] at hsc; cases hsc
      clear but6 but7 hd0 hd1 hsc s67 s56 s8 k05 S5 S6 S7 gq0 gq1 hcD g5kp g5p0 g5p1 nx0 nx1 ndx0 ndx1 nex0 nex1 s58 dn0 dn1
      generalize upd H7 sc (.lst [.ref x0, .ref x1]) = H8 at I0 I1 S8 k08 g8kp g8p0 g8p1 g8D g8q0 g8q1 g8 ⊢
      -- passed is as kept
      have dP : DpAll K H8 [.ref q0, .ref q1] (dRows [ks0, ks1]) := .cons (.lst (SqL.of g8q0) (dp_ints ks0)) (.cons (.lst (SqL.of g8q1) (dp_ints ks1)) .nil)
      have dK : DpAll K H8 [.ref p0, .ref p1] (dRows [ks0, ks1]) := .cons (.lst (SqL.of g8p0) (dp_ints ks0)) (.cons (.lst (SqL.of g8p1) (dp_ints ks1)) .nil)
      refine ⟨_, rfl, _, rfl, .list (dRows [ks0, ks1]), .list (dRows [ks0, ks1]), .lst (SqL.of g8D) dP, .lst (SqL.of g8kp) dK, shaped_rows [ks0, ks1], shaped_rows [ks0, ks1], _, rfl, ?_⟩
      rw [PySem.SeqAt.eqv_refl _ (PySem.SeqAt.canLay_of_shaped (shaped_rows [ks0, ks1]))]
      refine iteF ?_
      clear dP dK
      refine ⟨_, rfl, D, _, 0, .ref q0, rfl, rfl, SqL.of g8D, rfl, .inl ⟨rfl, _, SqL.of g8q0⟩, q0, _, rfl, rfl, g8q0, ?_⟩
      refine ⟨_, rfl, D, _, 1, .ref q1, rfl, rfl, SqL.of (by rw [upd_ne nq0D.symm]; exact g8D), rfl, .inl ⟨rfl, _, SqL.of (by rw [upd_ne nqq.symm]; exact g8q1)⟩, q1, _, _, rfl, rfl, by rw [upd_ne nqq.symm]; exact g8q1, by rw [List.length_map]; omega, ?_⟩
      refine ⟨w2, fun ch hch => ?_⟩
      have nx0q0 := (notx I0 g8q0).symm
      have nx0q1 := (notx I0 g8q1).symm
      have nx1q0 := (notx I1 g8q0).symm
      have nx1q1 := (notx I1 g8q1).symm
      obtain ⟨G9, eG9⟩ : ∃ G9, G9 = upd (upd H8 q0 (.lst [])) q1 (.lst (ks1.map V.int ++ [.int 7])) := ⟨_, rfl⟩
      rw [← eG9] at hch ⊢
      have k09 : Keep1 H G9 l := fun b o e nb => by
        rw [eG9, upd_ne (ne_of_none e hq10), upd_ne (ne_of_none e hq00)]
        exact k08 _ _ e nb
      have mv : ∀ {a : Addr} {o : HO}, H8 a = some o → a ≠ q0 → a ≠ q1 → G9 a = some o := fun e h1 h2 => by
        rw [eG9, upd_ne h2, upd_ne h1]
        exact e
      have S9 : Rng G9 l seed c3 := by rw [eG9]; exact (S8.upd nlq0).upd nlq1
      have hch0 : H ch = none := Rng.free k09 S9 hch
      have chl := S9.ne hch
      have I0' : HidAt C G9 x0 d0 ks0 0 := by
        obtain ⟨dx, e⟩ := I0.ob
        exact ⟨⟨dx, mv e nx0q0 nx0q1⟩, mv I0.rp nd0q0 nd0q1⟩
      have I1' : HidAt C G9 x1 d1 ks1 0 := by
        obtain ⟨dx, e⟩ := I1.ob
        exact ⟨⟨dx, mv e nx1q0 nx1q1⟩, mv I1.rp nd1q0 nd1q1⟩
      have sch := same_new (o := .lst [.int 0, .int 0]) hch
      obtain ⟨Pf, X, Dd, KS, st, ap, rkK, lnK, nX⟩ : ∃ (Pf X Dd : Nat → Addr) (KS : Nat → List Int), St C l seed kp sc ch Pf X Dd KS (upd G9 ch (.lst [.int 0, .int 0])) c3 (fun _ => 0) (fun _ => 0) ∧ Apart l kp sc ch Pf X Dd ∧ (∀ i, i < 2 → Rpl (KS i)) ∧ (∀ i, i < 2 → (KS i).length ≤ 12) ∧ (∀ i, i < 2 → H (X i) = none) := by
        refine ⟨fun i => if i = 0 then p0 else p1, fun i => if i = 0 then x0 else x1, fun i => if i = 0 then d0 else d1, fun i => if i = 0 then ks0 else ks1, ⟨S9.same sch, fun i hi => ?_, upd_same, sch _ _ (mv g8kp n0kp.symm n1kp.symm), sch _ _ (mv g8 nscq0 nscq1), fun i hi => ?_⟩,
          ⟨chl, kpl, scl, fun i hi => ?_, fun i hi => ?_, fun i hi => ?_, ne_of_none (mv g8kp n0kp.symm n1kp.symm) hch, ne_of_none (mv g8 nscq0 nscq1) hch, fun i hi => ?_, fun i hi => ?_, xx⟩, fun i hi => ?_, fun i hi => ?_, fun i hi => ?_⟩
        all_goals rcases two_i hi with rfl | rfl
        · exact I0'.same sch
        · exact I1'.same sch
        · exact sch _ _ (mv g8p0 n0p0.symm n1p0.symm)
        · exact sch _ _ (mv g8p1 n0p1.symm n1p1.symm)
        · exact p0l
        · exact p1l
        · exact xl0
        · exact xl1
        · exact dl0
        · exact dl1
        · exact ne_of_none (mv g8p0 n0p0.symm n1p0.symm) hch
        · exact ne_of_none (mv g8p1 n0p1.symm n1p1.symm) hch
        · exact ne_of_none I0'.rp hch
        · exact ne_of_none I1'.rp hch
        · exact rk0
        · exact rk1
        · show ks0.length ≤ 12
          omega
        · show ks1.length ≤ 12
          omega
        · exact h0x0
        · exact h0x1
      have k010 := k09.trans (Keep1.of sch)
      have hc3' : c3 ≤ cnt + 33 := by omega
      clear mv I0' I1' S9 I0 I1 g8 g8D g8kp g8p0 g8p1 g8q0 g8q1 nx0q0 nx0q1 nx1q0 nx1q1 S8 k08 nd0q0 nd0q1 nd1q0 nd1q1 nscq0 nscq1 sch rk0 rk1 hk0 hk1 h0x0 h0x1 k09 hch gp0 gp1
      generalize upd G9 ch (.lst [.int 0, .int 0]) = HA at st k010 ⊢
      -- the questions
      refine ⟨_, rfl, l, seed, c3, 31, rfl, st.rng, by omega, by decide, by decide, fun m cB HB m0 m1 SB hcB kB => ?_⟩
      have st := st.keep ap kB SB
      have kHB := k010.trans kB
      refine ⟨m, rfl, by omega, by omega, for_range (lo := 0) (n := m.toNat) (fun i σ H' => ∃ cnt' cn y4 y7 y8 y9 y10, σ = [some (.ref l), some (.int far), some (.ref kp), some (.ref D), y4, some (.ref sc), some (.ref ch), y7, y8, y9, y10, none, none] ∧ St C l seed kp sc ch Pf X Dd KS H' cnt' cn cn ∧ cnt' ≤ cB + 11 * i ∧ (∀ b o, H b = some o → b ≠ l → H' b = some o))
        ⟨cB, fun _ => 0, none, none, none, none, none, rfl, st, by omega, kHB⟩ ?_ ?_⟩
      · rintro i σ H5 hi ⟨c5, cn, y4, y7, y8, y9, y10, rfl, st, hc5, kH5⟩
        have i30 : i < 30 := by omega
        refine ⟨_, rfl, l, seed, c5, 2, rfl, st.rng, by omega, by decide, by decide, fun zw c6 H6 zw0 zw1 S6 hc6 k6 => ?_⟩
        obtain ⟨wh, hw, rfl⟩ := at2 zw0 zw1
        have st := st.keep ap k6 S6
        have kH6 : Keep1 H H6 l := fun b o e nb => k6 _ _ (kH5 b o e nb) nb
        have lnw := lnK wh hw
        refine ⟨_, rfl, _, rfl, _, rfl, kp, _, (wh : Int), .ref (Pf wh), rfl, rfl, SqL.of st.gkp, atf (fun j => V.ref (Pf j)) hw, l, Pf wh, seed, c6, KS wh, rfl, st.rng, by omega, st.gp wh hw, ap.pl wh hw, by omega, rkK wh hw, fun lg c7 H7 L0 S7 hc7 k7 => ?_⟩
        have st := st.keep ap k7 S7
        have kH7 := kH6.trans k7
        refine tellNx (fun σ2 H2 => ∃ lg c8, σ2 = [some (.ref l), some (.int far), some (.ref kp), some (.ref D), y4, some (.ref sc), some (.ref ch), some (.int (0 + (i : Int))), some (.int (wh : Int)), some (.int lg), y10, none, none] ∧ St C l seed kp sc ch Pf X Dd KS H2 c8 cn cn ∧ c8 ≤ c7 + 3 ∧ Keep1 H H2 l) (fun N hN => ?_) (fun σ2 H2 h => ?_)
        · refine ⟨_, rfl, l, seed, c7, 5, rfl, st.rng, by omega, by decide, by decide, fun z8 c8 H8 z80 z81 S8 hc8 k8 => ?_⟩
          have st := st.keep ap k8 S8
          have kH8 := kH7.trans k8
          refine ⟨rfl, _, rfl, ite2 (fun _ => ?_) (fun _ => hN _ _ ⟨lg, c8, rfl, st, by omega, kH8⟩)⟩
          refine ⟨1, rfl, _, rfl, 10, 29, rfl, rfl, ⟨by decide, by decide, by decide⟩, l, seed, c8, _, rfl, st.rng, by omega, by decide, by decide, fun zb c9 H9 zb0 zb1 S9 hc9 k9 => ⟨w2, fun t ht => ?_⟩⟩
          have st := (st.keep ap k9 S9).same (same_new (o := .lst [.int 0, .int zb]) ht)
          have kH9 := (kH8.trans k9).trans (Keep1.of (same_new (o := .lst [.int 0, .int zb]) ht))
          refine ⟨_, rfl, l, seed, c9, 2, rfl, st.rng, by omega, by decide, by decide, fun zc c10 H10 zc0 zc1 S10 hc10 k10 => ?_⟩
          obtain ⟨y, ym, ya⟩ := nth_of (xs := [0, zb]) (z := zc) zc0 zc1
          exact ⟨t, _, zc, .int y, rfl, rfl, SqL.of (k10 _ _ upd_same (S9.ne ht)), ya, -1, y, rfl, rfl, hN _ _ ⟨-1 - y, c10, rfl, st.keep ap k10 S10, by omega, kH9.trans k10⟩⟩
        clear st kH7 kH6 L0 S7 k7 S6 k6 kH5
        obtain ⟨lg, c8, rfl, st, hc8, kH⟩ := h
        refine ⟨_, rfl, w2, fun t9 ht9 => ?_⟩
        have s9 := same_new (o := .lst [.str "number", .int lg]) ht9
        have g9 : (upd H2 t9 (.lst [.str "number", .int lg])) t9 = some (.lst [.str "number", .int lg]) := upd_same
        have n9ch : t9 ≠ ch := fun z => by rw [z, st.gch] at ht9; cases ht9
        have n9l := st.rng.ne ht9
        have st := st.same s9
        have kH := kH.trans (Keep1.of s9)
        generalize upd H2 t9 (.lst [.str "number", .int lg]) = H9 at st kH g9 ⊢
        refine tellNx (fun σ2 H2 => ∃ t10 cm due, σ2 = [some (.ref l), some (.int far), some (.ref kp), some (.ref D), y4, some (.ref sc), some (.ref ch), some (.int (0 + (i : Int))), some (.int (wh : Int)), some (.int lg), some (.ref t10), none, none] ∧ St C l seed kp sc ch Pf X Dd KS H2 c8 cn cm ∧ Keep1 H H2 l ∧ t10 ≠ l ∧ H2 t10 = some (.lst due) ∧
          ((0 ≤ lg ∧ (∀ j, j < 2 → cm j = if j = wh then cn wh + 1 else cn j) ∧ due = [.int (sq lg (KS wh))]) ∨ (lg < 0 ∧ cm = cn ∧ due = [.str "number", .int lg]))) (fun N hN => ?_) (fun σ2 H2 h => ?_)
        · refine ⟨_, rfl, _, _, rfl, rfl, _, rfl, ite2 (fun c => ?_) (fun c => hN _ _ ⟨t9, cn, _, rfl, st, kH, n9l, g9, .inr ⟨by have : ¬ (0 : Int) ≤ lg := fun z => c (decide_eq_true z); omega, rfl, rfl⟩⟩)⟩
          have c0 : (0 : Int) ≤ lg := of_decide_eq_true c
          refine ⟨_, rfl, _, rfl, _, rfl, kp, _, (wh : Int), .ref (Pf wh), rfl, rfl, SqL.of st.gkp, atf (fun j => V.ref (Pf j)) hw, lg, Pf wh, KS wh, rfl, SqL.of (st.gp wh hw), rkK wh hw, w1, fun t10 ht10 => ?_⟩
          have n10l := st.rng.ne ht10
          have n10c : t10 ≠ ch := fun z => by rw [z, st.gch] at ht10; cases ht10
          have s10 := same_new (o := .lst [.int (sq lg (KS wh))]) ht10
          have g10 : (upd H9 t10 (.lst [.int (sq lg (KS wh))])) t10 = some (.lst [.int (sq lg (KS wh))]) := upd_same
          have st := st.same s10
          have kH := kH.trans (Keep1.of s10)
          generalize upd H9 t10 (.lst [.int (sq lg (KS wh))]) = H10 at st kH g10 ⊢
          have fin : ∀ G, G = upd H10 ch (.lst [.int (if 0 = wh then cn wh + 1 else cn 0), .int (if 1 = wh then cn wh + 1 else cn 1)]) → N [some (.ref l), some (.int far), some (.ref kp), some (.ref D), y4, some (.ref sc), some (.ref ch), some (.int (0 + (i : Int))), some (.int (wh : Int)), some (.int lg), some (.ref t10), none, none] G := fun G eG => by
            subst eG
            refine hN _ _ ⟨t10, fun j => if j = wh then cn wh + 1 else cn j, _, rfl, st.count ap upd_same (fun a o e n => by rw [upd_ne n]; exact e), fun b o e nb => by rw [upd_ne (ne_of_none e hch0)]; exact kH b o e nb, n10l, by rw [upd_ne n10c]; exact g10, .inl ⟨c0, fun j _ => rfl, rfl⟩⟩
          refine ⟨_, rfl, _, rfl, ch, _, (wh : Int), .int (cn wh), rfl, rfl, SqL.of st.gch, atf (fun j => V.int (cn j)) hw, _, 1, rfl, rfl, ?_⟩
          rcases two_i hw with rfl | rfl
          · exact ⟨_, rfl, _, rfl, ch, _, ((0 : Nat) : Int), 0, rfl, rfl, st.gch, rfl, fin _ rfl⟩
          · exact ⟨_, rfl, _, rfl, ch, _, ((1 : Nat) : Int), 1, rfl, rfl, st.gch, rfl, fin _ rfl⟩
        clear st kH g9
        obtain ⟨t10, cm, due, rfl, st, kH, n10l, g10, hd⟩ := h
        have n10x : t10 ≠ X wh := notx (st.hid wh hw) g10
        refine tellSeq (fun σ2 H3 => ∃ c11, σ2 = [some (.ref l), some (.int far), some (.ref kp), some (.ref D), y4, some (.ref sc), some (.ref ch), some (.int (0 + (i : Int))), some (.int (wh : Int)), some (.int lg), some (.ref t10), none, none] ∧ St C l seed kp sc ch Pf X Dd KS H3 c11 cm cm ∧ Keep1 H H3 l ∧ c11 ≤ c8 + 1) (fun N hN => ?_) (fun σ2 H3 h => ?_)
        · refine ⟨_, rfl, _, rfl, sc, _, (wh : Int), .ref (X wh), rfl, rfl, SqL.of st.gsc, atf (fun j => V.ref (X j)) hw, _, rfl, _, rfl, l, seed, c8, 2, rfl, st.rng, by omega, by decide, by decide, fun z11 c11 H11 z110 z111 S11 hc11 k11 => ⟨rfl, ?_⟩⟩
          have st := st.keep ap k11 S11
          have kH := kH.trans k11
          have g10 := k11 _ _ g10 n10l
          refine ⟨X wh, Dd wh, KS wh, cn wh, lg, _, rfl, st.hid wh hw, rkK wh hw, fun L0 t12 H12 nt12 I12 but12 g12 => ?_, fun Ln t12 H12 nt12 s12 g12 => ?_⟩
          · rcases hd with ⟨_, ecm, rfl⟩ | ⟨x, _⟩
            · refine ⟨_, rfl, .list ([sq lg (KS wh)].map PyData.int), .list ([sq lg (KS wh)].map PyData.int), .lst (SqL.of g12) (.cons (.int _) .nil), .lst (SqL.of (but12 _ _ g10 n10x)) (.cons (.int _) .nil), shaped_ints _, shaped_ints _, _, rfl, ?_⟩
              rw [PySem.SeqAt.eqv_refl _ (PySem.SeqAt.canLay_of_shaped (shaped_ints [sq lg (KS wh)]))]
              exact iteF (hN _ _ ⟨c11, rfl, st.but ap hw I12 but12 ecm, fun b o e nb => but12 _ _ (kH b o e nb) (ne_of_none e (nX wh hw)), hc11⟩)
            · omega
          · rcases hd with ⟨x, _⟩ | ⟨_, rfl, rfl⟩
            · omega
            · refine ⟨_, rfl, .list [.str "number", .int lg], .list [.str "number", .int lg], .lst (SqL.of g12) (.cons (.str _) (.cons (.int _) .nil)), .lst (SqL.of (s12 _ _ g10)) (.cons (.str _) (.cons (.int _) .nil)), sh_num _, sh_num _, _, rfl, ?_⟩
              rw [PySem.SeqAt.eqv_refl _ (PySem.SeqAt.canLay_of_shaped (sh_num lg))]
              exact iteF (hN _ _ ⟨c11, rfl, st.same s12, kH.trans (Keep1.of s12), hc11⟩)
        clear st kH g10 hd
        obtain ⟨c11, rfl, st, kH, hc11⟩ := h
        -- the counts
        refine ⟨_, rfl, sc, rfl, ⟨_, SqL.of st.gsc⟩, fun D3 hD3 => lc_list (K := K) (a := sc) (xs := [V.ref (X 0), V.ref (X 1)]) (fun e Hc => Same H3 Hc ∧ Hc D3 = some (.lst (([cm 0, cm 1].take e).map V.int))) ⟨same_new hD3, upd_same⟩ (fun i Hc _ h => SqL.of (h.1 _ _ st.gsc)) ?_ ?_⟩
        · rintro e v Hc he ⟨s3, hcD⟩
          have e2 : e < 2 := (List.getElem?_eq_some_iff.mp he).1
          have ev : v = .ref (X e) := by
            rcases two_i e2 with rfl | rfl <;> cases he <;> rfl
          subst ev
          obtain ⟨dxe, ee⟩ := (st.hid e e2).ob
          refine ⟨rfl, _, rfl, X e, dxe, _, rfl, s3 _ _ ee, X e, Dd e, KS e, cm e, rfl, (st.hid e e2).same s3, _, hcD, by rw [List.length_map, List.length_take]; have : min e [cm 0, cm 1].length ≤ 2 := Nat.min_le_right _ _; omega, fun b o eb => ?_, ?_⟩
          · rw [upd_ne (ne_of_none eb hD3)]
            exact s3 _ _ eb
          · rw [upd_same]
            rcases two_i e2 with rfl | rfl <;> rfl
        · rintro Hc ⟨s3, hcD⟩
          have st := st.same s3
          refine ⟨_, rfl, .list ([cm 0, cm 1].map PyData.int), .list ([cm 0, cm 1].map PyData.int), .lst (SqL.of hcD) (dp_ints [cm 0, cm 1]), .lst (SqL.of st.gch) (dp_ints [cm 0, cm 1]), shaped_ints _, shaped_ints _, _, rfl, ?_⟩
          rw [PySem.SeqAt.eqv_refl _ (PySem.SeqAt.canLay_of_shaped (shaped_ints [cm 0, cm 1]))]
          exact iteF ⟨c11, cm, _, _, _, _, _, rfl, st, by omega, fun b o e nb => s3 _ _ (kH b o e nb)⟩
      · rintro σ H5 ⟨c5, cn, y4, y7, y8, y9, y10, rfl, st, hc5, kH5⟩
        have kH : Keep1 H H5 l := kH5
        refine ⟨10, 29, rfl, rfl, ⟨by decide, by decide, by decide⟩, _, rfl, l, seed, c5, 99, rfl, st.rng, by omega, by decide, by decide, fun z6 c6 H6 z60 z61 S6 hc6 k6 => ⟨_, z6, rfl, rfl, ?_⟩⟩
        have e29 : (10 : Int) ^ (29 : Int).toNat = 100000000000000000000000000000 := by decide
        have L0 : 0 ≤ (10 : Int) ^ (29 : Int).toNat + z6 := by rw [e29]; omega
        have st := st.keep ap k6 S6
        have kH := kH.trans k6
        obtain ⟨dx0', e0⟩ := (st.hid 0 (by decide)).ob
        refine ⟨_, rfl, sc, _, 0, .ref (X 0), rfl, rfl, SqL.of st.gsc, rfl, X 0, dx0', _, rfl, e0, hfs_no _ _ (by decide +kernel) (by decide +kernel), _, rfl, _, rfl, kp, _, 0, .ref (Pf 0), rfl, rfl, SqL.of st.gkp, rfl, _, Pf 0, KS 0, rfl, SqL.of (st.gp 0 (by decide)), L0, rkK 0 (by decide), fun H7 s7 => ?_⟩
        have st := st.same s7
        have kH := kH.trans (Keep1.of s7)
        refine ⟨X 0, Dd 0, KS 0, cn 0, _, rfl, st.hid 0 (by decide), Int.mul_nonneg L0 (Int.le_of_lt (pro_pos fun k hk => by have := (rkK 0 (by decide) k hk).1; omega)), rkK 0 (by decide), fun H8 I8 but8 => ?_⟩
        refine ⟨_, rfl, rfl, _, rfl, iteNS (congrArg V.int (by rw [Int.mul_comm]; exact sq_mul _ _ (rkK 0 (by decide)).two)) ?_⟩
        have S8 := st.rng.but but8 (ap.xl 0 (by decide)).symm
        have g8kp := but8 _ _ st.gkp (notx (st.hid 0 (by decide)) st.gkp)
        have g8p0 := but8 _ _ (st.gp 0 (by decide)) (notx (st.hid 0 (by decide)) (st.gp 0 (by decide)))
        have g8p1 := but8 _ _ (st.gp 1 (by decide)) (notx (st.hid 0 (by decide)) (st.gp 1 (by decide)))
        have kH : Keep1 H H8 l := fun b o e nb => but8 _ _ (kH b o e nb) (ne_of_none e (nX 0 (by decide)))
        have ln1 := lnK 1 (by decide)
        refine ⟨_, rfl, _, rfl, kp, _, 1, .ref (Pf 1), rfl, rfl, SqL.of g8kp, rfl, l, Pf 1, seed, c6, KS 1, rfl, S8, by omega, SqL.of g8p1, by omega, fun t p bs j c9 H9 gt gp nt np S9 hc9 k9 lb hj => ⟨t, _, rfl, SqL.of gt, rfl, _, _, rfl, _, _, rfl, rfl, ?_⟩⟩
        have kH := kH.trans k9
        have g9kp := k9 _ _ g8kp ap.kpl
        have g9p0 := k9 _ _ g8p0 (ap.pl 0 (by decide))
        refine ⟨_, rfl, p, bs, rfl, SqL.of gp, fun t2 H10 nt2 s10 gt2 => ⟨_, rfl, w2, fun t3 ht3 => ?_⟩⟩
        have e2 : dueMade bs = [.str "list", .int (j : Int)] := by unfold dueMade; rw [hj]
        rw [e2] at gt2
        refine ⟨.list [.str "list", .int (j : Int)], .list [.str "list", .int (j : Int)], .lst (SqL.of (same_new ht3 _ _ gt2)) (.cons (.str _) (.cons (.int _) .nil)), .lst (SqL.of upd_same) (.cons (.str _) (.cons (.int _) .nil)), sh_lst _, sh_lst _, _, rfl, ?_⟩
        rw [eq_self (sh_lst (j : Int))]
        have s93 := s10.trans (same_new (o := .lst [.str "list", .int (j : Int)]) ht3)
        refine iteT ⟨_, rfl, kp, _, 0, .ref (Pf 0), rfl, rfl, SqL.of (s93 _ _ g9kp), rfl, Pf 0, KS 0, rfl, SqL.of (s93 _ _ g9p0), fun t4 H11 nt4 s11 gt4 => ⟨w2, fun t5 ht5 => ?_⟩⟩
        have e4 : dueMade (KS 0) = [.str "none", .non] := by unfold dueMade; rw [(rkK 0 (by decide)).low]
        rw [e4] at gt4
        refine ⟨.list [.str "none", .none], .list [.str "none", .none], .lst (SqL.of (same_new ht5 _ _ gt4)) (.cons (.str _) (.cons .non .nil)), .lst (SqL.of upd_same) (.cons (.str _) (.cons .non .nil)), sh_non, sh_non, ?_⟩
        rw [eq_self sh_non]
        have s95 := (s93.trans s11).trans (same_new (o := .lst [.str "none", .non]) ht5)
        exact q _ c9 (S9.same s95) (by omega) (kH.trans (Keep1.of s95))
end
end Sq

set_option Elab.async false
set_option linter.all false
set_option maxRecDepth 100000
set_option maxHeartbeats 2000000
/-! Methods called by keywords: one value by place, the rest by name. -/
namespace Sq
open PySem PySem.Spec PyProof.Rows L2
theorem kbn_mk1 {K : PySem.W.Frag} {x qual : Str} {st : Stmt} {f : Addr} {fd : FuncData} {ps : List Str} (F : Fun K x qual st f fd) (ks : List Str) (g : List Value → List Value → List Value) (gV : List V → List V → List V)
    (rel : ∀ {vs : List V} {us : List Value} {zs : List V} {ws : List Value}, Vals vs us → Vals zs ws → Vals (gV vs zs) (g us ws))
    (h : ∀ (kV doc pm : Value) (an : Option Addr) (cdv ct u : Value) (ws : List Value), ws.length = ks.length → bindArgs (PySem.W.fnOf x qual (defArgs st) (defBody st) (defScope st) .none kV doc pm an cdv ct) ⟨[u], ks.zip ws⟩ = pure (ps.zip (g [u] ws))) : KBn K fd ps 1 ks g gV := by
  obtain ⟨oc, od, kV, doc, pm, an, cdv, ct, osl, rfl, lk, hcd⟩ := F.ex
  refine ⟨fun s us ws X l1 l2 => ?_, rel⟩
  match us, l1 with
  | [u], _ => exact .of_eq (h kV doc pm an cdv ct u ws l2)
theorem vals_app : ∀ {vs : List V} {us : List Value} {zs : List V} {ws : List Value}, Vals vs us → Vals zs ws → Vals (vs ++ zs) (us ++ ws)
  | _, _, _, _, .nil, s => s
  | _, _, _, _, .cons a r, s => .cons a (vals_app r s)
end Sq

set_option Elab.async false
set_option linter.all false
set_option maxRecDepth 100000
set_option maxHeartbeats 4000000
set_option exponentiation.threshold 2000
namespace Sq
open PySem PySem.Spec PyProof.Rows L2
section
variable {P : Program} {w : World} {K : PySem.W.Frag} {mg : Str → Option Value} {base : Heap}
def spLaw (K : PySem.W.Frag) : Sp := fun vs H Q _ => ∃ (a : Addr) (ns : List Int), vs = [.ref a] ∧ SqL K H a (ns.map V.int) ∧ ns.length ≤ 63 ∧ ∀ H', Q (.bl true) H'
theorem ok_law {f C : Addr} {fd : FuncData} (F : Fun K "law" "law" s_law f fd) (B : Bi mg) (D_lawpool : Df P w K mg base 1 "_law_pool" ["script", "at"] (spPool K)) (D_lawright : Df P w K mg base 7 "_law_right" ["pool"] spRight)
    (C_HiddenList : Mx CX0 P w K mg base 2 "HiddenList" C ["self", "replacements"] (spHidInit K C)) (M_ask : Mt CX0 P w K mg base 4 C "ask" ["self", "length"] (spHidAsk C)) : Top P w K mg base 8 f fd "script" (spLaw K) := by
  refine atTop F sc_law ⟨rfl, by decide, by decide⟩ (fun vs H Q E h => ?_) (fun cdv outer s H vs Q E hr h => ?_)
  · obtain ⟨a, ns, rfl, _⟩ := h
    rfl
  · obtain ⟨a, ns, rfl, hS, hn, q⟩ := h
    refine ⟨_, (pss_cons (ps_for PassesOwn.never rfl (pi_range1 (by rfl) B.n_range (pa_cons (pe_callB (id := "max") (call_max2 rfl) (by rfl) B.n_max (by decide +kernel) (pa_cons pe_int (pa_cons (pe_callB (id := "min") (call_min2 rfl) (by rfl) B.n_min (by decide +kernel) (pa_cons pe_int (pa_cons (pe_callB (id := "len") (r := rLenK K) call_lenK (by rfl) B.n_len (by decide +kernel) (pa_cons (pv 0) pa_nil)) pa_nil))) pa_nil))) pa_nil)) (pg_name (i := 1) sc_law.nd rfl (Or.inl rfl))
 (pss_cons (ps_set (i := 2) sc_law.nd rfl (Or.inl rfl) (pe_callD D_lawpool (hr.mono (by omega)) (by rfl) (pa_cons (pv 0) (pa_cons (pv 1) pa_nil))))
 (pss_one (ps_for PassesOwn.never rfl (pi_range1 (by rfl) B.n_range (pa_cons pe_int pa_nil)) (pg_name (i := 3) sc_law.nd rfl (Or.inl rfl))
 (pss_one (ps_if (pt_not (pt_val (pe_callD D_lawright (hr.mono (by omega)) (by rfl) (pa_cons (pv 2) pa_nil))))
 (pss_one (ps_ret pe_bl))
 pss_nil))))))
 (pss_one (ps_ret (pe_and (pe_cmpR op_eq (pe_m M_ask at0 (hr.mono (by omega)) (pe_mx C_HiddenList at0 (hr.mono (by omega)) (by rfl) (pa_cons (pe_lst pa_nil) pa_nil)) (pa_cons (pe_op op_pow pe_int pe_int) pa_nil)) (pe_op op_pow pe_int pe_int) (nomark _)) (pe_one (pe_cmpR op_eq (pe_m M_ask at0 (hr.mono (by omega)) (pe_mx C_HiddenList at0 (hr.mono (by omega)) (by rfl) (pa_cons (pe_lst (pa_cons pe_int (pa_cons pe_int pa_nil))) pa_nil)) (pa_cons pe_int pa_nil)) pe_int (nomark _))))))), ?_⟩
    have lim : sizeLine = 16777216 := sizeLine_eq
    refine ⟨_, rfl, a, _, rfl, .inl hS, 8, _, rfl, 1, _, rfl, ?_⟩
    rw [List.length_map]
    obtain ⟨N, eN⟩ : ∃ N, N = (if (if (ns.length : Int) < 8 then (ns.length : Int) else 8) > 1 then (if (ns.length : Int) < 8 then (ns.length : Int) else 8) else 1) := ⟨_, rfl⟩
    have hN : 1 ≤ N ∧ N ≤ 8 := by
      rw [eN]
      split <;> split <;> omega
    refine ⟨N, by subst eN; rfl, by omega, by omega, for_range (lo := 0) (n := N.toNat) (fun i σ H' => Same H H' ∧ ∃ y1 y2 y3, σ = [some (.ref a), y1, y2, y3]) ⟨Same.refl H, none, none, none, rfl⟩ ?_ ?_⟩
    · rintro i σ H1 hi ⟨s1, y1, y2, y3, rfl⟩
      refine ⟨_, rfl, _, rfl, a, ns, i, by rw [Int.zero_add]; rfl, s1.seq hS, hn, by omega, fun l seed H2 hl s2 S2 => ?_⟩
      refine ⟨2, rfl, by decide, by decide, for_range (lo := 0) (n := 2) (fun j σ H' => ∃ cnt y3, σ = [some (.ref a), some (.int (0 + (i : Int))), some (.ref l), y3] ∧ Rng H' l seed cnt ∧ cnt ≤ 400 * j ∧ Same H1 H')
        ⟨0, y3, rfl, S2, by omega, s2⟩ ?_ ?_⟩
      · rintro j σ H3 hj ⟨cnt, y3, rfl, S3, hc3, s3⟩
        refine ⟨_, rfl, l, seed, cnt, rfl, S3, by omega, fun H4 c4 S4 hc4 k4 => ⟨_, rfl, iteF ⟨c4, _, rfl, S4, by omega, fun b o e => k4 _ _ (s3 _ _ e) (ne_of_none e hl)⟩⟩⟩
      · rintro σ H3 ⟨cnt, y3, rfl, S3, hc3, s3⟩
        exact ⟨s1.trans s3, _, _, _, rfl⟩
    · rintro σ H1 ⟨s1, y1, y2, y3, rfl⟩
      refine ⟨Nat.zero_le _, fun t1 ht1 x1 dx1 nx1 ndx1 ne1 => ⟨x1, dx1, t1, [], rfl, upd_same, SqL.of (made nx1 ndx1 _ _ upd_same), fun k h => (nomatch h), fun d1 H2 hd1 I2 but2 => ⟨rfl, ?_⟩⟩⟩
      obtain ⟨dx2, e2⟩ := I2.ob
      refine ⟨x1, dx2, _, rfl, e2, hfs_no _ _ (by decide +kernel) (by decide +kernel), 10, 29, rfl, rfl, ⟨by decide, by decide, by decide⟩, x1, d1, [], 0, _, rfl, I2, by decide, fun k h => (nomatch h), fun H3 I3 but3 => ⟨10, 29, rfl, rfl, ⟨by decide, by decide, by decide⟩, rfl, _, rfl, ?_⟩⟩
      have w2 : 2 ≤ sizeLine := by omega
      refine ite2 (fun _ => ?_) (fun c => absurd (decide_eq_true rfl) c)
      refine ⟨w2, fun t3 ht3 x2 dx3 nx2 ndx2 ne2 => ⟨x2, dx3, t3, [3, 2], rfl, upd_same, SqL.of (made nx2 ndx2 _ _ upd_same), fun k h => by simp only [List.mem_cons, List.not_mem_nil, or_false] at h; omega, fun d2 H4 hd2 I4 but4 => ⟨rfl, ?_⟩⟩⟩
      obtain ⟨dx4, e4⟩ := I4.ob
      refine ⟨x2, dx4, _, rfl, e4, hfs_no _ _ (by decide +kernel) (by decide +kernel), x2, d2, [3, 2], 0, 0, rfl, I4, by decide, fun k h => by simp only [List.mem_cons, List.not_mem_nil, or_false] at h; omega, fun H5 I5 but5 => ⟨rfl, ?_⟩⟩
      exact q _
end
end Sq
namespace Sq
open PySem PySem.Spec PyProof.Rows L2
theorem kb_init {K : PySem.W.Frag} {f : Addr} {fd : FuncData} (F : Fun K "__init__" "HiddenList.__init__" s_HiddenListinit f fd) : KBn K fd ["self", "replacements"] 1 ["replacements"] (fun us ws => us ++ ws) (fun us zs => us ++ zs) :=
  kbn_mk1 F _ _ _ vals_app fun _ _ _ _ _ _ _ ws hl => match ws, hl with | [_], _ => rfl
theorem kb_ask {K : PySem.W.Frag} {f : Addr} {fd : FuncData} (F : Fun K "ask" "HiddenList.ask" s_HiddenListask f fd) : KBn K fd ["self", "length"] 1 ["length"] (fun us ws => us ++ ws) (fun us zs => us ++ zs) :=
  kbn_mk1 F _ _ _ vals_app fun _ _ _ _ _ _ _ ws hl => match ws, hl with | [_], _ => rfl
end Sq

set_option Elab.async false
set_option linter.all false
set_option maxRecDepth 100000
set_option maxHeartbeats 4000000
namespace Sq
open PySem PySem.Spec PyProof.Rows L2
theorem all_mk {l : PySem.W.OpenLaw} {w : World} {K : PySem.W.Frag} {h : Heap} {mg : Str → Option Value} {fa : Addr} (X : K.In h) (G : h.Ns mainGlobals mg) (hfa : mg "law" = some (.ref fa))
    {f_checklist : Addr} {od_checklist an_checklist : Option Addr} {sl_checklist : Array (Option Value)} {oc_checklist kV_checklist dc_checklist pm_checklist cd_checklist ct_checklist : Value}
    (a_checklist : PySem.W.nsIn K mainGlobals "check_list" = some (some (.ref f_checklist)))
    (l_checklist : K.lookup f_checklist = some ⟨oc_checklist, od_checklist, .func (PySem.W.fnOf "check_list" "check_list" (defArgs s_checklist) (defBody s_checklist) (defScope s_checklist) .none kV_checklist dc_checklist pm_checklist an_checklist cd_checklist ct_checklist), sl_checklist⟩)
    (c_checklist : PySem.W.codeIn K cd_checklist "check_list" = true) (k_checklist : PySem.W.keepIn K (.ref f_checklist) = true)
    {f_checknumber : Addr} {od_checknumber an_checknumber : Option Addr} {sl_checknumber : Array (Option Value)} {oc_checknumber kV_checknumber dc_checknumber pm_checknumber cd_checknumber ct_checknumber : Value}
    (a_checknumber : PySem.W.nsIn K mainGlobals "check_number" = some (some (.ref f_checknumber)))
    (l_checknumber : K.lookup f_checknumber = some ⟨oc_checknumber, od_checknumber, .func (PySem.W.fnOf "check_number" "check_number" (defArgs s_checknumber) (defBody s_checknumber) (defScope s_checknumber) .none kV_checknumber dc_checknumber pm_checknumber an_checknumber cd_checknumber ct_checknumber), sl_checknumber⟩)
    (c_checknumber : PySem.W.codeIn K cd_checknumber "check_number" = true) (k_checknumber : PySem.W.keepIn K (.ref f_checknumber) = true)
    {f_greatestorigin : Addr} {od_greatestorigin an_greatestorigin : Option Addr} {sl_greatestorigin : Array (Option Value)} {oc_greatestorigin kV_greatestorigin dc_greatestorigin pm_greatestorigin cd_greatestorigin ct_greatestorigin : Value}
    (a_greatestorigin : PySem.W.nsIn K mainGlobals "greatest_origin" = some (some (.ref f_greatestorigin)))
    (l_greatestorigin : K.lookup f_greatestorigin = some ⟨oc_greatestorigin, od_greatestorigin, .func (PySem.W.fnOf "greatest_origin" "greatest_origin" (defArgs s_greatestorigin) (defBody s_greatestorigin) (defScope s_greatestorigin) .none kV_greatestorigin dc_greatestorigin pm_greatestorigin an_greatestorigin cd_greatestorigin ct_greatestorigin), sl_greatestorigin⟩)
    (c_greatestorigin : PySem.W.codeIn K cd_greatestorigin "greatest_origin" = true) (k_greatestorigin : PySem.W.keepIn K (.ref f_greatestorigin) = true)
    {f_squeezed : Addr} {od_squeezed an_squeezed : Option Addr} {sl_squeezed : Array (Option Value)} {oc_squeezed kV_squeezed dc_squeezed pm_squeezed cd_squeezed ct_squeezed : Value}
    (a_squeezed : PySem.W.nsIn K mainGlobals "squeezed" = some (some (.ref f_squeezed)))
    (l_squeezed : K.lookup f_squeezed = some ⟨oc_squeezed, od_squeezed, .func (PySem.W.fnOf "squeezed" "squeezed" (defArgs s_squeezed) (defBody s_squeezed) (defScope s_squeezed) .none kV_squeezed dc_squeezed pm_squeezed an_squeezed cd_squeezed ct_squeezed), sl_squeezed⟩)
    (c_squeezed : PySem.W.codeIn K cd_squeezed "squeezed" = true) (k_squeezed : PySem.W.keepIn K (.ref f_squeezed) = true)
    {f_lengthafter : Addr} {od_lengthafter an_lengthafter : Option Addr} {sl_lengthafter : Array (Option Value)} {oc_lengthafter kV_lengthafter dc_lengthafter pm_lengthafter cd_lengthafter ct_lengthafter : Value}
    (a_lengthafter : PySem.W.nsIn K mainGlobals "length_after" = some (some (.ref f_lengthafter)))
    (l_lengthafter : K.lookup f_lengthafter = some ⟨oc_lengthafter, od_lengthafter, .func (PySem.W.fnOf "length_after" "length_after" (defArgs s_lengthafter) (defBody s_lengthafter) (defScope s_lengthafter) .none kV_lengthafter dc_lengthafter pm_lengthafter an_lengthafter cd_lengthafter ct_lengthafter), sl_lengthafter⟩)
    (c_lengthafter : PySem.W.codeIn K cd_lengthafter "length_after" = true) (k_lengthafter : PySem.W.keepIn K (.ref f_lengthafter) = true)
    {f_lengthafterone : Addr} {od_lengthafterone an_lengthafterone : Option Addr} {sl_lengthafterone : Array (Option Value)} {oc_lengthafterone kV_lengthafterone dc_lengthafterone pm_lengthafterone cd_lengthafterone ct_lengthafterone : Value}
    (a_lengthafterone : PySem.W.nsIn K mainGlobals "length_after_one" = some (some (.ref f_lengthafterone)))
    (l_lengthafterone : K.lookup f_lengthafterone = some ⟨oc_lengthafterone, od_lengthafterone, .func (PySem.W.fnOf "length_after_one" "length_after_one" (defArgs s_lengthafterone) (defBody s_lengthafterone) (defScope s_lengthafterone) .none kV_lengthafterone dc_lengthafterone pm_lengthafterone an_lengthafterone cd_lengthafterone ct_lengthafterone), sl_lengthafterone⟩)
    (c_lengthafterone : PySem.W.codeIn K cd_lengthafterone "length_after_one" = true) (k_lengthafterone : PySem.W.keepIn K (.ref f_lengthafterone) = true)
    {f_lawpool : Addr} {od_lawpool an_lawpool : Option Addr} {sl_lawpool : Array (Option Value)} {oc_lawpool kV_lawpool dc_lawpool pm_lawpool cd_lawpool ct_lawpool : Value}
    (a_lawpool : PySem.W.nsIn K mainGlobals "_law_pool" = some (some (.ref f_lawpool)))
    (l_lawpool : K.lookup f_lawpool = some ⟨oc_lawpool, od_lawpool, .func (PySem.W.fnOf "_law_pool" "_law_pool" (defArgs s_lawpool) (defBody s_lawpool) (defScope s_lawpool) .none kV_lawpool dc_lawpool pm_lawpool an_lawpool cd_lawpool ct_lawpool), sl_lawpool⟩)
    (c_lawpool : PySem.W.codeIn K cd_lawpool "_law_pool" = true) (k_lawpool : PySem.W.keepIn K (.ref f_lawpool) = true)
    {f_lawdraw : Addr} {od_lawdraw an_lawdraw : Option Addr} {sl_lawdraw : Array (Option Value)} {oc_lawdraw kV_lawdraw dc_lawdraw pm_lawdraw cd_lawdraw ct_lawdraw : Value}
    (a_lawdraw : PySem.W.nsIn K mainGlobals "_law_draw" = some (some (.ref f_lawdraw)))
    (l_lawdraw : K.lookup f_lawdraw = some ⟨oc_lawdraw, od_lawdraw, .func (PySem.W.fnOf "_law_draw" "_law_draw" (defArgs s_lawdraw) (defBody s_lawdraw) (defScope s_lawdraw) .none kV_lawdraw dc_lawdraw pm_lawdraw an_lawdraw cd_lawdraw ct_lawdraw), sl_lawdraw⟩)
    (c_lawdraw : PySem.W.codeIn K cd_lawdraw "_law_draw" = true) (k_lawdraw : PySem.W.keepIn K (.ref f_lawdraw) = true)
    {f_lawlist : Addr} {od_lawlist an_lawlist : Option Addr} {sl_lawlist : Array (Option Value)} {oc_lawlist kV_lawlist dc_lawlist pm_lawlist cd_lawlist ct_lawlist : Value}
    (a_lawlist : PySem.W.nsIn K mainGlobals "_law_list" = some (some (.ref f_lawlist)))
    (l_lawlist : K.lookup f_lawlist = some ⟨oc_lawlist, od_lawlist, .func (PySem.W.fnOf "_law_list" "_law_list" (defArgs s_lawlist) (defBody s_lawlist) (defScope s_lawlist) .none kV_lawlist dc_lawlist pm_lawlist an_lawlist cd_lawlist ct_lawlist), sl_lawlist⟩)
    (c_lawlist : PySem.W.codeIn K cd_lawlist "_law_list" = true) (k_lawlist : PySem.W.keepIn K (.ref f_lawlist) = true)
    {f_lawafter : Addr} {od_lawafter an_lawafter : Option Addr} {sl_lawafter : Array (Option Value)} {oc_lawafter kV_lawafter dc_lawafter pm_lawafter cd_lawafter ct_lawafter : Value}
    (a_lawafter : PySem.W.nsIn K mainGlobals "_law_after" = some (some (.ref f_lawafter)))
    (l_lawafter : K.lookup f_lawafter = some ⟨oc_lawafter, od_lawafter, .func (PySem.W.fnOf "_law_after" "_law_after" (defArgs s_lawafter) (defBody s_lawafter) (defScope s_lawafter) .none kV_lawafter dc_lawafter pm_lawafter an_lawafter cd_lawafter ct_lawafter), sl_lawafter⟩)
    (c_lawafter : PySem.W.codeIn K cd_lawafter "_law_after" = true) (k_lawafter : PySem.W.keepIn K (.ref f_lawafter) = true)
    {f_lawkind : Addr} {od_lawkind an_lawkind : Option Addr} {sl_lawkind : Array (Option Value)} {oc_lawkind kV_lawkind dc_lawkind pm_lawkind cd_lawkind ct_lawkind : Value}
    (a_lawkind : PySem.W.nsIn K mainGlobals "_law_kind" = some (some (.ref f_lawkind)))
    (l_lawkind : K.lookup f_lawkind = some ⟨oc_lawkind, od_lawkind, .func (PySem.W.fnOf "_law_kind" "_law_kind" (defArgs s_lawkind) (defBody s_lawkind) (defScope s_lawkind) .none kV_lawkind dc_lawkind pm_lawkind an_lawkind cd_lawkind ct_lawkind), sl_lawkind⟩)
    (c_lawkind : PySem.W.codeIn K cd_lawkind "_law_kind" = true) (k_lawkind : PySem.W.keepIn K (.ref f_lawkind) = true)
    {f_lawbadlist : Addr} {od_lawbadlist an_lawbadlist : Option Addr} {sl_lawbadlist : Array (Option Value)} {oc_lawbadlist kV_lawbadlist dc_lawbadlist pm_lawbadlist cd_lawbadlist ct_lawbadlist : Value}
    (a_lawbadlist : PySem.W.nsIn K mainGlobals "_law_bad_list" = some (some (.ref f_lawbadlist)))
    (l_lawbadlist : K.lookup f_lawbadlist = some ⟨oc_lawbadlist, od_lawbadlist, .func (PySem.W.fnOf "_law_bad_list" "_law_bad_list" (defArgs s_lawbadlist) (defBody s_lawbadlist) (defScope s_lawbadlist) .none kV_lawbadlist dc_lawbadlist pm_lawbadlist an_lawbadlist cd_lawbadlist ct_lawbadlist), sl_lawbadlist⟩)
    (c_lawbadlist : PySem.W.codeIn K cd_lawbadlist "_law_bad_list" = true) (k_lawbadlist : PySem.W.keepIn K (.ref f_lawbadlist) = true)
    {f_lawmade : Addr} {od_lawmade an_lawmade : Option Addr} {sl_lawmade : Array (Option Value)} {oc_lawmade kV_lawmade dc_lawmade pm_lawmade cd_lawmade ct_lawmade : Value}
    (a_lawmade : PySem.W.nsIn K mainGlobals "_law_made" = some (some (.ref f_lawmade)))
    (l_lawmade : K.lookup f_lawmade = some ⟨oc_lawmade, od_lawmade, .func (PySem.W.fnOf "_law_made" "_law_made" (defArgs s_lawmade) (defBody s_lawmade) (defScope s_lawmade) .none kV_lawmade dc_lawmade pm_lawmade an_lawmade cd_lawmade ct_lawmade), sl_lawmade⟩)
    (c_lawmade : PySem.W.codeIn K cd_lawmade "_law_made" = true) (k_lawmade : PySem.W.keepIn K (.ref f_lawmade) = true)
    {f_lawasked : Addr} {od_lawasked an_lawasked : Option Addr} {sl_lawasked : Array (Option Value)} {oc_lawasked kV_lawasked dc_lawasked pm_lawasked cd_lawasked ct_lawasked : Value}
    (a_lawasked : PySem.W.nsIn K mainGlobals "_law_asked" = some (some (.ref f_lawasked)))
    (l_lawasked : K.lookup f_lawasked = some ⟨oc_lawasked, od_lawasked, .func (PySem.W.fnOf "_law_asked" "_law_asked" (defArgs s_lawasked) (defBody s_lawasked) (defScope s_lawasked) .none kV_lawasked dc_lawasked pm_lawasked an_lawasked cd_lawasked ct_lawasked), sl_lawasked⟩)
    (c_lawasked : PySem.W.codeIn K cd_lawasked "_law_asked" = true) (k_lawasked : PySem.W.keepIn K (.ref f_lawasked) = true)
    {f_lawlong : Addr} {od_lawlong an_lawlong : Option Addr} {sl_lawlong : Array (Option Value)} {oc_lawlong kV_lawlong dc_lawlong pm_lawlong cd_lawlong ct_lawlong : Value}
    (a_lawlong : PySem.W.nsIn K mainGlobals "_law_long" = some (some (.ref f_lawlong)))
    (l_lawlong : K.lookup f_lawlong = some ⟨oc_lawlong, od_lawlong, .func (PySem.W.fnOf "_law_long" "_law_long" (defArgs s_lawlong) (defBody s_lawlong) (defScope s_lawlong) .none kV_lawlong dc_lawlong pm_lawlong an_lawlong cd_lawlong ct_lawlong), sl_lawlong⟩)
    (c_lawlong : PySem.W.codeIn K cd_lawlong "_law_long" = true) (k_lawlong : PySem.W.keepIn K (.ref f_lawlong) = true)
    {f_lawright : Addr} {od_lawright an_lawright : Option Addr} {sl_lawright : Array (Option Value)} {oc_lawright kV_lawright dc_lawright pm_lawright cd_lawright ct_lawright : Value}
    (a_lawright : PySem.W.nsIn K mainGlobals "_law_right" = some (some (.ref f_lawright)))
    (l_lawright : K.lookup f_lawright = some ⟨oc_lawright, od_lawright, .func (PySem.W.fnOf "_law_right" "_law_right" (defArgs s_lawright) (defBody s_lawright) (defScope s_lawright) .none kV_lawright dc_lawright pm_lawright an_lawright cd_lawright ct_lawright), sl_lawright⟩)
    (c_lawright : PySem.W.codeIn K cd_lawright "_law_right" = true) (k_lawright : PySem.W.keepIn K (.ref f_lawright) = true)
    {f_law : Addr} {od_law an_law : Option Addr} {sl_law : Array (Option Value)} {oc_law kV_law dc_law pm_law cd_law ct_law : Value}
    (a_law : PySem.W.nsIn K mainGlobals "law" = some (some (.ref f_law)))
    (l_law : K.lookup f_law = some ⟨oc_law, od_law, .func (PySem.W.fnOf "law" "law" (defArgs s_law) (defBody s_law) (defScope s_law) .none kV_law dc_law pm_law an_law cd_law ct_law), sl_law⟩)
    (c_law : PySem.W.codeIn K cd_law "law" = true) (k_law : PySem.W.keepIn K (.ref f_law) = true)
    (z_len : PySem.W.nsIn K mainGlobals "len" = some none)
    (z_min : PySem.W.nsIn K mainGlobals "min" = some none)
    (z_max : PySem.W.nsIn K mainGlobals "max" = some none)
    (z_abs : PySem.W.nsIn K mainGlobals "abs" = some none)
    (z_range : PySem.W.nsIn K mainGlobals "range" = some none)
    (z_isinstance : PySem.W.nsIn K mainGlobals "isinstance" = some none)
    (z_repr : PySem.W.nsIn K mainGlobals "repr" = some none)
    (z_enumerate : PySem.W.nsIn K mainGlobals "enumerate" = some none)
    (z_reversed : PySem.W.nsIn K mainGlobals "reversed" = some none)
    (z_sorted : PySem.W.nsIn K mainGlobals "sorted" = some none)
    (z_bool : PySem.W.nsIn K mainGlobals "bool" = some none)
    (z_int : PySem.W.nsIn K mainGlobals "int" = some none)
    (z_str : PySem.W.nsIn K mainGlobals "str" = some none)
    (z_list : PySem.W.nsIn K mainGlobals "list" = some none)
    (z_tuple : PySem.W.nsIn K mainGlobals "tuple" = some none)
    (z_set : PySem.W.nsIn K mainGlobals "set" = some none)
    (z_sum : PySem.W.nsIn K mainGlobals "sum" = some none)
    (z_zip : PySem.W.nsIn K mainGlobals "zip" = some none)
    (z_all : PySem.W.nsIn K mainGlobals "all" = some none)
    (z_any : PySem.W.nsIn K mainGlobals "any" = some none)
    (z_ValueError : PySem.W.nsIn K mainGlobals "ValueError" = some none)
    (z_divmod : PySem.W.nsIn K mainGlobals "divmod" = some none)
    {CB : Addr} (aCB : PySem.W.nsIn K mainGlobals "SqueezeError" = some (some (.ref CB))) (iCB : PySem.W.isClsIn K CB = true) (tCB : PySem.W.typeIn K (.ref CB) = some (.type "type"))
    (third : PySem.W.nsIn K cStatics "thirdparty.any" = some none) (zSup : PySem.W.nsIn K mainGlobals "super" = some none) (hTop : (l.prog.main.scope.names.lookup ("super" : Str)).isSome = false)
    (spC : PySem.W.specialIn K (.builtin "object.__class__") "__get__" = some (some (.builtin "getset_descriptor.__get__"))) (tkC : PySem.W.takesIn K (.builtin "object.__class__") = some true)
    {C0 I0 N0 cda0 cc0 : Addr} {nm0 qn0 msg0 file0 : Str} {bs0 sub0 : List Value} {sn0 : List Str} {ab0 : Bool} {col0 : Option Bool} {dd0 od0 an0 cdd0 cld0 : Option Addr} {ka0 kb0 kc0 kd0 ke0 : Option Value}
    {oc0 doc0 pm0 ct0 ccl0 cl0 : Value} {osl0 ccs0 csl0 : Array (Option Value)} {vs0 : Array Value} {tf0 : Tok} {j0 : Nat} {p0_1 p0_2 q0_0 q0_1 q0_2 q0_3 q0_4 q0_5 r0_1 r0_2 r0_3 r0_4 : Pos}
    (aC0 : PySem.W.nsIn K mainGlobals "InvalidList" = some (some (.ref C0)))
    (xL0 : K.lookup C0 = some (excClassObj nm0 qn0 C0 N0 bs0 [.ref CB, .type "ValueError", .type "Exception", .type "BaseException", .type "object"] true sn0 sub0 ab0 col0 dd0 ka0 kb0 kc0 kd0 ke0 "ValueError.__new__"))
    (sa0 : PySem.W.findIn K (.ref C0) "__setattr__" = some (some (.builtin "object.__setattr__")))
    (nv0 : PySem.W.findIn K (.ref C0) "value" = some none)
    (iC0 : PySem.W.findIn K (.ref C0) "__init__" = some (some (.ref I0)))
    (tI0 : PySem.W.typeIn K (.ref I0) = some (.type "function"))
    (kC0 : PySem.W.keepIn K (.ref C0) = true)
    (eC0 : PySem.W.subIn K (.ref C0) (.type "BaseException") = some true)
    (vC0 : PySem.W.subIn K (.ref C0) (.type "ValueError") = some true)
    (tC0 : PySem.W.typeIn K (.ref C0) = some (.type "type"))
    (mC0 : PySem.W.mroIn K C0 (.ref C0) = some true)
    (su0 : PySem.W.ks_superIn K C0 C0 "__init__" = some (some (.builtin "ValueError.__init__")))
    (fI0 : K.lookup I0 = some ⟨oc0, od0, .func (PySem.W.ksFn "__init__" "InvalidList.__init__" (SqX.xA p0_1 p0_2) (SqX.xB msg0 j0 q0_0 q0_1 q0_2 q0_3 q0_4 q0_5 r0_1 r0_2 r0_3 r0_4) SqX.xS .none .none doc0 pm0 an0 (.ref cda0) ct0 cc0), osl0⟩)
    (cI0 : PySem.W.codeIn K (.ref cda0) "InvalidList.__init__" = true)
    (lc0 : K.lookup cda0 = some ⟨ccl0, cdd0, .fields vs0, ccs0⟩)
    (vf0 : vs0[2]? = some (.str file0 tf0))
    (mf0 : ((l.prog.main.file : Str) == file0) = true)
    (lk0 : K.lookup cc0 = some ⟨cl0, cld0, .cell (some (.ref C0)), csl0⟩)
    (ln0 : (q0_2.endLine == q0_4.line) = true)
    (ga0 : PySem.W.findIn K (.ref C0) "__getattribute__" = some (some (.builtin "BaseException.__getattribute__")))
    (gg0 : PySem.W.findIn K (.ref C0) "__getattr__" = some none)
    (hd0 : PySem.W.hasDictIn K C0 = true)
    (ha0 : PySem.W.findIn K (.ref C0) "__class__" = some (some (.builtin "object.__class__")))
    (mo0 : PySem.W.mroIn K C0 (.type "object") = some true)
    (ic0 : PySem.W.isClsIn K C0 = true)
    (sB0 : PySem.W.subIn K (.ref C0) (.ref CB) = some true)
    {C1 I1 N1 cda1 cc1 : Addr} {nm1 qn1 msg1 file1 : Str} {bs1 sub1 : List Value} {sn1 : List Str} {ab1 : Bool} {col1 : Option Bool} {dd1 od1 an1 cdd1 cld1 : Option Addr} {ka1 kb1 kc1 kd1 ke1 : Option Value}
    {oc1 doc1 pm1 ct1 ccl1 cl1 : Value} {osl1 ccs1 csl1 : Array (Option Value)} {vs1 : Array Value} {tf1 : Tok} {j1 : Nat} {p1_1 p1_2 q1_0 q1_1 q1_2 q1_3 q1_4 q1_5 r1_1 r1_2 r1_3 r1_4 : Pos}
    (aC1 : PySem.W.nsIn K mainGlobals "InvalidNumber" = some (some (.ref C1)))
    (xL1 : K.lookup C1 = some (excClassObj nm1 qn1 C1 N1 bs1 [.ref CB, .type "ValueError", .type "Exception", .type "BaseException", .type "object"] true sn1 sub1 ab1 col1 dd1 ka1 kb1 kc1 kd1 ke1 "ValueError.__new__"))
    (sa1 : PySem.W.findIn K (.ref C1) "__setattr__" = some (some (.builtin "object.__setattr__")))
    (nv1 : PySem.W.findIn K (.ref C1) "value" = some none)
    (iC1 : PySem.W.findIn K (.ref C1) "__init__" = some (some (.ref I1)))
    (tI1 : PySem.W.typeIn K (.ref I1) = some (.type "function"))
    (kC1 : PySem.W.keepIn K (.ref C1) = true)
    (eC1 : PySem.W.subIn K (.ref C1) (.type "BaseException") = some true)
    (vC1 : PySem.W.subIn K (.ref C1) (.type "ValueError") = some true)
    (tC1 : PySem.W.typeIn K (.ref C1) = some (.type "type"))
    (mC1 : PySem.W.mroIn K C1 (.ref C1) = some true)
    (su1 : PySem.W.ks_superIn K C1 C1 "__init__" = some (some (.builtin "ValueError.__init__")))
    (fI1 : K.lookup I1 = some ⟨oc1, od1, .func (PySem.W.ksFn "__init__" "InvalidNumber.__init__" (SqX.xA p1_1 p1_2) (SqX.xB msg1 j1 q1_0 q1_1 q1_2 q1_3 q1_4 q1_5 r1_1 r1_2 r1_3 r1_4) SqX.xS .none .none doc1 pm1 an1 (.ref cda1) ct1 cc1), osl1⟩)
    (cI1 : PySem.W.codeIn K (.ref cda1) "InvalidNumber.__init__" = true)
    (lc1 : K.lookup cda1 = some ⟨ccl1, cdd1, .fields vs1, ccs1⟩)
    (vf1 : vs1[2]? = some (.str file1 tf1))
    (mf1 : ((l.prog.main.file : Str) == file1) = true)
    (lk1 : K.lookup cc1 = some ⟨cl1, cld1, .cell (some (.ref C1)), csl1⟩)
    (ln1 : (q1_2.endLine == q1_4.line) = true)
    (ga1 : PySem.W.findIn K (.ref C1) "__getattribute__" = some (some (.builtin "BaseException.__getattribute__")))
    (gg1 : PySem.W.findIn K (.ref C1) "__getattr__" = some none)
    (hd1 : PySem.W.hasDictIn K C1 = true)
    (ha1 : PySem.W.findIn K (.ref C1) "__class__" = some (some (.builtin "object.__class__")))
    (mo1 : PySem.W.mroIn K C1 (.type "object") = some true)
    (ic1 : PySem.W.isClsIn K C1 = true)
    (sB1 : PySem.W.subIn K (.ref C1) (.ref CB) = some true)
    {C2 I2 N2 cda2 cc2 : Addr} {nm2 qn2 msg2 file2 : Str} {bs2 sub2 : List Value} {sn2 : List Str} {ab2 : Bool} {col2 : Option Bool} {dd2 od2 an2 cdd2 cld2 : Option Addr} {ka2 kb2 kc2 kd2 ke2 : Option Value}
    {oc2 doc2 pm2 ct2 ccl2 cl2 : Value} {osl2 ccs2 csl2 : Array (Option Value)} {vs2 : Array Value} {tf2 : Tok} {j2 : Nat} {p2_1 p2_2 q2_0 q2_1 q2_2 q2_3 q2_4 q2_5 r2_1 r2_2 r2_3 r2_4 : Pos}
    (aC2 : PySem.W.nsIn K mainGlobals "InvalidCharacter" = some (some (.ref C2)))
    (xL2 : K.lookup C2 = some (excClassObj nm2 qn2 C2 N2 bs2 [.ref CB, .type "ValueError", .type "Exception", .type "BaseException", .type "object"] true sn2 sub2 ab2 col2 dd2 ka2 kb2 kc2 kd2 ke2 "ValueError.__new__"))
    (sa2 : PySem.W.findIn K (.ref C2) "__setattr__" = some (some (.builtin "object.__setattr__")))
    (nv2 : PySem.W.findIn K (.ref C2) "value" = some none)
    (iC2 : PySem.W.findIn K (.ref C2) "__init__" = some (some (.ref I2)))
    (tI2 : PySem.W.typeIn K (.ref I2) = some (.type "function"))
    (kC2 : PySem.W.keepIn K (.ref C2) = true)
    (eC2 : PySem.W.subIn K (.ref C2) (.type "BaseException") = some true)
    (vC2 : PySem.W.subIn K (.ref C2) (.type "ValueError") = some true)
    (tC2 : PySem.W.typeIn K (.ref C2) = some (.type "type"))
    (mC2 : PySem.W.mroIn K C2 (.ref C2) = some true)
    (su2 : PySem.W.ks_superIn K C2 C2 "__init__" = some (some (.builtin "ValueError.__init__")))
    (fI2 : K.lookup I2 = some ⟨oc2, od2, .func (PySem.W.ksFn "__init__" "InvalidCharacter.__init__" (SqX.xA p2_1 p2_2) (SqX.xB msg2 j2 q2_0 q2_1 q2_2 q2_3 q2_4 q2_5 r2_1 r2_2 r2_3 r2_4) SqX.xS .none .none doc2 pm2 an2 (.ref cda2) ct2 cc2), osl2⟩)
    (cI2 : PySem.W.codeIn K (.ref cda2) "InvalidCharacter.__init__" = true)
    (lc2 : K.lookup cda2 = some ⟨ccl2, cdd2, .fields vs2, ccs2⟩)
    (vf2 : vs2[2]? = some (.str file2 tf2))
    (mf2 : ((l.prog.main.file : Str) == file2) = true)
    (lk2 : K.lookup cc2 = some ⟨cl2, cld2, .cell (some (.ref C2)), csl2⟩)
    (ln2 : (q2_2.endLine == q2_4.line) = true)
    (ga2 : PySem.W.findIn K (.ref C2) "__getattribute__" = some (some (.builtin "BaseException.__getattribute__")))
    (gg2 : PySem.W.findIn K (.ref C2) "__getattr__" = some none)
    (hd2 : PySem.W.hasDictIn K C2 = true)
    (ha2 : PySem.W.findIn K (.ref C2) "__class__" = some (some (.builtin "object.__class__")))
    (mo2 : PySem.W.mroIn K C2 (.type "object") = some true)
    (ic2 : PySem.W.isClsIn K C2 = true)
    (sB2 : PySem.W.subIn K (.ref C2) (.ref CB) = some true)
    {C3 I3 N3 cda3 cc3 : Addr} {nm3 qn3 msg3 file3 : Str} {bs3 sub3 : List Value} {sn3 : List Str} {ab3 : Bool} {col3 : Option Bool} {dd3 od3 an3 cdd3 cld3 : Option Addr} {ka3 kb3 kc3 kd3 ke3 : Option Value}
    {oc3 doc3 pm3 ct3 ccl3 cl3 : Value} {osl3 ccs3 csl3 : Array (Option Value)} {vs3 : Array Value} {tf3 : Tok} {j3 : Nat} {p3_1 p3_2 q3_0 q3_1 q3_2 q3_3 q3_4 q3_5 r3_1 r3_2 r3_3 r3_4 : Pos}
    (aC3 : PySem.W.nsIn K mainGlobals "NothingToUndo" = some (some (.ref C3)))
    (xL3 : K.lookup C3 = some (excClassObj nm3 qn3 C3 N3 bs3 [.ref CB, .type "ValueError", .type "Exception", .type "BaseException", .type "object"] true sn3 sub3 ab3 col3 dd3 ka3 kb3 kc3 kd3 ke3 "ValueError.__new__"))
    (sa3 : PySem.W.findIn K (.ref C3) "__setattr__" = some (some (.builtin "object.__setattr__")))
    (nv3 : PySem.W.findIn K (.ref C3) "value" = some none)
    (iC3 : PySem.W.findIn K (.ref C3) "__init__" = some (some (.ref I3)))
    (tI3 : PySem.W.typeIn K (.ref I3) = some (.type "function"))
    (kC3 : PySem.W.keepIn K (.ref C3) = true)
    (eC3 : PySem.W.subIn K (.ref C3) (.type "BaseException") = some true)
    (vC3 : PySem.W.subIn K (.ref C3) (.type "ValueError") = some true)
    (tC3 : PySem.W.typeIn K (.ref C3) = some (.type "type"))
    (mC3 : PySem.W.mroIn K C3 (.ref C3) = some true)
    (su3 : PySem.W.ks_superIn K C3 C3 "__init__" = some (some (.builtin "ValueError.__init__")))
    (fI3 : K.lookup I3 = some ⟨oc3, od3, .func (PySem.W.ksFn "__init__" "NothingToUndo.__init__" (SqX.xA p3_1 p3_2) (SqX.xB msg3 j3 q3_0 q3_1 q3_2 q3_3 q3_4 q3_5 r3_1 r3_2 r3_3 r3_4) SqX.xS .none .none doc3 pm3 an3 (.ref cda3) ct3 cc3), osl3⟩)
    (cI3 : PySem.W.codeIn K (.ref cda3) "NothingToUndo.__init__" = true)
    (lc3 : K.lookup cda3 = some ⟨ccl3, cdd3, .fields vs3, ccs3⟩)
    (vf3 : vs3[2]? = some (.str file3 tf3))
    (mf3 : ((l.prog.main.file : Str) == file3) = true)
    (lk3 : K.lookup cc3 = some ⟨cl3, cld3, .cell (some (.ref C3)), csl3⟩)
    (ln3 : (q3_2.endLine == q3_4.line) = true)
    (ga3 : PySem.W.findIn K (.ref C3) "__getattribute__" = some (some (.builtin "BaseException.__getattribute__")))
    (gg3 : PySem.W.findIn K (.ref C3) "__getattr__" = some none)
    (hd3 : PySem.W.hasDictIn K C3 = true)
    (ha3 : PySem.W.findIn K (.ref C3) "__class__" = some (some (.builtin "object.__class__")))
    (mo3 : PySem.W.mroIn K C3 (.type "object") = some true)
    (ic3 : PySem.W.isClsIn K C3 = true)
    (sB3 : PySem.W.subIn K (.ref C3) (.ref CB) = some true)
    {C4 I4 N4 cda4 cc4 : Addr} {nm4 qn4 msg4 file4 : Str} {bs4 sub4 : List Value} {sn4 : List Str} {ab4 : Bool} {col4 : Option Bool} {dd4 od4 an4 cdd4 cld4 : Option Addr} {ka4 kb4 kc4 kd4 ke4 : Option Value}
    {oc4 doc4 pm4 ct4 ccl4 cl4 : Value} {osl4 ccs4 csl4 : Array (Option Value)} {vs4 : Array Value} {tf4 : Tok} {j4 : Nat} {p4_1 p4_2 q4_0 q4_1 q4_2 q4_3 q4_4 q4_5 r4_1 r4_2 r4_3 r4_4 : Pos}
    (aC4 : PySem.W.nsIn K mainGlobals "Unreadable" = some (some (.ref C4)))
    (xL4 : K.lookup C4 = some (excClassObj nm4 qn4 C4 N4 bs4 [.ref CB, .type "ValueError", .type "Exception", .type "BaseException", .type "object"] true sn4 sub4 ab4 col4 dd4 ka4 kb4 kc4 kd4 ke4 "ValueError.__new__"))
    (sa4 : PySem.W.findIn K (.ref C4) "__setattr__" = some (some (.builtin "object.__setattr__")))
    (nv4 : PySem.W.findIn K (.ref C4) "value" = some none)
    (iC4 : PySem.W.findIn K (.ref C4) "__init__" = some (some (.ref I4)))
    (tI4 : PySem.W.typeIn K (.ref I4) = some (.type "function"))
    (kC4 : PySem.W.keepIn K (.ref C4) = true)
    (eC4 : PySem.W.subIn K (.ref C4) (.type "BaseException") = some true)
    (vC4 : PySem.W.subIn K (.ref C4) (.type "ValueError") = some true)
    (tC4 : PySem.W.typeIn K (.ref C4) = some (.type "type"))
    (mC4 : PySem.W.mroIn K C4 (.ref C4) = some true)
    (su4 : PySem.W.ks_superIn K C4 C4 "__init__" = some (some (.builtin "ValueError.__init__")))
    (fI4 : K.lookup I4 = some ⟨oc4, od4, .func (PySem.W.ksFn "__init__" "Unreadable.__init__" (SqX.xA p4_1 p4_2) (SqX.xB msg4 j4 q4_0 q4_1 q4_2 q4_3 q4_4 q4_5 r4_1 r4_2 r4_3 r4_4) SqX.xS .none .none doc4 pm4 an4 (.ref cda4) ct4 cc4), osl4⟩)
    (cI4 : PySem.W.codeIn K (.ref cda4) "Unreadable.__init__" = true)
    (lc4 : K.lookup cda4 = some ⟨ccl4, cdd4, .fields vs4, ccs4⟩)
    (vf4 : vs4[2]? = some (.str file4 tf4))
    (mf4 : ((l.prog.main.file : Str) == file4) = true)
    (lk4 : K.lookup cc4 = some ⟨cl4, cld4, .cell (some (.ref C4)), csl4⟩)
    (ln4 : (q4_2.endLine == q4_4.line) = true)
    (ga4 : PySem.W.findIn K (.ref C4) "__getattribute__" = some (some (.builtin "BaseException.__getattribute__")))
    (gg4 : PySem.W.findIn K (.ref C4) "__getattr__" = some none)
    (hd4 : PySem.W.hasDictIn K C4 = true)
    (ha4 : PySem.W.findIn K (.ref C4) "__class__" = some (some (.builtin "object.__class__")))
    (mo4 : PySem.W.mroIn K C4 (.type "object") = some true)
    (ic4 : PySem.W.isClsIn K C4 = true)
    (sB4 : PySem.W.subIn K (.ref C4) (.ref CB) = some true)
    (s0_0 : PySem.W.subIn K (.ref C0) (.ref C0) = some true)
    (s0_1 : PySem.W.subIn K (.ref C0) (.ref C1) = some false)
    (s0_2 : PySem.W.subIn K (.ref C0) (.ref C2) = some false)
    (s0_3 : PySem.W.subIn K (.ref C0) (.ref C3) = some false)
    (s0_4 : PySem.W.subIn K (.ref C0) (.ref C4) = some false)
    (s1_0 : PySem.W.subIn K (.ref C1) (.ref C0) = some false)
    (s1_1 : PySem.W.subIn K (.ref C1) (.ref C1) = some true)
    (s1_2 : PySem.W.subIn K (.ref C1) (.ref C2) = some false)
    (s1_3 : PySem.W.subIn K (.ref C1) (.ref C3) = some false)
    (s1_4 : PySem.W.subIn K (.ref C1) (.ref C4) = some false)
    (s2_0 : PySem.W.subIn K (.ref C2) (.ref C0) = some false)
    (s2_1 : PySem.W.subIn K (.ref C2) (.ref C1) = some false)
    (s2_2 : PySem.W.subIn K (.ref C2) (.ref C2) = some true)
    (s2_3 : PySem.W.subIn K (.ref C2) (.ref C3) = some false)
    (s2_4 : PySem.W.subIn K (.ref C2) (.ref C4) = some false)
    (s3_0 : PySem.W.subIn K (.ref C3) (.ref C0) = some false)
    (s3_1 : PySem.W.subIn K (.ref C3) (.ref C1) = some false)
    (s3_2 : PySem.W.subIn K (.ref C3) (.ref C2) = some false)
    (s3_3 : PySem.W.subIn K (.ref C3) (.ref C3) = some true)
    (s3_4 : PySem.W.subIn K (.ref C3) (.ref C4) = some false)
    (s4_0 : PySem.W.subIn K (.ref C4) (.ref C0) = some false)
    (s4_1 : PySem.W.subIn K (.ref C4) (.ref C1) = some false)
    (s4_2 : PySem.W.subIn K (.ref C4) (.ref C2) = some false)
    (s4_3 : PySem.W.subIn K (.ref C4) (.ref C3) = some false)
    (s4_4 : PySem.W.subIn K (.ref C4) (.ref C4) = some true)
    (eCB : PySem.W.subIn K (.ref CB) (.type "BaseException") = some true) (hdB : PySem.W.hasDictIn K CB = true)
    (st0 : PySem.W.subIn K (.ref C0) (.type "StopIteration") = some false)
    (st1 : PySem.W.subIn K (.ref C1) (.type "StopIteration") = some false)
    (st2 : PySem.W.subIn K (.ref C2) (.type "StopIteration") = some false)
    (st3 : PySem.W.subIn K (.ref C3) (.type "StopIteration") = some false)
    (st4 : PySem.W.subIn K (.ref C4) (.type "StopIteration") = some false)
    {CH : Addr} (aCH : PySem.W.nsIn K mainGlobals "HiddenList" = some (some (.ref CH)))
    (pgCH : PySem.W.plainGet K CH Str.empty = true)
    (hdCH : PySem.W.hasDictIn K CH = true)
    (poCH : PySem.W.plainOver K CH = true)
    (saCH : PySem.W.findIn K (.ref CH) "__setattr__" = some (some (.builtin "object.__setattr__")))
    (mkCH : PySem.W.makesIn K CH = true)
    (kcCH : PySem.W.keepIn K (.ref CH) = true)
    (nCH_0 : PySem.W.findIn K (.ref CH) "_replacements" = some none)
    (nCH_1 : PySem.W.findIn K (.ref CH) "_questions" = some none)
    {f_HiddenListinit : Addr} {od_HiddenListinit an_HiddenListinit : Option Addr} {sl_HiddenListinit : Array (Option Value)} {oc_HiddenListinit kV_HiddenListinit dc_HiddenListinit pm_HiddenListinit cd_HiddenListinit ct_HiddenListinit : Value}
    (a_HiddenListinit : PySem.W.findIn K (.ref CH) "__init__" = some (some (.ref f_HiddenListinit))) (i_HiddenListinit : PySem.W.isFn K (.ref f_HiddenListinit) = true)
    (l_HiddenListinit : K.lookup f_HiddenListinit = some ⟨oc_HiddenListinit, od_HiddenListinit, .func (PySem.W.fnOf "__init__" "HiddenList.__init__" (defArgs s_HiddenListinit) (defBody s_HiddenListinit) (defScope s_HiddenListinit) .none kV_HiddenListinit dc_HiddenListinit pm_HiddenListinit an_HiddenListinit cd_HiddenListinit ct_HiddenListinit), sl_HiddenListinit⟩)
    (c_HiddenListinit : PySem.W.codeIn K cd_HiddenListinit "HiddenList.__init__" = true) (k_HiddenListinit : PySem.W.keepIn K (.ref f_HiddenListinit) = true)
    {f_HiddenListask : Addr} {od_HiddenListask an_HiddenListask : Option Addr} {sl_HiddenListask : Array (Option Value)} {oc_HiddenListask kV_HiddenListask dc_HiddenListask pm_HiddenListask cd_HiddenListask ct_HiddenListask : Value}
    (a_HiddenListask : PySem.W.findIn K (.ref CH) "ask" = some (some (.ref f_HiddenListask))) (i_HiddenListask : PySem.W.isFn K (.ref f_HiddenListask) = true)
    (l_HiddenListask : K.lookup f_HiddenListask = some ⟨oc_HiddenListask, od_HiddenListask, .func (PySem.W.fnOf "ask" "HiddenList.ask" (defArgs s_HiddenListask) (defBody s_HiddenListask) (defScope s_HiddenListask) .none kV_HiddenListask dc_HiddenListask pm_HiddenListask an_HiddenListask cd_HiddenListask ct_HiddenListask), sl_HiddenListask⟩)
    (c_HiddenListask : PySem.W.codeIn K cd_HiddenListask "HiddenList.ask" = true) (k_HiddenListask : PySem.W.keepIn K (.ref f_HiddenListask) = true)
    {f_HiddenListquestions p_HiddenListquestions : Addr} {od_HiddenListquestions an_HiddenListquestions : Option Addr} {sl_HiddenListquestions : Array (Option Value)} {oc_HiddenListquestions kV_HiddenListquestions dc_HiddenListquestions pm_HiddenListquestions cd_HiddenListquestions ct_HiddenListquestions : Value}
    {rs_HiddenListquestions : List Value} (a_HiddenListquestions : PySem.W.findIn K (.ref CH) "questions" = some (some (.ref p_HiddenListquestions))) (g_HiddenListquestions : PySem.W.specialIn K (.ref p_HiddenListquestions) "__get__" = some (some (.builtin "property.__get__"))) (t_HiddenListquestions : PySem.W.takesIn K (.ref p_HiddenListquestions) = some true) (r_HiddenListquestions : PySem.W.recIn K p_HiddenListquestions "property" = some (.ref f_HiddenListquestions :: rs_HiddenListquestions))
    (l_HiddenListquestions : K.lookup f_HiddenListquestions = some ⟨oc_HiddenListquestions, od_HiddenListquestions, .func (PySem.W.fnOf "questions" "HiddenList.questions" (defArgs s_HiddenListquestions) (defBody s_HiddenListquestions) (defScope s_HiddenListquestions) .none kV_HiddenListquestions dc_HiddenListquestions pm_HiddenListquestions an_HiddenListquestions cd_HiddenListquestions ct_HiddenListquestions), sl_HiddenListquestions⟩)
    (c_HiddenListquestions : PySem.W.codeIn K cd_HiddenListquestions "HiddenList.questions" = true) (k_HiddenListquestions : PySem.W.keepIn K (.ref f_HiddenListquestions) = true)
    : ∃ fd : FuncData, (∀ (s : Shared) (v : Value), BindsTo s fd ⟨[v], []⟩ [("script", v)]) ∧ ∀ base : Heap, K.In base → base.Ns mainGlobals mg → Top l.prog w K mg base 8 fa fd "script" (spLaw K) := by
  have e := hfa.symm.trans (PySem.W.mg_of X G a_law)
  cases e
  have B : Bi mg := ⟨PySem.W.mg_none_of X G z_len, PySem.W.mg_none_of X G z_min, PySem.W.mg_none_of X G z_max, PySem.W.mg_none_of X G z_abs, PySem.W.mg_none_of X G z_range, PySem.W.mg_none_of X G z_isinstance, PySem.W.mg_none_of X G z_repr, PySem.W.mg_none_of X G z_enumerate, PySem.W.mg_none_of X G z_reversed, PySem.W.mg_none_of X G z_sorted, PySem.W.mg_none_of X G z_bool, PySem.W.mg_none_of X G z_int, PySem.W.mg_none_of X G z_str, PySem.W.mg_none_of X G z_list, PySem.W.mg_none_of X G z_tuple, PySem.W.mg_none_of X G z_set, PySem.W.mg_none_of X G z_sum, PySem.W.mg_none_of X G z_zip, PySem.W.mg_none_of X G z_all, PySem.W.mg_none_of X G z_any, PySem.W.mg_none_of X G z_ValueError, PySem.W.mg_none_of X G z_divmod⟩
  have F_checklist := fun_mk (st := s_checklist) l_checklist c_checklist k_checklist
  have b_checklist := F_checklist.binds (ps := ["replacements"]) fun _ _ _ _ _ _ us hl => match us, hl with | [_], _ => rfl
  have g_checklist := PySem.W.mg_of X G a_checklist
  have F_checknumber := fun_mk (st := s_checknumber) l_checknumber c_checknumber k_checknumber
  have b_checknumber := F_checknumber.binds (ps := ["number", "least"]) fun _ _ _ _ _ _ us hl => match us, hl with | [_, _], _ => rfl
  have g_checknumber := PySem.W.mg_of X G a_checknumber
  have F_greatestorigin := fun_mk (st := s_greatestorigin) l_greatestorigin c_greatestorigin k_greatestorigin
  have b_greatestorigin := F_greatestorigin.binds (ps := ["length", "replacements"]) fun _ _ _ _ _ _ us hl => match us, hl with | [_, _], _ => rfl
  have g_greatestorigin := PySem.W.mg_of X G a_greatestorigin
  have F_squeezed := fun_mk (st := s_squeezed) l_squeezed c_squeezed k_squeezed
  have b_squeezed := F_squeezed.binds (ps := ["length", "replacements"]) fun _ _ _ _ _ _ us hl => match us, hl with | [_, _], _ => rfl
  have g_squeezed := PySem.W.mg_of X G a_squeezed
  have F_lengthafter := fun_mk (st := s_lengthafter) l_lengthafter c_lengthafter k_lengthafter
  have b_lengthafter := F_lengthafter.binds (ps := ["length", "replacements"]) fun _ _ _ _ _ _ us hl => match us, hl with | [_, _], _ => rfl
  have g_lengthafter := PySem.W.mg_of X G a_lengthafter
  have F_lengthafterone := fun_mk (st := s_lengthafterone) l_lengthafterone c_lengthafterone k_lengthafterone
  have b_lengthafterone := F_lengthafterone.binds (ps := ["length", "number"]) fun _ _ _ _ _ _ us hl => match us, hl with | [_, _], _ => rfl
  have g_lengthafterone := PySem.W.mg_of X G a_lengthafterone
  have F_lawpool := fun_mk (st := s_lawpool) l_lawpool c_lawpool k_lawpool
  have b_lawpool := F_lawpool.binds (ps := ["script", "at"]) fun _ _ _ _ _ _ us hl => match us, hl with | [_, _], _ => rfl
  have g_lawpool := PySem.W.mg_of X G a_lawpool
  have F_lawdraw := fun_mk (st := s_lawdraw) l_lawdraw c_lawdraw k_lawdraw
  have b_lawdraw := F_lawdraw.binds (ps := ["pool", "many"]) fun _ _ _ _ _ _ us hl => match us, hl with | [_, _], _ => rfl
  have g_lawdraw := PySem.W.mg_of X G a_lawdraw
  have F_lawlist := fun_mk (st := s_lawlist) l_lawlist c_lawlist k_lawlist
  have b_lawlist := F_lawlist.binds (ps := ["pool", "most", "far"]) fun _ _ _ _ _ _ us hl => match us, hl with | [_, _, _], _ => rfl
  have g_lawlist := PySem.W.mg_of X G a_lawlist
  have F_lawafter := fun_mk (st := s_lawafter) l_lawafter c_lawafter k_lawafter
  have b_lawafter := F_lawafter.binds (ps := ["long", "numbers"]) fun _ _ _ _ _ _ us hl => match us, hl with | [_, _], _ => rfl
  have g_lawafter := PySem.W.mg_of X G a_lawafter
  have F_lawkind := fun_mk (st := s_lawkind) l_lawkind c_lawkind k_lawkind
  have b_lawkind := F_lawkind.binds (ps := ["caught"]) fun _ _ _ _ _ _ us hl => match us, hl with | [_], _ => rfl
  have g_lawkind := PySem.W.mg_of X G a_lawkind
  have F_lawbadlist := fun_mk (st := s_lawbadlist) l_lawbadlist c_lawbadlist k_lawbadlist
  have b_lawbadlist := F_lawbadlist.binds (ps := ["pool", "numbers"]) fun _ _ _ _ _ _ us hl => match us, hl with | [_, _], _ => rfl
  have g_lawbadlist := PySem.W.mg_of X G a_lawbadlist
  have F_lawmade := fun_mk (st := s_lawmade) l_lawmade c_lawmade k_lawmade
  have b_lawmade := F_lawmade.binds (ps := ["numbers"]) fun _ _ _ _ _ _ us hl => match us, hl with | [_], _ => rfl
  have g_lawmade := PySem.W.mg_of X G a_lawmade
  have F_lawasked := fun_mk (st := s_lawasked) l_lawasked c_lawasked k_lawasked
  have b_lawasked := F_lawasked.binds (ps := ["secret", "long", "by_name"]) fun _ _ _ _ _ _ us hl => match us, hl with | [_, _, _], _ => rfl
  have g_lawasked := PySem.W.mg_of X G a_lawasked
  have F_lawlong := fun_mk (st := s_lawlong) l_lawlong c_lawlong k_lawlong
  have b_lawlong := F_lawlong.binds (ps := ["pool", "numbers"]) fun _ _ _ _ _ _ us hl => match us, hl with | [_, _], _ => rfl
  have g_lawlong := PySem.W.mg_of X G a_lawlong
  have F_lawright := fun_mk (st := s_lawright) l_lawright c_lawright k_lawright
  have b_lawright := F_lawright.binds (ps := ["pool"]) fun _ _ _ _ _ _ us hl => match us, hl with | [_], _ => rfl
  have g_lawright := PySem.W.mg_of X G a_lawright
  have F_law := fun_mk (st := s_law) l_law c_law k_law
  exact ⟨_, fun s v => .of_eq rfl, fun base _ _ => by
    have bmV : PySem.HandSPX.refsVE [.ref CB, .type "ValueError", .type "Exception", .type "BaseException", .type "object"] = true := (show PySem.HandSPX.refsVE [.type "ValueError", .type "Exception", .type "BaseException", .type "object"] = true by decide +kernel)
    have neB : ∀ C : Addr, PySem.W.subIn K (.ref C) (.ref CB) = some true → C = CB → true = true := fun _ _ _ => rfl
    have Er0 : SqX.Er K l.prog C0 I0 "InvalidList.__init__" := ⟨⟨_, _, _, _, _, _, _, _, _, _, _, _, _, _, _, xL0, bmV⟩, sa0, nv0, iC0, tI0, kC0, eC0, vC0, tC0, mC0, su0, third, zSup, hTop, ⟨_, _, _, _, _, _, _, _, _, _, _, _, _, _, _, _, _, _, _, _, _, _, _, _, _, _, _, _, _, _, _, _, fI0, cI0, lc0, vf0, mf0, lk0, ln0⟩⟩
    have Ex0 : ExcC K C0 := ⟨ga0, gg0, eC0, hd0, ha0, spC, tkC, mo0⟩
    have Xf0 : XfC K C0 := ⟨ga0, gg0, eC0, hd0⟩
    have Er1 : SqX.Er K l.prog C1 I1 "InvalidNumber.__init__" := ⟨⟨_, _, _, _, _, _, _, _, _, _, _, _, _, _, _, xL1, bmV⟩, sa1, nv1, iC1, tI1, kC1, eC1, vC1, tC1, mC1, su1, third, zSup, hTop, ⟨_, _, _, _, _, _, _, _, _, _, _, _, _, _, _, _, _, _, _, _, _, _, _, _, _, _, _, _, _, _, _, _, fI1, cI1, lc1, vf1, mf1, lk1, ln1⟩⟩
    have Ex1 : ExcC K C1 := ⟨ga1, gg1, eC1, hd1, ha1, spC, tkC, mo1⟩
    have Xf1 : XfC K C1 := ⟨ga1, gg1, eC1, hd1⟩
    have Er2 : SqX.Er K l.prog C2 I2 "InvalidCharacter.__init__" := ⟨⟨_, _, _, _, _, _, _, _, _, _, _, _, _, _, _, xL2, bmV⟩, sa2, nv2, iC2, tI2, kC2, eC2, vC2, tC2, mC2, su2, third, zSup, hTop, ⟨_, _, _, _, _, _, _, _, _, _, _, _, _, _, _, _, _, _, _, _, _, _, _, _, _, _, _, _, _, _, _, _, fI2, cI2, lc2, vf2, mf2, lk2, ln2⟩⟩
    have Ex2 : ExcC K C2 := ⟨ga2, gg2, eC2, hd2, ha2, spC, tkC, mo2⟩
    have Xf2 : XfC K C2 := ⟨ga2, gg2, eC2, hd2⟩
    have Er3 : SqX.Er K l.prog C3 I3 "NothingToUndo.__init__" := ⟨⟨_, _, _, _, _, _, _, _, _, _, _, _, _, _, _, xL3, bmV⟩, sa3, nv3, iC3, tI3, kC3, eC3, vC3, tC3, mC3, su3, third, zSup, hTop, ⟨_, _, _, _, _, _, _, _, _, _, _, _, _, _, _, _, _, _, _, _, _, _, _, _, _, _, _, _, _, _, _, _, fI3, cI3, lc3, vf3, mf3, lk3, ln3⟩⟩
    have Ex3 : ExcC K C3 := ⟨ga3, gg3, eC3, hd3, ha3, spC, tkC, mo3⟩
    have Xf3 : XfC K C3 := ⟨ga3, gg3, eC3, hd3⟩
    have Er4 : SqX.Er K l.prog C4 I4 "Unreadable.__init__" := ⟨⟨_, _, _, _, _, _, _, _, _, _, _, _, _, _, _, xL4, bmV⟩, sa4, nv4, iC4, tI4, kC4, eC4, vC4, tC4, mC4, su4, third, zSup, hTop, ⟨_, _, _, _, _, _, _, _, _, _, _, _, _, _, _, _, _, _, _, _, _, _, _, _, _, _, _, _, _, _, _, _, fI4, cI4, lc4, vf4, mf4, lk4, ln4⟩⟩
    have Ex4 : ExcC K C4 := ⟨ga4, gg4, eC4, hd4, ha4, spC, tkC, mo4⟩
    have Xf4 : XfC K C4 := ⟨ga4, gg4, eC4, hd4⟩
    have ne : ∀ {i j : Nat} {A B : Addr}, PySem.W.subIn K (.ref A) (.ref A) = some true → PySem.W.subIn K (.ref A) (.ref B) = some false → A = B → false = true := fun a b e => by subst e; rw [a] at b; cases b
    have Z : Errs l.prog K mg (fun n => [C0, C1, C2, C3, C4].getD n C0) (fun n => [I0, I1, I2, I3, I4].getD n I0) (fun n => (["InvalidList.__init__", "InvalidNumber.__init__", "InvalidCharacter.__init__", "NothingToUndo.__init__", "Unreadable.__init__"] : List Str).getD n "InvalidList.__init__") CB := {
      er := fun n hn => match n, hn with | 0, _ => ⟨trivial, Er0⟩ | 1, _ => ⟨trivial, Er1⟩ | 2, _ => ⟨trivial, Er2⟩ | 3, _ => ⟨trivial, Er3⟩ | 4, _ => ⟨trivial, Er4⟩
      g0 := PySem.W.mg_of X G aC0
      g1 := PySem.W.mg_of X G aC1
      g2 := PySem.W.mg_of X G aC2
      g3 := PySem.W.mg_of X G aC3
      g4 := PySem.W.mg_of X G aC4
      g5 := PySem.W.mg_of X G aCB
      is := fun n m hn hm => match n, m, hn, hm with | 0, 0, _, _ => kit_own ic0 tC0 s0_0 (fun _ => rfl) | 0, 1, _, _ => kit_own ic1 tC1 s0_1 (ne (i := 0) (j := 0) s0_0 s0_1) | 0, 2, _, _ => kit_own ic2 tC2 s0_2 (ne (i := 0) (j := 0) s0_0 s0_2) | 0, 3, _, _ => kit_own ic3 tC3 s0_3 (ne (i := 0) (j := 0) s0_0 s0_3) | 0, 4, _, _ => kit_own ic4 tC4 s0_4 (ne (i := 0) (j := 0) s0_0 s0_4) | 1, 0, _, _ => kit_own ic0 tC0 s1_0 (ne (i := 0) (j := 0) s1_1 s1_0) | 1, 1, _, _ => kit_own ic1 tC1 s1_1 (fun _ => rfl) | 1, 2, _, _ => kit_own ic2 tC2 s1_2 (ne (i := 0) (j := 0) s1_1 s1_2) | 1, 3, _, _ => kit_own ic3 tC3 s1_3 (ne (i := 0) (j := 0) s1_1 s1_3) | 1, 4, _, _ => kit_own ic4 tC4 s1_4 (ne (i := 0) (j := 0) s1_1 s1_4) | 2, 0, _, _ => kit_own ic0 tC0 s2_0 (ne (i := 0) (j := 0) s2_2 s2_0) | 2, 1, _, _ => kit_own ic1 tC1 s2_1 (ne (i := 0) (j := 0) s2_2 s2_1) | 2, 2, _, _ => kit_own ic2 tC2 s2_2 (fun _ => rfl) | 2, 3, _, _ => kit_own ic3 tC3 s2_3 (ne (i := 0) (j := 0) s2_2 s2_3) | 2, 4, _, _ => kit_own ic4 tC4 s2_4 (ne (i := 0) (j := 0) s2_2 s2_4) | 3, 0, _, _ => kit_own ic0 tC0 s3_0 (ne (i := 0) (j := 0) s3_3 s3_0) | 3, 1, _, _ => kit_own ic1 tC1 s3_1 (ne (i := 0) (j := 0) s3_3 s3_1) | 3, 2, _, _ => kit_own ic2 tC2 s3_2 (ne (i := 0) (j := 0) s3_3 s3_2) | 3, 3, _, _ => kit_own ic3 tC3 s3_3 (fun _ => rfl) | 3, 4, _, _ => kit_own ic4 tC4 s3_4 (ne (i := 0) (j := 0) s3_3 s3_4) | 4, 0, _, _ => kit_own ic0 tC0 s4_0 (ne (i := 0) (j := 0) s4_4 s4_0) | 4, 1, _, _ => kit_own ic1 tC1 s4_1 (ne (i := 0) (j := 0) s4_4 s4_1) | 4, 2, _, _ => kit_own ic2 tC2 s4_2 (ne (i := 0) (j := 0) s4_4 s4_2) | 4, 3, _, _ => kit_own ic3 tC3 s4_3 (ne (i := 0) (j := 0) s4_4 s4_3) | 4, 4, _, _ => kit_own ic4 tC4 s4_4 (fun _ => rfl)
      isB := fun n hn => match n, hn with | 0, _ => kit_own iCB tCB sB0 (fun _ => rfl) | 1, _ => kit_own iCB tCB sB1 (fun _ => rfl) | 2, _ => kit_own iCB tCB sB2 (fun _ => rfl) | 3, _ => kit_own iCB tCB sB3 (fun _ => rfl) | 4, _ => kit_own iCB tCB sB4 (fun _ => rfl)
      isV := fun n hn => match n, hn with | 0, _ => kit_base (by decide +kernel) vC0 | 1, _ => kit_base (by decide +kernel) vC1 | 2, _ => kit_base (by decide +kernel) vC2 | 3, _ => kit_base (by decide +kernel) vC3 | 4, _ => kit_base (by decide +kernel) vC4
      ex := fun n hn => match n, hn with | 0, _ => Ex0 | 1, _ => Ex1 | 2, _ => Ex2 | 3, _ => Ex3 | 4, _ => Ex4
      xf := fun n hn => match n, hn with | 0, _ => Xf0 | 1, _ => Xf1 | 2, _ => Xf2 | 3, _ => Xf3 | 4, _ => Xf4 }
    have Z2 : Errs2 K (fun n => [C0, C1, C2, C3, C4].getD n C0) CB := {
      ma := fun n hn => match n, hn with | 0, _ => PySem.W.exm_ref eCB hdB tCB sB0 | 1, _ => PySem.W.exm_ref eCB hdB tCB sB1 | 2, _ => PySem.W.exm_ref eCB hdB tCB sB2 | 3, _ => PySem.W.exm_ref eCB hdB tCB sB3 | 4, _ => PySem.W.exm_ref eCB hdB tCB sB4
      st := fun n hn => match n, hn with | 0, _ => st0 | 1, _ => st1 | 2, _ => st2 | 3, _ => st3 | 4, _ => st4
      nv := fun n hn => match n, hn with | 0, _ => nv0 | 1, _ => nv1 | 2, _ => nv2 | 3, _ => nv3 | 4, _ => nv4 }
    have F_HiddenListinit := fun_mk (st := s_HiddenListinit) l_HiddenListinit c_HiddenListinit k_HiddenListinit
    have F_HiddenListask := fun_mk (st := s_HiddenListask) l_HiddenListask c_HiddenListask k_HiddenListask
    have F_HiddenListquestions := fun_mk (st := s_HiddenListquestions) l_HiddenListquestions c_HiddenListquestions k_HiddenListquestions
    have clH : Cls K CH := ⟨pgCH, hdCH, poCH, saCH⟩
    have b_HiddenListinit := F_HiddenListinit.binds (ps := ["self", "replacements"]) fun _ _ _ _ _ _ us hl => match us, hl with | [_, _], _ => rfl
    have b_HiddenListask := F_HiddenListask.binds (ps := ["self", "length"]) fun _ _ _ _ _ _ us hl => match us, hl with | [_, _], _ => rfl
    have b_HiddenListquestions := F_HiddenListquestions.binds (ps := ["self"]) fun _ _ _ _ _ _ us hl => match us, hl with | [_], _ => rfl
    have TH : Hc K CH := ⟨clH, nCH_0, nCH_1⟩
    have D_checklist : Df l.prog w K mg base 1 "check_list" ["replacements"] (spCheckList K) := .mk' F_checklist (ok_checklist F_checklist B) g_checklist b_checklist
    have D_checknumber : Df l.prog w K mg base 1 "check_number" ["number", "least"] spCheckNumber := .mk' F_checknumber (ok_checknumber F_checknumber) g_checknumber b_checknumber
    have D_lengthafterone : Df l.prog w K mg base 1 "length_after_one" ["length", "number"] spOnceS := .mk' F_lengthafterone (ok_lengthafterone F_lengthafterone B) g_lengthafterone b_lengthafterone
    have D_lengthafter : Df l.prog w K mg base 2 "length_after" ["length", "replacements"] (spSqzS K) := .mk' F_lengthafter (ok_lengthafter F_lengthafter D_lengthafterone) g_lengthafter b_lengthafter
    have D_squeezed : Df l.prog w K mg base 3 "squeezed" ["length", "replacements"] (spSqueezed K) := .mk' F_squeezed (ok_squeezed F_squeezed D_checknumber D_checklist D_lengthafter) g_squeezed b_squeezed
    have D_greatestorigin : Df l.prog w K mg base 2 "greatest_origin" ["length", "replacements"] (spGreatC K) := .mk' F_greatestorigin (ok_greatc F_greatestorigin D_checklist D_checknumber) g_greatestorigin b_greatestorigin
    have Mk_ : Mk K CH f_HiddenListinit := ⟨mkCH, a_HiddenListinit, i_HiddenListinit, kcCH⟩
    have Me_ : Meth K CH "ask" f_HiddenListask := ⟨a_HiddenListask, i_HiddenListask, k_HiddenListask⟩
    have C_HiddenList : Mx CX0 l.prog w K mg base 2 "HiddenList" CH ["self", "replacements"] (spHidInit K CH) := ⟨⟨_, _, Mk_, ok_hidinit F_HiddenListinit B TH D_checklist, b_HiddenListinit⟩, PySem.W.mg_of X G aCH⟩
    have C_HiddenListK : MxK CX0 l.prog w K mg base 2 "HiddenList" CH ["self", "replacements"] ["replacements"] (fun us zs => us ++ zs) (spHidInit K CH) := ⟨⟨_, _, _, Mk_, ok_hidinit F_HiddenListinit B TH D_checklist, kb_init F_HiddenListinit⟩, PySem.W.mg_of X G aCH⟩
    have M_ask : Mt CX0 l.prog w K mg base 4 CH "ask" ["self", "length"] (spHidAsk CH) := ⟨⟨_, _, ok_hidask F_HiddenListask TH D_squeezed, Me_, b_HiddenListask⟩, clH⟩
    have P_questions : Pr l.prog w K mg base 1 CH "questions" (spHidQ CH) := ⟨⟨_, _, _, ⟨a_HiddenListquestions, g_HiddenListquestions, t_HiddenListquestions, ⟨_, r_HiddenListquestions⟩⟩, ok_hidq F_HiddenListquestions TH, b_HiddenListquestions⟩, clH⟩
    have X_checknumber : Dx l.prog w K mg base 1 "check_number" ["number", "least"] (spCheckNumberX (fun n => [C0, C1, C2, C3, C4].getD n C0)) := .mk' F_checknumber (ok_xchecknumber F_checknumber Z) g_checknumber b_checknumber
    have X_checklist : Dx l.prog w K mg base 1 "check_list" ["replacements"] (spCheckListX K (fun n => [C0, C1, C2, C3, C4].getD n C0)) := .mk' F_checklist (ok_xchecklist F_checklist B Z) g_checklist b_checklist
    have X_squeezed : Dx l.prog w K mg base 3 "squeezed" ["length", "replacements"] (spSqueezedX K (fun n => [C0, C1, C2, C3, C4].getD n C0)) := .mk' F_squeezed (ok_xsqueezed F_squeezed X_checknumber X_checklist D_lengthafter) g_squeezed b_squeezed
    have CX_HiddenList : Mx (L2.CX l.prog w) l.prog w K mg base 2 "HiddenList" CH ["self", "replacements"] (spHidInitX K CH (fun n => [C0, C1, C2, C3, C4].getD n C0)) := ⟨⟨_, _, Mk_, ok_xhidinit F_HiddenListinit B TH X_checklist, b_HiddenListinit⟩, PySem.W.mg_of X G aCH⟩
    have MX_ask : Mt (L2.CX l.prog w) l.prog w K mg base 4 CH "ask" ["self", "length"] (spHidAskX CH (fun n => [C0, C1, C2, C3, C4].getD n C0)) := ⟨⟨_, _, ok_xhidask F_HiddenListask TH X_squeezed, Me_, b_HiddenListask⟩, clH⟩
    have MX_askK : MtK (L2.CX l.prog w) l.prog w K mg base 4 CH "ask" ["self", "length"] ["length"] (fun us zs => us ++ zs) (spHidAskX CH (fun n => [C0, C1, C2, C3, C4].getD n C0)) := ⟨⟨_, _, _, ok_xhidask F_HiddenListask TH X_squeezed, Me_, kb_ask F_HiddenListask⟩, clH⟩
    have D_lawpool : Df l.prog w K mg base 1 "_law_pool" ["script", "at"] (spPool K) := .mk' F_lawpool (ok_lawpool F_lawpool B) g_lawpool b_lawpool
    have D_lawdraw : Df l.prog w K mg base 1 "_law_draw" ["pool", "many"] spDraw := .mk' F_lawdraw (ok_lawdraw F_lawdraw) g_lawdraw b_lawdraw
    have D_lawlist : Df l.prog w K mg base 2 "_law_list" ["pool", "most", "far"] spList := .mk' F_lawlist (ok_lawlist F_lawlist B D_lawdraw) g_lawlist b_lawlist
    have D_lawafter : Df l.prog w K mg base 1 "_law_after" ["long", "numbers"] (spLawAfter K) := .mk' F_lawafter (ok_lawafter F_lawafter) g_lawafter b_lawafter
    have D_lawkind : Df l.prog w K mg base 1 "_law_kind" ["caught"] (spKind (fun n => [C0, C1, C2, C3, C4].getD n C0)) := .mk' F_lawkind (ok_lawkind F_lawkind B Z) g_lawkind b_lawkind
    have D_lawbadlist : Df l.prog w K mg base 2 "_law_bad_list" ["pool", "numbers"] (spBadList K) := .mk' F_lawbadlist (ok_lawbadlist F_lawbadlist B D_lawdraw) g_lawbadlist b_lawbadlist
    have D_lawmade : Df l.prog w K mg base 5 "_law_made" ["numbers"] (spMade K) := .mk' F_lawmade (ok_lawmade F_lawmade B Z Z2 CX_HiddenList D_lawkind) g_lawmade b_lawmade
    have D_lawasked : Df l.prog w K mg base 6 "_law_asked" ["secret", "long", "by_name"] (spAsked CH) := .mk' F_lawasked (ok_lawasked F_lawasked B Z Z2 MX_ask MX_askK D_lawkind) g_lawasked b_lawasked
    have D_lawlong : Df l.prog w K mg base 2 "_law_long" ["pool", "numbers"] spLong := .mk' F_lawlong (ok_lawlong F_lawlong B D_lawdraw) g_lawlong b_lawlong
    have D_lawright : Df l.prog w K mg base 7 "_law_right" ["pool"] spRight := .mk' F_lawright (ok_lawright F_lawright B D_lawdraw D_lawlist D_lawafter D_lawlong D_lawasked D_lawbadlist D_lawmade D_greatestorigin C_HiddenList C_HiddenListK M_ask P_questions) g_lawright b_lawright
    exact ok_law F_law B D_lawpool D_lawright C_HiddenList M_ask⟩
end Sq
open PySem PySem.W PyProof.Rows
set_option maxRecDepth 100000 in
set_option maxHeartbeats 0 in
theorem PySem.Challenge.cw_squeezelists_k18_hidden_lists_answer_holds : PySem.Challenge.rw_squeezelists_k18_hidden_lists_answer.Holds := by
  w_on; o_law; k_head; (case hw => w_witness2)
  k_fill
  refine Sq.walkAt (l := PySem.Challenge.rw_squeezelists_k18_hidden_lists_answer) (n := 63) (k := 8) (x := "script") (sp := fun w => Sq.spLaw _) rfl (by decide) rfl (fun w h Y => PySem.W.kIn_of Y) ?F (fun _ _ a ns hl _ hS => ⟨a, ns, rfl, hS, hl, fun _ => rfl⟩)
  case F =>
    intro w mg fa h KX G hmg
    refine' Sq.all_mk KX G hmg ?a_checklist ?l_checklist ?c_checklist ?k_checklist ?a_checknumber ?l_checknumber ?c_checknumber ?k_checknumber ?a_greatestorigin ?l_greatestorigin ?c_greatestorigin ?k_greatestorigin ?a_squeezed ?l_squeezed ?c_squeezed ?k_squeezed ?a_lengthafter ?l_lengthafter ?c_lengthafter ?k_lengthafter ?a_lengthafterone ?l_lengthafterone ?c_lengthafterone ?k_lengthafterone ?a_lawpool ?l_lawpool ?c_lawpool ?k_lawpool ?a_lawdraw ?l_lawdraw ?c_lawdraw ?k_lawdraw ?a_lawlist ?l_lawlist ?c_lawlist ?k_lawlist ?a_lawafter ?l_lawafter ?c_lawafter ?k_lawafter ?a_lawkind ?l_lawkind ?c_lawkind ?k_lawkind ?a_lawbadlist ?l_lawbadlist ?c_lawbadlist ?k_lawbadlist ?a_lawmade ?l_lawmade ?c_lawmade ?k_lawmade ?a_lawasked ?l_lawasked ?c_lawasked ?k_lawasked ?a_lawlong ?l_lawlong ?c_lawlong ?k_lawlong ?a_lawright ?l_lawright ?c_lawright ?k_lawright ?a_law ?l_law ?c_law ?k_law ?z_len ?z_min ?z_max ?z_abs ?z_range ?z_isinstance ?z_repr ?z_enumerate ?z_reversed ?z_sorted ?z_bool ?z_int ?z_str ?z_list ?z_tuple ?z_set ?z_sum ?z_zip ?z_all ?z_any ?z_ValueError ?z_divmod ?aCB ?iCB ?tCB ?third ?zSup ?hTop ?spC ?tkC ?aC0 ?xL0 ?sa0 ?nv0 ?iC0 ?tI0 ?kC0 ?eC0 ?vC0 ?tC0 ?mC0 ?su0 ?fI0 ?cI0 ?lc0 ?vf0 ?mf0 ?lk0 ?ln0 ?ga0 ?gg0 ?hd0 ?ha0 ?mo0 ?ic0 ?sB0 ?aC1 ?xL1 ?sa1 ?nv1 ?iC1 ?tI1 ?kC1 ?eC1 ?vC1 ?tC1 ?mC1 ?su1 ?fI1 ?cI1 ?lc1 ?vf1 ?mf1 ?lk1 ?ln1 ?ga1 ?gg1 ?hd1 ?ha1 ?mo1 ?ic1 ?sB1 ?aC2 ?xL2 ?sa2 ?nv2 ?iC2 ?tI2 ?kC2 ?eC2 ?vC2 ?tC2 ?mC2 ?su2 ?fI2 ?cI2 ?lc2 ?vf2 ?mf2 ?lk2 ?ln2 ?ga2 ?gg2 ?hd2 ?ha2 ?mo2 ?ic2 ?sB2 ?aC3 ?xL3 ?sa3 ?nv3 ?iC3 ?tI3 ?kC3 ?eC3 ?vC3 ?tC3 ?mC3 ?su3 ?fI3 ?cI3 ?lc3 ?vf3 ?mf3 ?lk3 ?ln3 ?ga3 ?gg3 ?hd3 ?ha3 ?mo3 ?ic3 ?sB3 ?aC4 ?xL4 ?sa4 ?nv4 ?iC4 ?tI4 ?kC4 ?eC4 ?vC4 ?tC4 ?mC4 ?su4 ?fI4 ?cI4 ?lc4 ?vf4 ?mf4 ?lk4 ?ln4 ?ga4 ?gg4 ?hd4 ?ha4 ?mo4 ?ic4 ?sB4 ?s0_0 ?s0_1 ?s0_2 ?s0_3 ?s0_4 ?s1_0 ?s1_1 ?s1_2 ?s1_3 ?s1_4 ?s2_0 ?s2_1 ?s2_2 ?s2_3 ?s2_4 ?s3_0 ?s3_1 ?s3_2 ?s3_3 ?s3_4 ?s4_0 ?s4_1 ?s4_2 ?s4_3 ?s4_4 ?eCB ?hdB ?st0 ?st1 ?st2 ?st3 ?st4 ?aCH ?pgCH ?hdCH ?poCH ?saCH ?mkCH ?kcCH ?nCH_0 ?nCH_1 ?a_HiddenListinit ?i_HiddenListinit ?l_HiddenListinit ?c_HiddenListinit ?k_HiddenListinit ?a_HiddenListask ?i_HiddenListask ?l_HiddenListask ?c_HiddenListask ?k_HiddenListask ?a_HiddenListquestions ?g_HiddenListquestions ?t_HiddenListquestions ?r_HiddenListquestions ?l_HiddenListquestions ?c_HiddenListquestions ?k_HiddenListquestions
    (case a_checklist => k_is); (case l_checklist => k_is); (case c_checklist => k_is); (case k_checklist => k_is); (case a_checknumber => k_is); (case l_checknumber => k_is); (case c_checknumber => k_is); (case k_checknumber => k_is); (case a_greatestorigin => k_is); (case l_greatestorigin => k_is); (case c_greatestorigin => k_is); (case k_greatestorigin => k_is); (case a_squeezed => k_is); (case l_squeezed => k_is); (case c_squeezed => k_is); (case k_squeezed => k_is); (case a_lengthafter => k_is); (case l_lengthafter => k_is); (case c_lengthafter => k_is); (case k_lengthafter => k_is); (case a_lengthafterone => k_is); (case l_lengthafterone => k_is); (case c_lengthafterone => k_is); (case k_lengthafterone => k_is); (case a_lawpool => k_is); (case l_lawpool => k_is); (case c_lawpool => k_is); (case k_lawpool => k_is); (case a_lawdraw => k_is); (case l_lawdraw => k_is); (case c_lawdraw => k_is); (case k_lawdraw => k_is); (case a_lawlist => k_is); (case l_lawlist => k_is); (case c_lawlist => k_is); (case k_lawlist => k_is); (case a_lawafter => k_is); (case l_lawafter => k_is); (case c_lawafter => k_is); (case k_lawafter => k_is); (case a_lawkind => k_is); (case l_lawkind => k_is); (case c_lawkind => k_is); (case k_lawkind => k_is); (case a_lawbadlist => k_is); (case l_lawbadlist => k_is); (case c_lawbadlist => k_is); (case k_lawbadlist => k_is); (case a_lawmade => k_is); (case l_lawmade => k_is); (case c_lawmade => k_is); (case k_lawmade => k_is); (case a_lawasked => k_is); (case l_lawasked => k_is); (case c_lawasked => k_is); (case k_lawasked => k_is); (case a_lawlong => k_is); (case l_lawlong => k_is); (case c_lawlong => k_is); (case k_lawlong => k_is); (case a_lawright => k_is); (case l_lawright => k_is); (case c_lawright => k_is); (case k_lawright => k_is); (case a_law => k_is); (case l_law => k_is); (case c_law => k_is); (case k_law => k_is); (case z_len => k_is); (case z_min => k_is); (case z_max => k_is); (case z_abs => k_is); (case z_range => k_is); (case z_isinstance => k_is); (case z_repr => k_is); (case z_enumerate => k_is); (case z_reversed => k_is); (case z_sorted => k_is); (case z_bool => k_is); (case z_int => k_is); (case z_str => k_is); (case z_list => k_is); (case z_tuple => k_is); (case z_set => k_is); (case z_sum => k_is); (case z_zip => k_is); (case z_all => k_is); (case z_any => k_is); (case z_ValueError => k_is); (case z_divmod => k_is); (case aCB => k_is); (case iCB => k_is); (case tCB => k_is); (case third => k_is); (case zSup => k_is); (case hTop => decide +kernel); (case spC => k_is); (case tkC => k_is); (case aC0 => k_is); (case xL0 => k_is); (case sa0 => k_is); (case nv0 => k_is); (case iC0 => k_is); (case tI0 => k_is); (case kC0 => k_is); (case eC0 => k_is); (case vC0 => k_is); (case tC0 => k_is); (case mC0 => k_is); (case su0 => ks_is); (case fI0 => k_is); (case cI0 => k_is); (case lc0 => k_is); (case vf0 => rfl); (case mf0 => decide +kernel); (case lk0 => k_is); (case ln0 => rfl); (case ga0 => k_is); (case gg0 => k_is); (case hd0 => k_is); (case ha0 => k_is); (case mo0 => k_is); (case ic0 => k_is); (case sB0 => k_is); (case aC1 => k_is); (case xL1 => k_is); (case sa1 => k_is); (case nv1 => k_is); (case iC1 => k_is); (case tI1 => k_is); (case kC1 => k_is); (case eC1 => k_is); (case vC1 => k_is); (case tC1 => k_is); (case mC1 => k_is); (case su1 => ks_is); (case fI1 => k_is); (case cI1 => k_is); (case lc1 => k_is); (case vf1 => rfl); (case mf1 => decide +kernel); (case lk1 => k_is); (case ln1 => rfl); (case ga1 => k_is); (case gg1 => k_is); (case hd1 => k_is); (case ha1 => k_is); (case mo1 => k_is); (case ic1 => k_is); (case sB1 => k_is); (case aC2 => k_is); (case xL2 => k_is); (case sa2 => k_is); (case nv2 => k_is); (case iC2 => k_is); (case tI2 => k_is); (case kC2 => k_is); (case eC2 => k_is); (case vC2 => k_is); (case tC2 => k_is); (case mC2 => k_is); (case su2 => ks_is); (case fI2 => k_is); (case cI2 => k_is); (case lc2 => k_is); (case vf2 => rfl); (case mf2 => decide +kernel); (case lk2 => k_is); (case ln2 => rfl); (case ga2 => k_is); (case gg2 => k_is); (case hd2 => k_is); (case ha2 => k_is); (case mo2 => k_is); (case ic2 => k_is); (case sB2 => k_is); (case aC3 => k_is); (case xL3 => k_is); (case sa3 => k_is); (case nv3 => k_is); (case iC3 => k_is); (case tI3 => k_is); (case kC3 => k_is); (case eC3 => k_is); (case vC3 => k_is); (case tC3 => k_is); (case mC3 => k_is); (case su3 => ks_is); (case fI3 => k_is); (case cI3 => k_is); (case lc3 => k_is); (case vf3 => rfl); (case mf3 => decide +kernel); (case lk3 => k_is); (case ln3 => rfl); (case ga3 => k_is); (case gg3 => k_is); (case hd3 => k_is); (case ha3 => k_is); (case mo3 => k_is); (case ic3 => k_is); (case sB3 => k_is); (case aC4 => k_is); (case xL4 => k_is); (case sa4 => k_is); (case nv4 => k_is); (case iC4 => k_is); (case tI4 => k_is); (case kC4 => k_is); (case eC4 => k_is); (case vC4 => k_is); (case tC4 => k_is); (case mC4 => k_is); (case su4 => ks_is); (case fI4 => k_is); (case cI4 => k_is); (case lc4 => k_is); (case vf4 => rfl); (case mf4 => decide +kernel); (case lk4 => k_is); (case ln4 => rfl); (case ga4 => k_is); (case gg4 => k_is); (case hd4 => k_is); (case ha4 => k_is); (case mo4 => k_is); (case ic4 => k_is); (case sB4 => k_is); (case s0_0 => k_is); (case s0_1 => k_is); (case s0_2 => k_is); (case s0_3 => k_is); (case s0_4 => k_is); (case s1_0 => k_is); (case s1_1 => k_is); (case s1_2 => k_is); (case s1_3 => k_is); (case s1_4 => k_is); (case s2_0 => k_is); (case s2_1 => k_is); (case s2_2 => k_is); (case s2_3 => k_is); (case s2_4 => k_is); (case s3_0 => k_is); (case s3_1 => k_is); (case s3_2 => k_is); (case s3_3 => k_is); (case s3_4 => k_is); (case s4_0 => k_is); (case s4_1 => k_is); (case s4_2 => k_is); (case s4_3 => k_is); (case s4_4 => k_is); (case eCB => k_is); (case hdB => k_is); (case st0 => k_is); (case st1 => k_is); (case st2 => k_is); (case st3 => k_is); (case st4 => k_is); (case aCH => k_is); (case pgCH => k_is); (case hdCH => k_is); (case poCH => k_is); (case saCH => k_is); (case mkCH => k_is); (case kcCH => k_is); (case nCH_0 => k_is); (case nCH_1 => k_is); (case a_HiddenListinit => k_is); (case i_HiddenListinit => k_is); (case l_HiddenListinit => k_is); (case c_HiddenListinit => k_is); (case k_HiddenListinit => k_is); (case a_HiddenListask => k_is); (case i_HiddenListask => k_is); (case l_HiddenListask => k_is); (case c_HiddenListask => k_is); (case k_HiddenListask => k_is); (case a_HiddenListquestions => k_is); (case g_HiddenListquestions => k_is); (case t_HiddenListquestions => k_is); (case r_HiddenListquestions => k_is); (case l_HiddenListquestions => k_is); (case c_HiddenListquestions => k_is); (case k_HiddenListquestions => k_is)


